/- holds of the law of objtab, and the walk of ObjtabMost. -/
import Derived.Test.YtjbmeedfipggdaaObTI
import Derived.Test.YtjbmeedfipggdaaObTS
import Derived.Test.YtjbmeedfipggdaaObHI
import Derived.Test.YtjbmeedfipggdaaAts2
import Derived.Test.YtjbmeedfipggdaaMin
namespace Go.Proofs.Ytjbmeedfipggdaa
open Go Go.RowKit
def aS : ByteArray := ⟨#[97]⟩
set_option maxRecDepth 100000 in
theorem holds_any (w : World) (N : Nat) (hN : Sz w N) :
    Calls Try.prog 13 #[] w fun e w' => e = .returned (.bool true) ∧ Below N w w' := by
  go_enter Try.func13, Try.ntmps13
  go_wp2_with fail
  refine (TNewS_any 2 (by omega) (by omega) w N hN (fun _ => ⟨0, 0, aS⟩)).mono ?_
  rintro e w1 ⟨rfl, T1, _⟩
  go_wp2_with fail
  refine (TMakeS_ok aS 1 rfl hN T1 (by omega) (by omega) (by omega) (by omega)).mono ?_
  rintro e w2 ⟨rfl, T2'⟩
  have T2 := T2'.congr (F := fun _ => ⟨1, 1, aS⟩) (fun k hk => by obtain rfl : k = 0 := by omega
                                                                  rfl)
  clear T1 T2'
  go_wp2_with fail
  refine (THoldS_ok 1 0 (by omega) rfl (fun i hi => by omega) (by show (0 : Int) ≤ 1; omega) (by show (1 : Int) < 1000; omega) (by omega) hN T2).mono ?_
  rintro e w3 ⟨rfl, T3'⟩
  have T3 := T3'.congr (F := fun _ => ⟨1, 2, aS⟩) (fun k hk => by obtain rfl : k = 0 := by omega
                                                                  rfl)
  clear T2 T3'
  go_wp2_with fail
  refine (TDropS_more 1 0 (by omega) rfl (fun i hi => by omega) (by show (2 : Int) ≤ 2; omega) (by show (2 : Int) ≤ 1000; omega) (by omega) hN T3).mono ?_
  rintro e w4 ⟨rfl, T4'⟩
  have T4 := T4'.congr (F := fun _ => ⟨1, 1, aS⟩) (fun k hk => by obtain rfl : k = 0 := by omega
                                                                  rfl)
  clear T3 T4'
  go_wp2_with fail
  refine (TDropS_last 1 0 (by omega) rfl (fun i hi => by omega) rfl (by omega) hN T4).mono ?_
  rintro e w5 ⟨rfl, T5⟩
  clear T4
  go_wp2_with fail
  refine (TGetS_no 1 (fun i hi => by omega) (by omega) hN T5).mono ?_
  rintro e w6 ⟨rfl, T6⟩
  go_wp2_with fail
  go_ret
  exact ⟨rfl, T6.bel⟩
set_option maxRecDepth 100000 in
set_option maxHeartbeats 1000000 in
theorem law_most (n : Int) (w : World) (N : Nat) (hN : Sz w N) :
    Calls Try.prog 4 #[.int .i64 n] w fun e w' => e = .returned (.bool true) ∧ Below N w w' := by
  go_enter Try.func4, Try.ntmps4
  go_wp2_with fail
  refine (TNewI_any 1 (by omega) (by omega) w N hN (fun _ => ⟨0, 0, 0⟩)).mono ?_
  rintro e w1 ⟨rfl, T1, _⟩
  go_wp2_with fail
  refine (TMakeI_ok 7 1 rfl hN T1 (by omega) (by omega) (by omega) (by omega)).mono ?_
  rintro e w2 ⟨rfl, T2'⟩
  have T2 := T2'.congr (F := fun _ => ⟨1, 1, 7⟩) (fun k hk => by obtain rfl : k = 0 := by omega
                                                                 rfl)
  clear T1 T2'
  obtain ⟨M, hM⟩ := sz_some w2
  go_wp2_with fail
  refine (holds_any _ M hM).mono ?_
  rintro e w3 ⟨rfl, hb3⟩
  have T3 := T2.below hN hM hb3
  clear T2 hM hb3
  obtain ⟨x, hx, ex⟩ := rest n 10 (by omega) (by omega)
  rw [show ((10 : Nat) : Int) = 10 from rfl] at ex
  have Ex := hid ex
  clear ex
  go_wp2_with fail
  rw [Ex.out, show wrap64 (995 + (x : Int)) = ((995 + x : Nat) : Int) from by rw [IntWalk.wrap64_in _ (by omega)]; omega]
  obtain ⟨K, hK⟩ : ∃ K, K = 995 + x := ⟨_, rfl⟩
  rw [← hK]
  have K1 : 995 ≤ K := by omega
  have K2 : K ≤ 1004 := by omega
  clear hK hx Ex
  go_loopw [8] (fun i wr => ∃ j : Nat, 1 ≤ j ∧ j ≤ K + 1 ∧ i = .int .i64 j ∧ TbI w N N 1 1 1 (fun _ => ⟨1, ((min j 1000 : Nat) : Int), 7⟩) wr) (fun i _ => K + 1 - (intOf i).toNat)
  case atStart => exact ⟨1, by omega, by omega, rfl, T3⟩
  case round =>
    clear T3
    obtain ⟨j, hj0, hj, rfl, T3⟩ := hrel
    by_cases hlt : j ≤ K
    · have hle : (j : Int) ≤ (K : Int) := by omega
      have j1 : (0 : Int) ≤ (j : Int) := by omega
      have j2 : (j : Int) ≤ 1005 := by omega
      by_cases hm : j < 1000
      · have hm' : (j : Int) < 1000 := by omega
        rw [Nat.min_eq_left (by omega)] at T3
        go_wp2_with (first
          | (go_at_call 14; refine (THoldI_ok 1 0 (by omega) rfl (fun i hi => by omega) (by show (0 : Int) ≤ (j : Int); omega) (by show (j : Int) < 1000; omega) (by omega) hN T3).mono ?_; rintro e w4 ⟨rfl, T4⟩)
          | fail)
        exact ⟨⟨j + 1, by omega, by omega, by go_num, T4.congr (fun k hk => by
          obtain rfl : k = 0 := by omega
          rw [Nat.min_eq_left (by omega)]
          show (⟨1, (j : Int) + 1, 7⟩ : En Int) = _
          congr 1)⟩, by simp [intOf]; omega⟩
      · have hm' : ¬ ((j : Int) < 1000) := by omega
        rw [Nat.min_eq_right (by omega)] at T3
        go_wp2_with (first
          | (go_at_call 14; refine (THoldI_most 1 0 (by omega) rfl (fun i hi => by omega) rfl (by omega) hN T3).mono ?_; rintro e w4 ⟨rfl, T4⟩)
          | fail)
        exact ⟨⟨j + 1, by omega, by omega, by go_num, by rw [Nat.min_eq_right (by omega)]; exact T4⟩, by simp [intOf]; omega⟩
    · have hle : ¬ ((j : Int) ≤ (K : Int)) := by omega
      have ej : j = K + 1 := by omega
      rw [ej] at T3
      obtain ⟨c, hc⟩ : ∃ c, c = min (K + 1) 1000 := ⟨_, rfl⟩
      have Hc := hid hc
      rw [← hc] at T3
      have c1 : 996 ≤ c := by omega
      have c2 : c ≤ 1000 := by omega
      clear hc ej
      go_wp2_with (first
        | (refine wpl_min rfl (.tmp 62) (.const (.int .i64 1000)) 3 rfl (K + 1) 1000 c rfl rfl Hc ?_)
        | fail)
      go_loopw [11] (fun i wr => ∃ l : Nat, l ≤ c ∧ i = .int .i64 l ∧ TbI w N N 1 1 (if l < c then 1 else 0) (fun _ => ⟨1, (c : Int) - (l : Int), 7⟩) wr) (fun i _ => c - (intOf i).toNat)
      case atStart => exact ⟨0, by omega, rfl, by rw [if_pos (by omega)]; exact T3.congr (fun k _ => by congr 1)⟩
      case round =>
        clear T3
        obtain ⟨l, hl, rfl, T3⟩ := hrel
        by_cases hlt : l < c
        · have hl1 : (l : Int) < (c : Int) := by omega
          have l0 : (0 : Int) ≤ (l : Int) := by omega
          have l1 : (l : Int) ≤ 1000 := by omega
          have c0 : (0 : Int) ≤ (c : Int) := by omega
          have c3 : (c : Int) ≤ 1000 := by omega
          rw [if_pos hlt] at T3
          go_wp2_with fail
          refine (THeldI_ok 1 0 (by omega) rfl (fun i hi => by omega) (by omega) hN T3).mono ?_
          rintro e w4 ⟨rfl, T4⟩
          clear T3
          by_cases hlast : l + 1 < c
          · have hq : ((l : Int) == (c : Int) - 1) = false := by rw [beq_eq_false_iff_ne]; omega
            go_wp2_with (first
              | (go_at_call 11; refine (TDropI_more 1 0 (by omega) rfl (fun i hi => by omega) (by show (2 : Int) ≤ (c : Int) - (l : Int); omega) (by show (c : Int) - (l : Int) ≤ 1000; omega) (by omega) hN T4).mono ?_; rintro e w5 ⟨rfl, T5⟩)
              | fail)
            exact ⟨⟨l + 1, by omega, by go_num, by rw [if_pos hlast]; exact T5.congr (fun k hk => by
              obtain rfl : k = 0 := by omega
              show (⟨1, (c : Int) - (l : Int) - 1, 7⟩ : En Int) = _
              congr 1; omega)⟩, by simp [intOf]; omega⟩
          · have hq : ((l : Int) == (c : Int) - 1) = true := by rw [beq_iff_eq]; omega
            go_wp2_with (first
              | (go_at_call 11; refine (TDropI_last 1 0 (by omega) rfl (fun i hi => by omega) (by show (c : Int) - (l : Int) = 1; omega) (by omega) hN T4).mono ?_; rintro e w5 ⟨rfl, T5⟩)
              | fail)
            exact ⟨⟨l + 1, by omega, by go_num, by rw [if_neg hlast]; exact T5.congr (fun k hk => by omega)⟩, by simp [intOf]; omega⟩
        · have hl1 : ¬ ((l : Int) < (c : Int)) := by omega
          rw [if_neg hlt] at T3
          go_wp2_with (first
            | (go_at_call 11; refine (TDropI_no 1 (fun i hi => by omega) (by omega) hN T3).mono ?_; rintro e w5 ⟨rfl, T5⟩)
            | fail)
          go_ret
          exact ⟨rfl, T5.bel⟩
end Go.Proofs.Ytjbmeedfipggdaa
