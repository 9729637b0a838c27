/- The walk of ObjtabApart. -/
import Derived.Test.YtjbmeedfipggdaaOl1
namespace Go.Proofs.Ytjbmeedfipggdaa
open Go Go.RowKit
/-- So many objects, W of them held i times more. -/
def apE (W i : Nat) : Nat → En Int := fun j => ⟨(j : Int) + 1, if j + 1 = W then (i : Int) + 1 else 1, 10 * (j : Int)⟩
theorem ap_ids (W i : Nat) (k : Nat) (j : Nat) (hj : j < k) : (apE W i j).id ≠ (k : Int) + 1 := by show (j : Int) + 1 ≠ _; omega
theorem ap_hold (W i j : Nat) (hW : 1 ≤ W) : setE (apE W i) (W - 1) ⟨(apE W i (W - 1)).id, (apE W i (W - 1)).held + 1, (apE W i (W - 1)).x⟩ j = apE W (i + 1) j := by
  unfold setE apE
  by_cases h : j = W - 1
  · subst h
    rw [if_pos rfl]
    simp only [if_pos (show W - 1 + 1 = W by omega)]
    congr 1
  · rw [if_neg h, if_neg (by omega), if_neg (by omega)]
set_option maxRecDepth 100000 in
set_option maxHeartbeats 1000000 in
theorem law_apart (n which times : Int) (w : World) (N : Nat) (hN : Sz w N) :
    Calls Try.prog 6 #[.int .i64 n, .int .i64 which, .int .i64 times] w fun e w' => e = .returned (.bool true) ∧ Below N w w' := by
  obtain ⟨x, hx, ex⟩ := rest n 10 (by omega) (by omega)
  rw [show ((10 : Nat) : Int) = 10 from rfl] at ex
  have Ex := hid ex
  clear ex
  go_enter Try.func6, Try.ntmps6
  go_wp2_with fail
  rw [Ex.out, show wrap64 (2 + (x : Int)) = ((2 + x : Nat) : Int) from by rw [IntWalk.wrap64_in _ (by omega)]; omega]
  obtain ⟨K, hK⟩ : ∃ K, K = 2 + x := ⟨_, rfl⟩
  rw [← hK]
  have K1 : 2 ≤ K := by omega
  have K2 : K ≤ 11 := by omega
  clear hK hx Ex
  refine (TNewI_any K (by omega) (by omega) w N hN (apE 0 0)).mono ?_
  rintro e w1 ⟨rfl, T1, hN1⟩
  go_wp2_with fail
  refine (holds_any _ (N + 1) hN1).mono ?_
  rintro e w3 ⟨rfl, hb3⟩
  have T3 := T1.below hN hN1 hb3
  clear T1 hN1 hb3
  go_wp2_with fail
  go_loopw [10] (fun i wr => ∃ j : Nat, j ≤ K ∧ i = .int .i64 j ∧ TbI w N N (K : Int) (j : Int) j (apE 0 0) wr) (fun i _ => K - (intOf i).toNat)
  case atStart => exact ⟨0, by omega, rfl, T3⟩
  case round =>
    clear T3
    obtain ⟨j, hj, rfl, T3⟩ := hrel
    by_cases hlt : j < K
    · have hl1 : (j : Int) < (K : Int) := by omega
      have j0 : (0 : Int) ≤ (j : Int) := by omega
      have j1 : (j : Int) ≤ 11 := by omega
      go_wp2_with (first
        | (go_at_call 10; refine (TMakeI_ok (10 * (j : Int)) ((j : Int) + 1) rfl hN T3 hl1 (by omega) (by omega) (by omega)).mono ?_; rintro e w4 ⟨rfl, T4⟩)
        | fail)
      exact ⟨⟨j + 1, by omega, by go_num, T4.congr (fun k hk => by
        unfold setE apE
        by_cases h : k = j
        · subst h; rw [if_pos rfl, if_neg (by omega)]
        · rw [if_neg h])⟩, by simp [intOf]; omega⟩
    · obtain rfl : j = K := by omega
      have hl1 : ¬ ((j : Int) < (j : Int)) := by omega
      obtain ⟨y, hy, ey⟩ := rest which j (by omega) (by omega)
      obtain ⟨m, hm, em⟩ := rest times 50 (by omega) (by omega)
      rw [show ((50 : Nat) : Int) = 50 from rfl] at em
      have Ey := hid ey
      have Em := hid em
      clear ey em
      have j0 : (0 : Int) ≤ (j : Int) := by omega
      have j1 : (j : Int) ≤ 11 := by omega
      have jz : ((j : Int) == 0) = false := by rw [beq_eq_false_iff_ne]; omega
      have ju : IntKind.u64.wrap (j : Int) = (j : Int) := by rw [IntKind.wrap_u64]; omega
      go_wp2_with fail
      rw [Ey.out, Em.out, show wrap64 (1 + (y : Int)) = ((y + 1 : Nat) : Int) from by rw [IntWalk.wrap64_in _ (by omega)]; omega]
      obtain ⟨W, hW⟩ : ∃ W, W = y + 1 := ⟨_, rfl⟩
      rw [← hW]
      have W1 : 1 ≤ W := by omega
      have W2 : W ≤ j := by omega
      clear hW hy Ey Em jz ju
      have T4 : TbI w N N (j : Int) (j : Int) j (apE W 0) wr := T3.congr (fun k _ => by unfold apE; by_cases h : k + 1 = W; (rw [if_pos h, if_neg (by omega)]; rfl); (rw [if_neg h, if_neg (by omega)]))
      clear T3
      have m1 : (m : Int) ≤ 50 := by omega
      have m0 : (0 : Int) ≤ (m : Int) := by omega
      have eW : ((W - 1 : Nat) : Int) + 1 = (W : Int) := by omega
      have EW := hid eW
      clear eW
      go_loopw [15] (fun i wr => ∃ l : Nat, l ≤ m ∧ i = .int .i64 l ∧ TbI w N N (j : Int) (j : Int) j (apE W l) wr) (fun i _ => m - (intOf i).toNat)
      case atStart => exact ⟨0, by omega, rfl, T4⟩
      case round =>
        clear T4
        obtain ⟨l, hl, rfl, T4⟩ := hrel
        by_cases hlt : l < m
        · have hl1 : (l : Int) < (m : Int) := by omega
          have l0 : (0 : Int) ≤ (l : Int) := by omega
          go_wp2_with (first
            | (go_at_call 14; refine (THoldI_ok (W : Int) (W - 1) (by omega) EW.out (fun i hi => by have := ap_ids W l (W - 1) i hi; rwa [EW.out] at this) (by show (0 : Int) ≤ (if W - 1 + 1 = W then (l : Int) + 1 else 1); split <;> omega) (by show (if W - 1 + 1 = W then (l : Int) + 1 else 1) < 1000; split <;> omega) (by omega) hN T4).mono ?_; rintro e w5 ⟨rfl, T5⟩)
            | fail)
          exact ⟨⟨l + 1, by omega, by go_num, T5.congr (fun k _ => ap_hold W l k W1)⟩, by simp [intOf]; omega⟩
        · obtain rfl : l = m := by omega
          have hl1 : ¬ ((l : Int) < (l : Int)) := by omega
          go_wp2_with fail
          go_loopw [16] (fun i wr => ∃ k : Nat, k ≤ j ∧ i = .int .i64 ((k : Int) + 1) ∧ TbI w N N (j : Int) (j : Int) j (apE W l) wr) (fun i _ => j + 1 - (intOf i).toNat)
          case atStart => exact ⟨0, by omega, rfl, T4⟩
          case round =>
            clear T4
            obtain ⟨k, hk, rfl, T4⟩ := hrel
            by_cases hlt : k < j
            · have hl2 : (k : Int) + 1 ≤ (j : Int) := by omega
              have k0 : (0 : Int) ≤ (k : Int) := by omega
              have k1 : (k : Int) ≤ 11 := by omega
              by_cases he : k + 1 = W
              · have hq : ((k : Int) + 1 == (W : Int)) = true := by rw [beq_iff_eq]; omega
                have hh : (apE W l k).held = (l : Int) + 1 := by unfold apE; exact if_pos he
                have C := fun wz (h : TbI w N N (j : Int) (j : Int) j (apE W l) wz) => THeldI_ok ((k : Int) + 1) k (by omega) rfl (fun i hi => ap_ids W l k i hi) (by omega) hN h
                rw [hh] at C
                clear hh
                go_wp2_with (first
                  | (go_at_call 12; refine (TGetI_ok ((k : Int) + 1) k (by omega) rfl (fun i hi => ap_ids W l k i hi) (by omega) hN T4).mono ?_; rintro e w5 ⟨rfl, T5⟩; rw [show (apE W l k).x = 10 * (k : Int) from rfl])
                  | (go_at_call 15; refine (C _ T5).mono ?_; rintro e w6 ⟨rfl, T6⟩)
                  | fail)
                exact ⟨⟨k + 1, by omega, by go_num, T6⟩, by simp [intOf]; omega⟩
              · have hq : ((k : Int) + 1 == (W : Int)) = false := by rw [beq_eq_false_iff_ne]; omega
                have hh : (apE W l k).held = 1 := by unfold apE; exact if_neg he
                have C := fun wz (h : TbI w N N (j : Int) (j : Int) j (apE W l) wz) => THeldI_ok ((k : Int) + 1) k (by omega) rfl (fun i hi => ap_ids W l k i hi) (by omega) hN h
                rw [hh] at C
                clear hh
                go_wp2_with (first
                  | (go_at_call 12; refine (TGetI_ok ((k : Int) + 1) k (by omega) rfl (fun i hi => ap_ids W l k i hi) (by omega) hN T4).mono ?_; rintro e w5 ⟨rfl, T5⟩; rw [show (apE W l k).x = 10 * (k : Int) from rfl])
                  | (go_at_call 15; refine (C _ T5).mono ?_; rintro e w6 ⟨rfl, T6⟩)
                  | fail)
                exact ⟨⟨k + 1, by omega, by go_num, T6⟩, by simp [intOf]; omega⟩
            · have hl2 : ¬ ((k : Int) + 1 ≤ (j : Int)) := by omega
              go_wp2_with (first
                | (go_at_call 10; refine (TMakeI_full 5 hN T4 rfl (by omega)).mono ?_; rintro e w5 ⟨rfl, T5⟩)
                | fail)
              go_ret
              exact ⟨rfl, T5.bel⟩
end Go.Proofs.Ytjbmeedfipggdaa
