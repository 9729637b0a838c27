/- opens of the law of fdtab, and the walk of FdtabRound. -/
import Derived.Test.YtjbmeedfipggdaaFd2
import Derived.Test.YtjbmeedfipggdaaAts2
namespace Go.Proofs.Ytjbmeedfipggdaa
open Go Go.RowKit
set_option maxRecDepth 100000 in
theorem opens_any (w : World) (N : Nat) (hN : Sz w N) :
    Calls Try.prog 28 #[] w fun e w' => e = .returned (.bool true) ∧ Below N w w' := by
  go_enter Try.func28, Try.ntmps28
  go_wp2_with fail
  refine (FNew_any 3 (by omega) (by omega) _ N hN).mono ?_
  rintro e w1 ⟨rfl, hb1, hF1, hN1⟩
  go_wp2_with fail
  refine (Open_at (N + 1) N 3 (fun _ => 0) 5 0 (by omega) (by omega) (by omega) rfl (fun i hi => by omega) _ hF1).mono ?_
  rintro e w2 ⟨rfl, ht2, hF2⟩
  have hF2' : Fd w2 (N + 1) N 3 (fun j => if j = 0 then 5 else 0) := hF2.congr (fun _ _ => rfl)
  clear hF2
  go_wp2_with fail
  refine (Open_at (N + 1) N 3 (fun j => if j = 0 then 5 else 0) 6 1 (by omega) (by omega) (by omega) rfl (fun i hi => by obtain rfl : i = 0 := by omega
                                                                                                                         simp) _ hF2').mono ?_
  rintro e w3 ⟨rfl, ht3, hF3⟩
  have hF3' : Fd w3 (N + 1) N 3 (fun j => if j = 1 then 6 else if j = 0 then 5 else 0) := hF3.congr (fun _ _ => rfl)
  clear hF3 hF2'
  go_wp2_with fail
  refine (Close_ok (N + 1) N 3 (fun j => if j = 1 then 6 else if j = 0 then 5 else 0) 0 (by omega) (by omega) (by simp) _ hF3').mono ?_
  rintro e w4 ⟨rfl, ht4, hF4⟩
  have hF4' : Fd w4 (N + 1) N 3 (fun j => if j = 1 then 6 else 0) := hF4.congr (fun j _ => by by_cases h : j = 0 <;> by_cases h1 : j = 1 <;> simp [h, h1])
  clear hF4 hF3'
  go_wp2_with fail
  refine (Open_at (N + 1) N 3 (fun j => if j = 1 then 6 else 0) 7 0 (by omega) (by omega) (by omega) rfl (fun i hi => by omega) _ hF4').mono ?_
  rintro e w5 ⟨rfl, ht5, hF5⟩
  go_wp2_with fail
  go_ret
  exact ⟨rfl, ht5.below (ht4.below (ht3.below (ht2.below hb1 (Nat.le_refl N)) (Nat.le_refl N)) (Nat.le_refl N)) (Nat.le_refl N)⟩
def pre (k : Nat) : Nat → Int := fun j => if j < k then (j : Int) + 1 else 0
theorem us_pre (k n : Nat) (h : k ≤ n) : (us (pre k) n).length = k := by
  rw [us_prefix (pre k) k n h (fun j hj => by unfold pre; rw [if_pos hj]; omega) (fun j hj _ => by unfold pre; rw [if_neg (by omega)]), List.length_range]
set_option maxRecDepth 100000 in
set_option maxHeartbeats 1000000 in
theorem law_fround (n : Int) (p : Option Addr) (m cap : Nat) (Z : Nat → Int) (w : World) (N : Nat) (hN : Sz w N) (hZ : Lies w p m (fun j => .int .i64 (Z j))) :
    Calls Try.prog 8 #[.int .i64 n, .slice p m cap] w fun e w' => e = .returned (.bool true) ∧ Below N w w' := by
  go_enter Try.func8, Try.ntmps8
  go_wp2_with (first
    | (go_at_call 27; refine (FNew_any 16 (by omega) (by omega) _ N hN).mono ?_; rintro e w1 ⟨rfl, hb1, hF1, hN1⟩)
    | (go_at_call 28; refine (opens_any _ (N + 2) hN1).mono ?_; rintro e w2 ⟨rfl, hb2⟩)
    | fail)
  obtain ⟨k, hk, ek⟩ := rest n 16 (by omega) (by omega)
  rw [show ((16 : Nat) : Int) = 16 from rfl] at ek
  rw [ek]
  clear ek
  have F2 : Fd w2 (N + 1) N 16 (pre 0) := (hF1.below hN1 hb2).congr (fun j _ => by unfold pre; rw [if_neg (by omega)])
  have b2 : Below N w w2 := hb1.trans (hb2.mono (by omega))
  clear hF1 hb1 hb2 hN1
  go_loopw [8] (fun i wr => ∃ j : Nat, j ≤ k ∧ i = .int .i64 j ∧ Fd wr (N + 1) N 16 (pre j) ∧ Below N w wr) (fun i _ => k - (intOf i).toNat)
  case atStart => exact ⟨0, by omega, rfl, F2, b2⟩
  case round =>
    clear F2 b2
    obtain ⟨j, hj, rfl, F2, b2⟩ := hrel
    by_cases hlt : j < k
    · have t1 : decide ((j : Int) < (k : Int)) = true := by simp; omega
      have j1 : (0 : Int) ≤ (j : Int) := by omega
      have j2 : (j : Int) < 16 := by omega
      go_wp2_with (first
        | (go_at_call 29; refine (Open_at (N + 1) N 16 (pre j) ((j : Int) + 1) j (by omega) (by omega) (by omega) (by unfold pre; rw [if_neg (by omega)]) (fun i hi => by unfold pre; rw [if_pos hi]; omega) _ F2).mono ?_; rintro e w3 ⟨rfl, ht3, F3⟩)
        | fail)
      exact ⟨⟨j + 1, by omega, by go_num, F3.congr (fun i _ => by unfold pre; by_cases h1 : i = j; (subst h1; rw [if_pos rfl, if_pos (by omega)]); (rw [if_neg h1]; by_cases h2 : i < j; (rw [if_pos h2, if_pos (by omega)]); (rw [if_neg h2, if_neg (by omega)]))), ht3.below b2 (Nat.le_refl N)⟩, by simp [intOf]; omega⟩
    · obtain rfl : j = k := by omega
      have t1 : decide ((j : Int) < (j : Int)) = false := by simp
      go_wp2_with fail
      clear t1
      go_loopw [9] (fun i wr => ∃ l : Nat, l ≤ 20 ∧ i = .int .i64 l ∧ Fd wr (N + 1) N 16 (pre j) ∧ Below N w wr) (fun i _ => 20 - (intOf i).toNat)
      case atStart => exact ⟨0, by omega, rfl, F2, b2⟩
      case round =>
        clear F2 b2
        obtain ⟨l, hl, rfl, F2, b2⟩ := hrel
        by_cases hlt : l < m ∧ l < 20
        · obtain ⟨h1, h2⟩ := hlt
          obtain ⟨bb, off, rfl, hc⟩ := (hZ.below hN b2) (by omega)
          have cl := hc l h1
          clear hc
          have t1 : decide ((l : Int) < (m : Int)) = true := by simp; omega
          have t2 : decide ((l : Int) < 20) = true := by simp; omega
          obtain ⟨x, hx, ex⟩ := rest (Z l) 1000 (by omega) (by omega)
          rw [show ((1000 : Nat) : Int) = 1000 from rfl] at ex
          have Ex := hid ex
          clear ex
          go_wp2_with fail
          rw [Ex.out, show wrap64 (1 + (x : Int)) = ((1 + x : Nat) : Int) from by rw [IntWalk.wrap64_in _ (by omega)]; omega]
          obtain ⟨I, hI⟩ : ∃ I, I = 1 + x := ⟨_, rfl⟩
          rw [← hI]
          have I1 : 1 ≤ I := by omega
          clear hI hx Ex
          refine (Open_at (N + 1) N 16 (pre j) (I : Int) j (by omega) (by omega) (by omega) (by unfold pre; rw [if_neg (by omega)]) (fun i hi => by unfold pre; rw [if_pos hi]; omega) _ F2).mono ?_
          rintro e w3 ⟨rfl, ht3, F3⟩
          have b3 := ht3.below b2 (Nat.le_refl N)
          clear cl F2 b2 ht3
          go_wp2_with fail
          refine (Close_ok (N + 1) N 16 _ j (by omega) (by omega) (by rw [if_pos rfl]; omega) _ F3).mono ?_
          rintro e w4 ⟨rfl, ht4, F4⟩
          rw [if_pos rfl]
          have b4 := ht4.below b3 (Nat.le_refl N)
          have F4' : Fd w4 (N + 1) N 16 (pre j) := F4.congr (fun i _ => by
            by_cases h1 : i = j
            · subst h1; rw [if_pos rfl]; unfold pre; rw [if_neg (by omega)]
            · rw [if_neg h1, if_neg h1])
          clear F3 b3 F4 ht4
          go_wp2_with fail
          exact ⟨⟨l + 1, by omega, by go_num, F4', b4⟩, by simp [intOf]; omega⟩
        · have t1 : ¬ ((l : Int) < (m : Int)) ∨ ((l : Int) < (m : Int) ∧ ¬ ((l : Int) < 20)) := by omega
          have e16 := us_pre j 16 (by omega)
          have hf : (((16 - j : Nat) : Int) == 16 - (j : Int)) = true := by rw [beq_iff_eq]; omega
          rcases t1 with t1 | ⟨t1, t2⟩
          · go_wp2_with (first
              | (go_at_call 32; refine (Get_free (N + 1) N 16 (pre j) j (by omega) (by omega) (by unfold pre; rw [if_neg (by omega)]) _ F2).mono ?_; rintro e w3 ⟨rfl, rfl⟩)
              | (go_at_call 30; refine (Free_any (N + 1) N 16 (pre j) (by omega) _ _ rfl F2).mono ?_; rintro e w4 ⟨rfl, hb4⟩; rw [e16])
              | fail)
            go_ret
            exact ⟨rfl, b2.trans (hb4.mono (below_le b2 hN))⟩
          · go_wp2_with (first
              | (go_at_call 32; refine (Get_free (N + 1) N 16 (pre j) j (by omega) (by omega) (by unfold pre; rw [if_neg (by omega)]) _ F2).mono ?_; rintro e w3 ⟨rfl, rfl⟩)
              | (go_at_call 30; refine (Free_any (N + 1) N 16 (pre j) (by omega) _ _ rfl F2).mono ?_; rintro e w4 ⟨rfl, hb4⟩; rw [e16])
              | fail)
            go_ret
            exact ⟨rfl, b2.trans (hb4.mono (below_le b2 hN))⟩
end Go.Proofs.Ytjbmeedfipggdaa
