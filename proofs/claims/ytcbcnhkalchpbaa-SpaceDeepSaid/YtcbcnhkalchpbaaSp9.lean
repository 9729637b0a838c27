/- SpaceDeep: the walk. -/
import Derived.Test.YtcbcnhkalchpbaaSp7
import Derived.Test.YtcbcnhkalchpbaaAts2
namespace Go.Proofs.Ytcbcnhkalchpbaa
open Go Go.RowKit
/-- Each within the one ahead of it, as far as m. -/
def lin (m : Nat) : Nat → Nat := fun j => if j ≤ m then j - 1 else 0
theorem lin_dec (m : Nat) : Dec (lin m) (m + 1) := fun j h1 h2 => by unfold lin; rw [if_pos (by omega)]; omega
theorem lin_len : ∀ m, m < 5 → ∀ j, j < 5 → j ≤ m → (ups (lin m) j).length = j + 1 := by decide
theorem lin_add (m j : Nat) (h : j < 8) : addU (lin m) (m + 1) m j = lin (m + 1) j := by
  unfold addU lin
  by_cases e : j = m + 1
  · rw [if_pos e, if_pos (by omega)]; omega
  · rw [if_neg e]
    by_cases h2 : j ≤ m
    · rw [if_pos h2, if_pos (by omega)]
    · rw [if_neg h2, if_neg (by omega)]
theorem Tr.congr {w : World} {b c : Nat} {f g : Nat → Nat} (h : Tr w b c f) (e : ∀ j, j < 8 → f j = g j) : Tr w b c g :=
  ⟨h.h.congr (fun j _ => by unfold trC; by_cases h8 : j < 8; (rw [if_pos h8, if_pos h8, e j h8]); (rw [if_neg h8, if_neg h8])), h.c1, h.c8, by rw [← e 0 (by omega)]; exact h.z, fun j h1 h2 => by rw [← e j (by have := h.c8; omega)]; exact h.dec j h1 h2⟩
theorem makeErr_top {f : Nat → Nat} {c : Nat} (h1 : 1 ≤ c) (h8 : 8 ≤ c) : makeErr f c 0 = 28 := by
  unfold makeErr
  have e1 : isIn c 0 = true := isIn_nat (n := 0) h1
  have e2 : depthOf f c 0 = 0 := depth_nat (n := 0) h1
  rw [e1, e2, if_pos rfl, if_neg (by omega), if_pos h8]
set_option maxRecDepth 100000 in
set_option maxHeartbeats 2000000 in
theorem law_sdeep (n : Int) (w : World) (N : Nat) (hN : Sz w N) :
    Calls Try.prog 5 #[.int .i64 n] w fun e w' => e = .returned (.bool true) ∧ Below N w w' := by
  obtain ⟨k, hk, ek⟩ := rest n 9 (by omega) (by omega)
  rw [show ((9 : Nat) : Int) = 9 from rfl] at ek
  have Ek := hid ek
  clear ek
  go_enter Try.func5, Try.ntmps5
  go_wp2_with (first
    | (go_at_call 19; refine (New_any _ N hN).mono ?_; rintro e w1 ⟨rfl, hb1, T1, hN1⟩)
    | fail)
  rw [Ek.out]
  clear Ek
  go_wp2_with (first
    | (go_at_call 11; refine (within_any _ (N + 1) hN1).mono ?_; rintro e w2 ⟨rfl, hb2⟩)
    | fail)
  have S0 : Tr w2 N 1 (lin 0) := (T1.below hN1 hb2).congr (fun j _ => by unfold lin; split <;> omega)
  have L0 : Below N w w2 := hb1.trans (hb2.mono (by omega))
  clear T1 hb1 hb2 hN1
  go_loopg [5, 6] k (fun g a i wr => ∃ (i' m : Nat), i' ≤ k ∧ g = k - i' ∧ i = .int .i64 ((i' : Int) + 1) ∧ Hid (m = min i' 4) ∧ a = .int .i64 (m : Int) ∧ Tr wr N (m + 1) (lin m) ∧ Below N w wr)
  case atStart => exact ⟨0, 0, by omega, rfl, rfl, hid rfl, rfl, S0, L0⟩
  case round =>
    clear S0 L0
    obtain ⟨i, m, hi, rfl, rfl, Hm, rfl, T, lo⟩ := hrel
    obtain ⟨M, hM⟩ := sz_some wr
    have lM := below_sz lo hN hM
    have m4 : m ≤ 4 := by have := Hm.out; omega
    have k9 : (k : Int) ≤ 8 := by omega
    have i0 : (0 : Int) ≤ (i : Int) := by omega
    have m0 : (0 : Int) ≤ (m : Int) := by omega
    by_cases hlt : i < k
    · have t1 : (i : Int) + 1 ≤ (k : Int) := by omega
      by_cases h4 : i < 4
      · have em : m = i := by have := Hm.out; omega
        subst em
        have t2 : ¬ (4 : Int) < (m : Int) + 1 := by omega
        have hl := lin_len m (by omega) m (by omega) (Nat.le_refl _)
        have hl2 := lin_len (m + 1) (by omega) (m + 1) (by omega) (Nat.le_refl _)
        have hz : insI (lin (m + 1)) (m + 1 + 1) ((m + 1 : Nat) : Int) 0 = true := (ins_nat (o := 0) (by omega)).2 (mem_zero (lin_dec (m + 1)) (m + 1) (by omega))
        have f1 : lin (m + 1) (m + 1) = m := by unfold lin; rw [if_pos (by omega)]; omega
        have CM := Make_ok N (m + 1) (lin m) m (by omega) (by omega) (by omega) wr M hM T
        have CD := fun w M hM hT => Depth_any N (m + 1 + 1) (lin (m + 1)) ((m + 1 : Nat) : Int) w M hM hT
        rw [depth_nat (by omega), errIn_nat (by omega), hl2, Nat.add_sub_cancel] at CD
        have CU := fun w hT => Up_in N (m + 1 + 1) (lin (m + 1)) (m + 1) (by omega) w hT
        rw [f1] at CU
        have CI := fun w M hM hT => Inside_any N (m + 1 + 1) (lin (m + 1)) ((m + 1 : Nat) : Int) 0 w M hM hT
        rw [hz] at CI
        have ec : ((m + 1 : Nat) : Int) = (m : Int) + 1 := by omega
        rw [ec] at CM CD CU CI
        clear ec hz f1 hl hl2
        have Hmm := hid h4
        clear h4
        go_wp2_with fail
        refine CM.mono ?_
        rintro e x1 ⟨rfl, t3, T3'⟩
        have T3 := T3'.congr (g := lin (m + 1)) (fun j hj => lin_add m j hj)
        obtain ⟨M3, hM3⟩ := sz_some x1
        have l3 := sz_turn t3 hM hM3
        have lo3 : Below N w x1 := t3.below lo (fun j h => by omega) (by rw [show wr.heap.size = M from hM]; omega)
        clear T3' CM
        go_wp2_with fail
        refine (CD _ M3 hM3 T3).mono ?_
        rintro e x2 ⟨rfl, b4⟩
        have T4 := T3.below hM3 b4
        have lo4 := lo3.trans (b4.mono (show N ≤ M3 by omega))
        obtain ⟨M4, hM4⟩ := sz_some x2
        have l4 := below_sz b4 hM3 hM4
        go_wp2_with fail
        refine (CU _ T4).mono ?_
        rintro e x3 ⟨rfl, e3⟩
        subst e3
        go_wp2_with fail
        refine (CI _ M4 hM4 T4).mono ?_
        rintro e x4 ⟨rfl, b5⟩
        have T5 := T4.below hM4 b5
        have lo5 := lo4.trans (b5.mono (show N ≤ M4 by omega))
        go_wp2_with fail
        go_roundg (k - (m + 1))
        case measure => omega
        case rel => exact ⟨m + 1, m + 1, by omega, rfl, by go_num, hid (by have := Hmm.out; omega), by go_num, T5, lo5⟩
      · have em : m = 4 := by have := Hm.out; omega
        subst em
        have t2 : (4 : Int) < (i : Int) + 1 := by omega
        have hl := lin_len 4 (by omega) 4 (by omega) (Nat.le_refl _)
        have er : makeErr (lin 4) (4 + 1) ((4 : Nat) : Int) = 7 := by
          unfold makeErr
          rw [isIn_nat (by omega), if_pos rfl, depth_nat (by omega), hl, if_pos (by omega)]
        have CM := Make_no N (4 + 1) (lin 4) ((4 : Nat) : Int) (by rw [er]; omega) wr M hM T
        rw [er] at CM
        clear er hl
        have H4 := hid h4
        clear h4
        go_wp2_with fail
        refine CM.mono ?_
        rintro e x1 ⟨rfl, b3⟩
        have T3 := T.below hM b3
        have lo3 := lo.trans (b3.mono lM)
        clear CM
        go_wp2_with fail
        go_roundg (k - (i + 1))
        case measure => omega
        case rel => exact ⟨i + 1, 4, by omega, rfl, by go_num, hid (by have := H4.out; omega), rfl, T3, lo3⟩
    · have t1 : ¬ (i : Int) + 1 ≤ (k : Int) := by omega
      go_wp2_with fail
      clear t1 hM
      have T0 := hid T
      clear T
      go_loopg [13, 14] (8 - (m + 1)) (fun g p13 p14 wr => ∃ (c : Nat) (f : Nat → Nat), g = 8 - c ∧ Tr wr N c f ∧ Below N w wr)
      case atStart => exact ⟨m + 1, lin m, rfl, T0.out, lo⟩
      case round =>
        clear T0 lo
        obtain ⟨c, f, rfl, T, lo⟩ := hrel
        have c1 := T.c1
        have c8 := T.c8
        obtain ⟨M, hM⟩ := sz_some wr
        have lM := below_sz lo hN hM
        by_cases hc : c < 8
        · have t2 : (c : Int) < 8 := by omega
          have CM := Make_ok N c f 0 (by omega) (by rw [ups_zero]; simp) hc wr M hM T
          go_wp2_with fail
          refine (Len_any N c f wr T).mono ?_
          rintro e x1 ⟨rfl, e1⟩
          subst e1
          go_wp2_with fail
          refine CM.mono ?_
          rintro e x2 ⟨rfl, t3, T3⟩
          have lo3 : Below N w x2 := t3.below lo (fun j h => by omega) (by rw [show x1.heap.size = M from hM]; omega)
          go_wp2_with fail
          go_roundg (8 - (c + 1))
          case measure => omega
          case rel => exact ⟨c + 1, _, rfl, T3, lo3⟩
        · obtain rfl : c = 8 := by omega
          have er := makeErr_top (f := f) c1 (Nat.le_refl 8)
          have CM := Make_no N 8 f 0 (by rw [er]; omega) wr M hM T
          rw [er] at CM
          clear er
          go_wp2_with fail
          refine (Len_any N 8 f wr T).mono ?_
          rintro e x1 ⟨rfl, e1⟩
          subst e1
          go_wp2_with fail
          refine CM.mono ?_
          rintro e x2 ⟨rfl, b3⟩
          have lo3 := lo.trans (b3.mono lM)
          go_wp2_with fail
          go_ret
          exact ⟨rfl, lo3⟩
end Go.Proofs.Ytcbcnhkalchpbaa
