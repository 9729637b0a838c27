/- AbsregReady: what is ready. -/
import Derived.Test.YtcdhngceiochoaaAwm
namespace Go.Proofs.Ytcdhngceiochoaa
open Go Go.RowKit
theorem ready_said (k L a m : Nat) (hL : k + L ≤ 64) (ha : a < 64) :
    readyF (saveL startS k true L) (wrap64 ((a : Int) - 64)) (m : Int) = (decide (k ≤ a ∧ a + m ≤ k + L) || decide (m = 0)) := by
  have e : wrap64 ((a : Int) - 64) = (a : Int) - 64 := by unfold wrap64; omega
  rw [e]
  have hW : ∀ j, (saveL startS k true L).W j = decide (k ≤ j ∧ j < k + L) := fun j => by
    rw [saveL_W, start_W]
    by_cases hj : k ≤ j ∧ j < k + L
    · rw [if_pos hj, decide_eq_true hj]
    · rw [if_neg hj, decide_eq_false hj, ite_self]
  unfold readyF
  by_cases hm : m = 0
  · subst hm; simp
  rw [show decide ((m : Int) ≤ 0) = false from decide_eq_false (by omega), cond_false, show decide (m = 0) = false from decide_eq_false hm, Bool.or_false]
  by_cases h64 : a + m ≤ 64
  · rw [inside_t (by omega) (by omega) (by omega), cond_true, index_at (by omega) (by omega), show ((a : Int) - 64 + 64).toNat = a by omega, Int.toNat_natCast, Bool.eq_iff_iff, allW_iff, decide_eq_true_eq]
    constructor
    · intro h
      have h1 := h 0 (by omega)
      have h2 := h (m - 1) (by omega)
      rw [hW, decide_eq_true_eq] at h1 h2
      omega
    · intro h j hj
      rw [hW, decide_eq_true_eq]; omega
  · rw [inside_f (by omega) (by omega) (by omega), cond_false]
    symm; rw [decide_eq_false_iff_not]; omega
theorem ready_facts {k a m q L : Nat} {Y : St} (ha : a < 64) (hm : m < 30) (hk : k < 64) (hL : L ≤ 20) (hq : q = k + L) (cr : readyF Y (wrap64 ((a : Int) - 64)) (m : Int) = (decide (k ≤ a ∧ a + m ≤ k + L) || decide (m = 0))) :
    (Hid ((decide (((k : Nat) : Int) ≤ ((a : Nat) : Int))) = false) ∧ Hid ((((m : Nat) : Int) == 0) = false) ∧ Hid ((readyF Y (wrap64 (((a : Nat) : Int) - 64)) ((m : Nat) : Int)) = false)) ∨ (Hid ((decide (((k : Nat) : Int) ≤ ((a : Nat) : Int))) = false) ∧ Hid ((((m : Nat) : Int) == 0) = true) ∧ Hid ((readyF Y (wrap64 (((a : Nat) : Int) - 64)) ((m : Nat) : Int)) = true)) ∨ (Hid ((decide (((k : Nat) : Int) ≤ ((a : Nat) : Int))) = true) ∧ Hid ((decide ((wrap64 (((a : Nat) : Int) + ((m : Nat) : Int))) ≤ ((q : Nat) : Int))) = false) ∧ Hid ((((m : Nat) : Int) == 0) = false) ∧ Hid ((readyF Y (wrap64 (((a : Nat) : Int) - 64)) ((m : Nat) : Int)) = false)) ∨ (Hid ((decide (((k : Nat) : Int) ≤ ((a : Nat) : Int))) = true) ∧ Hid ((decide ((wrap64 (((a : Nat) : Int) + ((m : Nat) : Int))) ≤ ((q : Nat) : Int))) = false) ∧ Hid ((((m : Nat) : Int) == 0) = true) ∧ Hid ((readyF Y (wrap64 (((a : Nat) : Int) - 64)) ((m : Nat) : Int)) = true)) ∨ (Hid ((decide (((k : Nat) : Int) ≤ ((a : Nat) : Int))) = true) ∧ Hid ((decide ((wrap64 (((a : Nat) : Int) + ((m : Nat) : Int))) ≤ ((q : Nat) : Int))) = true) ∧ Hid ((readyF Y (wrap64 (((a : Nat) : Int) - 64)) ((m : Nat) : Int)) = true)) := by
  have e1 : wrap64 (((a : Nat) : Int) + ((m : Nat) : Int)) = ((a : Nat) : Int) + ((m : Nat) : Int) := wrap_id (by omega) (by omega)
  rw [cr, e1]
  by_cases h1 : a < k
  · by_cases h2 : m = 0
    · exact .inr (.inl ⟨hid (decide_eq_false (by omega)), hid (beq_iff_eq.2 (by omega)), hid (by rw [Bool.or_eq_true, decide_eq_true_eq, decide_eq_true_eq]; omega)⟩)
    · exact .inl ⟨hid (decide_eq_false (by omega)), hid (beq_false_of_ne (by omega)), hid (by rw [Bool.or_eq_false_iff, decide_eq_false_iff_not, decide_eq_false_iff_not]; omega)⟩
  · by_cases h3 : a + m ≤ q
    · exact .inr (.inr (.inr (.inr ⟨hid (decide_eq_true (by omega)), hid (decide_eq_true (by omega)), hid (by rw [Bool.or_eq_true, decide_eq_true_eq, decide_eq_true_eq]; omega)⟩)))
    · by_cases h2 : m = 0
      · exact .inr (.inr (.inr (.inl ⟨hid (decide_eq_true (by omega)), hid (decide_eq_false (by omega)), hid (beq_iff_eq.2 (by omega)), hid (by rw [Bool.or_eq_true, decide_eq_true_eq, decide_eq_true_eq]; omega)⟩)))
      · exact .inr (.inr (.inl ⟨hid (decide_eq_true (by omega)), hid (decide_eq_false (by omega)), hid (beq_false_of_ne (by omega)), hid (by rw [Bool.or_eq_false_iff, decide_eq_false_iff_not, decide_eq_false_iff_not]; omega)⟩))
theorem ready_step (k j : Nat) (h : k + j < 64) : saveF (saveL startS k true j) (wrap64 (wrap64 (((k : Nat) : Int) + ((j : Nat) : Int)) - 64)) 1 (numA (cR 3#64)) = (saveL startS k true (j + 1), true) := by
  have e : wrap64 (wrap64 (((k : Nat) : Int) + ((j : Nat) : Int)) - 64) = wrap64 (((k + j : Nat) : Int) - 64) := by unfold wrap64; omega
  rw [e, save_num h (.inl rfl) (by omega)]
  rfl
end Go.Proofs.Ytcdhngceiochoaa
