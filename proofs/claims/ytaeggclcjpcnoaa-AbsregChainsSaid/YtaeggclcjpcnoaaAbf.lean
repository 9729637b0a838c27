/- States: which parts are Maybes. -/
import Derived.Test.YtaeggclcjpcnoaaAbe
import Derived.Test.YtaeggclcjpcnoaaInns
namespace Go.Proofs.Ytaeggclcjpcnoaa
open Go Go.RowKit
/-- The Maybes among the first parts, in order. -/
def ms (s : St) : Nat → List Nat
  | 0 => []
  | i + 1 => if (prt s i).k = 6 then ms s i ++ [i] else ms s i
theorem ms_yes {s : St} {i : Nat} (h : (prt s i).k = 6) : ms s (i + 1) = ms s i ++ [i] := if_pos h
theorem ms_no {s : St} {i : Nat} (h : ¬ (prt s i).k = 6) : ms s (i + 1) = ms s i := if_neg h
theorem ms_len (s : St) (i : Nat) : (ms s i).length ≤ i := by
  induction i with
  | zero => exact Nat.le_refl _
  | succ i ih =>
    by_cases h : (prt s i).k = 6
    · rw [ms_yes h, List.length_append]; simp only [List.length_cons, List.length_nil]; omega
    · rw [ms_no h]; omega
theorem ms_lt {s : St} {i x : Nat} (h : x ∈ ms s i) : x < i ∧ (prt s x).k = 6 := by
  induction i with
  | zero => cases h
  | succ i ih =>
    by_cases hk : (prt s i).k = 6
    · rw [ms_yes hk, List.mem_append] at h
      rcases h with h | h
      · have := ih h; exact ⟨by omega, this.2⟩
      · obtain rfl : x = i := by simpa using h
        exact ⟨by omega, hk⟩
    · rw [ms_no hk] at h
      have := ih h; exact ⟨by omega, this.2⟩
theorem ms_mem {s : St} {i x : Nat} (hx : x < i) (hk : (prt s x).k = 6) : x ∈ ms s i := by
  induction i with
  | zero => omega
  | succ i ih =>
    by_cases e : x = i
    · subst e; rw [ms_yes hk]; simp
    · have := ih (by omega)
      by_cases h : (prt s i).k = 6
      · rw [ms_yes h]; exact List.mem_append_left _ this
      · rw [ms_no h]; exact this
theorem ms_at {s : St} {i v : Nat} (h : v < (ms s i).length) : (ms s i).getD v 0 < i ∧ (prt s ((ms s i).getD v 0)).k = 6 := by
  have e : (ms s i).getD v 0 = (ms s i)[v] := by simp [List.getD, h]
  rw [e]; exact ms_lt (List.getElem_mem h)
theorem pair_all {s t : St} {i : Nat} (h : ∀ v, v < (ms s i).length → pairB s t i ((ms s i).getD v 0) = true) : allF (pairB s t i) i = true := by
  rw [allF_iff]
  intro x hx
  by_cases hk : (prt s x).k = 6
  · obtain ⟨v, hv, e⟩ := List.getElem_of_mem (ms_mem hx hk)
    have := h v hv
    have e2 : (ms s i).getD v 0 = x := by simp [List.getD, hv, e]
    rwa [e2] at this
  · unfold pairB
    rw [show ((prt s x).k == 6) = false from beq_false_of_ne hk]; rfl
theorem pair_no {s t : St} {i : Nat} (h : ¬ (prt s i).k = 6) (x : Nat) : pairB s t i x = true := by
  unfold pairB
  rw [show ((prt s i).k == 6) = false from beq_false_of_ne h, Bool.false_and, Bool.and_false]; rfl
theorem pair_ne {s t : St} {i x : Nat} (h : ((prt s x).id == (prt s i).id) = false) : pairB s t i x = true := by
  unfold pairB
  rw [h, Bool.and_false, Bool.and_false]; rfl
theorem pair_eq {s t : St} {i x : Nat} (h : ((prt t x).id != (prt t i).id) = false) : pairB s t i x = true := by
  unfold pairB
  rw [show ((prt t x).id == (prt t i).id) = true by simpa [bne] using h, Bool.or_true]
theorem pair_bad {s t : St} {i x : Nat} (h1 : (prt s x).k = 6) (h2 : (prt s i).k = 6) (h3 : ((prt s x).id == (prt s i).id) = true) (h4 : ((prt t x).id != (prt t i).id) = true) : pairB s t i x = false := by
  unfold pairB
  rw [h1, h2, h3, show ((prt t x).id == (prt t i).id) = false by simpa [bne] using h4]; rfl
theorem same_bad {s t : St} {i x : Nat} (hi : i < 19) (hx : x < i) (h : pairB s t i x = false) : sameB s t = false := by
  unfold sameB
  cases hs : allF (fun y => allF (pairB s t y) y) 19
  · rfl
  · have h1 := (allF_iff _ _).1 hs i hi
    have h2 := (allF_iff _ _).1 h1 x hx
    rw [h] at h2; cases h2
/-- What is written down of them. -/
def mF (s r : St) (i j : Nat) : Value := .int .i64 (prt r ((ms s i).getD j 0)).id
theorem mF_cat {s r : St} {i : Nat} (h : (prt s i).k = 6) (j : Nat) (hj : j < (ms s (i + 1)).length) : cat (mF s r i) (ms s i).length (fun _ => .int .i64 (prt r i).id) j = mF s r (i + 1) j := by
  unfold cat mF
  rw [ms_yes h]
  by_cases hl : j < (ms s i).length
  · have e : (ms s i ++ [i]).getD j 0 = (ms s i).getD j 0 := by simp [List.getD, List.getElem?_append_left hl]
    rw [if_pos hl, e]
  · rw [ms_yes h, List.length_append] at hj
    simp only [List.length_cons, List.length_nil] at hj
    have e : j = (ms s i).length := by omega
    rw [if_neg hl, e]; simp [List.getD]
end Go.Proofs.Ytaeggclcjpcnoaa
