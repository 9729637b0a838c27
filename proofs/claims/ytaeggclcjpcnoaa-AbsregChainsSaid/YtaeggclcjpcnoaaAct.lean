/- States: of three, if one covers another one, and that a third one, the first one covers the third one. -/
import Derived.Test.YtaeggclcjpcnoaaAcm
import Derived.Test.YtaeggclcjpcnoaaSm10
namespace Go.Proofs.Ytaeggclcjpcnoaa
open Go Go.RowKit
/-- Its range's bits are right. -/
def okN (a : Ar) : Prop := Rgt a.r.b
theorem covA_kind {a b : Ar} (h : covA a b = true) (hk : ¬ a.k = 0) : a.k = b.k := by
  unfold covA at h
  rw [show (a.k == 0) = false from beq_false_of_ne hk, cond_false] at h
  by_cases e : a.k = b.k
  · exact e
  · rw [show (a.k != b.k) = true from by rw [bne_iff_ne]; exact e, cond_true] at h; cases h
/-- What is asked of two of one kind. -/
def covK1 (a b : Ar) : Prop := (a.k = 1 → sWithin b.r a.r = true) ∧ ((a.k = 2 ∨ a.k = 3 ∨ a.k = 5) → a.sl = b.sl ∧ a.lo ≤ b.lo ∧ b.hi ≤ a.hi) ∧ ((a.k = 4 ∨ a.k = 6) → a.sl = b.sl)
theorem covA_iff (a b : Ar) : covA a b = true ↔ a.k = 0 ∨ (a.k = b.k ∧ covK1 a b) := by
  by_cases h0 : a.k = 0
  · have e : covA a b = true := by unfold covA; rw [show (a.k == 0) = true from beq_iff_eq.2 h0]; rfl
    exact ⟨fun _ => .inl h0, fun _ => e⟩
  by_cases hk : a.k = b.k
  · have hne : (a.k != b.k) = false := by rw [bne_eq_false_iff_eq]; exact hk
    have h0' : (a.k == 0) = false := beq_false_of_ne h0
    have three : (bif (a.sl == b.sl) then bif (decide (a.lo ≤ b.lo)) then (decide (b.hi ≤ a.hi)) else false else false) = true ↔ (a.sl = b.sl ∧ a.lo ≤ b.lo ∧ b.hi ≤ a.hi) := by
      by_cases e1 : a.sl = b.sl
      · by_cases e2 : a.lo ≤ b.lo
        · rw [show (a.sl == b.sl) = true from beq_iff_eq.2 e1, decide_eq_true e2]; simp [e1, e2]
        · rw [show (a.sl == b.sl) = true from beq_iff_eq.2 e1, decide_eq_false e2]; simp [e2]
      · rw [show (a.sl == b.sl) = false from beq_false_of_ne e1]; simp [e1]
    unfold covA covK1
    rw [h0', hne, cond_false, cond_false]
    by_cases h1 : a.k = 1
    · rw [show (a.k == 1) = true from beq_iff_eq.2 h1, cond_true]
      constructor
      · intro h; exact .inr ⟨hk, fun _ => h, fun x => by omega, fun x => by omega⟩
      · rintro (h | ⟨_, h, _⟩)
        · exact absurd h h0
        · exact h h1
    rw [show (a.k == 1) = false from beq_false_of_ne h1, cond_false]
    by_cases h2 : a.k = 2
    · rw [show (a.k == 2) = true from beq_iff_eq.2 h2, cond_true, three]
      constructor
      · intro h; exact .inr ⟨hk, fun x => by omega, fun _ => h, fun x => by omega⟩
      · rintro (h | ⟨_, _, h, _⟩)
        · exact absurd h h0
        · exact h (.inl h2)
    rw [show (a.k == 2) = false from beq_false_of_ne h2, cond_false]
    by_cases h3 : a.k = 3
    · rw [show (a.k == 3) = true from beq_iff_eq.2 h3, cond_true, three]
      constructor
      · intro h; exact .inr ⟨hk, fun x => by omega, fun _ => h, fun x => by omega⟩
      · rintro (h | ⟨_, _, h, _⟩)
        · exact absurd h h0
        · exact h (.inr (.inl h3))
    rw [show (a.k == 3) = false from beq_false_of_ne h3, cond_false]
    by_cases h5 : a.k = 5
    · rw [show (a.k == 5) = true from beq_iff_eq.2 h5, cond_true, three]
      constructor
      · intro h; exact .inr ⟨hk, fun x => by omega, fun _ => h, fun x => by omega⟩
      · rintro (h | ⟨_, _, h, _⟩)
        · exact absurd h h0
        · exact h (.inr (.inr h5))
    rw [show (a.k == 5) = false from beq_false_of_ne h5, cond_false]
    by_cases h4 : a.k = 4
    · rw [show (a.k == 4) = true from beq_iff_eq.2 h4, cond_true, beq_iff_eq]
      constructor
      · intro h; exact .inr ⟨hk, fun x => by omega, fun x => by omega, fun _ => h⟩
      · rintro (h | ⟨_, _, _, h⟩)
        · exact absurd h h0
        · exact h (.inl h4)
    rw [show (a.k == 4) = false from beq_false_of_ne h4, cond_false]
    by_cases h6 : a.k = 6
    · rw [show (a.k == 6) = true from beq_iff_eq.2 h6, cond_true, beq_iff_eq]
      constructor
      · intro h; exact .inr ⟨hk, fun x => by omega, fun x => by omega, fun _ => h⟩
      · rintro (h | ⟨_, _, _, h⟩)
        · exact absurd h h0
        · exact h (.inr h6)
    rw [show (a.k == 6) = false from beq_false_of_ne h6, cond_false]
    exact ⟨fun _ => .inr ⟨hk, fun x => absurd x h1, fun x => by omega, fun x => by omega⟩, fun _ => rfl⟩
  · constructor
    · intro h; exact absurd (covA_kind h h0) hk
    · rintro (h | ⟨h, _⟩)
      · exact absurd h h0
      · exact absurd h hk
theorem covA_trans {a b c : Ar} (ha : okN a) (hb : okN b) (h1 : covA a b = true) (h2 : covA b c = true) : covA a c = true := by
  rw [covA_iff] at *
  rcases h1 with h1 | ⟨k1, p1⟩
  · exact .inl h1
  by_cases h0 : a.k = 0
  · exact .inl h0
  rcases h2 with h2 | ⟨k2, p2⟩
  · exact absurd (k1.trans h2) h0
  refine .inr ⟨k1.trans k2, fun h => ?_, fun h => ?_, fun h => ?_⟩
  · have x := nar_iff.1 (p1.1 h)
    have y := nar_iff.1 (p2.1 (by rw [← k1]; exact h))
    exact nar_iff.2 (y.trans x hb ha)
  · have x := p1.2.1 h
    have y := p2.2.1 (by rw [← k1]; exact h)
    exact ⟨x.1.trans y.1, by omega, by omega⟩
  · exact (p1.2.2 h).trans (p2.2.2 (by rw [← k1]; exact h))
/-- A state whose ranges are right. -/
def okSt (s : St) : Prop := ∀ i, okN (prt s i)
theorem covS_iff (s t : St) : covS s t = true ↔ (∀ i, i < 19 → covA (prt s i) (prt t i) = true) ∧ (∀ i, i < 64 → s.W i = true → t.W i = true) ∧ sameB s t = true := by
  unfold covS covR covK covW
  rw [Bool.and_eq_true, Bool.and_eq_true, Bool.and_eq_true, allF_iff, allF_iff, allF_iff]
  constructor
  · rintro ⟨h1, h2, h3, h4⟩
    refine ⟨fun i hi => ?_, fun i hi hw => ?_, h4⟩
    · unfold prt
      by_cases hl : i < 11
      · rw [if_pos hl, if_pos hl]; exact h1 i hl
      · rw [if_neg hl, if_neg hl]; exact h2 (i - 11) (by omega)
    · have := h3 i hi; rw [hw] at this; exact this
  · rintro ⟨h1, h2, h3⟩
    refine ⟨fun i hi => ?_, fun i hi => ?_, fun i hi => ?_, h3⟩
    · have := h1 i (by omega); unfold prt at this; rw [if_pos hi, if_pos hi] at this; exact this
    · have := h1 (i + 11) (by omega); unfold prt at this; rw [if_neg (by omega), if_neg (by omega), Nat.add_sub_cancel] at this; exact this
    · have := h2 i hi
      cases hw : s.W i
      · rfl
      · rw [this hw]; rfl
theorem same_iff (s t : St) : sameB s t = true ↔ ∀ y, y < 19 → ∀ x, x < y → (prt s x).k = 6 → (prt s y).k = 6 → (prt s x).id = (prt s y).id → (prt t x).id = (prt t y).id := by
  unfold sameB
  rw [allF_iff]
  constructor
  · intro h y hy x hx k1 k2 e
    have h1 := (allF_iff _ _).1 (h y hy) x hx
    unfold pairB at h1
    rw [k1, k2, show ((prt s x).id == (prt s y).id) = true from beq_iff_eq.2 e] at h1
    simpa using h1
  · intro h y hy
    rw [allF_iff]
    intro x hx
    unfold pairB
    by_cases k1 : (prt s x).k = 6
    · by_cases k2 : (prt s y).k = 6
      · by_cases e : (prt s x).id = (prt s y).id
        · rw [show ((prt t x).id == (prt t y).id) = true from beq_iff_eq.2 (h y hy x hx k1 k2 e), Bool.or_true]
        · rw [show ((prt s x).id == (prt s y).id) = false from beq_false_of_ne e, Bool.and_false, Bool.and_false]; rfl
      · rw [show ((prt s y).k == 6) = false from beq_false_of_ne k2, Bool.false_and, Bool.and_false]; rfl
    · rw [show ((prt s x).k == 6) = false from beq_false_of_ne k1, Bool.false_and]; rfl
theorem covS_trans {s t u : St} (hs : okSt s) (ht : okSt t) (h1 : covS s t = true) (h2 : covS t u = true) : covS s u = true := by
  rw [covS_iff] at *
  obtain ⟨a1, a2, a3⟩ := h1
  obtain ⟨b1, b2, b3⟩ := h2
  refine ⟨fun i hi => covA_trans (hs i) (ht i) (a1 i hi) (b1 i hi), fun i hi hw => b2 i hi (a2 i hi hw), ?_⟩
  rw [same_iff] at *
  intro y hy x hx k1 k2 e
  have kx := covA_kind (a1 x (by omega)) (by rw [k1]; decide)
  have ky := covA_kind (a1 y hy) (by rw [k2]; decide)
  exact b3 y hy x hx (kx.symm.trans k1) (ky.symm.trans k2) (a3 y hy x hx k1 k2 e)
end Go.Proofs.Ytaeggclcjpcnoaa
