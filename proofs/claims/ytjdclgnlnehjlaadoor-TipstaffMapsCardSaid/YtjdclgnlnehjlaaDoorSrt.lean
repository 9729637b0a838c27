/- Two rows of the same things, both in order, no two alike in order: one row. Nothing of the program. -/
import Derived.Sort.Statements
import Derived.Lib.Bytealg
namespace Go.Proofs.YtjdclgnlnehjlaaDoor
open Go
theorem perm_sorted_eq {α : Type} (r : α → α → Prop) : ∀ (l1 l2 : List α), l1.Perm l2 → l1.Pairwise r → l2.Pairwise r → (∀ x, x ∈ l1 → ∀ y, y ∈ l1 → r x y → r y x → x = y) → l1 = l2
  | [], l2, p, _, _, _ => p.nil_eq
  | x :: xs, [], p, _, _, _ => by have := p.length_eq; simp at this
  | x :: xs, y :: ys, p, h1, h2, ha => by
    rw [List.pairwise_cons] at h1 h2
    have hx : x ∈ y :: ys := p.mem_iff.1 (by simp)
    have hy : y ∈ x :: xs := p.mem_iff.2 (by simp)
    have e : x = y := by
      rcases List.mem_cons.1 hx with e | hx
      · exact e
      · rcases List.mem_cons.1 hy with e | hy'
        · exact e.symm
        · exact ha x (by simp) y hy (h1.1 y hy') (h2.1 x hx)
    subst e
    rw [perm_sorted_eq r xs ys (p.cons_inv) h1.2 h2.2 (fun a hxa b hb => ha a (List.mem_cons_of_mem _ hxa) b (List.mem_cons_of_mem _ hb))]
/-- In the words of the sort: what is sorted by lt is a row of which each is no less than those ahead of it. -/
theorem sortedIn_pairwise {α : Type} [Inhabited α] (lt : α → α → Bool) (d : Array α) (h : Go.Sort.SortedIn lt 0 d.size d) : d.toList.Pairwise (fun x y => lt y x = false) := by
  rw [List.pairwise_iff_getElem]
  intro i j hi hj hij
  have hi' : i < d.size := by simpa using hi
  have hj' : j < d.size := by simpa using hj
  have := h i j (Nat.zero_le _) hij hj'
  rw [getElem!_pos d i hi', getElem!_pos d j hj'] at this
  simpa using this
/-- Texts by their bytes: strings.Compare's order is a total one. -/
theorem cmpB_cons (a b : UInt8) (x y : List UInt8) : Lib.compareBytes (a :: x) (b :: y) < 0 ↔ a.toNat < b.toNat ∨ (a = b ∧ Lib.compareBytes x y < 0) := by
  have e : Lib.compareBytes (a :: x) (b :: y) = if a < b then -1 else if b < a then 1 else Lib.compareBytes x y := by rw [Lib.compareBytes]
  rw [e]
  clear e
  by_cases h1 : a < b
  · have := UInt8.lt_iff_toNat_lt.1 h1
    simp [h1, this]
  · have h1' : ¬ a.toNat < b.toNat := fun h => h1 (UInt8.lt_iff_toNat_lt.2 h)
    by_cases h2 : b < a
    · have h2' := UInt8.lt_iff_toNat_lt.1 h2
      have : ¬ a = b := fun e => by rw [e] at h2'; omega
      simp [h1, h2, h1', this]
    · have h2' : ¬ b.toNat < a.toNat := fun h => h2 (UInt8.lt_iff_toNat_lt.2 h)
      have : a = b := UInt8.toNat_inj.1 (by omega)
      simp [this]
theorem cmpB_nil (x : List UInt8) : ¬ Lib.compareBytes x [] < 0 := by cases x <;> simp [Lib.compareBytes]
theorem cmpB_nil_cons (b : UInt8) (y : List UInt8) : Lib.compareBytes [] (b :: y) < 0 := by simp [Lib.compareBytes]
theorem cmpB_irrefl : ∀ x : List UInt8, ¬ Lib.compareBytes x x < 0
  | [] => cmpB_nil []
  | a :: x => fun h => by
    rcases (cmpB_cons a a x x).1 h with h | h
    · omega
    · exact cmpB_irrefl x h.2
theorem cmpB_trans : ∀ x y z : List UInt8, Lib.compareBytes x y < 0 → Lib.compareBytes y z < 0 → Lib.compareBytes x z < 0
  | _, _, [], _, h => absurd h (cmpB_nil _)
  | _, [], _ :: _, h, _ => absurd h (cmpB_nil _)
  | [], _ :: _, _ :: _, _, _ => cmpB_nil_cons _ _
  | a :: x, b :: y, c :: z, h1, h2 => by
    rw [cmpB_cons] at h1 h2 ⊢
    rcases h1 with h1 | ⟨rfl, h1⟩ <;> rcases h2 with h2 | ⟨rfl, h2⟩
    · exact .inl (by omega)
    · exact .inl h1
    · exact .inl h2
    · exact .inr ⟨rfl, cmpB_trans x y z h1 h2⟩
theorem cmpB_total : ∀ x y : List UInt8, x = y ∨ Lib.compareBytes x y < 0 ∨ Lib.compareBytes y x < 0
  | [], [] => .inl rfl
  | [], _ :: _ => .inr (.inl (cmpB_nil_cons _ _))
  | _ :: _, [] => .inr (.inr (cmpB_nil_cons _ _))
  | a :: x, b :: y => by
    rw [cmpB_cons, cmpB_cons]
    by_cases hab : a = b
    · subst hab
      rcases cmpB_total x y with h | h | h
      · exact .inl (by rw [h])
      · exact .inr (.inl (.inr ⟨rfl, h⟩))
      · exact .inr (.inr (.inr ⟨rfl, h⟩))
    · have : a.toNat ≠ b.toNat := fun e => hab (UInt8.toNat_inj.1 e)
      rcases Nat.lt_or_gt_of_ne this with h | h
      · exact .inr (.inl (.inl h))
      · exact .inr (.inr (.inl h))
/-- Whatever has a text is in order by its text. -/
theorem swo_text {α : Type} (key : α → ByteArray) : Go.Sort.SWO (fun x y : α => decide (Lib.compareBytes (key x).data.toList (key y).data.toList < 0)) where
  irrefl x := by simpa using cmpB_irrefl (key x).data.toList
  trans x y z h1 h2 := by
    simp only [decide_eq_true_eq] at *
    exact cmpB_trans _ _ _ h1 h2
  ntrans x y z h1 h2 := by
    simp only [decide_eq_false_iff_not] at *
    intro h
    rcases cmpB_total (key x).data.toList (key y).data.toList with e | e | e
    · rw [e] at h; exact h2 h
    · exact h1 e
    · exact h2 (cmpB_trans _ _ _ e h)
theorem anti_text {α : Type} (key : α → ByteArray) (x y : α) (h1 : decide (Lib.compareBytes (key y).data.toList (key x).data.toList < 0) = false) (h2 : decide (Lib.compareBytes (key x).data.toList (key y).data.toList < 0) = false) : key x = key y := by
  simp only [decide_eq_false_iff_not] at *
  rcases cmpB_total (key x).data.toList (key y).data.toList with e | e | e
  · have e' : (key x).data = (key y).data := Array.ext' e
    cases hx : key x; cases hy : key y
    rw [hx, hy] at e'
    simp only at e'
    rw [e']
  · exact absurd e h2
  · exact absurd e h1
end Go.Proofs.YtjdclgnlnehjlaaDoor
