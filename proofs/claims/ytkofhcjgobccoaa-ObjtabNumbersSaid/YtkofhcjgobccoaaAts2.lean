/- Cells from some place on, by a function; numbers that are rests of 64 bits. Nothing of the program. -/
import Derived.Test.YtkofhcjgobccoaaOw
import Derived.Test.YtkofhcjgobccoaaOw2
namespace Go.Proofs.Ytkofhcjgobccoaa
open Go Go.RowKit
/-- n cells from some place on. -/
def Lies (w : World) (p : Option Addr) (n : Nat) (g : Nat → Value) : Prop := 0 < n → ∃ b off, p = some ⟨b, off, none⟩ ∧ ∀ j, j < n → w.cell? ⟨b, off + j, none⟩ = some (g j)
theorem Lies.below {w w' : World} {p : Option Addr} {n N : Nat} {g : Nat → Value} (h : Lies w p n g) (hN : Sz w N) (hb : Below N w w') : Lies w' p n g := fun h0 => by
  obtain ⟨b, off, e, hc⟩ := h h0
  refine ⟨b, off, e, fun j hj => ?_⟩
  have h1 := hc j hj
  rw [hb.cell (p := ⟨b, off + j, none⟩) (by have := World.block_lt_of_cell? w _ h1; have e : w.heap.size = N := hN; simp only at this ⊢; omega)]
  exact h1
theorem u64_pos (n : Int) : 0 ≤ IntKind.u64.wrap n := by
  rw [IntKind.wrap_u64]
  exact Int.emod_nonneg _ (by omega)
/-- The rest of a number as one of 64 bits without sign. -/
theorem rest (n : Int) (m : Nat) (h0 : 0 < m) (hm : m ≤ 10000) : ∃ x : Nat, x < m ∧ wrap64 ((IntKind.u64.wrap n).tmod (m : Int)) = (x : Int) := by
  have h := u64_pos n
  generalize IntKind.u64.wrap n = u at h
  rw [Int.tmod_eq_emod_of_nonneg h]
  have h1 := Int.emod_nonneg u (b := (m : Int)) (by omega)
  have h2 := Int.emod_lt_of_pos u (b := (m : Int)) (by omega)
  exact ⟨(u % (m : Int)).toNat, by omega, by rw [IntWalk.wrap64_in _ (by omega)]; omega⟩
end Go.Proofs.Ytkofhcjgobccoaa
