/- Cells from some place on, by a function; numbers that are rests of 64 bits. Nothing of the program. -/
import Derived.Test.YtilhkgbninbkkaaDoorOw
import Derived.Test.YtilhkgbninbkkaaDoorOw2
namespace Go.Proofs.YtilhkgbninbkkaaDoor
open Go Go.RowKit
theorem u64_pos (n : Int) : 0 ≤ IntKind.u64.wrap n := by
  rw [IntKind.wrap_u64]
  exact Int.emod_nonneg _ (by omega)
/-- The rest of a number as one of 64 bits without sign. -/
theorem rest (n : Int) (m : Nat) (h0 : 0 < m) (hm : m ≤ 10000) : ∃ x : Nat, x < m ∧ wrap64 ((IntKind.u64.wrap n).tmod (m : Int)) = (x : Int) := by
  have h := u64_pos n
  generalize IntKind.u64.wrap n = u at h
  rw [Int.tmod_eq_emod_of_nonneg h]
  have h1 := Int.emod_nonneg u (b := (m : Int)) (by omega)
  have h2 := Int.emod_lt_of_pos u (b := (m : Int)) (by omega)
  exact ⟨(u % (m : Int)).toNat, by omega, by rw [IntWalk.wrap64_in _ (by omega)]; omega⟩
end Go.Proofs.YtilhkgbninbkkaaDoor
