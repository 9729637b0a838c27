/- The known text's sum. -/
import Derived.Test.YtjbmeedfipggdaaDoorDig5
import Derived.Lib.SlBytesConst
namespace Go.Proofs.YtjbmeedfipggdaaDoor
open Go Go.RowKit Sha
def abcD : Nat → BitVec 8 := fun j => BitVec.ofNat 8 ([97, 98, 99].getD j 0)
def abcS : ByteArray := ⟨#[98, 97, 55, 56, 49, 54, 98, 102, 56, 102, 48, 49, 99, 102, 101, 97, 52, 49, 52, 49, 52, 48, 100, 101, 53, 100, 97, 101, 50, 50, 50, 51, 98, 48, 48, 51, 54, 49, 97, 51, 57, 54, 49, 55, 55, 97, 57, 99, 98, 52, 49, 48, 102, 102, 54, 49, 102, 50, 48, 48, 49, 53, 97, 100]⟩
theorem hex_abc : hexS (shaD abcD 3) = abcS := by decide +kernel
theorem cells_three (w : World) (a b c : Value) (t : TypeId) (fr : Nat × Nat) (j : Nat) (hj : j < 3) : (w.alloc (.cells #[a, b, c] t fr)).cell? ⟨w.heap.size, j, none⟩ = some (if j = 0 then a else if j = 1 then b else c) := by
  rw [cell_of_row _ _ _ _ _ _ (heap_alloc_new w _)]
  rcases (show j = 0 ∨ j = 1 ∨ j = 2 by omega) with rfl | rfl | rfl <;> rfl
end Go.Proofs.YtjbmeedfipggdaaDoor
