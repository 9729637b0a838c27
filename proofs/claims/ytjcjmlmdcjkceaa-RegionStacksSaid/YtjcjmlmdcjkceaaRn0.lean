/- RegionNumbers: of numbers and their bytes; small calls. -/
import Derived.Test.YtjcjmlmdcjkceaaRm7
namespace Go.Proofs.Ytjcjmlmdcjkceaa
open Go Go.RowKit
theorem bit_255 (y : W) (i : Nat) : (y &&& 255#64).getLsbD i = (y.getLsbD i && decide (i < 8)) := by
  rw [BitVec.getLsbD_and]
  congr 1
  by_cases h : i < 64
  · have : ∀ j : Fin 64, (255#64).getLsbD j.val = decide (j.val < 8) := by decide +kernel
    exact this ⟨i, h⟩
  · rw [BitVec.getLsbD_of_ge _ _ (by omega), decide_eq_false (by omega)]
def k4 (z : Int) : Nat := if rm z 4 = 0 then 1 else if rm z 4 = 1 then 2 else if rm z 4 = 2 then 4 else 8
theorem undI2 : Try.prog.underlying 73 = some (.slice 3) := by kernel_rfl
end Go.Proofs.Ytjcjmlmdcjkceaa
