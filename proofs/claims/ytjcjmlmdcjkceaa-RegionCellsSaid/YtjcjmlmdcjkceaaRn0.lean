/- RegionNumbers: of numbers and their bytes; small calls. -/
import Derived.Test.YtjcjmlmdcjkceaaRm7
namespace Go.Proofs.Ytjcjmlmdcjkceaa
open Go Go.RowKit
def k4 (z : Int) : Nat := if rm z 4 = 0 then 1 else if rm z 4 = 1 then 2 else if rm z 4 = 2 then 4 else 8
theorem undI2 : Try.prog.underlying 73 = some (.slice 3) := by kernel_rfl
end Go.Proofs.Ytjcjmlmdcjkceaa
