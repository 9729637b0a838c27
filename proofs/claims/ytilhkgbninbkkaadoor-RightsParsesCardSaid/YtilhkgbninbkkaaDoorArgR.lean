/- Arguments opened: rights, numbers of 32 bits. -/
import Derived.Test.YtilhkgbninbkkaaDoorLiftR
import Derived.Lib.SmallJoins
namespace Go.Proofs.YtilhkgbninbkkaaDoor
open Go Go.ChangeShapes Go.WideShapes Go.ChangeAt Go.WideMaps Go.WideElems Go.RowKit
section
variable {H : Type} {enc : TypeId × Value → H} {w : World} {base : Nat} {sp : Nat → Bool} {held : Bool}
end
end Go.Proofs.YtilhkgbninbkkaaDoor
