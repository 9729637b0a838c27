/- The numbers of objects. Nothing of the program. -/
import Derived.Test.YtjbmeedfipggdaaDoorOb0
namespace Go.Proofs.YtjbmeedfipggdaaDoor
open Go Go.RowKit
def idsC {α : Type} (E : Nat → En α) : Nat → Value := fun j => .int .i64 (E j).id
end Go.Proofs.YtjbmeedfipggdaaDoor
