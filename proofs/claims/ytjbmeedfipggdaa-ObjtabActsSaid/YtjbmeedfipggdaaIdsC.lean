/- The numbers of objects. Nothing of the program. -/
import Derived.Test.YtjbmeedfipggdaaOb0
namespace Go.Proofs.Ytjbmeedfipggdaa
open Go Go.RowKit
def idsC {α : Type} (E : Nat → En α) : Nat → Value := fun j => .int .i64 (E j).id
end Go.Proofs.Ytjbmeedfipggdaa
