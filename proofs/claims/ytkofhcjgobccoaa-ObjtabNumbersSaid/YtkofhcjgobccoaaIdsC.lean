/- The numbers of objects. Nothing of the program. -/
import Derived.Test.YtkofhcjgobccoaaOb0
namespace Go.Proofs.Ytkofhcjgobccoaa
open Go Go.RowKit
def idsC {α : Type} (E : Nat → En α) : Nat → Value := fun j => .int .i64 (E j).id
end Go.Proofs.Ytkofhcjgobccoaa
