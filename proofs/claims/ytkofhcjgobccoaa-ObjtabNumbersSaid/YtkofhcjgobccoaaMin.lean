/- The builtin min of two numbers, by its outcome. Nothing of the program. -/
import Derived.Test.YtkofhcjgobccoaaInns
import Derived.Laws.Small
namespace Go.Proofs.Ytkofhcjgobccoaa
open Go Go.RowKit
variable {P : Program} {ops : Array Oper} {rest : List Oper} {o : Oper} {a : Act} {w : World} {Q : Exit → Act → World → Prop}
end Go.Proofs.Ytkofhcjgobccoaa
