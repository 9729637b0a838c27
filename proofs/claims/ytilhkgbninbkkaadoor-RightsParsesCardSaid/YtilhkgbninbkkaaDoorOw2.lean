/- A new slice of n noughts; a new block of one cell as what is appended; an operation by what it runs to. Nothing of the program. -/
import Derived.Test.YtilhkgbninbkkaaDoorOw
import Derived.Laws.MakeOwn
namespace Go.Proofs.YtilhkgbninbkkaaDoor
open Go Go.RowKit
section
variable {P : Program} {ops : Array Oper} {rest : List Oper} {o : Oper} {a : Act} {w : World} {Q : Exit → Act → World → Prop}
end
end Go.Proofs.YtilhkgbninbkkaaDoor
