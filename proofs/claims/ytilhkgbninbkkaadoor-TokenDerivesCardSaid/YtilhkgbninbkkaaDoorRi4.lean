/- Contract of strconv.FormatUint at base 16, of numbers of 16 bits. -/
import Derived.Test.YtilhkgbninbkkaaDoorRi3
import Derived.Test.YtilhkgbninbkkaaDoorAts
namespace Go.Proofs.YtilhkgbninbkkaaDoor
open Go Go.RowKit
section
variable {ops : Array Oper} {rest : List Oper} {o : Oper} {a : Act} {w : World} {Q : Exit → Act → World → Prop}
end
end Go.Proofs.YtilhkgbninbkkaaDoor
