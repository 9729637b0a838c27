/- Contracts of the document's own tree (layer 10): New, Has, Path, Inside, DocMake. -/
import Derived.Test.YtilhkgbninbkkaaDoorSp3
namespace Go.Proofs.YtilhkgbninbkkaaDoor
open Go Go.RowKit
section
variable {w w' : World} {b c cap : Nat} {p : Option Addr} {f : Nat → Nat}
end
end Go.Proofs.YtilhkgbninbkkaaDoor
