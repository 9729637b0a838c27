/- Contracts of the document's own tree (layer 10): DocMake; of space: Up, Len, and all calls of no tree. -/
import Derived.Test.YtilhkgbninbkkaaDoorSp4
namespace Go.Proofs.YtilhkgbninbkkaaDoor
open Go Go.RowKit
end Go.Proofs.YtilhkgbninbkkaaDoor
