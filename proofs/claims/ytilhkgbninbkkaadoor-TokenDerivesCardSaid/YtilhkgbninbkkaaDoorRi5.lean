/- Contract of rights.Text. -/
import Derived.Test.YtilhkgbninbkkaaDoorRi4
import Derived.Laws.Concat
namespace Go.Proofs.YtilhkgbninbkkaaDoor
open Go Go.RowKit
end Go.Proofs.YtilhkgbninbkkaaDoor
