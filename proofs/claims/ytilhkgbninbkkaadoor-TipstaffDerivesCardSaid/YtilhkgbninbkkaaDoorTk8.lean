/- TokenInside: the walk. -/
import Derived.Test.YtilhkgbninbkkaaDoorMgAts2
namespace Go.Proofs.YtilhkgbninbkkaaDoor
open Go Go.RowKit
end Go.Proofs.YtilhkgbninbkkaaDoor
