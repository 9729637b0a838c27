/- Tokens: Command, Program, Map; may of the law. Tokens: what there is of no tree and of no token. -/
import Derived.Test.YtilhkgbninbkkaaDoorMgTk13
namespace Go.Proofs.YtilhkgbninbkkaaDoor
open Go Go.RowKit
end Go.Proofs.YtilhkgbninbkkaaDoor
namespace Go.Proofs.YtilhkgbninbkkaaDoor
open Go Go.RowKit
end Go.Proofs.YtilhkgbninbkkaaDoor
