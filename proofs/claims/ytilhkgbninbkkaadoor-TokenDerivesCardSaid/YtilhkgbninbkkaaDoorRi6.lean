/- Laws of rights: whole; RightsBits. -/
import Derived.Test.YtilhkgbninbkkaaDoorRi5
namespace Go.Proofs.YtilhkgbninbkkaaDoor
open Go Go.RowKit
end Go.Proofs.YtilhkgbninbkkaaDoor
