/- RightsTexts: its walk. -/
import Derived.Test.YtilhkgbninbkkaaDoorRx2
import Derived.Test.YtilhkgbninbkkaaDoorRi8
namespace Go.Proofs.YtilhkgbninbkkaaDoor
open Go Go.RowKit
end Go.Proofs.YtilhkgbninbkkaaDoor
