/- RegionStacks: calls on no memory; sizes, values, places. -/
import Derived.Test.YtjcjmlmdcjkceaaRk0
namespace Go.Proofs.Ytjcjmlmdcjkceaa
open Go Go.RowKit
end Go.Proofs.Ytjcjmlmdcjkceaa
