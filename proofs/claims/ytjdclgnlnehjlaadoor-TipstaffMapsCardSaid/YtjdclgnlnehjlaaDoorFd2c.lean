/- Contracts of fdtab: Used, Free; opens of the law. -/
import Derived.Test.YtjdclgnlnehjlaaDoorFd1c
namespace Go.Proofs.YtjdclgnlnehjlaaDoor
open Go Go.RowKit
end Go.Proofs.YtjdclgnlnehjlaaDoor
