/- Contracts of fdtab: New, Open, Get, Close. -/
import Derived.Test.YtjdclgnlnehjlaaDoorChecked
import Derived.Test.YtjdclgnlnehjlaaDoorMgOb0
import Derived.Test.YtjdclgnlnehjlaaDoorInns
namespace Go.Proofs.YtjdclgnlnehjlaaDoor
open Go Go.RowKit
section
variable {w w' : World} {b c n : Nat} {f : Nat → Int}
end
end Go.Proofs.YtjdclgnlnehjlaaDoor
