/- A region that draws, some operations of which may come late. Nothing of the program. -/
import Derived.Test.YtjcjmlmdcjkceaaBase
import Derived.OrdersHeld
namespace Go.Proofs.Ytjcjmlmdcjkceaa
open Go Go.RowKit
section
variable {P : Program} {md : Region.Mode} {ops : Array Oper} {Q : Exit → Act → World → Prop}
end
end Go.Proofs.Ytjcjmlmdcjkceaa
