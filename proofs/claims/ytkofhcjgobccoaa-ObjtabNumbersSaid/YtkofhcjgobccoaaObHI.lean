/- Held of objtab at int. -/
import Derived.Test.YtkofhcjgobccoaaObTI
namespace Go.Proofs.Ytkofhcjgobccoaa
open Go Go.RowKit
section
variable {w0 w : World} {N b n : Nat} {size last : Int} {E F : Nat → En Int}
end
end Go.Proofs.Ytkofhcjgobccoaa
