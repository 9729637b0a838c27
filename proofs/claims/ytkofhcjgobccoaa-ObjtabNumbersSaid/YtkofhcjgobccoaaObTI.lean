/- A table of objects at int, all whose blocks are new: the calls on it. -/
import Derived.Test.YtkofhcjgobccoaaObDI
namespace Go.Proofs.Ytkofhcjgobccoaa
open Go Go.RowKit
section
variable {w0 w : World} {N b n : Nat} {size last : Int} {E F : Nat → En Int}
end
end Go.Proofs.Ytkofhcjgobccoaa
