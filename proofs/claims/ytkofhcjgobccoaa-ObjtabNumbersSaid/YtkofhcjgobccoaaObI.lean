/- Contracts of objtab at int: the words, place, New, Get, Held, Hold, Make. -/
import Derived.Test.YtkofhcjgobccoaaChecked
import Derived.Test.YtkofhcjgobccoaaObW
namespace Go.Proofs.Ytkofhcjgobccoaa
open Go Go.RowKit
section
variable {w w' : World} {b n cap : Nat} {size last : Int} {p : Option Addr} {E F : Nat → En Int}
end
end Go.Proofs.Ytkofhcjgobccoaa
