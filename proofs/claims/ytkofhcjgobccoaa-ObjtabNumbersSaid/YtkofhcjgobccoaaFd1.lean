/- Contracts of fdtab: New, Open, Get, Close. -/
import Derived.Test.YtkofhcjgobccoaaChecked
import Derived.Test.YtkofhcjgobccoaaOw2
import Derived.Test.YtkofhcjgobccoaaInns
namespace Go.Proofs.Ytkofhcjgobccoaa
open Go Go.RowKit
theorem undInts : Try.prog.underlying 23 = some (.slice 3) := by kernel_rfl
theorem zerInt : (Try.prog.info? 3).map (fun i => (i.zero, i.size, i.bytes)) = some (some (.int .i64 0), 1, 8) := by kernel_rfl
theorem oneInt : OneCell Try.prog 3 := oneCell_of zerInt (by omega) rfl
section
variable {w w' : World} {b c n : Nat} {f : Nat → Int}
end
end Go.Proofs.Ytkofhcjgobccoaa
