/- Contracts of fdtab: Used, Free; opens of the law. -/
import Derived.Test.YtkofhcjgobccoaaFd1
namespace Go.Proofs.Ytkofhcjgobccoaa
open Go Go.RowKit
end Go.Proofs.Ytkofhcjgobccoaa
