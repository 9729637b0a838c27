/- Contracts of objtab at int: slices.Delete, Drop. -/
import Derived.Test.YtkofhcjgobccoaaObI
import Derived.Test.YtkofhcjgobccoaaQTail
namespace Go.Proofs.Ytkofhcjgobccoaa
open Go Go.RowKit
end Go.Proofs.Ytkofhcjgobccoaa
