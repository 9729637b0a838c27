/- A slice of the call's own, by a function of the place; append to it. Nothing of the program. A slice of the call's own whose elements have s cells each, by a function of the cell's place; append to it; cells read from anywhere. Nothing of the program. -/
import Derived.Test.YtilhkgbninbkkaaDoorBase
namespace Go.Proofs.YtilhkgbninbkkaaDoor
open Go Go.RowKit
def blk (p : Option Addr) : Option Nat := p.map (·.block)
/-- What is to be appended: m cells from some place on. -/
def Cells (w : World) (q : Option Addr) (m : Nat) (g : Nat → Value) : Prop := 0 < m → ∃ ad : Addr, q = some ad ∧ ∀ j, j < m → w.cell? (ad.add j) = some (g j)
theorem Has.cells {w : World} {b : Nat} {T : TypeId} {n : Nat} {f : Nat → Value} (h : Has w b T n f) : Cells w (some ⟨b, 0, none⟩) n f := fun _ => ⟨_, rfl, fun j hj => by rw [Addr.add_mid, Nat.zero_add]; exact h.cell hj⟩
section
variable {P : Program}
variable {ops : Array Oper} {rest : List Oper} {o : Oper} {a : Act} {w : World} {Q : Exit → Act → World → Prop}
end
end Go.Proofs.YtilhkgbninbkkaaDoor
namespace Go.Proofs.YtilhkgbninbkkaaDoor
open Go Go.RowKit
section
variable {w w' : World} {E s : Nat} {p : Option Addr} {n cap : Nat} {f : Nat → Value}
end
section
variable {P : Program}
variable {ops : Array Oper} {rest : List Oper} {o : Oper} {a : Act} {w : World} {Q : Exit → Act → World → Prop}
end
end Go.Proofs.YtilhkgbninbkkaaDoor
