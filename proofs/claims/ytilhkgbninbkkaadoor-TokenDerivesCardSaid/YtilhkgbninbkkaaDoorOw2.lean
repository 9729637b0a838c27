/- A new slice of n noughts; a new block of one cell as what is appended; an operation by what it runs to. Nothing of the program. -/
import Derived.Test.YtilhkgbninbkkaaDoorOw
import Derived.Laws.MakeOwn
namespace Go.Proofs.YtilhkgbninbkkaaDoor
open Go Go.RowKit
section
variable {P : Program} {ops : Array Oper} {rest : List Oper} {o : Oper} {a : Act} {w : World} {Q : Exit → Act → World → Prop}
end
/-- What a load of one cell runs to. -/
theorem ld_one {P : Program} {a : Act} {w : World} {o : Oper} (ty : TypeId) (x : Operand) (ho : o.op = .load ty x) (p : Addr) (hx : a.eval x = .pointer (some p)) (v : Value) (hrun : (Instr.loadAt ty (.pointer (some p))).run P w = .ok v w) : (execOp a.eval o).run P w = .ok (.value v) w := by
  unfold execOp
  simp only [ho, hx, Sem.run_bind, hrun, Result.andThen_ok, Sem.run_pure]
theorem cells_new_one (w : World) (v : Value) (E : TypeId) (N : Nat) (hN : Sz w N) : Cells (w.alloc (.cells #[v] E)) (some ⟨N, 0, none⟩) 1 (fun _ => v) := fun _ => ⟨_, rfl, fun j hj => by
  have e : w.heap.size = N := hN
  obtain rfl : j = 0 := by omega
  subst e
  rw [Addr.add_mid]
  rw [cell_of_row _ w.heap.size 0 #[v] E (0, 0) (heap_alloc_new w _)]
  rfl⟩
end Go.Proofs.YtilhkgbninbkkaaDoor
