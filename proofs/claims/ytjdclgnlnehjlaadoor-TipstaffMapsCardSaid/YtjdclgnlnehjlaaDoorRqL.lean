/- Laws of single operations: comparisons, small numbers, texts, cells. Nothing of the program. -/
import Derived.Test.YtjdclgnlnehjlaaDoorOw2
import Derived.Lib.ConvBytes
import Derived.Lib.Bytealg
namespace Go.Proofs.YtjdclgnlnehjlaaDoor
open Go Go.RowKit
section
variable {P : Program} {a : Act} {o : Oper} {T ty : TypeId} {x y z : Operand} {k : IntKind} {p q : Int} {r : Bool}
theorem run_geqK (ho : o.op = .binOp .geq T x y ty) (hx : a.eval x = .int k p) (hy : a.eval y = .int k q) (h : decide (q ≤ p) = r) (w : World) : (execOp a.eval o).run P w = .ok (.value (.bool r)) w := by
  subst h; unfold execOp; simp only [ho, hx, hy]; go_simp
theorem run_lssK (ho : o.op = .binOp .lss T x y ty) (hx : a.eval x = .int k p) (hy : a.eval y = .int k q) (h : decide (p < q) = r) (w : World) : (execOp a.eval o).run P w = .ok (.value (.bool r)) w := by
  subst h; unfold execOp; simp only [ho, hx, hy]; go_simp
theorem run_gtrK (ho : o.op = .binOp .gtr T x y ty) (hx : a.eval x = .int k p) (hy : a.eval y = .int k q) (h : decide (q < p) = r) (w : World) : (execOp a.eval o).run P w = .ok (.value (.bool r)) w := by
  subst h; unfold execOp; simp only [ho, hx, hy]; go_simp
theorem run_eqK (ho : o.op = .binOp .eql T x y ty) (hx : a.eval x = .int k p) (hy : a.eval y = .int k q) (h : (p == q) = r) (w : World) : (execOp a.eval o).run P w = .ok (.value (.bool r)) w := by
  subst h; unfold execOp; simp only [ho, hx, hy]; go_simp
theorem run_inc {i m : Nat} (ho : o.op = .binOp .add T x y ty) (hx : a.eval x = .int .i64 (i : Int)) (hy : a.eval y = .int .i64 1) (hm : m = i + 1) (hi : i < 1000000000000000) (w : World) : (execOp a.eval o).run P w = .ok (.value (.int .i64 (m : Int))) w := by
  subst hm
  have e : IntKind.i64.wrap ((i : Int) + 1) = ((i + 1 : Nat) : Int) := by rw [IntKind.wrap_i64]; omega
  have e2 : IntKind.i64.wrap ((i : Int) + 1) = (i : Int) + 1 := by rw [IntKind.wrap_i64]; omega
  unfold execOp; simp only [ho, hx, hy]; go_simp; first | done | exact e | exact e2 | (rw [e2]; rfl)
theorem run_lenL {t e : TypeId} {b : Option Addr} {n c : Nat} (ho : o.op = .call { callee := .builtin .len, args := #[x], argTypes := #[t] }) (ht : P.underlying t = some (.slice e)) (hx : a.eval x = .slice b n c) (w : World) : (execOp a.eval o).run P w = .ok (.value (.int .i64 (n : Int))) w := by
  have he : P.underlying t = some (.slice (P.elem t)) := by rw [ht]; unfold Program.elem; simp [ht]
  unfold execOp
  simp [ho, resolve, invoke, builtin, hx, run_len_slice w t o.type b n c he, Result.andThen, goInt]
theorem load_cellQ {p : Addr} {v : Value} {w : World} (ty : TypeId) {d : TypeDesc} (hu : P.underlying ty = some d) (hd : (match d with | .struct _ | .array _ _ => false | _ => true) = true) (h : w.cell? p = some v) : (Instr.loadAt ty (.pointer (some p))).run P w = .ok v w := by
  have hagg : (isAgg ty).run P w = .ok false w := by
    unfold isAgg
    rw [Sem.run_bind, run_underlying hu w]
    cases d <;> simp_all
  unfold Instr.loadAt
  simp [Instr.sureAddr, Sem.run_bind, hagg, h, loadVar]
theorem run_cell1 (t : TypeId) (ho : o.op = .load t x) {b j : Nat} (hx : a.eval x = .pointer (some ⟨b, j, none⟩)) {d : TypeDesc} (hu : P.underlying t = some d) (hd : (match d with | .struct _ | .array _ _ => false | _ => true) = true) {v : Value} {w : World} (h : w.cell? ⟨b, j, none⟩ = some v) :
    (execOp a.eval o).run P w = .ok (.value v) w := by
  have hagg : P.underlying t = some d := hu
  unfold execOp
  simp only [ho, hx, Sem.run_bind, load_cellQ t hu hd h, Result.andThen_ok, Sem.run_pure]
end
end Go.Proofs.YtjdclgnlnehjlaaDoor
