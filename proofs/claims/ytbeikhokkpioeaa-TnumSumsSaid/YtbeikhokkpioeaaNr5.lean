/- Cells of a row of two signs by a place that varies. -/
import Derived.Test.YtbeikhokkpioeaaNr3
namespace Go.Proofs.Ytbeikhokkpioeaa
open Go Go.RowKit
def sel (p : Bool × Bool) (j : Nat) : Bool := if j = 0 then p.1 else p.2
theorem bC_sel (p : Bool × Bool) (j : Nat) : bC p j = .bool (sel p j) := by unfold bC sel; split <;> rfl
theorem cell_sel {w : World} {b T : Nat} {p : Bool × Bool} (h : Has w b T 2 (bC p)) {j : Nat} (hj : j < 2) : w.cell? ⟨b, j, none⟩ = some (.bool (sel p j)) := by rw [← bC_sel]; exact h.cell hj
theorem run_iaN {P : Program} {a : Act} {w : World} {o : Oper} {T e n k : Nat} {x y : Operand} (ho : o.op = .indexAddr T x y) {b : Nat} (hx : a.eval x = .pointer (some ⟨b, 0, none⟩)) (hy : a.eval y = .int .i64 (k : Int))
    (hu : P.underlying T = some (.array n e)) (hs : (P.info? e).map (·.size) = some 1) (hk : k < n) : (execOp a.eval o).run P w = .ok (.value (.pointer (some ⟨b, k, none⟩))) w := by
  cases hq : P.info? e with
  | none => simp [hq] at hs
  | some i =>
    have hi : i.size = 1 := by simpa [hq] using hs
    have h0 : ¬ ((k : Int) < 0) := by omega
    have h1 : ¬ (n ≤ k) := by omega
    unfold execOp
    simp only [ho, hx, hy]
    simp [Instr.indexAt, Instr.sureAddr, asIntOf, Sem.run_bind, run_underlying hu, sizeOf, typeInfo, hq, hi, Addr.add, h1, hk]
    intro hk0; omega
theorem undAB : Try.prog.underlying 58 = some (.array 2 4) := by kernel_rfl
end Go.Proofs.Ytbeikhokkpioeaa
