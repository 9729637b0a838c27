/- Laws of the walk: reads, converts, calls; nothing of numbers of known bits. -/
import Derived.Test.YtkofhcjgobccoaaChecked
import Derived.Test.YtkofhcjgobccoaaWn
import Derived.Test.YtkofhcjgobccoaaBase
import Derived.Laws.StructEq
import Derived.Deep.CutBlock
import Derived.Deep.DeepCutAuto
import Derived.Deep.LoopGhost
import Derived.Deep.QuietTactic
import Derived.BigQuiet
import Derived.Laws.ResultCell
namespace Go.Proofs.Ytkofhcjgobccoaa
open Go Go.RowKit
theorem und64 : Try.prog.underlying 31 = some (.int .u64) := by kernel_rfl
theorem load_cell {P : Program} {w : World} {p : Addr} {v : Value} (ty : TypeId) {d : TypeDesc} (hu : P.underlying ty = some d) (hd : (match d with | .struct _ | .array _ _ => false | _ => true) = true) (h : w.cell? p = some v) : (Instr.loadAt ty (.pointer (some p))).run P w = .ok v w := by
  have hagg : (isAgg ty).run P w = .ok false w := by
    unfold isAgg
    rw [Sem.run_bind, run_underlying hu w]
    cases d <;> simp_all
  unfold Instr.loadAt
  simp [Instr.sureAddr, Sem.run_bind, hagg, h, loadVar]
/-- One cell is read. -/
theorem run_c1 {P : Program} {a : Act} {w : World} {o : Oper} (ty : TypeId) (x : Operand) (ho : o.op = .load ty x) (p : Addr) (hx : a.eval x = .pointer (some p)) {d : TypeDesc} (hu : P.underlying ty = some d) (hd : (match d with | .struct _ | .array _ _ => false | _ => true) = true) {v : Value} (h : w.cell? p = some v) :
    (execOp a.eval o).run P w = .ok (.value v) w := by
  unfold execOp
  simp only [ho, hx, Sem.run_bind, load_cell ty hu hd h, Result.andThen_ok, Sem.run_pure]
section
variable {P : Program} {N : Nat} {w : World}
end
theorem BinRun.is {P : Program} {op : BinOp} {T : TypeId} {u v : Value} {x r : Bool} (h : x = r) (hb : BinRun P op T u v (.bool x)) : BinRun P op T u v (.bool r) := h ▸ hb
section
variable {P : Program} {ops : Array Oper} {rest : List Oper} {o : Oper} {a : Act} {w : World} {R : Exit → Act → World → Prop}
end
theorem undInt : Try.prog.underlying 3 = some (.int .i64) := by kernel_rfl
/-- What is left, by a count. -/
def rm (z : Int) (m : Nat) : Nat := (BitVec.ofInt 64 z).toNat % m
theorem rm_lt (z : Int) (m : Nat) (h : 0 < m) : rm z m < m := Nat.mod_lt _ h
theorem run_conv {P : Program} {a : Act} {o : Oper} {src dst : TypeId} {x : Operand} (ho : o.op = .convert src dst x) {k k2 k3 : IntKind} {z : Int} (hs : P.underlying src = some (.int k)) (hd : P.underlying dst = some (.int k3)) (hx : a.eval x = .int k2 z) (w : World) : (execOp a.eval o).run P w = .ok (.value (.int k3 (k3.wrap z))) w := by
  unfold execOp
  simp only [ho, hx]
  simp [convert, Sem.run_bind, run_underlying hs, run_underlying hd, Conv.intToInt]
theorem run_iu {P : Program} {a : Act} {o : Oper} {src dst : TypeId} {x : Operand} (ho : o.op = .convert src dst x) {k : IntKind} {z : Int} (hs : P.underlying src = some (.int k)) (hd : P.underlying dst = some (.int .u64)) (hx : a.eval x = .int .i64 z) (w : World) : (execOp a.eval o).run P w = .ok (.value (Q (BitVec.ofInt 64 z))) w := by
  rw [run_conv ho hs hd hx w, wrap_u]; rfl
theorem run_rm {P : Program} {a : Act} {o : Oper} {src dst : TypeId} {x : Operand} (ho : o.op = .convert src dst x) {k : IntKind} {z : Int} {m : Nat} (hs : P.underlying src = some (.int k)) (hd : P.underlying dst = some (.int .i64)) (hm : 0 < m ∧ m < 1000000) (hx : a.eval x = Q (BitVec.ofInt 64 z % BitVec.ofNat 64 m)) (w : World) : (execOp a.eval o).run P w = .ok (.value (.int .i64 (rm z m : Int))) w := by
  rw [run_conv ho hs hd hx w]
  have e : IntKind.i64.wrap (qn (BitVec.ofInt 64 z % BitVec.ofNat 64 m)) = (rm z m : Int) := by
    have hlt : rm z m < m := rm_lt z m hm.1
    have e1 : qn (BitVec.ofInt 64 z % BitVec.ofNat 64 m) = (rm z m : Int) := by
      unfold qn rm
      rw [BitVec.toNat_umod, BitVec.toNat_ofNat, Nat.mod_eq_of_lt (show m < 2 ^ 64 by omega)]
    rw [wrap_s, ofInt_qn, sn_def, e1, if_pos (by omega)]
  rw [e]
theorem bin_rem {P : Program} (T : TypeId) (p q : W) (hq : q ≠ 0#64) : BinRun P .rem T (Q p) (Q q) (Q (p % q)) := binRun_of fun w => by
  show (Op.intDiv .rem .u64 (qn p) (qn q)).run P w = _
  have h0 : ¬ qn q = 0 := fun h => hq (qn_inj (h.trans (by rfl)))
  have e : (qn p).tmod (qn q) = qn (p % q) := by
    rw [Int.tmod_eq_emod_of_nonneg (qn_lo p)]
    unfold qn; rw [BitVec.toNat_umod]; rfl
  unfold Op.intDiv Q
  rw [if_neg h0, ← e]; rfl
end Go.Proofs.Ytkofhcjgobccoaa
