/- Laws of the walk: reads, converts, calls; nothing of numbers of known bits. -/
import Derived.Test.YtjcjmlmdcjkceaaChecked
import Derived.Test.YtjcjmlmdcjkceaaWn
import Derived.Test.YtjcjmlmdcjkceaaBase
import Derived.Laws.StructEq
import Derived.Deep.CutBlock
import Derived.Deep.DeepCutAuto
import Derived.Deep.LoopGhost
import Derived.Deep.QuietTactic
import Derived.BigQuiet
import Derived.Laws.ResultCell
namespace Go.Proofs.Ytjcjmlmdcjkceaa
open Go Go.RowKit
theorem row_ofN {P : Program} {T : TypeId} (h : (P.underlying T).map (·.isRow) = some true) : ∃ d, P.underlying T = some d ∧ d.isRow = true := by
  cases hq : P.underlying T with
  | none => rw [hq] at h; cases h
  | some d => rw [hq] at h; exact ⟨d, rfl, by simpa using h⟩
theorem und64 : Try.prog.underlying 23 = some (.int .u64) := by kernel_rfl
theorem undBool : Try.prog.underlying 4 = some .bool := by kernel_rfl
theorem run_partN (e : TypeId) (d : TypeDesc) (he : Try.prog.underlying e = some d) (hd : (match d with | .struct _ | .array _ _ => false | _ => true) = true) (f : Nat → Value) (n i : Nat) (hi : i < n) (w : World) : (part e (cellsOf f n) i).run Try.prog w = .ok (f i) w := by
  have hagg : (isAgg e).run Try.prog w = .ok false w := by
    unfold isAgg
    rw [Sem.run_bind, run_underlying he w]
    cases d <;> simp_all
  simp [part, hagg, get_cellsOf f n i hi]
theorem load_cell {P : Program} {w : World} {p : Addr} {v : Value} (ty : TypeId) {d : TypeDesc} (hu : P.underlying ty = some d) (hd : (match d with | .struct _ | .array _ _ => false | _ => true) = true) (h : w.cell? p = some v) : (Instr.loadAt ty (.pointer (some p))).run P w = .ok v w := by
  have hagg : (isAgg ty).run P w = .ok false w := by
    unfold isAgg
    rw [Sem.run_bind, run_underlying hu w]
    cases d <;> simp_all
  unfold Instr.loadAt
  simp [Instr.sureAddr, Sem.run_bind, hagg, h, loadVar]
/-- One cell is read. -/
theorem run_c1 {P : Program} {a : Act} {w : World} {o : Oper} (ty : TypeId) (x : Operand) (ho : o.op = .load ty x) (p : Addr) (hx : a.eval x = .pointer (some p)) {d : TypeDesc} (hu : P.underlying ty = some d) (hd : (match d with | .struct _ | .array _ _ => false | _ => true) = true) {v : Value} (h : w.cell? p = some v) :
    (execOp a.eval o).run P w = .ok (.value v) w := by
  unfold execOp
  simp only [ho, hx, Sem.run_bind, load_cell ty hu hd h, Result.andThen_ok, Sem.run_pure]
section
variable {P : Program} {N : Nat} {w : World}
theorem later_c1 {ops : Array Oper} {R : Act → Prop} {a : Act} {o : Oper} {rest : List Oper} (hN : Sz w N) (ty : TypeId) (x : Operand) (ho : o.op = .load ty x) {b k : Nat} (hx : a.eval x = .pointer (some ⟨b, k, none⟩)) {d : TypeDesc} (hu : P.underlying ty = some d) (hd : (match d with | .struct _ | .array _ _ => false | _ => true) = true) {v : Value} (h : w.cell? ⟨b, k, none⟩ = some v)
    (hw : Region.wanted o (yielded ops a.tmps) = true) (hq : wpQuiet P ops (fun w' => ∃ x : Later N w, w' = x.w') R rest (a.put o.dst v)) : wpQuiet P ops (fun w' => ∃ x : Later N w, w' = x.w') R (o :: rest) a :=
  later_val (fun q => run_c1 ty x ho _ hx hu hd (Later.cell hN h q)) hw hq
theorem later_row {ops : Array Oper} {R : Act → Prop} {a : Act} {o : Oper} {rest : List Oper} (hN : Sz w N) (ty : TypeId) (x : Operand) (ho : o.op = .load ty x) (b : Nat) (hx : a.eval x = .pointer (some ⟨b, 0, none⟩)) (T n : Nat) (f : Nat → Value) (h : Has w b T n f) (hu : ∃ d, P.underlying ty = some d ∧ d.isRow = true) (hi : (P.info? ty).map (·.size) = some n)
    (hw : Region.wanted o (yielded ops a.tmps) = true) (hq : wpQuiet P ops (fun w' => ∃ x : Later N w, w' = x.w') R rest (a.put o.dst (.agg (cellsOf f n)))) : wpQuiet P ops (fun w' => ∃ x : Later N w, w' = x.w') R (o :: rest) a := by
  obtain ⟨d, h1, h2⟩ := hu
  exact later_val (fun q => run_ld ty x ho b hx T n f (Later.has hN h q) d h1 h2 hi) hw hq
end
theorem keep_c {B : Nat} {w w' : World} (hb : Below B w w') (hB : Sz w B) {b k : Nat} {v : Value} (h : w.cell? ⟨b, k, none⟩ = some v) : w'.cell? ⟨b, k, none⟩ = some v := by
  rw [hb.cell (p := ⟨b, k, none⟩) (by have := World.block_lt_of_cell? w _ h; have e : w.heap.size = B := hB; simp only at this ⊢; omega)]; exact h
theorem run_fa {P : Program} {a : Act} {w : World} {o : Oper} (T : TypeId) (x : Operand) (k off : Nat) (ho : o.op = .fieldAddr T x k) {b : Nat} (hx : a.eval x = .pointer (some ⟨b, 0, none⟩))
    (hf : ∀ b w, (Instr.fieldAt T (.pointer (some ⟨b, 0, none⟩)) k).run P w = .ok (.pointer (some ⟨b, off, none⟩)) w) : (execOp a.eval o).run P w = .ok (.value (.pointer (some ⟨b, off, none⟩))) w := by
  unfold execOp
  simp only [ho, hx, Sem.run_bind, hf, Result.andThen_ok, Sem.run_pure]
theorem run_bd {P : Program} {a : Act} {o : Oper} (t : TypeId) (parts : Array (Nat × Operand)) (ho : o.op = .build t parts) (cells : Array Value) (hb : P.built t (parts.map fun (i, x) => (i, a.eval x)).toList = some cells) (w : World) : (execOp a.eval o).run P w = .ok (.value (.agg cells)) w := by
  unfold execOp
  have h := run_build (P := P) w t (parts.map fun (i, x) => (i, a.eval x)) cells hb
  simp only [ho, Sem.run_bind, Sem.run_pure]
  rw [h]; rfl
theorem BinRun.is {P : Program} {op : BinOp} {T : TypeId} {u v : Value} {x r : Bool} (h : x = r) (hb : BinRun P op T u v (.bool x)) : BinRun P op T u v (.bool r) := h ▸ hb
section
variable {P : Program} {ops : Array Oper} {rest : List Oper} {o : Oper} {a : Act} {w : World} {R : Exit → Act → World → Prop}
end
theorem undInt : Try.prog.underlying 3 = some (.int .i64) := by kernel_rfl
/-- What is left, by a count. -/
def rm (z : Int) (m : Nat) : Nat := (BitVec.ofInt 64 z).toNat % m
theorem rm_lt (z : Int) (m : Nat) (h : 0 < m) : rm z m < m := Nat.mod_lt _ h
theorem run_conv {P : Program} {a : Act} {o : Oper} {src dst : TypeId} {x : Operand} (ho : o.op = .convert src dst x) {k k2 k3 : IntKind} {z : Int} (hs : P.underlying src = some (.int k)) (hd : P.underlying dst = some (.int k3)) (hx : a.eval x = .int k2 z) (w : World) : (execOp a.eval o).run P w = .ok (.value (.int k3 (k3.wrap z))) w := by
  unfold execOp
  simp only [ho, hx]
  simp [convert, Sem.run_bind, run_underlying hs, run_underlying hd, Conv.intToInt]
theorem run_iu {P : Program} {a : Act} {o : Oper} {src dst : TypeId} {x : Operand} (ho : o.op = .convert src dst x) {k : IntKind} {z : Int} (hs : P.underlying src = some (.int k)) (hd : P.underlying dst = some (.int .u64)) (hx : a.eval x = .int .i64 z) (w : World) : (execOp a.eval o).run P w = .ok (.value (Q (BitVec.ofInt 64 z))) w := by
  rw [run_conv ho hs hd hx w, wrap_u]; rfl
theorem run_us {P : Program} {a : Act} {o : Oper} {src dst : TypeId} {x : Operand} (ho : o.op = .convert src dst x) {k : IntKind} {p : W} (hs : P.underlying src = some (.int k)) (hd : P.underlying dst = some (.int .i64)) (hx : a.eval x = Q p) (w : World) : (execOp a.eval o).run P w = .ok (.value (S p)) w := by
  rw [run_conv ho hs hd hx w, wrap_s, ofInt_qn]; rfl
theorem run_rm {P : Program} {a : Act} {o : Oper} {src dst : TypeId} {x : Operand} (ho : o.op = .convert src dst x) {k : IntKind} {z : Int} {m : Nat} (hs : P.underlying src = some (.int k)) (hd : P.underlying dst = some (.int .i64)) (hm : 0 < m ∧ m < 1000000) (hx : a.eval x = Q (BitVec.ofInt 64 z % BitVec.ofNat 64 m)) (w : World) : (execOp a.eval o).run P w = .ok (.value (.int .i64 (rm z m : Int))) w := by
  rw [run_conv ho hs hd hx w]
  have e : IntKind.i64.wrap (qn (BitVec.ofInt 64 z % BitVec.ofNat 64 m)) = (rm z m : Int) := by
    have hlt : rm z m < m := rm_lt z m hm.1
    have e1 : qn (BitVec.ofInt 64 z % BitVec.ofNat 64 m) = (rm z m : Int) := by
      unfold qn rm
      rw [BitVec.toNat_umod, BitVec.toNat_ofNat, Nat.mod_eq_of_lt (show m < 2 ^ 64 by omega)]
    rw [wrap_s, ofInt_qn, sn_def, e1, if_pos (by omega)]
  rw [e]
theorem bin_rem {P : Program} (T : TypeId) (p q : W) (hq : q ≠ 0#64) : BinRun P .rem T (Q p) (Q q) (Q (p % q)) := binRun_of fun w => by
  show (Op.intDiv .rem .u64 (qn p) (qn q)).run P w = _
  have h0 : ¬ qn q = 0 := fun h => hq (qn_inj (h.trans (by rfl)))
  have e : (qn p).tmod (qn q) = qn (p % q) := by
    rw [Int.tmod_eq_emod_of_nonneg (qn_lo p)]
    unfold qn; rw [BitVec.toNat_umod]; rfl
  unfold Op.intDiv Q
  rw [if_neg h0, ← e]; rfl
theorem run_eqb {P : Program} {a : Act} {w : World} {o : Oper} (T ty : TypeId) (x y : Operand) (ho : o.op = .binOp .eql T x y ty) (hT : P.underlying T = some .bool) {p q r : Bool} (hx : a.eval x = .bool p) (hy : a.eval y = .bool q) (h : (p == q) = r) : (execOp a.eval o).run P w = .ok (.value (.bool r)) w := by
  subst h
  have := run_equalIn_bool (P := P) w 9999 T p q hT
  unfold execOp
  simp only [ho, hx, hy, Sem.run_bind]
  have e : (eqGuard .eql T x y (.bool p) (.bool q)).run P w = .ok () w := by unfold eqGuard; rfl
  simp only [e, Result.andThen_ok, binOp, Sem.run_bind, Op.equal, Op.maxDepth, this, Sem.run_pure]
end Go.Proofs.Ytjcjmlmdcjkceaa
