/- Laws of the walk: reads, converts, calls; nothing of numbers of known bits. -/
import Derived.Test.YtjcjmlmdcjkceaaChecked
import Derived.Test.YtjcjmlmdcjkceaaWn
import Derived.Test.YtjcjmlmdcjkceaaBase
import Derived.Laws.StructEq
import Derived.Deep.CutBlock
import Derived.Deep.DeepCutAuto
import Derived.Deep.LoopGhost
import Derived.Deep.QuietTactic
import Derived.BigQuiet
import Derived.Laws.ResultCell
namespace Go.Proofs.Ytjcjmlmdcjkceaa
open Go Go.RowKit
theorem row_ofN {P : Program} {T : TypeId} (h : (P.underlying T).map (·.isRow) = some true) : ∃ d, P.underlying T = some d ∧ d.isRow = true := by
  cases hq : P.underlying T with
  | none => rw [hq] at h; cases h
  | some d => rw [hq] at h; exact ⟨d, rfl, by simpa using h⟩
theorem sz64 : (Try.prog.info? 23).map (·.size) = some 1 := by kernel_rfl
theorem und64 : Try.prog.underlying 23 = some (.int .u64) := by kernel_rfl
theorem undBool : Try.prog.underlying 4 = some .bool := by kernel_rfl
theorem run_partN (e : TypeId) (d : TypeDesc) (he : Try.prog.underlying e = some d) (hd : (match d with | .struct _ | .array _ _ => false | _ => true) = true) (f : Nat → Value) (n i : Nat) (hi : i < n) (w : World) : (part e (cellsOf f n) i).run Try.prog w = .ok (f i) w := by
  have hagg : (isAgg e).run Try.prog w = .ok false w := by
    unfold isAgg
    rw [Sem.run_bind, run_underlying he w]
    cases d <;> simp_all
  simp [part, hagg, get_cellsOf f n i hi]
theorem load_cell {P : Program} {w : World} {p : Addr} {v : Value} (ty : TypeId) {d : TypeDesc} (hu : P.underlying ty = some d) (hd : (match d with | .struct _ | .array _ _ => false | _ => true) = true) (h : w.cell? p = some v) : (Instr.loadAt ty (.pointer (some p))).run P w = .ok v w := by
  have hagg : (isAgg ty).run P w = .ok false w := by
    unfold isAgg
    rw [Sem.run_bind, run_underlying hu w]
    cases d <;> simp_all
  unfold Instr.loadAt
  simp [Instr.sureAddr, Sem.run_bind, hagg, h, loadVar]
/-- One cell is read. -/
theorem run_c1 {P : Program} {a : Act} {w : World} {o : Oper} (ty : TypeId) (x : Operand) (ho : o.op = .load ty x) (p : Addr) (hx : a.eval x = .pointer (some p)) {d : TypeDesc} (hu : P.underlying ty = some d) (hd : (match d with | .struct _ | .array _ _ => false | _ => true) = true) {v : Value} (h : w.cell? p = some v) :
    (execOp a.eval o).run P w = .ok (.value v) w := by
  unfold execOp
  simp only [ho, hx, Sem.run_bind, load_cell ty hu hd h, Result.andThen_ok, Sem.run_pure]
section
variable {P : Program} {N : Nat} {w : World}
theorem later_c1 {ops : Array Oper} {R : Act → Prop} {a : Act} {o : Oper} {rest : List Oper} (hN : Sz w N) (ty : TypeId) (x : Operand) (ho : o.op = .load ty x) {b k : Nat} (hx : a.eval x = .pointer (some ⟨b, k, none⟩)) {d : TypeDesc} (hu : P.underlying ty = some d) (hd : (match d with | .struct _ | .array _ _ => false | _ => true) = true) {v : Value} (h : w.cell? ⟨b, k, none⟩ = some v)
    (hw : Region.wanted o (yielded ops a.tmps) = true) (hq : wpQuiet P ops (fun w' => ∃ x : Later N w, w' = x.w') R rest (a.put o.dst v)) : wpQuiet P ops (fun w' => ∃ x : Later N w, w' = x.w') R (o :: rest) a :=
  later_val (fun q => run_c1 ty x ho _ hx hu hd (Later.cell hN h q)) hw hq
theorem later_row {ops : Array Oper} {R : Act → Prop} {a : Act} {o : Oper} {rest : List Oper} (hN : Sz w N) (ty : TypeId) (x : Operand) (ho : o.op = .load ty x) (b : Nat) (hx : a.eval x = .pointer (some ⟨b, 0, none⟩)) (T n : Nat) (f : Nat → Value) (h : Has w b T n f) (hu : ∃ d, P.underlying ty = some d ∧ d.isRow = true) (hi : (P.info? ty).map (·.size) = some n)
    (hw : Region.wanted o (yielded ops a.tmps) = true) (hq : wpQuiet P ops (fun w' => ∃ x : Later N w, w' = x.w') R rest (a.put o.dst (.agg (cellsOf f n)))) : wpQuiet P ops (fun w' => ∃ x : Later N w, w' = x.w') R (o :: rest) a := by
  obtain ⟨d, h1, h2⟩ := hu
  exact later_val (fun q => run_ld ty x ho b hx T n f (Later.has hN h q) d h1 h2 hi) hw hq
theorem later_b {ops : Array Oper} {R : Act → Prop} {a : Act} {o : Oper} {rest : List Oper} {op : BinOp} {T ty : TypeId} {x y : Operand} (ho : o.op = .binOp op T x y ty) {u v r : Value} (hb : BinRun P op T u v r) (hx : a.eval x = u) (hy : a.eval y = v)
    (hw : Region.wanted o (yielded ops a.tmps) = true) (hq : wpQuiet P ops (fun w' => ∃ x : Later N w, w' = x.w') R rest (a.put o.dst r)) : wpQuiet P ops (fun w' => ∃ x : Later N w, w' = x.w') R (o :: rest) a :=
  later_val (fun q => hb _ o x y ty q.w' ho hx hy) hw hq
end
theorem run_mv {P : Program} {a : Act} {o : Oper} {x : Operand} (ho : o.op = .move x) (w : World) {v : Value} (hx : a.eval x = v) : (execOp a.eval o).run P w = .ok (.value v) w := by
  unfold execOp; simp only [ho, hx, Sem.run_pure]
theorem run_as {P : Program} {a : Act} {o : Oper} {x : Operand} (ho : o.op = .assign x) (w : World) {v : Value} (hx : a.eval x = v) : (execOp a.eval o).run P w = .ok (.value v) w := by
  unfold execOp; simp only [ho, hx, Sem.run_pure]
theorem run_rw {P : Program} {a : Act} {w : World} {o : Oper} (ty : TypeId) (x : Operand) (ho : o.op = .load ty x) (b : Nat) (hx : a.eval x = .pointer (some ⟨b, 0, none⟩)) (T : TypeId) (n : Nat) (f : Nat → Value) (hh : Has w b T n f)
    (hu : ∃ d, P.underlying ty = some d ∧ d.isRow = true) (hi : (P.info? ty).map (·.size) = some n) : (execOp a.eval o).run P w = .ok (.value (.agg (cellsOf f n))) w := by
  obtain ⟨d, h1, h2⟩ := hu
  exact run_ld ty x ho b hx T n f hh d h1 h2 hi
theorem keep_c {B : Nat} {w w' : World} (hb : Below B w w') (hB : Sz w B) {b k : Nat} {v : Value} (h : w.cell? ⟨b, k, none⟩ = some v) : w'.cell? ⟨b, k, none⟩ = some v := by
  rw [hb.cell (p := ⟨b, k, none⟩) (by have := World.block_lt_of_cell? w _ h; have e : w.heap.size = B := hB; simp only at this ⊢; omega)]; exact h
theorem run_fa {P : Program} {a : Act} {w : World} {o : Oper} (T : TypeId) (x : Operand) (k off : Nat) (ho : o.op = .fieldAddr T x k) {b : Nat} (hx : a.eval x = .pointer (some ⟨b, 0, none⟩))
    (hf : ∀ b w, (Instr.fieldAt T (.pointer (some ⟨b, 0, none⟩)) k).run P w = .ok (.pointer (some ⟨b, off, none⟩)) w) : (execOp a.eval o).run P w = .ok (.value (.pointer (some ⟨b, off, none⟩))) w := by
  unfold execOp
  simp only [ho, hx, Sem.run_bind, hf, Result.andThen_ok, Sem.run_pure]
theorem run_bd {P : Program} {a : Act} {o : Oper} (t : TypeId) (parts : Array (Nat × Operand)) (ho : o.op = .build t parts) (cells : Array Value) (hb : P.built t (parts.map fun (i, x) => (i, a.eval x)).toList = some cells) (w : World) : (execOp a.eval o).run P w = .ok (.value (.agg cells)) w := by
  unfold execOp
  have h := run_build (P := P) w t (parts.map fun (i, x) => (i, a.eval x)) cells hb
  simp only [ho, Sem.run_bind, Sem.run_pure]
  rw [h]; rfl
theorem BinRun.is {P : Program} {op : BinOp} {T : TypeId} {u v : Value} {x r : Bool} (h : x = r) (hb : BinRun P op T u v (.bool x)) : BinRun P op T u v (.bool r) := h ▸ hb
theorem ret_is {P : Program} {f : FuncId} {args : Array Value} {x r : Bool} (h : x = r) (hc : ∀ (w : World) (N : Nat), Sz w N → Calls P f args w fun e w' => e = .returned (.bool x) ∧ Below N w w') (w : World) (N : Nat) (hN : Sz w N) : Calls P f args w fun e w' => e = .returned (.bool r) ∧ Below N w w' := h ▸ hc w N hN
section
variable {P : Program} {ops : Array Oper} {rest : List Oper} {o : Oper} {a : Act} {w : World} {R : Exit → Act → World → Prop}
theorem wpl_wantN (hw : Region.wanted o (yielded ops a.tmps) = true) (h : wpList P ops R ({ o with guard := none } :: rest) a w) : wpList P ops R (o :: rest) a w := by
  unfold wpList at h ⊢
  rw [if_pos hw]
  have : Region.wanted { o with guard := none } (yielded ops a.tmps) = true := by simp [Region.wanted]
  rw [if_pos this] at h
  exact h
theorem wpl_bg {op : BinOp} {T ty : TypeId} {x y : Operand} (ho : o.op = .binOp op T x y ty) {u v r : Value} (hb : BinRun P op T u v r) (hx : a.eval x = u) (hy : a.eval y = v)
    (h : wpList P ops R rest (a.put o.dst r) w) (hw : Region.wanted o (yielded ops a.tmps) = true) : wpList P ops R (o :: rest) a w :=
  wpl_wantN hw (wpl_b (o := { o with guard := none }) rfl ho hb hx hy h)
theorem wpl_loadg (ty : TypeId) (x : Operand) (ho : o.op = .load ty x) (b : Nat) (hx : a.eval x = .pointer (some ⟨b, 0, none⟩)) (T : TypeId) (n : Nat) (f : Nat → Value) (hh : Has w b T n f)
    (hu : ∃ d, P.underlying ty = some d ∧ d.isRow = true) (hi : (P.info? ty).map (·.size) = some n) (h : wpList P ops R rest (a.put o.dst (.agg (cellsOf f n))) w) (hw : Region.wanted o (yielded ops a.tmps) = true) : wpList P ops R (o :: rest) a w := by
  obtain ⟨d, h1, h2⟩ := hu
  exact wpl_wantN hw (wpl_load (o := { o with guard := none }) rfl ty x ho b hx T n f hh d h1 h2 hi h)
end
/-- A region in the text's order, all of which reads or makes memory: the same walk as where the order is drawn. -/
theorem wpList_of_quiet {P : Program} {ops : Array Oper} {C : World → Prop} {R : Exit → Act → World → Prop} : ∀ (l : List Oper) (a : Act) (w : World), C w → wpQuiet P ops C (fun a' => ∀ w', C w' → R .normal a' w') l a → wpList P ops R l a w
  | [], a, w, hC, h => h w hC
  | o :: rest, a, w, hC, h => by
    unfold wpQuiet at h
    unfold wpList
    split
    · rename_i hw
      rw [if_pos hw] at h
      refine Or.inl ?_
      obtain ⟨v, h1, h2⟩ := h
      have h3 := h1 w hC
      unfold Oper.quietAt at h3
      unfold Oper.wp
      generalize (execOp a.eval o).run P w = r at h3
      unfold Oper.quietUpon at h3
      split at h3
      · obtain ⟨rfl, rfl⟩ := h3; exact wpList_of_quiet rest _ _ hC h2
      · obtain ⟨rfl, rfl⟩ := h3; exact wpList_of_quiet rest _ _ hC h2
      · obtain ⟨rfl, h4⟩ := h3
        rw [Oper.upon_enter]
        refine h4.mono fun e w'' hh => ?_
        obtain ⟨rfl, h5⟩ := hh
        exact wpList_of_quiet rest _ _ h5 h2
      · exact absurd h3 id
    · rename_i hw
      rw [if_neg hw] at h
      exact wpList_of_quiet rest _ _ hC h
theorem wp_region_later1 {P : Program} {w : World} {id : Nat} {R : Exit → Act → World → Prop} {a : Act} {l : List Oper} (N : Nat)
    (h : wpQuiet P l.toArray (fun w' => ∃ x : Later N w, w' = x.w') (fun a' => ∀ w', (∃ x : Later N w, w' = x.w') → R .normal a' w') l a) : (Code.region id l.toArray false).wp P R a w :=
  wp_region_lit (wpList_of_quiet l a w ⟨⟨w, Below.refl N w⟩, rfl⟩ h)
theorem undInt : Try.prog.underlying 3 = some (.int .i64) := by kernel_rfl
/-- What is left, by a count. -/
def rm (z : Int) (m : Nat) : Nat := (BitVec.ofInt 64 z).toNat % m
theorem rm_lt (z : Int) (m : Nat) (h : 0 < m) : rm z m < m := Nat.mod_lt _ h
theorem run_conv {P : Program} {a : Act} {o : Oper} {src dst : TypeId} {x : Operand} (ho : o.op = .convert src dst x) {k k2 k3 : IntKind} {z : Int} (hs : P.underlying src = some (.int k)) (hd : P.underlying dst = some (.int k3)) (hx : a.eval x = .int k2 z) (w : World) : (execOp a.eval o).run P w = .ok (.value (.int k3 (k3.wrap z))) w := by
  unfold execOp
  simp only [ho, hx]
  simp [convert, Sem.run_bind, run_underlying hs, run_underlying hd, Conv.intToInt]
theorem run_iu {P : Program} {a : Act} {o : Oper} {src dst : TypeId} {x : Operand} (ho : o.op = .convert src dst x) {k : IntKind} {z : Int} (hs : P.underlying src = some (.int k)) (hd : P.underlying dst = some (.int .u64)) (hx : a.eval x = .int .i64 z) (w : World) : (execOp a.eval o).run P w = .ok (.value (Q (BitVec.ofInt 64 z))) w := by
  rw [run_conv ho hs hd hx w, wrap_u]; rfl
theorem run_us {P : Program} {a : Act} {o : Oper} {src dst : TypeId} {x : Operand} (ho : o.op = .convert src dst x) {k : IntKind} {p : W} (hs : P.underlying src = some (.int k)) (hd : P.underlying dst = some (.int .i64)) (hx : a.eval x = Q p) (w : World) : (execOp a.eval o).run P w = .ok (.value (S p)) w := by
  rw [run_conv ho hs hd hx w, wrap_s, ofInt_qn]; rfl
theorem run_su {P : Program} {a : Act} {o : Oper} {src dst : TypeId} {x : Operand} (ho : o.op = .convert src dst x) {k : IntKind} {p : W} (hs : P.underlying src = some (.int k)) (hd : P.underlying dst = some (.int .u64)) (hx : a.eval x = S p) (w : World) : (execOp a.eval o).run P w = .ok (.value (Q p)) w := by
  rw [run_conv ho hs hd hx w, wrap_u, ofInt_sn]; rfl
theorem run_rm {P : Program} {a : Act} {o : Oper} {src dst : TypeId} {x : Operand} (ho : o.op = .convert src dst x) {k : IntKind} {z : Int} {m : Nat} (hs : P.underlying src = some (.int k)) (hd : P.underlying dst = some (.int .i64)) (hm : 0 < m ∧ m < 1000000) (hx : a.eval x = Q (BitVec.ofInt 64 z % BitVec.ofNat 64 m)) (w : World) : (execOp a.eval o).run P w = .ok (.value (.int .i64 (rm z m : Int))) w := by
  rw [run_conv ho hs hd hx w]
  have e : IntKind.i64.wrap (qn (BitVec.ofInt 64 z % BitVec.ofNat 64 m)) = (rm z m : Int) := by
    have hlt : rm z m < m := rm_lt z m hm.1
    have e1 : qn (BitVec.ofInt 64 z % BitVec.ofNat 64 m) = (rm z m : Int) := by
      unfold qn rm
      rw [BitVec.toNat_umod, BitVec.toNat_ofNat, Nat.mod_eq_of_lt (show m < 2 ^ 64 by omega)]
    rw [wrap_s, ofInt_qn, sn_def, e1, if_pos (by omega)]
  rw [e]
theorem bin_rem {P : Program} (T : TypeId) (p q : W) (hq : q ≠ 0#64) : BinRun P .rem T (Q p) (Q q) (Q (p % q)) := binRun_of fun w => by
  show (Op.intDiv .rem .u64 (qn p) (qn q)).run P w = _
  have h0 : ¬ qn q = 0 := fun h => hq (qn_inj (h.trans (by rfl)))
  have e : (qn p).tmod (qn q) = qn (p % q) := by
    rw [Int.tmod_eq_emod_of_nonneg (qn_lo p)]
    unfold qn; rw [BitVec.toNat_umod]; rfl
  unfold Op.intDiv Q
  rw [if_neg h0, ← e]; rfl
theorem bin_quo {P : Program} (T : TypeId) (p q : W) (hq : q ≠ 0#64) : BinRun P .quo T (Q p) (Q q) (Q (p / q)) := binRun_of fun w => by
  show (Op.intDiv .quo .u64 (qn p) (qn q)).run P w = _
  have h0 : ¬ qn q = 0 := fun h => hq (qn_inj (h.trans (by rfl)))
  have e : IntKind.u64.wrap ((qn p).tdiv (qn q)) = qn (p / q) := by
    rw [Int.tdiv_eq_ediv_of_nonneg (qn_lo p), wrap_u, qn_ofInt]
    unfold qn; rw [BitVec.toNat_udiv]
    have : p.toNat / q.toNat ≤ p.toNat := Nat.div_le_self _ _
    have := p.isLt
    have e2 : (p.toNat : Int) / (q.toNat : Int) = ((p.toNat / q.toNat : Nat) : Int) := rfl
    rw [e2]
    generalize p.toNat / q.toNat = d at *
    omega
  unfold Op.intDiv Q
  rw [if_neg h0, ← e]; rfl
/-- A call that makes memory at most. -/
theorem wpl_cl {P : Program} {ops : Array Oper} {rest : List Oper} {o : Oper} {a : Act} {w : World} {R : Exit → Act → World → Prop} {M : Nat} (hg : o.guard = none) (g : FuncId) (xs : Array Operand) (ts : Array TypeId) (ho : o.op = .call { callee := .value (.func g), args := xs, argTypes := ts }) (vs : Array Value) (hx : xs.map a.eval = vs)
    (hbd : bodiedG P g = true) (r : Value) (hc : Calls P g vs w fun e w' => e = .returned r ∧ Below M w w') (h : ∀ w', Below M w w' → wpList P ops R rest (a.put o.dst r) w') : wpList P ops R (o :: rest) a w := by
  refine wpList_plain hg fun K' hK => ?_
  have hrun : (execOp a.eval o).run P w = .ok (.enter g vs) w := by
    unfold bodiedG at hbd
    cases hf : P.funcs[g]? with
    | none => rw [hf] at hbd; cases hbd
    | some fn =>
      rw [hf] at hbd
      simp only [Bool.and_eq_true, bne_iff_ne, ne_eq] at hbd
      have h2 : ¬ fn.body = none := fun e => by rw [e] at hbd; exact absurd hbd.2 (by simp)
      simp [execOp, ho, resolve, invoke, hx, Act.eval, Deferred.ofValue, callFunc, hf, hbd.1, h2]
  unfold Oper.wp
  rw [hrun, Oper.upon_enter]
  refine hc.mono fun e w' hh => ?_
  obtain ⟨rfl, hR⟩ := hh
  exact hK _ _ (h _ hR)
theorem run_ia {P : Program} {a : Act} {w : World} {o : Oper} (T : TypeId) (x y : Operand) (k : Nat) (ho : o.op = .indexAddr T x y) {b : Nat} (hx : a.eval x = .pointer (some ⟨b, 0, none⟩)) (hy : a.eval y = .int .i64 (k : Int))
    (hf : ∀ b w, (Instr.indexAt T (.pointer (some ⟨b, 0, none⟩)) (.int .i64 (k : Int))).run P w = .ok (.pointer (some ⟨b, k, none⟩)) w) : (execOp a.eval o).run P w = .ok (.value (.pointer (some ⟨b, k, none⟩))) w := by
  unfold execOp
  simp only [ho, hx, hy, Sem.run_bind, hf, Result.andThen_ok, Sem.run_pure]
theorem run_eqb {P : Program} {a : Act} {w : World} {o : Oper} (T ty : TypeId) (x y : Operand) (ho : o.op = .binOp .eql T x y ty) (hT : P.underlying T = some .bool) {p q r : Bool} (hx : a.eval x = .bool p) (hy : a.eval y = .bool q) (h : (p == q) = r) : (execOp a.eval o).run P w = .ok (.value (.bool r)) w := by
  subst h
  have := run_equalIn_bool (P := P) w 9999 T p q hT
  unfold execOp
  simp only [ho, hx, hy, Sem.run_bind]
  have e : (eqGuard .eql T x y (.bool p) (.bool q)).run P w = .ok () w := by unfold eqGuard; rfl
  simp only [e, Result.andThen_ok, binOp, Sem.run_bind, Op.equal, Op.maxDepth, this, Sem.run_pure]
theorem run_ex {P : Program} {a : Act} {o : Oper} {x : Operand} {k : Nat} (ho : o.op = .extract x k) (w : World) {vs : Array Value} {v : Value} (hx : a.eval x = .tuple vs) (hv : vs[k]? = some v) : (execOp a.eval o).run P w = .ok (.value v) w := by
  unfold execOp
  simp [ho, hx, hv, Sem.run_bind, Instr.extract]
end Go.Proofs.Ytjcjmlmdcjkceaa
