/- Numbers of known bits as the program lays them: cells, types; '==' of them. Contracts of known bits: what is straight. Reads in a region whose order is drawn: one cell of a word, a bool, an int; what later worlds keep. Contracts of known bits: differences, the lower bytes, within, meet. Contracts of known bits: the lower bytes, within, meet, the product. Contracts of known bits: the product, what is common to both. Rows of two words; '==' of signs; which words are known alone. Contracts of known bits: what both have. A region in the text's order: reads and calls first, then the rest. Nothing of the program. -/
import Derived.Test.YtbbfdehipgkjmaaDoorChecked
import Derived.Test.YtbbfdehipgkjmaaDoorWn
import Derived.Test.YtbbfdehipgkjmaaDoorBase
import Derived.Laws.StructEq
import Derived.Deep.CutBlock
import Derived.Deep.DeepCutAuto
import Derived.Deep.LoopGhost
import Derived.Deep.QuietTactic
import Derived.BigQuiet
import Derived.Laws.ResultCell
namespace Go.Proofs.YtbbfdehipgkjmaaDoor
open Go Go.RowKit
def nC (a : Nm) : Nat → Value := fun j => if j = 0 then Q a.v else Q a.m
def nV (a : Nm) : Value := .agg (cellsOf (nC a) 2)
theorem nC_one (a : Nm) (j : Nat) : (nC a j).oneCell' = true := by
  unfold nC Q
  split <;> rfl
def zeroN : Nm := ⟨0#64, 0#64⟩
theorem row_ofN {P : Program} {T : TypeId} (h : (P.underlying T).map (·.isRow) = some true) : ∃ d, P.underlying T = some d ∧ d.isRow = true := by
  cases hq : P.underlying T with
  | none => rw [hq] at h; cases h
  | some d => rw [hq] at h; exact ⟨d, rfl, by simpa using h⟩
theorem undT : ∃ d, Tryd.prog.underlying 25 = some d ∧ d.isRow = true := row_ofN (by kernel_rfl)
theorem szT : (Tryd.prog.info? 25).map (·.size) = some 2 := by kernel_rfl
theorem sz64 : (Tryd.prog.info? 23).map (·.size) = some 1 := by kernel_rfl
theorem zeT : (Tryd.prog.info? 25).map (fun i => (i.zero, i.size)) = some (some (.agg (cellsOf (nC zeroN) 2)), 2) := by kernel_rfl
theorem n_cells {w : World} {b T : Nat} {a : Nm} (h : Has w b T 2 (nC a)) : w.cell? ⟨b, 0, none⟩ = some (Q a.v) ∧ w.cell? ⟨b, 1, none⟩ = some (Q a.m) := ⟨h.cell (by omega), h.cell (by omega)⟩
theorem post_n {fn : Func} {R : Ending → World → Prop} {p : Tmp} {T : TypeId} {a : Act} {w : World} (hr : fn.results = #[.cell p T]) (b : Nat) (hp : a.tmps.getD p undef = .pointer (some ⟨b, 0, none⟩))
    {r : Nm} (hh : Has w b T 2 (nC r)) (hu : ∃ d, Tryd.prog.underlying T = some d ∧ d.isRow = true) (hi : (Tryd.prog.info? T).map (·.size) = some 2)
    (hdef : a.defers = []) (hR : R (.returned (nV r)) w) : bodyPost Tryd.prog fn R .ret a w := by
  obtain ⟨d, h1, h2⟩ := hu
  exact post_cell hr b hp hh d h1 h2 hi hdef hR
theorem und64 : Tryd.prog.underlying 23 = some (.int .u64) := by kernel_rfl
theorem undBool : Tryd.prog.underlying 4 = some .bool := by kernel_rfl
end Go.Proofs.YtbbfdehipgkjmaaDoor
namespace Go.Proofs.YtbbfdehipgkjmaaDoor
open Go Go.RowKit
set_option maxRecDepth 100000 in
theorem known_any (x u : W) (w : World) (N : Nat) (hN : Sz w N) : Calls Tryd.prog 74 #[Q x, Q u] w fun e w' => e = .returned (nV (tKnown x u)) ∧ Below N w w' := by
  unfold nV
  go_enter Tryd.func74, Tryd.ntmps74
  go_upto_region 1 with (first
    | (refine wpl_alloc rfl 25 rfl 2 (nC zeroN) zeT (N) hN ?_; intro w1 hN1 hb1 hh1)
    | fail)
  have lo : Below N w w1 := hb1
  go_wp2_with (first
    | (refine wpl_b rfl rfl (bin_andn _ _ _) rfl rfl ?_)
    | (refine wpl_build rfl 25 _ rfl (cellsOf (nC (tKnown x u)) 2) (by kernel_rfl) ?_)
    | (refine wpl_store rfl 25 (.tmp 4) (.tmp 9) rfl (N) 2 (nC (tKnown x u)) rfl rfl 25 _ hh1 szT (fun j _ => nC_one _ j) ?_; intro wq tq hq)
    | fail)
  refine post_n rfl (N) rfl hq undT szT rfl ?_
  exact ⟨rfl, tq.below lo (by omega)⟩
set_option maxRecDepth 100000 in
theorem Const_any (x : W) (w : World) (N : Nat) (hN : Sz w N) : Calls Tryd.prog 20 #[Q x] w fun e w' => e = .returned (nV (tConst x)) ∧ Below N w w' := by
  unfold nV
  go_enter Tryd.func20, Tryd.ntmps20
  go_upto_region 1 with (first
    | (refine wpl_alloc rfl 25 rfl 2 (nC zeroN) zeT (N) hN ?_; intro w1 hN1 hb1 hh1)
    | fail)
  have lo : Below N w w1 := hb1
  go_wp2_with (first
    | (refine wpl_build rfl 25 _ rfl (cellsOf (nC (tConst x)) 2) (by kernel_rfl) ?_)
    | (refine wpl_store rfl 25 (.tmp 2) (.tmp 4) rfl (N) 2 (nC (tConst x)) rfl rfl 25 _ hh1 szT (fun j _ => nC_one _ j) ?_; intro wq tq hq)
    | fail)
  refine post_n rfl (N) rfl hq undT szT rfl ?_
  exact ⟨rfl, tq.below lo (by omega)⟩
set_option maxRecDepth 100000 in
theorem Any_any  (w : World) (N : Nat) (hN : Sz w N) : Calls Tryd.prog 19 #[] w fun e w' => e = .returned (nV tAny) ∧ Below N w w' := by
  unfold nV
  go_enter Tryd.func19, Tryd.ntmps19
  go_upto_region 1 with (first
    | (refine wpl_alloc rfl 25 rfl 2 (nC zeroN) zeT (N) hN ?_; intro w1 hN1 hb1 hh1)
    | fail)
  have lo : Below N w w1 := hb1
  go_wp2_with (first
    | (refine wpl_build rfl 25 _ rfl (cellsOf (nC tAny) 2) (by kernel_rfl) ?_)
    | (refine wpl_store rfl 25 (.tmp 0) (.tmp 1) rfl (N) 2 (nC tAny) rfl rfl 25 _ hh1 szT (fun j _ => nC_one _ j) ?_; intro wq tq hq)
    | fail)
  refine post_n rfl (N) rfl hq undT szT rfl ?_
  exact ⟨rfl, tq.below lo (by omega)⟩
set_option maxRecDepth 100000 in
theorem Right_any (a : Nm) (w : World) (N : Nat) (hN : Sz w N) : Calls Tryd.prog 35 #[nV a] w fun e w' => e = .returned (.bool (tRight a)) ∧ Below N w w' := by
  unfold nV
  go_enter Tryd.func35, Tryd.ntmps35
  go_upto_region 1 with (first
    | (refine wpl_box rfl 25 (.tmp 0) rfl 2 _ rfl (N) hN ?_; intro w1 hN1 hb1 hh1)
    | fail)
  have lo : Below N w w1 := hb1
  have kk0 := hh1
  obtain ⟨f0, g0⟩ := n_cells kk0
  unfold Q at f0 g0
  go_wp2_with (first
    | (refine wpl_b rfl rfl (bin_and _ _ _) rfl rfl ?_)
    | (refine wpl_b (x := .tmp 7) (y := .const (.int .u64 0)) rfl rfl (bin_eql _ _ 0#64) rfl rfl ?_)
    | fail)
  go_ret
  exact ⟨rfl, lo⟩
set_option maxRecDepth 100000 in
theorem Has_any (a : Nm) (x : W) (w : World) (N : Nat) (hN : Sz w N) : Calls Tryd.prog 26 #[nV a, Q x] w fun e w' => e = .returned (.bool (tHas a x)) ∧ Below N w w' := by
  unfold nV
  go_enter Tryd.func26, Tryd.ntmps26
  go_upto_region 1 with (first
    | (refine wpl_box rfl 25 (.tmp 0) rfl 2 _ rfl (N) hN ?_; intro w1 hN1 hb1 hh1)
    | fail)
  have lo : Below N w w1 := hb1
  have kk0 := hh1
  obtain ⟨f0, g0⟩ := n_cells kk0
  unfold Q at f0 g0
  go_wp2_with (first
    | (refine wpl_b rfl rfl (bin_andn _ _ _) rfl rfl ?_)
    | (refine wpl_b rfl rfl (bin_eql _ _ _) rfl rfl ?_)
    | fail)
  go_ret
  exact ⟨rfl, lo⟩
set_option maxRecDepth 100000 in
theorem Add_any (a b : Nm) (w : World) (N : Nat) (hN : Sz w N) : Calls Tryd.prog 62 #[nV a, nV b] w fun e w' => e = .returned (nV (tAdd a b)) ∧ Below N w w' := by
  unfold nV
  go_enter Tryd.func62, Tryd.ntmps62
  go_upto_region 1 with (first
    | (refine wpl_box rfl 25 (.tmp 0) rfl 2 _ rfl (N) hN ?_; intro w1 hN1 hb1 hh1)
    | (refine wpl_box rfl 25 (.tmp 1) rfl 2 _ rfl (N + 1) hN1 ?_; intro w2 hN2 hb2 hh2)
    | (refine wpl_alloc rfl 25 rfl 2 (nC zeroN) zeT (N + 1 + 1) hN2 ?_; intro w3 hN3 hb3 hh3)
    | fail)
  have lo : Below N w w3 := ((hb1.trans (hb2.mono (by omega))).trans (hb3.mono (by omega)))
  have kk0 := ((hh1.below hb2 (by omega)).below hb3 (by omega))
  obtain ⟨f0, g0⟩ := n_cells kk0
  unfold Q at f0 g0
  have kk1 := (hh2.below hb3 (by omega))
  obtain ⟨f1, g1⟩ := n_cells kk1
  unfold Q at f1 g1
  go_wp2_with (first
    | (refine wpl_b rfl rfl (bin_add _ _ _) rfl rfl ?_)
    | (refine wpl_b rfl rfl (bin_or _ _ _) rfl rfl ?_)
    | (refine wpl_b rfl rfl (bin_xor _ _ _) rfl rfl ?_)
    | (go_at_call 74; refine (known_any _ _ _ (N + 1 + 1 + 1) hN3).mono ?_; rintro e wc ⟨rfl, hbc⟩; have hA2 := hh3.below hbc (by omega))
    | (refine wpl_store rfl 25 (.tmp 4) (.tmp 29) rfl (N + 1 + 1) 2 (nC (tAdd a b)) rfl rfl 25 _ hA2 szT (fun j _ => nC_one _ j) ?_; intro wq tq hq)
    | fail)
  refine post_n rfl (N + 1 + 1) rfl hq undT szT rfl ?_
  exact ⟨rfl, tq.below (lo.trans (hbc.mono (by omega))) (by omega)⟩
set_option maxRecDepth 100000 in
theorem And_any (a b : Nm) (w : World) (N : Nat) (hN : Sz w N) : Calls Tryd.prog 69 #[nV a, nV b] w fun e w' => e = .returned (nV (tAnd a b)) ∧ Below N w w' := by
  unfold nV
  go_enter Tryd.func69, Tryd.ntmps69
  go_upto_region 1 with (first
    | (refine wpl_box rfl 25 (.tmp 0) rfl 2 _ rfl (N) hN ?_; intro w1 hN1 hb1 hh1)
    | (refine wpl_box rfl 25 (.tmp 1) rfl 2 _ rfl (N + 1) hN1 ?_; intro w2 hN2 hb2 hh2)
    | (refine wpl_alloc rfl 25 rfl 2 (nC zeroN) zeT (N + 1 + 1) hN2 ?_; intro w3 hN3 hb3 hh3)
    | fail)
  have lo : Below N w w3 := ((hb1.trans (hb2.mono (by omega))).trans (hb3.mono (by omega)))
  have kk0 := ((hh1.below hb2 (by omega)).below hb3 (by omega))
  obtain ⟨f0, g0⟩ := n_cells kk0
  unfold Q at f0 g0
  have kk1 := (hh2.below hb3 (by omega))
  obtain ⟨f1, g1⟩ := n_cells kk1
  unfold Q at f1 g1
  go_wp2_with (first
    | (refine wpl_b rfl rfl (bin_and _ _ _) rfl rfl ?_)
    | (refine wpl_b rfl rfl (bin_or _ _ _) rfl rfl ?_)
    | (refine wpl_b rfl rfl (bin_andn _ _ _) rfl rfl ?_)
    | (refine wpl_build rfl 25 _ rfl (cellsOf (nC (tAnd a b)) 2) (by kernel_rfl) ?_)
    | (refine wpl_store rfl 25 (.tmp 4) (.tmp 27) rfl (N + 1 + 1) 2 (nC (tAnd a b)) rfl rfl 25 _ hh3 szT (fun j _ => nC_one _ j) ?_; intro wq tq hq)
    | fail)
  refine post_n rfl (N + 1 + 1) rfl hq undT szT rfl ?_
  exact ⟨rfl, tq.below lo (by omega)⟩
set_option maxRecDepth 100000 in
theorem Join_any (a b : Nm) (w : World) (N : Nat) (hN : Sz w N) : Calls Tryd.prog 81 #[nV a, nV b] w fun e w' => e = .returned (nV (tJoin a b)) ∧ Below N w w' := by
  unfold nV
  go_enter Tryd.func81, Tryd.ntmps81
  go_upto_region 1 with (first
    | (refine wpl_box rfl 25 (.tmp 0) rfl 2 _ rfl (N) hN ?_; intro w1 hN1 hb1 hh1)
    | (refine wpl_box rfl 25 (.tmp 1) rfl 2 _ rfl (N + 1) hN1 ?_; intro w2 hN2 hb2 hh2)
    | (refine wpl_alloc rfl 25 rfl 2 (nC zeroN) zeT (N + 1 + 1) hN2 ?_; intro w3 hN3 hb3 hh3)
    | fail)
  have lo : Below N w w3 := ((hb1.trans (hb2.mono (by omega))).trans (hb3.mono (by omega)))
  have kk0 := ((hh1.below hb2 (by omega)).below hb3 (by omega))
  obtain ⟨f0, g0⟩ := n_cells kk0
  unfold Q at f0 g0
  have kk1 := (hh2.below hb3 (by omega))
  obtain ⟨f1, g1⟩ := n_cells kk1
  unfold Q at f1 g1
  go_wp2_with (first
    | (refine wpl_b rfl rfl (bin_xor _ _ _) rfl rfl ?_)
    | (refine wpl_b rfl rfl (bin_or _ _ _) rfl rfl ?_)
    | (go_at_call 74; refine (known_any _ _ _ (N + 1 + 1 + 1) hN3).mono ?_; rintro e wc ⟨rfl, hbc⟩; have hA2 := hh3.below hbc (by omega))
    | (refine wpl_store rfl 25 (.tmp 4) (.tmp 18) rfl (N + 1 + 1) 2 (nC (tJoin a b)) rfl rfl 25 _ hA2 szT (fun j _ => nC_one _ j) ?_; intro wq tq hq)
    | fail)
  refine post_n rfl (N + 1 + 1) rfl hq undT szT rfl ?_
  exact ⟨rfl, tq.below (lo.trans (hbc.mono (by omega))) (by omega)⟩
/-- A count of places. -/
def tn (z : Int) : Nat := (z % 64).toNat
theorem tn_lt (z : Int) : tn z < 64 := by unfold tn; omega
def tw (z : Int) : W := BitVec.ofNat 64 (tn z)
theorem tw_nat (z : Int) : (tw z).toNat = tn z := by unfold tw; rw [BitVec.toNat_ofNat]; have := tn_lt z; omega
theorem turns_val (z : Int) : (IntKind.u64.wrap z).tmod 64 = qn (tw z) := by
  unfold qn
  rw [tw_nat, wrap_u, qn_ofInt]
  unfold tn
  rw [Int.tmod_eq_emod_of_nonneg (by omega)]
  omega
set_option maxRecDepth 100000 in
theorem turns_any (z : Int) (w : World) (N : Nat) (hN : Sz w N) : Calls Tryd.prog 86 #[.int .i64 z] w fun e w' => e = .returned (Q (tw z)) ∧ Below N w w' := by
  go_enter Tryd.func86, Tryd.ntmps86
  go_wp2
  go_ret
  refine ⟨?_, Below.refl N w⟩
  unfold Q
  rw [← turns_val]; rfl
set_option maxRecDepth 100000 in
theorem Left_any (a : Nm) (z : Int) (w : World) (N : Nat) (hN : Sz w N) : Calls Tryd.prog 80 #[nV a, .int .i64 z] w fun e w' => e = .returned (nV (tLeft a (tw z).toNat)) ∧ Below N w w' := by
  unfold nV
  go_enter Tryd.func80, Tryd.ntmps80
  go_upto_region 1 with (first
    | (refine wpl_box rfl 25 (.tmp 0) rfl 2 _ rfl (N) hN ?_; intro w1 hN1 hb1 hh1)
    | (refine wpl_alloc rfl 25 rfl 2 (nC zeroN) zeT (N + 1) hN1 ?_; intro w2 hN2 hb2 hh2)
    | fail)
  have lo : Below N w w2 := (hb1.trans (hb2.mono (by omega)))
  have kk0 := (hh1.below hb2 (by omega))
  obtain ⟨f0, g0⟩ := n_cells kk0
  unfold Q at f0 g0
  go_wp2_with (first
    | (refine wpl_b rfl rfl (bin_shlu _ _ _) rfl rfl ?_)
    | (go_at_call 86; refine (turns_any _ _ (N + 1 + 1) hN2).mono ?_; rintro e wc ⟨rfl, hbc⟩; have hA2 := hh2.below hbc (by omega); have kc := kk0.below hbc (by omega); obtain ⟨fc, gc⟩ := n_cells kc; unfold Q at fc gc)
    | (refine wpl_build rfl 25 _ rfl (cellsOf (nC (tLeft a (tw z).toNat)) 2) (by kernel_rfl) ?_)
    | (refine wpl_store rfl 25 (.tmp 4) (.tmp 16) rfl (N + 1) 2 (nC (tLeft a (tw z).toNat)) rfl rfl 25 _ hA2 szT (fun j _ => nC_one _ j) ?_; intro wq tq hq)
    | fail)
  refine post_n rfl (N + 1) rfl hq undT szT rfl ?_
  exact ⟨rfl, tq.below (lo.trans (hbc.mono (by omega))) (by omega)⟩
end Go.Proofs.YtbbfdehipgkjmaaDoor
namespace Go.Proofs.YtbbfdehipgkjmaaDoor
open Go Go.RowKit
theorem load_cell {P : Program} {w : World} {p : Addr} {v : Value} (ty : TypeId) {d : TypeDesc} (hu : P.underlying ty = some d) (hd : (match d with | .struct _ | .array _ _ => false | _ => true) = true) (h : w.cell? p = some v) : (Instr.loadAt ty (.pointer (some p))).run P w = .ok v w := by
  have hagg : (isAgg ty).run P w = .ok false w := by
    unfold isAgg
    rw [Sem.run_bind, run_underlying hu w]
    cases d <;> simp_all
  unfold Instr.loadAt
  simp [Instr.sureAddr, Sem.run_bind, hagg, h, loadVar]
/-- One cell is read. -/
theorem run_c1 {P : Program} {a : Act} {w : World} {o : Oper} (ty : TypeId) (x : Operand) (ho : o.op = .load ty x) (p : Addr) (hx : a.eval x = .pointer (some p)) {d : TypeDesc} (hu : P.underlying ty = some d) (hd : (match d with | .struct _ | .array _ _ => false | _ => true) = true) {v : Value} (h : w.cell? p = some v) :
    (execOp a.eval o).run P w = .ok (.value v) w := by
  unfold execOp
  simp only [ho, hx, Sem.run_bind, load_cell ty hu hd h, Result.andThen_ok, Sem.run_pure]
section
variable {P : Program} {N : Nat} {w : World}
theorem later_c1 {ops : Array Oper} {R : Act → Prop} {a : Act} {o : Oper} {rest : List Oper} (hN : Sz w N) (ty : TypeId) (x : Operand) (ho : o.op = .load ty x) {b k : Nat} (hx : a.eval x = .pointer (some ⟨b, k, none⟩)) {d : TypeDesc} (hu : P.underlying ty = some d) (hd : (match d with | .struct _ | .array _ _ => false | _ => true) = true) {v : Value} (h : w.cell? ⟨b, k, none⟩ = some v)
    (hw : Region.wanted o (yielded ops a.tmps) = true) (hq : wpQuiet P ops (fun w' => ∃ x : Later N w, w' = x.w') R rest (a.put o.dst v)) : wpQuiet P ops (fun w' => ∃ x : Later N w, w' = x.w') R (o :: rest) a :=
  later_val (fun q => run_c1 ty x ho _ hx hu hd (Later.cell hN h q)) hw hq
theorem later_row {ops : Array Oper} {R : Act → Prop} {a : Act} {o : Oper} {rest : List Oper} (hN : Sz w N) (ty : TypeId) (x : Operand) (ho : o.op = .load ty x) (b : Nat) (hx : a.eval x = .pointer (some ⟨b, 0, none⟩)) (T n : Nat) (f : Nat → Value) (h : Has w b T n f) (hu : ∃ d, P.underlying ty = some d ∧ d.isRow = true) (hi : (P.info? ty).map (·.size) = some n)
    (hw : Region.wanted o (yielded ops a.tmps) = true) (hq : wpQuiet P ops (fun w' => ∃ x : Later N w, w' = x.w') R rest (a.put o.dst (.agg (cellsOf f n)))) : wpQuiet P ops (fun w' => ∃ x : Later N w, w' = x.w') R (o :: rest) a := by
  obtain ⟨d, h1, h2⟩ := hu
  exact later_val (fun q => run_ld ty x ho b hx T n f (Later.has hN h q) d h1 h2 hi) hw hq
theorem later_b {ops : Array Oper} {R : Act → Prop} {a : Act} {o : Oper} {rest : List Oper} {op : BinOp} {T ty : TypeId} {x y : Operand} (ho : o.op = .binOp op T x y ty) {u v r : Value} (hb : BinRun P op T u v r) (hx : a.eval x = u) (hy : a.eval y = v)
    (hw : Region.wanted o (yielded ops a.tmps) = true) (hq : wpQuiet P ops (fun w' => ∃ x : Later N w, w' = x.w') R rest (a.put o.dst r)) : wpQuiet P ops (fun w' => ∃ x : Later N w, w' = x.w') R (o :: rest) a :=
  later_val (fun q => hb _ o x y ty q.w' ho hx hy) hw hq
end
theorem run_mv {P : Program} {a : Act} {o : Oper} {x : Operand} (ho : o.op = .move x) (w : World) {v : Value} (hx : a.eval x = v) : (execOp a.eval o).run P w = .ok (.value v) w := by
  unfold execOp; simp only [ho, hx, Sem.run_pure]
theorem run_as {P : Program} {a : Act} {o : Oper} {x : Operand} (ho : o.op = .assign x) (w : World) {v : Value} (hx : a.eval x = v) : (execOp a.eval o).run P w = .ok (.value v) w := by
  unfold execOp; simp only [ho, hx, Sem.run_pure]
theorem run_rw {P : Program} {a : Act} {w : World} {o : Oper} (ty : TypeId) (x : Operand) (ho : o.op = .load ty x) (b : Nat) (hx : a.eval x = .pointer (some ⟨b, 0, none⟩)) (T : TypeId) (n : Nat) (f : Nat → Value) (hh : Has w b T n f)
    (hu : ∃ d, P.underlying ty = some d ∧ d.isRow = true) (hi : (P.info? ty).map (·.size) = some n) : (execOp a.eval o).run P w = .ok (.value (.agg (cellsOf f n))) w := by
  obtain ⟨d, h1, h2⟩ := hu
  exact run_ld ty x ho b hx T n f hh d h1 h2 hi
theorem keep_c {B : Nat} {w w' : World} (hb : Below B w w') (hB : Sz w B) {b k : Nat} {v : Value} (h : w.cell? ⟨b, k, none⟩ = some v) : w'.cell? ⟨b, k, none⟩ = some v := by
  rw [hb.cell (p := ⟨b, k, none⟩) (by have := World.block_lt_of_cell? w _ h; have e : w.heap.size = B := hB; simp only at this ⊢; omega)]; exact h
theorem run_fa {P : Program} {a : Act} {w : World} {o : Oper} (T : TypeId) (x : Operand) (k off : Nat) (ho : o.op = .fieldAddr T x k) {b : Nat} (hx : a.eval x = .pointer (some ⟨b, 0, none⟩))
    (hf : ∀ b w, (Instr.fieldAt T (.pointer (some ⟨b, 0, none⟩)) k).run P w = .ok (.pointer (some ⟨b, off, none⟩)) w) : (execOp a.eval o).run P w = .ok (.value (.pointer (some ⟨b, off, none⟩))) w := by
  unfold execOp
  simp only [ho, hx, Sem.run_bind, hf, Result.andThen_ok, Sem.run_pure]
theorem run_bd {P : Program} {a : Act} {o : Oper} (t : TypeId) (parts : Array (Nat × Operand)) (ho : o.op = .build t parts) (cells : Array Value) (hb : P.built t (parts.map fun (i, x) => (i, a.eval x)).toList = some cells) (w : World) : (execOp a.eval o).run P w = .ok (.value (.agg cells)) w := by
  unfold execOp
  have h := run_build (P := P) w t (parts.map fun (i, x) => (i, a.eval x)) cells hb
  simp only [ho, Sem.run_bind, Sem.run_pure]
  rw [h]; rfl
theorem BinRun.is {P : Program} {op : BinOp} {T : TypeId} {u v : Value} {x r : Bool} (h : x = r) (hb : BinRun P op T u v (.bool x)) : BinRun P op T u v (.bool r) := h ▸ hb
theorem ret_is {P : Program} {f : FuncId} {args : Array Value} {x r : Bool} (h : x = r) (hc : ∀ (w : World) (N : Nat), Sz w N → Calls P f args w fun e w' => e = .returned (.bool x) ∧ Below N w w') (w : World) (N : Nat) (hN : Sz w N) : Calls P f args w fun e w' => e = .returned (.bool r) ∧ Below N w w' := h ▸ hc w N hN
section
variable {P : Program} {ops : Array Oper} {rest : List Oper} {o : Oper} {a : Act} {w : World} {R : Exit → Act → World → Prop}
end
/-- A region in the text's order, all of which reads or makes memory: the same walk as where the order is drawn. -/
theorem wpList_of_quiet {P : Program} {ops : Array Oper} {C : World → Prop} {R : Exit → Act → World → Prop} : ∀ (l : List Oper) (a : Act) (w : World), C w → wpQuiet P ops C (fun a' => ∀ w', C w' → R .normal a' w') l a → wpList P ops R l a w
  | [], a, w, hC, h => h w hC
  | o :: rest, a, w, hC, h => by
    unfold wpQuiet at h
    unfold wpList
    split
    · rename_i hw
      rw [if_pos hw] at h
      refine Or.inl ?_
      obtain ⟨v, h1, h2⟩ := h
      have h3 := h1 w hC
      unfold Oper.quietAt at h3
      unfold Oper.wp
      generalize (execOp a.eval o).run P w = r at h3
      unfold Oper.quietUpon at h3
      split at h3
      · obtain ⟨rfl, rfl⟩ := h3; exact wpList_of_quiet rest _ _ hC h2
      · obtain ⟨rfl, rfl⟩ := h3; exact wpList_of_quiet rest _ _ hC h2
      · obtain ⟨rfl, h4⟩ := h3
        rw [Oper.upon_enter]
        refine h4.mono fun e w'' hh => ?_
        obtain ⟨rfl, h5⟩ := hh
        exact wpList_of_quiet rest _ _ h5 h2
      · exact absurd h3 id
    · rename_i hw
      rw [if_neg hw] at h
      exact wpList_of_quiet rest _ _ hC h
theorem wp_region_later1 {P : Program} {w : World} {id : Nat} {R : Exit → Act → World → Prop} {a : Act} {l : List Oper} (N : Nat)
    (h : wpQuiet P l.toArray (fun w' => ∃ x : Later N w, w' = x.w') (fun a' => ∀ w', (∃ x : Later N w, w' = x.w') → R .normal a' w') l a) : (Code.region id l.toArray false).wp P R a w :=
  wp_region_lit (wpList_of_quiet l a w ⟨⟨w, Below.refl N w⟩, rfl⟩ h)
theorem undInt : Tryd.prog.underlying 3 = some (.int .i64) := by kernel_rfl
/-- What is left, by a count. -/
def rm (z : Int) (m : Nat) : Nat := (BitVec.ofInt 64 z).toNat % m
theorem rm_lt (z : Int) (m : Nat) (h : 0 < m) : rm z m < m := Nat.mod_lt _ h
theorem run_conv {P : Program} {a : Act} {o : Oper} {src dst : TypeId} {x : Operand} (ho : o.op = .convert src dst x) {k k2 k3 : IntKind} {z : Int} (hs : P.underlying src = some (.int k)) (hd : P.underlying dst = some (.int k3)) (hx : a.eval x = .int k2 z) (w : World) : (execOp a.eval o).run P w = .ok (.value (.int k3 (k3.wrap z))) w := by
  unfold execOp
  simp only [ho, hx]
  simp [convert, Sem.run_bind, run_underlying hs, run_underlying hd, Conv.intToInt]
theorem run_iu {P : Program} {a : Act} {o : Oper} {src dst : TypeId} {x : Operand} (ho : o.op = .convert src dst x) {k : IntKind} {z : Int} (hs : P.underlying src = some (.int k)) (hd : P.underlying dst = some (.int .u64)) (hx : a.eval x = .int .i64 z) (w : World) : (execOp a.eval o).run P w = .ok (.value (Q (BitVec.ofInt 64 z))) w := by
  rw [run_conv ho hs hd hx w, wrap_u]; rfl
theorem run_us {P : Program} {a : Act} {o : Oper} {src dst : TypeId} {x : Operand} (ho : o.op = .convert src dst x) {k : IntKind} {p : W} (hs : P.underlying src = some (.int k)) (hd : P.underlying dst = some (.int .i64)) (hx : a.eval x = Q p) (w : World) : (execOp a.eval o).run P w = .ok (.value (S p)) w := by
  rw [run_conv ho hs hd hx w, wrap_s, ofInt_qn]; rfl
theorem run_su {P : Program} {a : Act} {o : Oper} {src dst : TypeId} {x : Operand} (ho : o.op = .convert src dst x) {k : IntKind} {p : W} (hs : P.underlying src = some (.int k)) (hd : P.underlying dst = some (.int .u64)) (hx : a.eval x = S p) (w : World) : (execOp a.eval o).run P w = .ok (.value (Q p)) w := by
  rw [run_conv ho hs hd hx w, wrap_u, ofInt_sn]; rfl
theorem run_rm {P : Program} {a : Act} {o : Oper} {src dst : TypeId} {x : Operand} (ho : o.op = .convert src dst x) {k : IntKind} {z : Int} {m : Nat} (hs : P.underlying src = some (.int k)) (hd : P.underlying dst = some (.int .i64)) (hm : 0 < m ∧ m < 1000000) (hx : a.eval x = Q (BitVec.ofInt 64 z % BitVec.ofNat 64 m)) (w : World) : (execOp a.eval o).run P w = .ok (.value (.int .i64 (rm z m : Int))) w := by
  rw [run_conv ho hs hd hx w]
  have e : IntKind.i64.wrap (qn (BitVec.ofInt 64 z % BitVec.ofNat 64 m)) = (rm z m : Int) := by
    have hlt : rm z m < m := rm_lt z m hm.1
    have e1 : qn (BitVec.ofInt 64 z % BitVec.ofNat 64 m) = (rm z m : Int) := by
      unfold qn rm
      rw [BitVec.toNat_umod, BitVec.toNat_ofNat, Nat.mod_eq_of_lt (show m < 2 ^ 64 by omega)]
    rw [wrap_s, ofInt_qn, sn_def, e1, if_pos (by omega)]
  rw [e]
theorem bin_rem {P : Program} (T : TypeId) (p q : W) (hq : q ≠ 0#64) : BinRun P .rem T (Q p) (Q q) (Q (p % q)) := binRun_of fun w => by
  show (Op.intDiv .rem .u64 (qn p) (qn q)).run P w = _
  have h0 : ¬ qn q = 0 := fun h => hq (qn_inj (h.trans (by rfl)))
  have e : (qn p).tmod (qn q) = qn (p % q) := by
    rw [Int.tmod_eq_emod_of_nonneg (qn_lo p)]
    unfold qn; rw [BitVec.toNat_umod]; rfl
  unfold Op.intDiv Q
  rw [if_neg h0, ← e]; rfl
theorem bin_quo {P : Program} (T : TypeId) (p q : W) (hq : q ≠ 0#64) : BinRun P .quo T (Q p) (Q q) (Q (p / q)) := binRun_of fun w => by
  show (Op.intDiv .quo .u64 (qn p) (qn q)).run P w = _
  have h0 : ¬ qn q = 0 := fun h => hq (qn_inj (h.trans (by rfl)))
  have e : IntKind.u64.wrap ((qn p).tdiv (qn q)) = qn (p / q) := by
    rw [Int.tdiv_eq_ediv_of_nonneg (qn_lo p), wrap_u, qn_ofInt]
    unfold qn; rw [BitVec.toNat_udiv]
    have : p.toNat / q.toNat ≤ p.toNat := Nat.div_le_self _ _
    have := p.isLt
    have e2 : (p.toNat : Int) / (q.toNat : Int) = ((p.toNat / q.toNat : Nat) : Int) := rfl
    rw [e2]
    generalize p.toNat / q.toNat = d at *
    omega
  unfold Op.intDiv Q
  rw [if_neg h0, ← e]; rfl
/-- A call that makes memory at most. -/
theorem wpl_cl {P : Program} {ops : Array Oper} {rest : List Oper} {o : Oper} {a : Act} {w : World} {R : Exit → Act → World → Prop} {M : Nat} (hg : o.guard = none) (g : FuncId) (xs : Array Operand) (ts : Array TypeId) (ho : o.op = .call { callee := .value (.func g), args := xs, argTypes := ts }) (vs : Array Value) (hx : xs.map a.eval = vs)
    (hbd : bodiedG P g = true) (r : Value) (hc : Calls P g vs w fun e w' => e = .returned r ∧ Below M w w') (h : ∀ w', Below M w w' → wpList P ops R rest (a.put o.dst r) w') : wpList P ops R (o :: rest) a w := by
  refine wpList_plain hg fun K' hK => ?_
  have hrun : (execOp a.eval o).run P w = .ok (.enter g vs) w := by
    unfold bodiedG at hbd
    cases hf : P.funcs[g]? with
    | none => rw [hf] at hbd; cases hbd
    | some fn =>
      rw [hf] at hbd
      simp only [Bool.and_eq_true, bne_iff_ne, ne_eq] at hbd
      have h2 : ¬ fn.body = none := fun e => by rw [e] at hbd; exact absurd hbd.2 (by simp)
      simp [execOp, ho, resolve, invoke, hx, Act.eval, Deferred.ofValue, callFunc, hf, hbd.1, h2]
  unfold Oper.wp
  rw [hrun, Oper.upon_enter]
  refine hc.mono fun e w' hh => ?_
  obtain ⟨rfl, hR⟩ := hh
  exact hK _ _ (h _ hR)
theorem faT0 (b : Nat) (w : World) : (Instr.fieldAt 25 (.pointer (some ⟨b, 0, none⟩)) 0).run Tryd.prog w = .ok (.pointer (some ⟨b, 0, none⟩)) w := by go_simp
theorem faT1 (b : Nat) (w : World) : (Instr.fieldAt 25 (.pointer (some ⟨b, 0, none⟩)) 1).run Tryd.prog w = .ok (.pointer (some ⟨b, 1, none⟩)) w := by go_simp
end Go.Proofs.YtbbfdehipgkjmaaDoor
namespace Go.Proofs.YtbbfdehipgkjmaaDoor
open Go Go.RowKit
set_option maxRecDepth 100000 in
theorem Sub_any (a b : Nm) (w : World) (N : Nat) (hN : Sz w N) : Calls Tryd.prog 64 #[nV a, nV b] w fun e w' => e = .returned (nV (tSub a b)) ∧ Below N w w' := by
  unfold nV
  go_enter Tryd.func64, Tryd.ntmps64
  go_upto_region 1 with (first
    | (refine wpl_box rfl 25 (.tmp 0) rfl 2 _ rfl (N) hN ?_; intro w1 hN1 hb1 hh1)
    | (refine wpl_box rfl 25 (.tmp 1) rfl 2 _ rfl (N + 1) hN1 ?_; intro w2 hN2 hb2 hh2)
    | (refine wpl_alloc rfl 25 rfl 2 (nC zeroN) zeT (N + 1 + 1) hN2 ?_; intro w3 hN3 hb3 hh3)
    | fail)
  have lo : Below N w w3 := ((hb1.trans (hb2.mono (by omega))).trans (hb3.mono (by omega)))
  have kk0 := ((hh1.below hb2 (by omega)).below hb3 (by omega))
  have kk1 := (hh2.below hb3 (by omega))
  obtain ⟨f0, g0⟩ := n_cells kk0
  obtain ⟨f1, g1⟩ := n_cells kk1
  unfold Q at f0 g0 f1 g1
  go_upto_region 2 with (first
    | (refine wpl_b rfl rfl (bin_sub _ _ _) rfl rfl ?_)
    | fail)
  refine wp_region_later (N + 1 + 1 + 1) (by kernel_rfl) (by kernel_rfl) ?_
  go_big_quiet_step (fail)
  go_big_quiet_step (fail)
  refine later_c1 hN3 23 (.tmp 14) rfl rfl und64 rfl g0 (by rfl) ?_; simp only [pA]
  refine later_b rfl (bin_add _ (a.v - b.v) a.m) rfl rfl (by rfl) ?_; simp only [pA]
  go_big_quiet_step (fail)
  go_big_quiet_step (fail)
  refine later_c1 hN3 23 (.tmp 18) rfl rfl und64 rfl g1 (by rfl) ?_; simp only [pA]
  refine later_b rfl (bin_sub _ (a.v - b.v) b.m) rfl rfl (by rfl) ?_; simp only [pA]
  go_big_quiet_step (fail)
  go_big_quiet_step (fail)
  refine wpQuiet_nil ?_
  rintro w4 ⟨x4, e4⟩
  have hb4 := x4.b; rw [← e4] at hb4
  clear x4 e4
  obtain ⟨M, hM⟩ := sz_some w4
  have lM := below_sz hb4 hN3 hM
  have g2 := (n_cells (kk0.below hb4 (by omega))).2
  have g3 := (n_cells (kk1.below hb4 (by omega))).2
  have hA := hh3.below hb4 (by omega)
  have lo4 := lo.trans (hb4.mono (by omega))
  unfold Q at g2 g3
  go_wp2_with (first
    | (refine wpl_b rfl rfl (bin_xor _ _ _) rfl rfl ?_)
    | (refine wpl_b rfl rfl (bin_or _ _ _) rfl rfl ?_)
    | (go_at_call 74; refine (known_any _ _ _ M hM).mono ?_; rintro e wc ⟨rfl, hbc⟩; have hA2 := hA.below hbc (by omega))
    | (refine wpl_store rfl 25 (.tmp 4) (.tmp 31) rfl (N + 1 + 1) 2 (nC (tSub a b)) rfl rfl 25 _ hA2 szT (fun j _ => nC_one _ j) ?_; intro wq tq hq)
    | fail)
  refine post_n rfl (N + 1 + 1) rfl hq undT szT rfl ?_
  exact ⟨rfl, tq.below (lo4.trans (hbc.mono (by omega))) (by omega)⟩
end Go.Proofs.YtbbfdehipgkjmaaDoor
namespace Go.Proofs.YtbbfdehipgkjmaaDoor
open Go Go.RowKit
/-- How many bits these are. -/
def cutB (z : Int) : Nat := if z = 1 then 8 else if z = 2 then 16 else if z = 4 then 32 else 64
def tCut (x : W) (z : Int) : W := BitVec.ofNat 64 (x.toNat % 2 ^ cutB z)
theorem qn_cut (x : W) (z : Int) : qn (tCut x z) = qn x % 2 ^ cutB z := by
  unfold qn tCut
  rw [BitVec.toNat_ofNat]
  have h1 : x.toNat % 2 ^ cutB z ≤ x.toNat := Nat.mod_le _ _
  have := x.isLt
  rw [Nat.mod_eq_of_lt (by omega)]
  push_cast; rfl
theorem cut_u8 (x : W) : qn (tCut x 1) = qn x % 256 ∧ IntKind.u64.wrap (IntKind.u8.wrap (qn x)) = qn x % 256 := by
  have h1 := qn_lo x
  have e : IntKind.u8.wrap (qn x) = qn x % 256 := by simp [IntKind.wrap, IntKind.signed, IntKind.bits]
  refine ⟨qn_cut x 1, ?_⟩
  rw [e, wrap_u, qn_ofInt]
  omega
theorem cut_u16 (x : W) : qn (tCut x 2) = qn x % 65536 ∧ IntKind.u64.wrap (IntKind.u16.wrap (qn x)) = qn x % 65536 := by
  have h1 := qn_lo x
  have e : IntKind.u16.wrap (qn x) = qn x % 65536 := by simp [IntKind.wrap, IntKind.signed, IntKind.bits]
  refine ⟨qn_cut x 2, ?_⟩
  rw [e, wrap_u, qn_ofInt]
  omega
theorem cut_u32 (x : W) : qn (tCut x 4) = qn x % 4294967296 ∧ IntKind.u64.wrap (IntKind.u32.wrap (qn x)) = qn x % 4294967296 := by
  have h1 := qn_lo x
  have e : IntKind.u32.wrap (qn x) = qn x % 4294967296 := by simp [IntKind.wrap, IntKind.signed, IntKind.bits]
  refine ⟨qn_cut x 4, ?_⟩
  rw [e, wrap_u, qn_ofInt]
  omega
def tLow (a : Nm) (z : Int) : Nm := ⟨tCut a.v z, tCut a.m z⟩

set_option maxRecDepth 100000 in
theorem cut_any (x : W) (z : Int) (w : World) (N : Nat) (hN : Sz w N) : Calls Tryd.prog 49 #[Q x, .int .i64 z] w fun e w' => e = .returned (Q (tCut x z)) ∧ Below N w w' := by
  have h1 := hid (qn_lo x)
  have h2 := hid (qn_hi x)
  by_cases z1 : z = 1
  · subst z1
    have E := hid (cut_u8 x)
    unfold Q
    go_enter Tryd.func49, Tryd.ntmps49
    go_wp2
    go_ret
    refine ⟨?_, Below.refl N w⟩
    first | (rw [E.out.1]; rfl) | (rw [E.out.2]; rfl) | (rw [E.out.1, ← E.out.2]; rfl)
  by_cases z2 : z = 2
  · subst z2
    have E := hid (cut_u16 x)
    unfold Q
    go_enter Tryd.func49, Tryd.ntmps49
    go_wp2
    go_ret
    refine ⟨?_, Below.refl N w⟩
    first | (rw [E.out.1]; rfl) | (rw [E.out.2]; rfl) | (rw [E.out.1, ← E.out.2]; rfl)
  by_cases z4 : z = 4
  · subst z4
    have E := hid (cut_u32 x)
    unfold Q
    go_enter Tryd.func49, Tryd.ntmps49
    go_wp2
    go_ret
    refine ⟨?_, Below.refl N w⟩
    first | (rw [E.out.1]; rfl) | (rw [E.out.2]; rfl) | (rw [E.out.1, ← E.out.2]; rfl)
  have e : qn (tCut x z) = qn x := by
    have := h1.out; have := h2.out
    rw [qn_cut]; unfold cutB; rw [if_neg z1, if_neg z2, if_neg z4]; omega
  have E := hid e
  clear e
  have d1 : (z == 1) = false := beq_eq_false_iff_ne.2 z1
  have d2 : (z == 2) = false := beq_eq_false_iff_ne.2 z2
  have d4 : (z == 4) = false := beq_eq_false_iff_ne.2 z4
  have Z := hid (And.intro z1 (And.intro z2 z4))
  clear z1 z2 z4
  unfold Q
  go_enter Tryd.func49, Tryd.ntmps49
  go_wp2
  go_ret
  refine ⟨?_, Below.refl N w⟩
  rw [E.out]; rfl
set_option maxRecDepth 100000 in
set_option maxHeartbeats 1000000 in
theorem Low_any (a : Nm) (z : Int) (w : World) (N : Nat) (hN : Sz w N) : Calls Tryd.prog 18 #[nV a, .int .i64 z] w fun e w' => e = .returned (nV (tLow a z)) ∧ Below N w w' := by
  unfold nV
  go_enter Tryd.func18, Tryd.ntmps18
  go_upto_region 1 with (first
    | (refine wpl_box rfl 25 (.tmp 0) rfl 2 _ rfl (N) hN ?_; intro w1 hN1 hb1 hh1)
    | (refine wpl_alloc rfl 25 rfl 2 (nC zeroN) zeT (N + 1) hN1 ?_; intro w2 hN2 hb2 hh2)
    | fail)
  have lo : Below N w w2 := hb1.trans (hb2.mono (by omega))
  have k1 := hh1.below hb2 (by omega)
  refine wp_region_any (by kernel_rfl) ?_
  replace k1 : Has w2.drew N 25 2 (nC a) := k1
  replace hh2 : Has w2.drew (N + 1) 25 2 (nC zeroN) := hh2
  replace hN2 : Sz w2.drew (N + 1 + 1) := hN2
  replace lo : Below N w w2.drew := lo.drew
  change wpAny _ _ _ _ _ _ _ (World.drew _)
  generalize w2.drew = w4 at *
  clear hh1 hb1 hb2 hN1
  obtain ⟨f0, g0⟩ := n_cells k1
  refine wpAny_pot (rem := [0, 1, 2, 3, 4, 5, 6, 7, 8]) (FG (N + 1 + 1) (fun j => if j = 0 then some (Value.pointer (some ⟨N, 0, none⟩)) else if j = 1 then some (Q a.v) else if j = 2 then some (Value.int .i64 z) else if j = 3 then some (Q (tCut a.v z)) else if j = 4 then some (Value.pointer (some ⟨N, 1, none⟩)) else if j = 5 then some (Q a.m) else if j = 6 then some (Value.int .i64 z) else if j = 7 then some (Q (tCut a.m z)) else some (Value.agg (cellsOf (nC ⟨(tCut a.v z), (tCut a.m z)⟩) 2))) (fun j => (0, 0, fun _ => undef))) (TwoN (fun j => if j = 0 then some (Value.pointer (some ⟨N, 0, none⟩)) else if j = 1 then some (Q a.v) else if j = 2 then some (Value.int .i64 z) else if j = 3 then some (Q (tCut a.v z)) else if j = 4 then some (Value.pointer (some ⟨N, 1, none⟩)) else if j = 5 then some (Q a.m) else if j = 6 then some (Value.int .i64 z) else if j = 7 then some (Q (tCut a.m z)) else some (Value.agg (cellsOf (nC ⟨(tCut a.v z), (tCut a.m z)⟩) 2)))) (Below (N + 1 + 1) w4) _ _ _ _ (by kernel_rfl) (size_dstG (by kernel_rfl)) (Below.refl _ _) ?_ ?_
  · intro i hi ac wa hI ha hv
    simp only [List.mem_cons, List.not_mem_nil, or_false] at hi
    rcases hi with rfl | rfl | rfl | rfl | rfl | rfl | rfl | rfl | rfl
    · exact potg_run rfl rfl (Value.pointer (some ⟨N, 0, none⟩)) rfl (run_fa 25 (.tmp 2) 0 0 rfl (ha 2 (not_dstG (by kernel_rfl))) faT0) hN2 hI
    · obtain ⟨v0, hv0a, hv0b⟩ := hv 0 (by simp) (by kernel_rfl)
      have ev0 := hv0b.val rfl
      subst ev0
      exact potg_run rfl rfl (Q a.v) rfl (run_c1 23 (.tmp 5) rfl ⟨N, 0, none⟩ (hv0a 5 rfl) und64 rfl (keep_c hI hN2 f0)) hN2 hI
    · exact potg_run rfl rfl (Value.int .i64 z) rfl (run_mv (x := (.tmp 1)) rfl _ (ha 1 (not_dstG (by kernel_rfl)))) hN2 hI
    · obtain ⟨v1, hv1a, hv1b⟩ := hv 1 (by simp) (by kernel_rfl)
      have ev1 := hv1b.val rfl
      subst ev1
      obtain ⟨v2, hv2a, hv2b⟩ := hv 2 (by simp) (by kernel_rfl)
      have ev2 := hv2b.val rfl
      subst ev2
      exact potg_cl rfl rfl 49 _ _ rfl #[(Q a.v), (Value.int .i64 z)] (by simp only [List.map_toArray, List.map_cons, List.map_nil, (show ac.eval (.tmp 6) = (Q a.v) from (hv1a 6 rfl)), (show ac.eval (.tmp 7) = (Value.int .i64 z) from (hv2a 7 rfl))] <;> rfl) (by kernel_rfl) (Q (tCut a.v z)) (fun K hK => cut_any a.v z wa K hK) rfl hN2 hI
    · exact potg_run rfl rfl (Value.pointer (some ⟨N, 1, none⟩)) rfl (run_fa 25 (.tmp 2) 1 1 rfl (ha 2 (not_dstG (by kernel_rfl))) faT1) hN2 hI
    · obtain ⟨v4, hv4a, hv4b⟩ := hv 4 (by simp) (by kernel_rfl)
      have ev4 := hv4b.val rfl
      subst ev4
      exact potg_run rfl rfl (Q a.m) rfl (run_c1 23 (.tmp 9) rfl ⟨N, 1, none⟩ (hv4a 9 rfl) und64 rfl (keep_c hI hN2 g0)) hN2 hI
    · exact potg_run rfl rfl (Value.int .i64 z) rfl (run_mv (x := (.tmp 1)) rfl _ (ha 1 (not_dstG (by kernel_rfl)))) hN2 hI
    · obtain ⟨v5, hv5a, hv5b⟩ := hv 5 (by simp) (by kernel_rfl)
      have ev5 := hv5b.val rfl
      subst ev5
      obtain ⟨v6, hv6a, hv6b⟩ := hv 6 (by simp) (by kernel_rfl)
      have ev6 := hv6b.val rfl
      subst ev6
      exact potg_cl rfl rfl 49 _ _ rfl #[(Q a.m), (Value.int .i64 z)] (by simp only [List.map_toArray, List.map_cons, List.map_nil, (show ac.eval (.tmp 10) = (Q a.m) from (hv5a 10 rfl)), (show ac.eval (.tmp 11) = (Value.int .i64 z) from (hv6a 11 rfl))] <;> rfl) (by kernel_rfl) (Q (tCut a.m z)) (fun K hK => cut_any a.m z wa K hK) rfl hN2 hI
    · obtain ⟨v3, hv3a, hv3b⟩ := hv 3 (by simp) (by kernel_rfl)
      have ev3 := hv3b.val rfl
      subst ev3
      obtain ⟨v7, hv7a, hv7b⟩ := hv 7 (by simp) (by kernel_rfl)
      have ev7 := hv7b.val rfl
      subst ev7
      exact potg_run rfl rfl (Value.agg (cellsOf (nC ⟨(tCut a.v z), (tCut a.m z)⟩) 2)) rfl (run_bd 25 _ rfl _ (by simp only [List.map_toArray, List.map_cons, List.map_nil, (show ac.eval (.tmp 8) = (Q (tCut a.v z)) from (hv3a 8 rfl)), (show ac.eval (.tmp 12) = (Q (tCut a.m z)) from (hv7a 12 rfl))]; kernel_rfl) wa) hN2 hI
  · intro vals w5 hb5 hF hG
    have e0 := (hF 0 (by simp)).val rfl
    have e1 := (hF 1 (by simp)).val rfl
    have e2 := (hF 2 (by simp)).val rfl
    have e3 := (hF 3 (by simp)).val rfl
    have e4 := (hF 4 (by simp)).val rfl
    have e5 := (hF 5 (by simp)).val rfl
    have e6 := (hF 6 (by simp)).val rfl
    have e7 := (hF 7 (by simp)).val rfl
    have e8 := (hF 8 (by simp)).val rfl
    clear hF hG
    simp only [List.foldl_cons, List.foldl_nil, dstOf, List.getElem?_toArray, List.getElem?_cons_succ, List.getElem?_cons_zero, Option.bind_some, Act.put, List.setIfInBounds_toArray, List.set_cons_succ, List.set_cons_zero, e0, e1, e2, e3, e4, e5, e6, e7, e8]
    clear e0 e1 e2 e3 e4 e5 e6 e7 e8
    refine wpAny_chain [9] _ _ _ _ (by kernel_rfl) (by decide) ?_
    simp only [List.filterMap_cons, List.filterMap_nil, List.getElem?_toArray, List.getElem?_cons_succ, List.getElem?_cons_zero]
    refine wpl_store rfl 25 (.tmp 4) (.tmp 13) rfl (N + 1) 2 (nC (tLow a z)) rfl rfl 25 _ (hh2.below hb5 (by omega)) szT (fun j _ => nC_one _ j) ?_
    intro wq tq hq
    go_wp2_with fail
    refine post_n rfl (N + 1) rfl hq undT szT rfl ?_
    exact ⟨rfl, tq.below (lo.trans (hb5.mono (by omega))) (by omega)⟩
set_option maxRecDepth 100000 in
set_option maxHeartbeats 1000000 in
theorem Within_any (a b : Nm) (w : World) (N : Nat) (hN : Sz w N) : Calls Tryd.prog 34 #[nV a, nV b] w fun e w' => e = .returned (.bool (tWithin a b)) ∧ Below N w w' := by
  unfold nV
  go_enter Tryd.func34, Tryd.ntmps34
  go_upto_region 1 with (first
    | (refine wpl_box rfl 25 (.tmp 0) rfl 2 _ rfl (N) hN ?_; intro w1 hN1 hb1 hh1)
    | (refine wpl_box rfl 25 (.tmp 1) rfl 2 _ rfl (N + 1) hN1 ?_; intro w2 hN2 hb2 hh2)
    | fail)
  have lo : Below N w w2 := (hb1.trans (hb2.mono (by omega)))
  have kk0 := (hh1.below hb2 (by omega))
  obtain ⟨f0, g0⟩ := n_cells kk0
  obtain ⟨f1, g1⟩ := n_cells hh2
  clear hh1 hb1 hb2 hN1
  cases er : tRight a
  · have E := hid (show tWithin a b = true by unfold tWithin; rw [er]; rfl)
    have Er := hid er
    clear er
    refine wp_region_later1 (N + 1 + 1) ?_
    refine later_row hN2 25 (.tmp 2) rfl (N) rfl 25 2 _ kk0 undT szT (by rfl) ?_; simp only [pA]
    go_big_quiet_step ((go_at_call 35; exact later_of hN2 _ (fun K hK hKN => ret_is Er.out (Right_any a) _ K hK)))
    go_big_quiet_step (fail)
    go_big_quiet_step (fail)
    go_big_quiet_step (fail)
    go_big_quiet_step (fail)
    go_big_quiet_step (fail)
    go_big_quiet_step (fail)
    go_big_quiet_step (fail)
    go_big_quiet_step (fail)
    go_big_quiet_step (fail)
    go_big_quiet_step (fail)
    go_big_quiet_step (fail)
    go_big_quiet_step (fail)
    go_big_quiet_step (fail)
    go_big_quiet_step (fail)
    go_big_quiet_step (fail)
    go_big_quiet_step (fail)
    refine wpQuiet_nil ?_
    rintro w3 ⟨qw3, ew3⟩
    have hbw3 := qw3.b
    rw [← ew3] at hbw3
    clear qw3 ew3
    go_wp2_with fail
    go_ret
    exact ⟨by rw [E.out]; rfl, lo.trans (hbw3.mono (by omega))⟩
  · have Er := hid er
    cases em : (a.m &&& ~~~b.m == 0#64)
    · have E := hid (show tWithin a b = false by unfold tWithin; rw [er, em]; rfl)
      have Em := hid em
      clear em er
      refine wp_region_later1 (N + 1 + 1) ?_
      refine later_row hN2 25 (.tmp 2) rfl (N) rfl 25 2 _ kk0 undT szT (by rfl) ?_; simp only [pA]
      go_big_quiet_step ((go_at_call 35; exact later_of hN2 _ (fun K hK hKN => ret_is Er.out (Right_any a) _ K hK)))
      go_big_quiet_step (fail)
      go_big_quiet_step (fail)
      go_big_quiet_step (fail)
      refine later_c1 hN2 23 (.tmp 9) rfl rfl und64 rfl g0 (by rfl) ?_; simp only [pA]
      go_big_quiet_step (fail)
      refine later_c1 hN2 23 (.tmp 11) rfl rfl und64 rfl g1 (by rfl) ?_; simp only [pA]
      refine later_b (x := (.tmp 10)) (y := (.tmp 12)) rfl (bin_andn _ a.m b.m) rfl rfl (by rfl) ?_; simp only [pA]
      refine later_b (x := (.tmp 13)) (y := (.const (.int .u64 0))) rfl (BinRun.is Em.out (bin_eql _ (a.m &&& ~~~b.m) 0#64)) rfl rfl (by rfl) ?_; simp only [pA]
      go_big_quiet_step (fail)
      go_big_quiet_step (fail)
      go_big_quiet_step (fail)
      go_big_quiet_step (fail)
      go_big_quiet_step (fail)
      go_big_quiet_step (fail)
      go_big_quiet_step (fail)
      go_big_quiet_step (fail)
      refine wpQuiet_nil ?_
      rintro w3 ⟨qw3, ew3⟩
      have hbw3 := qw3.b
      rw [← ew3] at hbw3
      clear qw3 ew3
      go_wp2_with fail
      go_ret
      exact ⟨by rw [E.out]; rfl, lo.trans (hbw3.mono (by omega))⟩
    · have E := hid (show tWithin a b = tHas b a.v by unfold tWithin; rw [er, em]; rfl)
      have Em := hid em
      clear em er
      refine wp_region_later1 (N + 1 + 1) ?_
      refine later_row hN2 25 (.tmp 2) rfl (N) rfl 25 2 _ kk0 undT szT (by rfl) ?_; simp only [pA]
      go_big_quiet_step ((go_at_call 35; exact later_of hN2 _ (fun K hK hKN => ret_is Er.out (Right_any a) _ K hK)))
      go_big_quiet_step (fail)
      go_big_quiet_step (fail)
      go_big_quiet_step (fail)
      refine later_c1 hN2 23 (.tmp 9) rfl rfl und64 rfl g0 (by rfl) ?_; simp only [pA]
      go_big_quiet_step (fail)
      refine later_c1 hN2 23 (.tmp 11) rfl rfl und64 rfl g1 (by rfl) ?_; simp only [pA]
      refine later_b (x := (.tmp 10)) (y := (.tmp 12)) rfl (bin_andn _ a.m b.m) rfl rfl (by rfl) ?_; simp only [pA]
      refine later_b (x := (.tmp 13)) (y := (.const (.int .u64 0))) rfl (BinRun.is Em.out (bin_eql _ (a.m &&& ~~~b.m) 0#64)) rfl rfl (by rfl) ?_; simp only [pA]
      go_big_quiet_step (fail)
      refine later_row hN2 25 (.tmp 3) rfl (N + 1) rfl 25 2 _ hh2 undT szT (by rfl) ?_; simp only [pA]
      go_big_quiet_step (fail)
      refine later_c1 hN2 23 (.tmp 17) rfl rfl und64 rfl f0 (by rfl) ?_; simp only [pA]
      go_big_quiet_step ((go_at_call 26; exact later_of hN2 _ (fun K hK hKN => Has_any b a.v _ K hK)))
      go_big_quiet_step (fail)
      go_big_quiet_step (fail)
      go_big_quiet_step (fail)
      refine wpQuiet_nil ?_
      rintro w3 ⟨qw3, ew3⟩
      have hbw3 := qw3.b
      rw [← ew3] at hbw3
      clear qw3 ew3
      go_wp2_with fail
      go_ret
      exact ⟨by rw [E.out]; rfl, lo.trans (hbw3.mono (by omega))⟩
end Go.Proofs.YtbbfdehipgkjmaaDoor
namespace Go.Proofs.YtbbfdehipgkjmaaDoor
open Go Go.RowKit
end Go.Proofs.YtbbfdehipgkjmaaDoor
namespace Go.Proofs.YtbbfdehipgkjmaaDoor
open Go Go.RowKit
def dC (D : Nat → W) : Nat → Value := fun j => Q (D j)
theorem run_ex {P : Program} {a : Act} {o : Oper} {x : Operand} {k : Nat} (ho : o.op = .extract x k) (w : World) {vs : Array Value} {v : Value} (hx : a.eval x = .tuple vs) (hv : vs[k]? = some v) : (execOp a.eval o).run P w = .ok (.value v) w := by
  unfold execOp
  simp [ho, hx, hv, Sem.run_bind, Instr.extract]
/-- What both have. -/
def meetN (a b : Nm) : Nm := (tMeet a b).1
def meetB (a b : Nm) : Bool := (tMeet a b).2
end Go.Proofs.YtbbfdehipgkjmaaDoor
namespace Go.Proofs.YtbbfdehipgkjmaaDoor
open Go Go.RowKit
theorem post_nb {fn : Func} {R : Ending → World → Prop} {p u : Tmp} {T : TypeId} {a : Act} {w : World} (hr : fn.results = #[.cell p T, .tmp u]) (b : Nat) (hp : a.tmps.getD p undef = .pointer (some ⟨b, 0, none⟩))
    {r : Nm} (hh : Has w b T 2 (nC r)) (hu : ∃ d, Tryd.prog.underlying T = some d ∧ d.isRow = true) (hi : (Tryd.prog.info? T).map (·.size) = some 2) {x : Value} (hx : a.tmps.getD u undef = x)
    (hdef : a.defers = []) (hR : R (.returned (.tuple #[nV r, x])) w) : bodyPost Tryd.prog fn R .ret a w := by
  obtain ⟨d, h1, h2⟩ := hu
  refine bodyPost_ret (v := .tuple #[nV r, x]) ?_ hdef hR
  have hld := run_loadVar_row (P := Tryd.prog) w b T T (cellsOf (nC r) 2) (0, 0) d hh h1 (by cases d <;> simp_all) (by rw [hi, size_cellsOf])
  rw [results_cell_tmp hr a.tmps Tryd.prog w, hp, hx]
  simp [asAddr, hld, nV]
theorem meet_no {a b : Nm} (h : (tMeet a b) = (⟨0#64, 0#64⟩, false)) : meetN a b = zeroN ∧ meetB a b = false := by
  unfold meetN meetB; rw [h]; exact ⟨rfl, rfl⟩
theorem meet_yes {a b : Nm} (h : (tMeet a b) = (⟨a.v ||| b.v, a.m &&& b.m⟩, true)) : meetN a b = ⟨a.v ||| b.v, a.m &&& b.m⟩ ∧ meetB a b = true := by
  unfold meetN meetB; rw [h]; exact ⟨rfl, rfl⟩
set_option maxRecDepth 100000 in
set_option maxHeartbeats 2000000 in
theorem Meet_any (a b : Nm) (w : World) (N : Nat) (hN : Sz w N) : Calls Tryd.prog 36 #[nV a, nV b] w fun e w' => e = .returned (.tuple #[nV (meetN a b), .bool (meetB a b)]) ∧ Below N w w' := by
  obtain ⟨dT, u1, u2⟩ := undT
  unfold nV
  go_enter Tryd.func36, Tryd.ntmps36
  go_upto_region 1 with (first
    | (refine wpl_box rfl 25 (.tmp 0) rfl 2 _ rfl (N) hN ?_; intro w1 hN1 hb1 hh1)
    | (refine wpl_box rfl 25 (.tmp 1) rfl 2 _ rfl (N + 1) hN1 ?_; intro w2 hN2 hb2 hh2)
    | (refine wpl_alloc rfl 25 rfl 2 (nC zeroN) zeT (N + 1 + 1) hN2 ?_; intro w3 hN3 hb3 hh3)
    | fail)
  have lo0 : Below N w w3 := ((hb1.trans (hb2.mono (by omega))).trans (hb3.mono (by omega)))
  have k1 := ((hh1.below hb2 (by omega)).below hb3 (by omega))
  have k2 := (hh2.below hb3 (by omega))
  have k3 := hh3
  clear hh1 hb1 hh2 hb2 hh3 hb3 hN1 hN2
  go_upto_region 1 with fail
  obtain ⟨c4, c5⟩ := n_cells k1
  obtain ⟨c6, c7⟩ := n_cells k2
  refine wp_region_later1 ((N + 1 + 1 + 1)) ?_
  go_big_quiet_step (fail)
  refine later_c1 hN3 23 (.tmp 7) rfl rfl und64 rfl c4 (by rfl) ?_; simp only [pA]
  go_big_quiet_step (fail)
  refine later_c1 hN3 23 (.tmp 9) rfl rfl und64 rfl c6 (by rfl) ?_; simp only [pA]
  refine later_b (x := (.tmp 8)) (y := (.tmp 10)) rfl (bin_xor _ a.v b.v) rfl rfl (by rfl) ?_; simp only [pA]
  go_big_quiet_step (fail)
  refine later_c1 hN3 23 (.tmp 12) rfl rfl und64 rfl c5 (by rfl) ?_; simp only [pA]
  go_big_quiet_step (fail)
  refine later_c1 hN3 23 (.tmp 14) rfl rfl und64 rfl c7 (by rfl) ?_; simp only [pA]
  refine later_b (x := (.tmp 13)) (y := (.tmp 15)) rfl (bin_or _ a.m b.m) rfl rfl (by rfl) ?_; simp only [pA]
  refine later_b (x := (.tmp 11)) (y := (.tmp 16)) rfl (bin_andn _ (a.v ^^^ b.v) (a.m ||| b.m)) rfl rfl (by rfl) ?_; simp only [pA]
  go_big_quiet_step (fail)
  refine wpQuiet_nil ?_
  rintro xw8 ⟨qxw8, exw8⟩
  have hbxw8 := qxw8.b
  rw [← exw8] at hbxw8
  clear qxw8 exw8
  obtain ⟨M9, hM9⟩ := sz_some xw8
  have lM9 := below_sz hbxw8 hN3 hM9
  have k10 := k1.below hbxw8 (by omega)
  have k11 := k2.below hbxw8 (by omega)
  have k12 := k3.below hbxw8 (by omega)
  have lo13 := lo0.trans (hbxw8.mono (by omega))
  clear k1 c4 c5 k2 c6 c7 k3 lo0 hbxw8
  go_upto_region 2 with fail
  cases ra : tRight a
  · have E := hid (meet_no (show tMeet a b = _ by unfold tMeet; rw [ra]; rfl))
    have Ra := hid ra
    clear ra
    refine wp_region_later1 (M9) ?_
    try simp only [pA]
    refine later_row hM9 25 (.tmp 2) rfl (N) rfl 25 2 _ k10 undT szT (by rfl) ?_; simp only [pA]
    go_big_quiet_step ((go_at_call 35; exact later_of hM9 _ (fun K hK hKN => ret_is Ra.out (Right_any a) _ K hK)))
    go_big_quiet_step (fail)
    go_big_quiet_step (fail)
    go_big_quiet_step (fail)
    go_big_quiet_step (fail)
    go_big_quiet_step (fail)
    go_big_quiet_step (fail)
    go_big_quiet_step (fail)
    go_big_quiet_step (fail)
    go_big_quiet_step (fail)
    go_big_quiet_step (fail)
    refine wpQuiet_nil ?_
    rintro xw14 ⟨qxw14, exw14⟩
    have hbxw14 := qxw14.b
    rw [← exw14] at hbxw14
    clear qxw14 exw14
    obtain ⟨M15, hM15⟩ := sz_some xw14
    have lM15 := below_sz hbxw14 hM9 hM15
    have k16 := k10.below hbxw14 (by omega)
    have k17 := k11.below hbxw14 (by omega)
    have k18 := k12.below hbxw14 (by omega)
    have lo19 := lo13.trans (hbxw14.mono (by omega))
    clear k10 k11 k12 lo13 hbxw14
    go_wp2_with (first
      | (refine wpl_build rfl 25 _ rfl (cellsOf (nC zeroN) 2) (by kernel_rfl) ?_)
      | (refine wpl_store rfl 25 (.tmp 4) (.tmp 30) rfl (N + 1 + 1) 2 (nC zeroN) rfl rfl 25 _ k18 szT (fun j _ => nC_one _ j) ?_; intro wq tq hq)
      | fail)
    refine post_nb rfl (N + 1 + 1) rfl hq ⟨dT, u1, u2⟩ szT rfl rfl ?_
    exact ⟨by rw [E.out.1, E.out.2]; rfl, tq.below lo19 (by omega)⟩
  cases rb : tRight b
  · have E := hid (meet_no (show tMeet a b = _ by unfold tMeet; rw [ra, rb]; rfl))
    have Ra := hid ra
    have Rb := hid rb
    clear ra rb
    refine wp_region_later1 (M9) ?_
    try simp only [pA]
    refine later_row hM9 25 (.tmp 2) rfl (N) rfl 25 2 _ k10 undT szT (by rfl) ?_; simp only [pA]
    go_big_quiet_step ((go_at_call 35; exact later_of hM9 _ (fun K hK hKN => ret_is Ra.out (Right_any a) _ K hK)))
    go_big_quiet_step (fail)
    go_big_quiet_step (fail)
    refine later_row hM9 25 (.tmp 3) rfl ((N + 1)) rfl 25 2 _ k11 undT szT (by rfl) ?_; simp only [pA]
    go_big_quiet_step ((go_at_call 35; exact later_of hM9 _ (fun K hK hKN => ret_is Rb.out (Right_any b) _ K hK)))
    go_big_quiet_step (fail)
    go_big_quiet_step (fail)
    go_big_quiet_step (fail)
    go_big_quiet_step (fail)
    go_big_quiet_step (fail)
    go_big_quiet_step (fail)
    refine wpQuiet_nil ?_
    rintro xw14 ⟨qxw14, exw14⟩
    have hbxw14 := qxw14.b
    rw [← exw14] at hbxw14
    clear qxw14 exw14
    obtain ⟨M15, hM15⟩ := sz_some xw14
    have lM15 := below_sz hbxw14 hM9 hM15
    have k16 := k10.below hbxw14 (by omega)
    have k17 := k11.below hbxw14 (by omega)
    have k18 := k12.below hbxw14 (by omega)
    have lo19 := lo13.trans (hbxw14.mono (by omega))
    clear k10 k11 k12 lo13 hbxw14
    go_wp2_with (first
      | (refine wpl_build rfl 25 _ rfl (cellsOf (nC zeroN) 2) (by kernel_rfl) ?_)
      | (refine wpl_store rfl 25 (.tmp 4) (.tmp 30) rfl (N + 1 + 1) 2 (nC zeroN) rfl rfl 25 _ k18 szT (fun j _ => nC_one _ j) ?_; intro wq tq hq)
      | fail)
    refine post_nb rfl (N + 1 + 1) rfl hq ⟨dT, u1, u2⟩ szT rfl rfl ?_
    exact ⟨by rw [E.out.1, E.out.2]; rfl, tq.below lo19 (by omega)⟩
  cases ap : (((a.v ^^^ b.v) &&& ~~~(a.m ||| b.m)) != 0#64)
  · have E := hid (meet_yes (show tMeet a b = _ by unfold tMeet; rw [ra, rb, ap]; rfl))
    have Ra := hid ra
    have Rb := hid rb
    have Ap := hid ap
    clear ra rb ap
    refine wp_region_later1 (M9) ?_
    try simp only [pA]
    refine later_row hM9 25 (.tmp 2) rfl (N) rfl 25 2 _ k10 undT szT (by rfl) ?_; simp only [pA]
    go_big_quiet_step ((go_at_call 35; exact later_of hM9 _ (fun K hK hKN => ret_is Ra.out (Right_any a) _ K hK)))
    go_big_quiet_step (fail)
    go_big_quiet_step (fail)
    refine later_row hM9 25 (.tmp 3) rfl ((N + 1)) rfl 25 2 _ k11 undT szT (by rfl) ?_; simp only [pA]
    go_big_quiet_step ((go_at_call 35; exact later_of hM9 _ (fun K hK hKN => ret_is Rb.out (Right_any b) _ K hK)))
    go_big_quiet_step (fail)
    go_big_quiet_step (fail)
    go_big_quiet_step (fail)
    go_big_quiet_step (fail)
    refine later_b (x := (.tmp 27)) (y := (.const (.int .u64 0))) rfl (BinRun.is Ap.out (bin_neq _ ((a.v ^^^ b.v) &&& ~~~(a.m ||| b.m)) 0#64)) rfl rfl (by rfl) ?_; simp only [pA]
    go_big_quiet_step (fail)
    refine wpQuiet_nil ?_
    rintro xw14 ⟨qxw14, exw14⟩
    have hbxw14 := qxw14.b
    rw [← exw14] at hbxw14
    clear qxw14 exw14
    obtain ⟨M15, hM15⟩ := sz_some xw14
    have lM15 := below_sz hbxw14 hM9 hM15
    have k16 := k10.below hbxw14 (by omega)
    have k17 := k11.below hbxw14 (by omega)
    have k18 := k12.below hbxw14 (by omega)
    have lo19 := lo13.trans (hbxw14.mono (by omega))
    clear k10 k11 k12 lo13 hbxw14
    obtain ⟨c20, c21⟩ := n_cells k16
    obtain ⟨c22, c23⟩ := n_cells k17
    unfold Q at c20 c21 c22 c23
    go_wp2_with (first
      | (refine wpl_b rfl rfl (bin_or _ _ _) rfl rfl ?_)
      | (refine wpl_b rfl rfl (bin_and _ _ _) rfl rfl ?_)
      | (refine wpl_build rfl 25 _ rfl (cellsOf (nC ⟨a.v ||| b.v, a.m &&& b.m⟩) 2) (by kernel_rfl) ?_)
      | (refine wpl_store rfl 25 (.tmp 4) (.tmp 41) rfl (N + 1 + 1) 2 (nC ⟨a.v ||| b.v, a.m &&& b.m⟩) rfl rfl 25 _ k18 szT (fun j _ => nC_one _ j) ?_; intro wq tq hq)
      | fail)
    refine post_nb rfl (N + 1 + 1) rfl hq ⟨dT, u1, u2⟩ szT rfl rfl ?_
    exact ⟨by rw [E.out.1, E.out.2]; rfl, tq.below lo19 (by omega)⟩
  · have E := hid (meet_no (show tMeet a b = _ by unfold tMeet; rw [ra, rb, ap]; rfl))
    have Ra := hid ra
    have Rb := hid rb
    have Ap := hid ap
    clear ra rb ap
    refine wp_region_later1 (M9) ?_
    try simp only [pA]
    refine later_row hM9 25 (.tmp 2) rfl (N) rfl 25 2 _ k10 undT szT (by rfl) ?_; simp only [pA]
    go_big_quiet_step ((go_at_call 35; exact later_of hM9 _ (fun K hK hKN => ret_is Ra.out (Right_any a) _ K hK)))
    go_big_quiet_step (fail)
    go_big_quiet_step (fail)
    refine later_row hM9 25 (.tmp 3) rfl ((N + 1)) rfl 25 2 _ k11 undT szT (by rfl) ?_; simp only [pA]
    go_big_quiet_step ((go_at_call 35; exact later_of hM9 _ (fun K hK hKN => ret_is Rb.out (Right_any b) _ K hK)))
    go_big_quiet_step (fail)
    go_big_quiet_step (fail)
    go_big_quiet_step (fail)
    go_big_quiet_step (fail)
    refine later_b (x := (.tmp 27)) (y := (.const (.int .u64 0))) rfl (BinRun.is Ap.out (bin_neq _ ((a.v ^^^ b.v) &&& ~~~(a.m ||| b.m)) 0#64)) rfl rfl (by rfl) ?_; simp only [pA]
    go_big_quiet_step (fail)
    refine wpQuiet_nil ?_
    rintro xw14 ⟨qxw14, exw14⟩
    have hbxw14 := qxw14.b
    rw [← exw14] at hbxw14
    clear qxw14 exw14
    obtain ⟨M15, hM15⟩ := sz_some xw14
    have lM15 := below_sz hbxw14 hM9 hM15
    have k16 := k10.below hbxw14 (by omega)
    have k17 := k11.below hbxw14 (by omega)
    have k18 := k12.below hbxw14 (by omega)
    have lo19 := lo13.trans (hbxw14.mono (by omega))
    clear k10 k11 k12 lo13 hbxw14
    go_wp2_with (first
      | (refine wpl_build rfl 25 _ rfl (cellsOf (nC zeroN) 2) (by kernel_rfl) ?_)
      | (refine wpl_store rfl 25 (.tmp 4) (.tmp 30) rfl (N + 1 + 1) 2 (nC zeroN) rfl rfl 25 _ k18 szT (fun j _ => nC_one _ j) ?_; intro wq tq hq)
      | fail)
    refine post_nb rfl (N + 1 + 1) rfl hq ⟨dT, u1, u2⟩ szT rfl rfl ?_
    exact ⟨by rw [E.out.1, E.out.2]; rfl, tq.below lo19 (by omega)⟩
end Go.Proofs.YtbbfdehipgkjmaaDoor
namespace Go.Proofs.YtbbfdehipgkjmaaDoor
open Go Go.RowKit
theorem wpList_prefix {P : Program} {ops : Array Oper} {C : World → Prop} {R : Exit → Act → World → Prop} (l2 : List Oper) : ∀ (l : List Oper) (a : Act) (w : World), C w → wpQuiet P ops C (fun a' => ∀ w', C w' → wpList P ops R l2 a' w') l a → wpList P ops R (l ++ l2) a w
  | [], a, w, hC, h => h w hC
  | o :: rest, a, w, hC, h => by
    rw [List.cons_append]
    unfold wpQuiet at h
    unfold wpList
    split
    · rename_i hw
      rw [if_pos hw] at h
      refine Or.inl ?_
      obtain ⟨v, h1, h2⟩ := h
      have h3 := h1 w hC
      unfold Oper.quietAt at h3
      unfold Oper.wp
      generalize (execOp a.eval o).run P w = r at h3
      unfold Oper.quietUpon at h3
      split at h3
      · obtain ⟨rfl, rfl⟩ := h3; exact wpList_prefix l2 rest _ _ hC h2
      · obtain ⟨rfl, rfl⟩ := h3; exact wpList_prefix l2 rest _ _ hC h2
      · obtain ⟨rfl, h4⟩ := h3
        rw [Oper.upon_enter]
        refine h4.mono fun e w'' hh => ?_
        obtain ⟨rfl, h5⟩ := hh
        exact wpList_prefix l2 rest _ _ h5 h2
      · exact absurd h3 id
    · rename_i hw
      rw [if_neg hw] at h
      exact wpList_prefix l2 rest _ _ hC h
end Go.Proofs.YtbbfdehipgkjmaaDoor
