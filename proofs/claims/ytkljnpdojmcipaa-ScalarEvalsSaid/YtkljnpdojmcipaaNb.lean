/- Numbers of known bits as the program lays them: cells, types; '==' of them. -/
import Derived.Test.YtkljnpdojmcipaaChecked
import Derived.Test.YtkljnpdojmcipaaNc
import Derived.Test.YtkljnpdojmcipaaPotG
import Derived.Laws.StructEq
import Derived.Deep.CutBlock
import Derived.Deep.DeepCutAuto
import Derived.Deep.LoopGhost
import Derived.Deep.QuietTactic
import Derived.BigQuiet
namespace Go.Proofs.Ytkljnpdojmcipaa
open Go Go.RowKit
def nC (a : Nm) : Nat → Value := fun j => if j = 0 then Q a.v else Q a.m
def nV (a : Nm) : Value := .agg (cellsOf (nC a) 2)
theorem nC_one (a : Nm) (j : Nat) : (nC a j).oneCell' = true := by
  unfold nC Q
  split <;> rfl
def zeroN : Nm := ⟨0#64, 0#64⟩
theorem row_ofN {P : Program} {T : TypeId} (h : (P.underlying T).map (·.isRow) = some true) : ∃ d, P.underlying T = some d ∧ d.isRow = true := by
  cases hq : P.underlying T with
  | none => rw [hq] at h; cases h
  | some d => rw [hq] at h; exact ⟨d, rfl, by simpa using h⟩
theorem undT : ∃ d, Try.prog.underlying 39 = some d ∧ d.isRow = true := row_ofN (by kernel_rfl)
theorem undU : ∃ d, Try.prog.underlying 32 = some d ∧ d.isRow = true := row_ofN (by kernel_rfl)
theorem szT : (Try.prog.info? 39).map (·.size) = some 2 := by kernel_rfl
theorem szU : (Try.prog.info? 32).map (·.size) = some 2 := by kernel_rfl
theorem sz64 : (Try.prog.info? 22).map (·.size) = some 1 := by kernel_rfl
theorem zeT : (Try.prog.info? 39).map (fun i => (i.zero, i.size)) = some (some (.agg (cellsOf (nC zeroN) 2)), 2) := by kernel_rfl
theorem zeU : (Try.prog.info? 32).map (fun i => (i.zero, i.size)) = some (some (.agg (cellsOf (nC zeroN) 2)), 2) := by kernel_rfl
theorem n_cells {w : World} {b T : Nat} {a : Nm} (h : Has w b T 2 (nC a)) : w.cell? ⟨b, 0, none⟩ = some (Q a.v) ∧ w.cell? ⟨b, 1, none⟩ = some (Q a.m) := ⟨h.cell (by omega), h.cell (by omega)⟩
theorem post_n {fn : Func} {R : Ending → World → Prop} {p : Tmp} {T : TypeId} {a : Act} {w : World} (hr : fn.results = #[.cell p T]) (b : Nat) (hp : a.tmps.getD p undef = .pointer (some ⟨b, 0, none⟩))
    {r : Nm} (hh : Has w b T 2 (nC r)) (hu : ∃ d, Try.prog.underlying T = some d ∧ d.isRow = true) (hi : (Try.prog.info? T).map (·.size) = some 2)
    (hdef : a.defers = []) (hR : R (.returned (nV r)) w) : bodyPost Try.prog fn R .ret a w := by
  obtain ⟨d, h1, h2⟩ := hu
  exact post_cell hr b hp hh d h1 h2 hi hdef hR
theorem und64 : Try.prog.underlying 22 = some (.int .u64) := by kernel_rfl
theorem undBool : Try.prog.underlying 4 = some .bool := by kernel_rfl
theorem run_partN (e : TypeId) (d : TypeDesc) (he : Try.prog.underlying e = some d) (hd : (match d with | .struct _ | .array _ _ => false | _ => true) = true) (f : Nat → Value) (n i : Nat) (hi : i < n) (w : World) : (part e (cellsOf f n) i).run Try.prog w = .ok (f i) w := by
  have hagg : (isAgg e).run Try.prog w = .ok false w := by
    unfold isAgg
    rw [Sem.run_bind, run_underlying he w]
    cases d <;> simp_all
  simp [part, hagg, get_cellsOf f n i hi]
theorem run_fieldsN (d : Nat) (a b : Nm) (w : World) (fs : List Field) (h : fs.map (fun f => (f.name != "_", f.offset, f.type)) = [(true, 0, 22), (true, 1, 22)]) :
    (Op.eqFields (d + 1) (cellsOf (nC a) 2) (cellsOf (nC b) 2) fs).run Try.prog w = .ok (a.beq b) w := by
  have hl : fs.length = 2 := by have := congrArg List.length h; simpa using this
  obtain ⟨f0, f1, rfl⟩ : ∃ f0 f1, fs = [f0, f1] := by
    match fs, hl with
    | [f0, f1], _ => exact ⟨f0, f1, rfl⟩
  simp only [List.map_cons, List.map_nil, List.cons.injEq, Prod.mk.injEq, bne_iff_ne, ne_eq, and_true] at h
  obtain ⟨⟨n0, o0, t0⟩, ⟨n1, o1, t1⟩⟩ := h
  have c (x y : W) : (Op.equalIn (d + 1) 22 (Q x) (Q y)).run Try.prog w = .ok (x == y) w := by
    unfold Q
    rw [run_equalIn_int w d 22 .u64 .u64 (qn x) (qn y) und64, qn_beq]
  have P64 := fun f i hi w => run_partN 22 (.int .u64) und64 rfl f 2 i hi w
  have a0 : nC a 0 = Q a.v := rfl
  have a1 : nC a 1 = Q a.m := rfl
  have b0 : nC b 0 = Q b.v := rfl
  have b1 : nC b 1 = Q b.m := rfl
  simp only [Op.eqFields, n0, n1, o0, o1, t0, t1, not_false_eq_true, if_true, ne_eq, Sem.run_bind, P64 _ 0 (by omega), P64 _ 1 (by omega), Result.andThen_ok, a0, a1, b0, b1, c, Nm.beq]
  cases h0 : a.v == b.v <;> cases h1 : a.m == b.m <;> simp [P64 _ 1 (by omega), a1, b1, c, *]
theorem run_eqT (a b : Nm) (w : World) : (Op.equalIn 10000 39 (.agg (cellsOf (nC a) 2)) (.agg (cellsOf (nC b) 2))).run Try.prog w = .ok (a.beq b) w := by
  rw [run_equalIn_struct w 9999 39 _ _ (by kernel_rfl) (by kernel_rfl)]
  exact run_fieldsN 9998 a b w _ (by kernel_rfl)
theorem run_eqU (a b : Nm) (w : World) : (Op.equalIn 10000 32 (.agg (cellsOf (nC a) 2)) (.agg (cellsOf (nC b) 2))).run Try.prog w = .ok (a.beq b) w := by
  rw [run_equalIn_struct w 9999 32 _ _ (by kernel_rfl) (by kernel_rfl)]
  exact run_fieldsN 9998 a b w _ (by kernel_rfl)
end Go.Proofs.Ytkljnpdojmcipaa
