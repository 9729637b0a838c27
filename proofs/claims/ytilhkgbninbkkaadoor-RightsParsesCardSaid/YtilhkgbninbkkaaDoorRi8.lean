/- '==' of rights. -/
import Derived.Test.YtilhkgbninbkkaaDoorRi2
import Derived.Laws.StructEq
namespace Go.Proofs.YtilhkgbninbkkaaDoor
open Go Go.RowKit
theorem Rg.beq_fields (a b : Rg) : a.beq b = (a.c == b.c && (a.p == b.p && (a.m == b.m && (a.h == b.h && (a.v == b.v && a.s == b.s))))) := by
  unfold Rg.beq; simp only [Bool.and_assoc]
theorem run_part_rg (e : TypeId) (d : TypeDesc) (he : Tryd.prog.underlying e = some d) (hd : (match d with | .struct _ | .array _ _ => false | _ => true) = true) (f : Nat → Value) (n i : Nat) (hi : i < n) (w : World) : (part e (cellsOf f n) i).run Tryd.prog w = .ok (f i) w := by
  have hagg : (isAgg e).run Tryd.prog w = .ok false w := by
    unfold isAgg
    rw [Sem.run_bind, run_underlying he w]
    cases d <;> simp_all
  simp [part, hagg, get_cellsOf f n i hi]
theorem und16 : Tryd.prog.underlying 22 = some (.int .u16) := by kernel_rfl
theorem undBo : Tryd.prog.underlying 4 = some .bool := by kernel_rfl
theorem run_fields_rg (d : Nat) (a b : Rg) (w : World) (fs : List Field) (h : fs.map (fun f => (f.name != "_", f.offset, f.type)) = [(true, 0, 22), (true, 1, 22), (true, 2, 22), (true, 3, 22), (true, 4, 4), (true, 5, 4)]) :
    (Op.eqFields (d + 1) (cellsOf (rgC a) 6) (cellsOf (rgC b) 6) fs).run Tryd.prog w = .ok (a.beq b) w := by
  have hl : fs.length = 6 := by have := congrArg List.length h; simpa using this
  obtain ⟨f0, f1, f2, f3, f4, f5, rfl⟩ : ∃ f0 f1 f2 f3 f4 f5, fs = [f0, f1, f2, f3, f4, f5] := by
    match fs, hl with
    | [f0, f1, f2, f3, f4, f5], _ => exact ⟨f0, f1, f2, f3, f4, f5, rfl⟩
  simp only [List.map_cons, List.map_nil, List.cons.injEq, Prod.mk.injEq, bne_iff_ne, ne_eq, and_true] at h
  obtain ⟨⟨n0, o0, t0⟩, ⟨n1, o1, t1⟩, ⟨n2, o2, t2⟩, ⟨n3, o3, t3⟩, ⟨n4, o4, t4⟩, ⟨n5, o5, t5⟩⟩ := h
  have c (i : Nat) (x y : BitVec 16) : (Op.equalIn (d + 1) 22 (Wd x) (Wd y)).run Tryd.prog w = .ok (x == y) w := by
    unfold Wd
    rw [run_equalIn_int w d 22 .u16 .u16 (u6 x) (u6 y) und16, u6_beq]
  have e (x y : Bool) : (Op.equalIn (d + 1) 4 (.bool x) (.bool y)).run Tryd.prog w = .ok (x == y) w := run_equalIn_bool w d 4 x y undBo
  have q (r : Rg) : rgC r 0 = Wd r.c ∧ rgC r 1 = Wd r.p ∧ rgC r 2 = Wd r.m ∧ rgC r 3 = Wd r.h ∧ rgC r 4 = .bool r.v ∧ rgC r 5 = .bool r.s := ⟨rfl, rfl, rfl, rfl, rfl, rfl⟩
  obtain ⟨a0, a1, a2, a3, a4, a5⟩ := q a
  obtain ⟨b0, b1, b2, b3, b4, b5⟩ := q b
  have P16 := fun f i hi w => run_part_rg 22 (.int .u16) und16 rfl f 6 i hi w
  have PB := fun f i hi w => run_part_rg 4 .bool undBo rfl f 6 i hi w
  rw [Rg.beq_fields]
  simp only [Op.eqFields, n0, n1, n2, n3, n4, n5, o0, o1, o2, o3, o4, o5, t0, t1, t2, t3, t4, t5, not_false_eq_true, if_true, ne_eq, Sem.run_bind, P16 _ 0 (by omega), P16 _ 1 (by omega), P16 _ 2 (by omega), P16 _ 3 (by omega), PB _ 4 (by omega), PB _ 5 (by omega), Result.andThen_ok,
    a0, a1, a2, a3, a4, a5, b0, b1, b2, b3, b4, b5, c 0, e]
  cases h0 : a.c == b.c <;> cases h1 : a.p == b.p <;> cases h2 : a.m == b.m <;> cases h3 : a.h == b.h <;> cases h4 : a.v == b.v <;> cases h5 : a.s == b.s <;>
    simp [P16 _ 1 (by omega), P16 _ 2 (by omega), P16 _ 3 (by omega), PB _ 4 (by omega), PB _ 5 (by omega), a1, a2, a3, a4, a5, b1, b2, b3, b4, b5, c 0, e, *]
theorem run_eq_rf (a b : Rg) (w : World) : (Op.equalIn 10000 24 (.agg (cellsOf (rgC a) 6)) (.agg (cellsOf (rgC b) 6))).run Tryd.prog w = .ok (a.beq b) w := by
  rw [run_equalIn_struct w 9999 24 _ _ (by kernel_rfl) (by kernel_rfl)]
  exact run_fields_rg 9998 a b w _ (by kernel_rfl)
theorem run_neq_op {P : Program} {a : Act} {w : World} {o : Oper} (t ty : TypeId) (x y : Operand) (ho : o.op = .binOp .neq t x y ty) (A B : Array Value) (hx : a.eval x = .agg A) (hy : a.eval y = .agg B) (r : Bool) (hm : P.eqGuardType P.depth t = false) (h : (Op.equalIn 10000 t (.agg A) (.agg B)).run P w = .ok r w) :
    (execOp a.eval o).run P w = .ok (.value (.bool (!r))) w := by
  unfold execOp
  simp only [ho, hx, hy, Sem.run_bind, run_eqGuard_agg w _ t x y A B hm, run_neq_struct, h, Result.andThen_ok, Sem.run_pure]
end Go.Proofs.YtilhkgbninbkkaaDoor
