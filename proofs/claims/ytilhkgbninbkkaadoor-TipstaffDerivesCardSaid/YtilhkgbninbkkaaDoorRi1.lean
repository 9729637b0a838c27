/- Contracts of rights and of the document's own: All, Common, Within, and from one to the other. -/
import Derived.Test.YtilhkgbninbkkaaDoorChecked
import Derived.Test.YtilhkgbninbkkaaDoorRi0
import Derived.Test.YtilhkgbninbkkaaDoorInns
import Derived.Deep.CutBlock
import Derived.Deep.DeepCutAuto
import Derived.Deep.QuietTactic
import Derived.BigQuiet
namespace Go.Proofs.YtilhkgbninbkkaaDoor
open Go Go.RowKit
theorem row_of {P : Program} {T : TypeId} (h : (P.underlying T).map (·.isRow) = some true) : ∃ d, P.underlying T = some d ∧ d.isRow = true := by
  cases hq : P.underlying T with
  | none => rw [hq] at h; cases h
  | some d => rw [hq] at h; exact ⟨d, rfl, by simpa using h⟩
theorem undRR : ∃ d, Tryd.prog.underlying 26 = some d ∧ d.isRow = true := row_of (by kernel_rfl)
theorem szRR : (Tryd.prog.info? 26).map (·.size) = some 6 := by kernel_rfl
theorem zeRR : (Tryd.prog.info? 26).map (fun i => (i.zero, i.size)) = some (some (.agg (cellsOf (rgC rgNone) 6)), 6) := by kernel_rfl
theorem rg_cells {w : World} {b T : Nat} {r : Rg} (h : Has w b T 6 (rgC r)) : w.cell? ⟨b, 0, none⟩ = some (.int .u16 (u6 r.c)) ∧ w.cell? ⟨b, 1, none⟩ = some (.int .u16 (u6 r.p)) ∧ w.cell? ⟨b, 2, none⟩ = some (.int .u16 (u6 r.m)) ∧
    w.cell? ⟨b, 3, none⟩ = some (.int .u16 (u6 r.h)) ∧ w.cell? ⟨b, 4, none⟩ = some (.bool r.v) ∧ w.cell? ⟨b, 5, none⟩ = some (.bool r.s) :=
  ⟨h.cell (by omega), h.cell (by omega), h.cell (by omega), h.cell (by omega), h.cell (by omega), h.cell (by omega)⟩
theorem post_rg {fn : Func} {R : Ending → World → Prop} {p : Tmp} {T : TypeId} {a : Act} {w : World} (hr : fn.results = #[.cell p T]) (b : Nat) (hp : a.tmps.getD p undef = .pointer (some ⟨b, 0, none⟩))
    {r : Rg} (hh : Has w b T 6 (rgC r)) (hu : ∃ d, Tryd.prog.underlying T = some d ∧ d.isRow = true) (hi : (Tryd.prog.info? T).map (·.size) = some 6)
    (hdef : a.defers = []) (hR : R (.returned (rgV r)) w) : bodyPost Tryd.prog fn R .ret a w := by
  obtain ⟨d, h1, h2⟩ := hu
  exact post_cell hr b hp hh d h1 h2 hi hdef hR
section
variable {P : Program} {ops : Array Oper} {rest : List Oper} {o : Oper} {a : Act} {w : World} {Q : Exit → Act → World → Prop}
theorem wpl_and16 (hgd : o.guard = none) (T : TypeId) (x y : Operand) (ho : o.op = .binOp .and T x y T) (p q : BitVec 16) (hx : a.eval x = .int .u16 (u6 p)) (hy : a.eval y = .int .u16 (u6 q))
    (h : wpList P ops Q rest (a.put o.dst (.int .u16 (u6 (p &&& q)))) w) : wpList P ops Q (o :: rest) a w := by
  refine wpl_run hgd _ w ?_ h
  unfold execOp
  simp only [ho, hx, hy]
  go_simp
  exact and_u6 p q
end
set_option maxRecDepth 100000 in
theorem All_any (w : World) (N : Nat) (hN : Sz w N) : Calls Tryd.prog 26 #[] w fun e w' => e = .returned (rgV rgAll) ∧ Below N w w' := by
  go_enter Tryd.func26, Tryd.ntmps26
  go_wp2_with (first
    | (refine wpl_alloc rfl 26 rfl 6 (rgC rgNone) zeRR N hN ?_; intro w1 hN1 hb1 hh1)
    | (refine wpl_build rfl 26 _ rfl (cellsOf (rgC rgAll) 6) (by kernel_rfl) ?_)
    | (refine wpl_store rfl 26 (.tmp 0) (.tmp 1) rfl N 6 (rgC rgAll) rfl rfl 26 _ hh1 szRR (fun j _ => rgC_one _ j) ?_; intro w2 ht2 hh2)
    | fail)
  refine post_rg rfl N rfl hh2 undRR szRR rfl ?_
  exact ⟨rfl, ht2.below hb1 (Nat.le_refl N)⟩
set_option maxRecDepth 100000 in
theorem Common_any (x y : Rg) (w : World) (N : Nat) (hN : Sz w N) :
    Calls Tryd.prog 15 #[rgV x, rgV y] w fun e w' => e = .returned (rgV (rCommon x y)) ∧ Below N w w' := by
  unfold rgV
  go_enter Tryd.func15, Tryd.ntmps15
  go_upto_region 1 with (first
    | (refine wpl_box rfl 26 (.tmp 0) rfl 6 _ rfl N hN ?_; intro w1 hN1 hb1 hh1)
    | (refine wpl_box rfl 26 (.tmp 1) rfl 6 _ rfl (N + 1) hN1 ?_; intro w2 hN2 hb2 hh2)
    | (refine wpl_alloc rfl 26 rfl 6 (rgC rgNone) zeRR (N + 1 + 1) hN2 ?_; intro w3 hN3 hb3 hh3)
    | fail)
  have lo3 : Below N w w3 := (hb1.trans (hb2.mono (by omega))).trans (hb3.mono (by omega))
  obtain ⟨f0, f1, f2, f3, f4, f5⟩ := rg_cells ((hh1.below hb2 (by omega)).below hb3 (by omega))
  obtain ⟨g0, g1, g2, g3, g4, g5⟩ := rg_cells (hh2.below hb3 (by omega))
  cases hxv : x.v <;> cases hxs : x.s
  all_goals
    rw [hxv] at f4; rw [hxs] at f5
    have HX := hid hxv
    have HXS := hid hxs
    clear hxv hxs
    go_wp2_with (first
      | (refine wpl_and16 rfl _ _ _ rfl _ _ rfl rfl ?_)
      | (refine wpl_build rfl 26 _ rfl (cellsOf (rgC (rCommon x y)) 6) (by unfold rCommon; rw [HX.out, HXS.out]; kernel_rfl) ?_)
      | (refine wpl_store rfl 26 (.tmp 4) (.tmp 37) rfl (N + 1 + 1) 6 (rgC (rCommon x y)) rfl rfl 26 _ hh3 szRR (fun j _ => rgC_one _ j) ?_; intro w4 ht4 hh4)
      | fail)
    refine post_rg rfl (N + 1 + 1) rfl hh4 undRR szRR rfl ?_
    exact ⟨rfl, ht4.below lo3 (by omega)⟩
end Go.Proofs.YtilhkgbninbkkaaDoor
