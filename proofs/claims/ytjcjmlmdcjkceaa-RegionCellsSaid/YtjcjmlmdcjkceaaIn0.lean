/- Laws of the walk over whole numbers of 64 bits. -/
import Derived.Test.YtjcjmlmdcjkceaaSl1
import Derived.Test.YtjcjmlmdcjkceaaInns
import Derived.Test.YtjcjmlmdcjkceaaMgPtL
namespace Go.Proofs.Ytjcjmlmdcjkceaa
open Go Go.RowKit
theorem szB1 : (Try.prog.info? 4).map (·.size) = some 1 := by kernel_rfl
theorem wrE (x : Int) : IntKind.i64.wrap x = wrap64 x := by rw [IntKind.wrap_i64]; unfold wrap64; rfl
theorem wrap_id {x : Int} (h : -9223372036854775808 ≤ x) (h2 : x < 9223372036854775808) : wrap64 x = x := by unfold wrap64; omega
def iC (s : Nat → Int) : Nat → Value := fun j => .int .i64 (s j)
section
variable {P : Program} {a : Act} {o : Oper} {T ty : TypeId} {x y : Operand} {p q : Int} {r : Bool}
theorem run_eqlI (ho : o.op = .binOp .eql T x y ty) (hx : a.eval x = .int .i64 p) (hy : a.eval y = .int .i64 q) (h : (p == q) = r) (w : World) : (execOp a.eval o).run P w = .ok (.value (.bool r)) w := by
  subst h; unfold execOp; simp only [ho, hx, hy]; go_simp
theorem run_neqI (ho : o.op = .binOp .neq T x y ty) (hx : a.eval x = .int .i64 p) (hy : a.eval y = .int .i64 q) (h : (p != q) = r) (w : World) : (execOp a.eval o).run P w = .ok (.value (.bool r)) w := by
  subst h; unfold execOp; simp only [ho, hx, hy]; go_simp
theorem run_lssI (ho : o.op = .binOp .lss T x y ty) (hx : a.eval x = .int .i64 p) (hy : a.eval y = .int .i64 q) (h : decide (p < q) = r) (w : World) : (execOp a.eval o).run P w = .ok (.value (.bool r)) w := by
  subst h; unfold execOp; simp only [ho, hx, hy]; go_simp
theorem run_leqI (ho : o.op = .binOp .leq T x y ty) (hx : a.eval x = .int .i64 p) (hy : a.eval y = .int .i64 q) (h : decide (p ≤ q) = r) (w : World) : (execOp a.eval o).run P w = .ok (.value (.bool r)) w := by
  subst h; unfold execOp; simp only [ho, hx, hy]; go_simp
theorem run_gtrI (ho : o.op = .binOp .gtr T x y ty) (hx : a.eval x = .int .i64 p) (hy : a.eval y = .int .i64 q) (h : decide (q < p) = r) (w : World) : (execOp a.eval o).run P w = .ok (.value (.bool r)) w := by
  subst h; unfold execOp; simp only [ho, hx, hy]; go_simp
theorem run_geqI (ho : o.op = .binOp .geq T x y ty) (hx : a.eval x = .int .i64 p) (hy : a.eval y = .int .i64 q) (h : decide (q ≤ p) = r) (w : World) : (execOp a.eval o).run P w = .ok (.value (.bool r)) w := by
  subst h; unfold execOp; simp only [ho, hx, hy]; go_simp
theorem run_addI (ho : o.op = .binOp .add T x y ty) (hx : a.eval x = .int .i64 p) (hy : a.eval y = .int .i64 q) (w : World) : (execOp a.eval o).run P w = .ok (.value (.int .i64 (wrap64 (p + q)))) w := by
  unfold execOp; simp only [ho, hx, hy]; go_simp; rw [wrE]
theorem run_remI8 (ho : o.op = .binOp .rem T x y ty) (hx : a.eval x = .int .i64 p) (hy : a.eval y = .int .i64 8) (w : World) : (execOp a.eval o).run P w = .ok (.value (.int .i64 (p.tmod 8))) w := by
  unfold execOp; simp only [ho, hx, hy]; go_simp
theorem run_subI (ho : o.op = .binOp .sub T x y ty) (hx : a.eval x = .int .i64 p) (hy : a.eval y = .int .i64 q) (w : World) : (execOp a.eval o).run P w = .ok (.value (.int .i64 (wrap64 (p - q)))) w := by
  unfold execOp; simp only [ho, hx, hy]; go_simp; rw [wrE]
theorem run_mulI (ho : o.op = .binOp .mul T x y ty) (hx : a.eval x = .int .i64 p) (hy : a.eval y = .int .i64 q) (w : World) : (execOp a.eval o).run P w = .ok (.value (.int .i64 (wrap64 (p * q)))) w := by
  unfold execOp; simp only [ho, hx, hy]; go_simp; rw [wrE]
end
theorem run_iaK {P : Program} {a : Act} {w : World} {o : Oper} {T e s n k : Nat} {x y : Operand} (ho : o.op = .indexAddr T x y) {b off : Nat} (hx : a.eval x = .pointer (some ⟨b, off, none⟩)) (hy : a.eval y = .int .i64 (k : Int))
    (hu : P.underlying T = some (.array n e)) (hs : (P.info? e).map (·.size) = some s) (hk : k < n) : (execOp a.eval o).run P w = .ok (.value (.pointer (some ⟨b, off + k * s, none⟩))) w := by
  cases hq : P.info? e with
  | none => simp [hq] at hs
  | some i =>
    have hi : i.size = s := by simpa [hq] using hs
    have h1 : ¬ (n ≤ k) := by omega
    unfold execOp
    simp only [ho, hx, hy]
    simp [Instr.indexAt, Instr.sureAddr, asIntOf, Sem.run_bind, run_underlying hu, sizeOf, typeInfo, hq, hi, Addr.add, h1, hk]
theorem run_rwP {P : Program} {a : Act} {w : World} {o : Oper} (ty : TypeId) (x : Operand) (ho : o.op = .load ty x) (b off : Nat) (hx : a.eval x = .pointer (some ⟨b, off, none⟩)) (T : TypeId) (n : Nat) (f : Nat → Value) (hh : Has w b T n f) (m : Nat) (hm : off + m ≤ n) (g : Nat → Value) (hg : ∀ j, j < m → f (off + j) = g j) (hu : ∃ d, P.underlying ty = some d ∧ d.isRow = true) (hi : (P.info? ty).map (·.size) = some m) : (execOp a.eval o).run P w = .ok (.value (.agg (cellsOf g m))) w := by
  obtain ⟨d, h1, h2⟩ := hu
  have hrun := run_load_part (P := P) hh off m hm ty d h1 h2 hi
  rw [cellsOf_congr hg] at hrun
  unfold execOp
  simp only [ho, hx, Sem.run_bind, hrun, Result.andThen_ok, Sem.run_pure]
theorem szI1 : (Try.prog.info? 3).map (·.size) = some 1 := by kernel_rfl
section
variable {ops : Array Oper} {rest : List Oper} {o : Oper} {a : Act} {w : World} {Q : Exit → Act → World → Prop}
end
theorem post_cb {fn : Func} {R : Ending → World → Prop} {p u : Tmp} {T : TypeId} {a : Act} {w : World} (hr : fn.results = #[.cell p T, .tmp u]) (b : Nat) (hp : a.tmps.getD p undef = .pointer (some ⟨b, 0, none⟩))
    {n : Nat} {f : Nat → Value} (hh : Has w b T n f) (hu : ∃ d, Try.prog.underlying T = some d ∧ d.isRow = true) (hi : (Try.prog.info? T).map (·.size) = some n) {x : Value} (hx : a.tmps.getD u undef = x)
    (hdef : a.defers = []) (hR : R (.returned (.tuple #[.agg (cellsOf f n), x])) w) : bodyPost Try.prog fn R .ret a w := by
  obtain ⟨d, h1, h2⟩ := hu
  refine bodyPost_ret (v := .tuple #[.agg (cellsOf f n), x]) ?_ hdef hR
  have hld := run_loadVar_row (P := Try.prog) w b T T (cellsOf f n) (0, 0) d hh.out h1 (by cases d <;> simp_all) (by rw [hi, size_cellsOf])
  rw [results_cell_tmp hr a.tmps Try.prog w, hp, hx]
  simp [asAddr, hld]
end Go.Proofs.Ytjcjmlmdcjkceaa
