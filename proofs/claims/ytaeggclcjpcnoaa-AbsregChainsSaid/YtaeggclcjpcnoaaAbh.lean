/- States: short lists of numbers; '==' of registers. -/
import Derived.Test.YtaeggclcjpcnoaaAbg
import Derived.Test.YtaeggclcjpcnoaaEqs
namespace Go.Proofs.Ytaeggclcjpcnoaa
open Go Go.RowKit
def sz4 (j : Nat) : Int := if j = 0 then 1 else if j = 1 then 2 else if j = 2 then 4 else 8
theorem undIs : Try.prog.underlying 60 = some (.slice 3) := by kernel_rfl
theorem szI1 : (Try.prog.info? 3).map (·.size) = some 1 := by kernel_rfl
section
variable {ops : Array Oper} {rest : List Oper} {o : Oper} {a : Act} {w : World} {Q : Exit → Act → World → Prop}
theorem wpl_bsn4 (hgd : o.guard = none) (ho : o.op = .buildSlice 60 4 #[(0, .const (.int .i64 1)), (1, .const (.int .i64 2)), (2, .const (.int .i64 4)), (3, .const (.int .i64 8))]) (N : Nat) (hN : Sz w N)
    (h : ∀ w1, Sz w1 (N + 1) → Below N w w1 → Has w1 N 3 4 (iC sz4) → wpList Try.prog ops Q rest (a.put o.dst (.slice (some ⟨N, 0, none⟩) 4 4)) w1) : wpList Try.prog ops Q (o :: rest) a w := by
  have e : w.heap.size = N := hN
  subst e
  refine wpl_run hgd (.slice (some ⟨w.heap.size, 0, none⟩) 4 4) (w.alloc (.cells (cellsOf (iC sz4) 4) 3)) ?_ (h _ (sz_alloc rfl _) (below_new _ _ _ rfl) (has_new rfl 3 4 _))
  clear h hN
  generalize a.eval = ev at *
  unfold execOp
  simp only [ho]
  go_simp
  kernel_rfl
end
theorem ok_i (z : Int) (h1 : -9223372036854775808 ≤ z) (h2 : z < 9223372036854775808) : okC (.int .i64 z) := by
  show (Lit.int .i64 z).wf = true
  simp only [Lit.wf, Bool.and_eq_true, decide_eq_true_eq]
  have e1 : IntKind.i64.min = -9223372036854775808 := by decide
  have e2 : IntKind.i64.max = 9223372036854775807 := by decide
  rw [e1, e2]; omega
/-- Its numbers are ones of 64 bits. -/
def okA (a : Ar) : Prop := (-9223372036854775808 ≤ a.k ∧ a.k < 9223372036854775808) ∧ (-9223372036854775808 ≤ a.sl ∧ a.sl < 9223372036854775808) ∧ (-9223372036854775808 ≤ a.id ∧ a.id < 9223372036854775808) ∧ (-9223372036854775808 ≤ a.lo ∧ a.lo < 9223372036854775808) ∧ (-9223372036854775808 ≤ a.hi ∧ a.hi < 9223372036854775808)
theorem ok_arc {a : Ar} (h : okA a) (j : Nat) : okC (arC a j) := by
  obtain ⟨⟨a1, a2⟩, ⟨a3, a4⟩, ⟨a5, a6⟩, ⟨a7, a8⟩, ⟨a9, a10⟩⟩ := h
  unfold arC
  split <;> first | exact ok_Q _ | exact ok_S _ | exact ok_i _ (by assumption) (by assumption)
theorem ok_arC {a : Ar} (h : okA a) : ∀ c ∈ (cellsOf (arC a) 11).toList, okC c := by
  intro c hc
  simp only [cellsOf, List.mem_map, List.mem_range] at hc
  obtain ⟨j, hj, rfl⟩ := hc
  exact ok_arc h j
theorem run_eqA_t {a b : Ar} (h : okA a) (e : a = b) (w : World) : (Op.equalIn 10000 71 (.agg (cellsOf (arC a) 11)) (.agg (cellsOf (arC b) 11))).run Try.prog w = .ok true w := by
  subst e
  exact run_eq_self 6 (by omega) (by kernel_rfl) (by kernel_rfl) (D := 6) (by kernel_rfl) (ok_arC h) w
end Go.Proofs.Ytaeggclcjpcnoaa
