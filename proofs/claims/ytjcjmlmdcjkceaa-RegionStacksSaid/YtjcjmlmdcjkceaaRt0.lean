/- RegionStacks: rows of values. -/
import Derived.Test.YtjcjmlmdcjkceaaRs8
namespace Go.Proofs.Ytjcjmlmdcjkceaa
open Go Go.RowKit
theorem kV : KCell Try.prog 26 4 := kCell_of (v := .agg (cellsOf (vlC zeroV) 4)) (k := 32) (by kernel_rfl) (by omega) rfl
section
variable {ops : Array Oper} {rest : List Oper} {o : Oper} {a : Act} {w : World} {Q : Exit → Act → World → Prop}
theorem wpl_bsV (hgd : o.guard = none) (x : Operand) (ho : o.op = .buildSlice 49 1 #[(0, x)]) (v : Vl) (hx : a.eval x = vlV v) (N : Nat) (hN : Sz w N)
    (h : ∀ w1, Sz w1 (N + 1) → Below N w w1 → Has w1 N 26 4 (vlC v) → wpList Try.prog ops Q rest (a.put o.dst (.slice (some ⟨N, 0, none⟩) 1 1)) w1) : wpList Try.prog ops Q (o :: rest) a w := by
  have e : w.heap.size = N := hN
  subst e
  refine wpl_run hgd (.slice (some ⟨w.heap.size, 0, none⟩) 1 1) (w.alloc (.cells (cellsOf (vlC v) 4) 26)) ?_ (h _ (sz_alloc rfl _) (below_new _ _ _ rfl) ?_)
  · unfold vlV at *
    clear h hN
    generalize a.eval = ev at *
    unfold execOp
    simp only [ho]
    go_simp
    kernel_rfl
  · exact has_new rfl 26 4 (vlC v)
end
def keF (j : Nat) : Value := vlC (vv (j / 4)) (j % 4)
theorem keF_cat (L j : Nat) (h : j < (L + 1) * 4) : cat keF (L * 4) (vlC (vv L)) j = keF j := by
  unfold cat keF
  by_cases e : j < L * 4
  · rw [if_pos e]
  · rw [if_neg e, show j / 4 = L by omega, show j % 4 = j - L * 4 by omega]
theorem keF_at (q j : Nat) (h : j < 4) : keF (q * 4 + j) = vlC (vv q) j := by
  unfold keF; rw [show (q * 4 + j) / 4 = q by omega, show (q * 4 + j) % 4 = j by omega]
end Go.Proofs.Ytjcjmlmdcjkceaa
