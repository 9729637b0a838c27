/- RegionStacks: sizes, values; bytes that aren't told; bytes that are filled in. -/
import Derived.Test.YtjcjmlmdcjkceaaRs0
namespace Go.Proofs.Ytjcjmlmdcjkceaa
open Go Go.RowKit
def sz6 (j : Nat) : Int := if j = 0 then 1 else if j = 1 then 2 else if j = 2 then 4 else 8
section
variable {ops : Array Oper} {rest : List Oper} {o : Oper} {a : Act} {w : World} {Q : Exit → Act → World → Prop}
theorem wpl_bsn6 (hgd : o.guard = none) (ho : o.op = .buildSlice 73 6 #[(0, .const (.int .i64 1)), (1, .const (.int .i64 2)), (2, .const (.int .i64 4)), (3, .const (.int .i64 8)), (4, .const (.int .i64 8)), (5, .const (.int .i64 8))]) (N : Nat) (hN : Sz w N)
    (h : ∀ w1, Sz w1 (N + 1) → Below N w w1 → Has w1 N 3 6 (iC sz6) → wpList Try.prog ops Q rest (a.put o.dst (.slice (some ⟨N, 0, none⟩) 6 6)) w1) : wpList Try.prog ops Q (o :: rest) a w := by
  have e : w.heap.size = N := hN
  subst e
  refine wpl_run hgd (.slice (some ⟨w.heap.size, 0, none⟩) 6 6) (w.alloc (.cells (cellsOf (iC sz6) 6) 3)) ?_ (h _ (sz_alloc rfl _) (below_new _ _ _ rfl) (has_new rfl 3 6 _))
  clear h hN
  generalize a.eval = ev at *
  unfold execOp
  simp only [ho]
  go_simp
  kernel_rfl
end
def k6 (z : Int) : Nat := if rm z 6 = 0 then 1 else if rm z 6 = 1 then 2 else if rm z 6 = 2 then 4 else 8
theorem k6_ok (z : Int) : sizeOk (k6 z) := by unfold sizeOk k6; split; omega; split; omega; split; omega; omega
theorem k6_sz (z : Int) : sz6 (rm z 6) = ((k6 z : Nat) : Int) := by unfold sz6 k6; split; rfl; split; rfl; split <;> rfl
set_option maxRecDepth 100000 in
set_option maxHeartbeats 2000000 in
theorem Size_any (z : Int) (w : World) (N : Nat) (hN : Sz w N) : Calls Try.prog 15 #[.int .i64 z] w fun e w' => e = .returned (.int .i64 ((k6 z : Nat) : Int)) ∧ Below N w w' := by
  have hr := rm_lt z 6 (by omega)
  go_enter Try.func15, Try.ntmps15
  go_wp2_with (first
    | (refine wpl_bsn6 rfl rfl N hN ?_; intro w1 hN1 hb1 h1; have c1 : w1.cell? ⟨N, rm z 6, none⟩ = some (.int .i64 ((k6 z : Nat) : Int)) := by rw [← k6_sz]; exact h1.cell (j := rm z 6) hr)
    | (refine wpl_run rfl (Q (BitVec.ofInt 64 z)) _ (run_iu (x := .tmp 4) (z := z) rfl undInt und64 rfl _) ?_)
    | (refine wpl_b rfl rfl (bin_rem _ (BitVec.ofInt 64 z) 6#64 (by decide)) rfl rfl ?_)
    | (refine wpl_run rfl (.int .i64 ((rm z 6 : Nat) : Int)) _ (run_rm (x := .tmp 6) rfl und64 undInt (z := z) (m := 6) (by omega) rfl _) ?_)
    | (refine wpl_run rfl (.pointer (some ⟨N, 0 + rm z 6, none⟩)) _ (run_ixL 73 3 undI2 szI1 (.tmp 3) (.tmp 7) rfl rfl rfl (k := rm z 6) hr _) ?_)
    | fail)
  go_ret
  exact ⟨rfl, hb1⟩
end Go.Proofs.Ytjcjmlmdcjkceaa
