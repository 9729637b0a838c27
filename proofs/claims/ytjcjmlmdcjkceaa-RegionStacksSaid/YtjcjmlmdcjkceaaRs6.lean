/- RegionStacks: sizes, values; bytes that aren't told; bytes that are filled in. -/
import Derived.Test.YtjcjmlmdcjkceaaRs0
namespace Go.Proofs.Ytjcjmlmdcjkceaa
open Go Go.RowKit
def sz6 (j : Nat) : Int := if j = 0 then 1 else if j = 1 then 2 else if j = 2 then 4 else 8
def sz3 (j : Nat) : Int := if j = 0 then 2 else if j = 1 then 3 else 4
section
variable {ops : Array Oper} {rest : List Oper} {o : Oper} {a : Act} {w : World} {Q : Exit → Act → World → Prop}
theorem wpl_bsn6 (hgd : o.guard = none) (ho : o.op = .buildSlice 73 6 #[(0, .const (.int .i64 1)), (1, .const (.int .i64 2)), (2, .const (.int .i64 4)), (3, .const (.int .i64 8)), (4, .const (.int .i64 8)), (5, .const (.int .i64 8))]) (N : Nat) (hN : Sz w N)
    (h : ∀ w1, Sz w1 (N + 1) → Below N w w1 → Has w1 N 3 6 (iC sz6) → wpList Try.prog ops Q rest (a.put o.dst (.slice (some ⟨N, 0, none⟩) 6 6)) w1) : wpList Try.prog ops Q (o :: rest) a w := by
  have e : w.heap.size = N := hN
  subst e
  refine wpl_run hgd (.slice (some ⟨w.heap.size, 0, none⟩) 6 6) (w.alloc (.cells (cellsOf (iC sz6) 6) 3)) ?_ (h _ (sz_alloc rfl _) (below_new _ _ _ rfl) (has_new rfl 3 6 _))
  clear h hN
  generalize a.eval = ev at *
  unfold execOp
  simp only [ho]
  go_simp
  kernel_rfl
theorem wpl_bsn3 (hgd : o.guard = none) (ho : o.op = .buildSlice 73 3 #[(0, .const (.int .i64 2)), (1, .const (.int .i64 3)), (2, .const (.int .i64 4))]) (N : Nat) (hN : Sz w N)
    (h : ∀ w1, Sz w1 (N + 1) → Below N w w1 → Has w1 N 3 3 (iC sz3) → wpList Try.prog ops Q rest (a.put o.dst (.slice (some ⟨N, 0, none⟩) 3 3)) w1) : wpList Try.prog ops Q (o :: rest) a w := by
  have e : w.heap.size = N := hN
  subst e
  refine wpl_run hgd (.slice (some ⟨w.heap.size, 0, none⟩) 3 3) (w.alloc (.cells (cellsOf (iC sz3) 3) 3)) ?_ (h _ (sz_alloc rfl _) (below_new _ _ _ rfl) (has_new rfl 3 3 _))
  clear h hN
  generalize a.eval = ev at *
  unfold execOp
  simp only [ho]
  go_simp
  kernel_rfl
end
def k6 (z : Int) : Nat := if rm z 6 = 0 then 1 else if rm z 6 = 1 then 2 else if rm z 6 = 2 then 4 else 8
theorem k6_ok (z : Int) : sizeOk (k6 z) := by unfold sizeOk k6; split; omega; split; omega; split; omega; omega
theorem k6_sz (z : Int) : sz6 (rm z 6) = ((k6 z : Nat) : Int) := by unfold sz6 k6; split; rfl; split; rfl; split <;> rfl
set_option maxRecDepth 100000 in
set_option maxHeartbeats 2000000 in
theorem Size_any (z : Int) (w : World) (N : Nat) (hN : Sz w N) : Calls Try.prog 15 #[.int .i64 z] w fun e w' => e = .returned (.int .i64 ((k6 z : Nat) : Int)) ∧ Below N w w' := by
  have hr := rm_lt z 6 (by omega)
  go_enter Try.func15, Try.ntmps15
  go_wp2_with (first
    | (refine wpl_bsn6 rfl rfl N hN ?_; intro w1 hN1 hb1 h1; have c1 : w1.cell? ⟨N, rm z 6, none⟩ = some (.int .i64 ((k6 z : Nat) : Int)) := by rw [← k6_sz]; exact h1.cell (j := rm z 6) hr)
    | (refine wpl_run rfl (Q (BitVec.ofInt 64 z)) _ (run_iu (x := .tmp 4) (z := z) rfl undInt und64 rfl _) ?_)
    | (refine wpl_b rfl rfl (bin_rem _ (BitVec.ofInt 64 z) 6#64 (by decide)) rfl rfl ?_)
    | (refine wpl_run rfl (.int .i64 ((rm z 6 : Nat) : Int)) _ (run_rm (x := .tmp 6) rfl und64 undInt (z := z) (m := 6) (by omega) rfl _) ?_)
    | (refine wpl_run rfl (.pointer (some ⟨N, 0 + rm z 6, none⟩)) _ (run_ixL 73 3 undI2 szI1 (.tmp 3) (.tmp 7) rfl rfl rfl (k := rm z 6) hr _) ?_)
    | fail)
  go_ret
  exact ⟨rfl, hb1⟩
/-- The value that is saved as the k-th one. -/
def vv (k : Nat) : Vl := ⟨((2 + k % 3 : Nat) : Int), BitVec.ofInt 64 ((k : Nat) : Int), 0, none⟩
theorem sz3_eq (k : Nat) : sz3 (k % 3) = ((2 + k % 3 : Nat) : Int) := by unfold sz3; split; omega; split <;> omega
theorem run_remI3 {P : Program} {a : Act} {o : Oper} {T ty : TypeId} {x y : Operand} {k : Nat} (ho : o.op = .binOp .rem T x y ty) (hx : a.eval x = .int .i64 (k : Int)) (hy : a.eval y = .int .i64 3) (w : World) : (execOp a.eval o).run P w = .ok (.value (.int .i64 ((k % 3 : Nat) : Int))) w := by
  have e : ((k : Nat) : Int).tmod 3 = ((k % 3 : Nat) : Int) := by rw [Int.tmod_eq_emod_of_nonneg (by omega)]; omega
  rw [← e]
  unfold execOp; simp only [ho, hx, hy]; go_simp
set_option maxRecDepth 100000 in
set_option maxHeartbeats 2000000 in
theorem Value_any (k : Nat) (w : World) (N : Nat) (hN : Sz w N) : Calls Try.prog 18 #[.int .i64 ((k : Nat) : Int)] w fun e w' => e = .returned (vlV (vv k)) ∧ Below N w w' := by
  unfold vlV
  have hr : k % 3 < 3 := by omega
  go_enter Try.func18, Try.ntmps18
  go_wp2_with (first
    | (refine wpl_alloc rfl 26 rfl 4 (vlC zeroV) zeVl N hN ?_; intro w1 hN1 hb1 h1)
    | (refine wpl_bsn3 rfl rfl (N + 1) hN1 ?_; intro w2 hN2 hb2 h2; replace h1 := h1.below hb2 (by omega); replace hb2 := hb1.trans (hb2.mono (by omega)); have c1 : w2.cell? ⟨N + 1, k % 3, none⟩ = some (.int .i64 ((2 + k % 3 : Nat) : Int)) := by rw [← sz3_eq]; exact h2.cell (j := k % 3) hr)
    | (refine wpl_run rfl (.int .i64 ((k % 3 : Nat) : Int)) _ (run_remI3 (x := .tmp 4) (y := .const (.int .i64 3)) rfl rfl rfl _) ?_)
    | (refine wpl_run rfl (.pointer (some ⟨N + 1, 0 + k % 3, none⟩)) _ (run_ixL 73 3 undI2 szI1 (.tmp 3) (.tmp 5) rfl rfl rfl (k := k % 3) hr _) ?_)
    | (refine wpl_run rfl (Q (BitVec.ofInt 64 ((k : Nat) : Int))) _ (run_iu (x := .tmp 8) (z := ((k : Nat) : Int)) rfl undInt und64 rfl _) ?_)
    | (refine wpl_run rfl (.agg (cellsOf (vlC (vv k)) 4)) _ (run_bd 26 #[(0, .tmp 7), (1, .tmp 9)] rfl (cellsOf (vlC (vv k)) 4) (by kernel_rfl) _) ?_)
    | (refine wpl_store rfl 26 (.tmp 2) (.tmp 10) rfl N 4 (vlC (vv k)) rfl rfl 26 _ h1 szVl (fun j _ => vlC_one _ j) ?_; intro w3 t3 h3; replace hb2 := t3.below hb2 (by omega))
    | fail)
  exact post_cell rfl N rfl h3 _ undVl.choose_spec.1 undVl.choose_spec.2 szVl rfl ⟨rfl, hb2⟩
set_option maxRecDepth 100000 in
theorem Bytes_far (b : Nat) (v : Vl) (k : Nat) (hk : 64 < k) (w : World) (N : Nat) (hN : Sz w N) : Calls Try.prog 9 #[.pointer (some ⟨b, 0, none⟩), vlV v, .int .i64 ((k : Nat) : Int)] w fun e w' => e = .returned (.tuple #[.slice none 0 0, .int .i64 14]) ∧ Below N w w' := by
  unfold vlV
  have k1 : ¬ (k : Int) < 0 := by omega
  have k2 : (64 : Int) < (k : Int) := by omega
  go_enter Try.func9, Try.ntmps9
  go_wp2_with (first
    | (refine wpl_box rfl 26 (.tmp 1) rfl 4 _ rfl N hN ?_; intro w1 hN1 hb1 h1)
    | fail)
  go_ret2
  exact ⟨rfl, hb1⟩
end Go.Proofs.Ytjcjmlmdcjkceaa
