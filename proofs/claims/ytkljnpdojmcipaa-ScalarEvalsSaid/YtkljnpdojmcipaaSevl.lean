/- ScalarEvals: the walk. -/
import Derived.Test.YtkljnpdojmcipaaSc6
namespace Go.Proofs.Ytkljnpdojmcipaa
open Go Go.RowKit
set_option maxRecDepth 100000 in
set_option maxHeartbeats 4000000 in
theorem law_sevals (op : Int) (l : Bool) (d : Nat → W) (w : World) (N : Nat) (hN : Sz w N) : Calls Try.prog 3 #[.int .i64 op, .bool l, .agg (cellsOf (dC d) 2)] w fun e w' => e = .returned (.bool true) ∧ Below N w w' := by
  have h0 := hid (show (evF op l (d 0) (d 1) == evF op l (d 0) (d 1)) = true by simp)
  go_enter Try.func3, Try.ntmps3
  go_upto_region 1 with (first
    | (refine wpl_box rfl 23 (.tmp 2) rfl 2 _ rfl (N) hN ?_; intro w1 hN1 hb1 hh1)
    | fail)
  have lo0 : Below N w w1 := hb1
  have k1 := hh1
  clear hh1 hb1
  go_upto_region 1 with fail
  obtain ⟨c2, c3⟩ := d_cells k1
  refine wp_region_later ((N + 1)) (by kernel_rfl) (by kernel_rfl) ?_
  try simp only [Act.put, List.setIfInBounds_toArray, List.set_cons_succ, List.set_cons_zero]
  go_big_quiet_step ((go_at_call 9; exact later_of hN1 _ (fun K hK hKN => evals_any _ K hK)))
  go_big_quiet_step (fail)
  go_big_quiet_step (fail)
  go_big_quiet_step (fail)
  go_big_quiet_step (fail)
  refine later_c1 hN1 22 (.tmp 11) rfl rfl und64 rfl c2 (by rfl) ?_; simp only [Act.put, List.setIfInBounds_toArray, List.set_cons_succ, List.set_cons_zero]
  go_big_quiet_step (fail)
  refine later_c1 hN1 22 (.tmp 13) rfl rfl und64 rfl c3 (by rfl) ?_; simp only [Act.put, List.setIfInBounds_toArray, List.set_cons_succ, List.set_cons_zero]
  go_big_quiet_step ((go_at_call 10; exact later_of hN1 _ (fun K hK hKN => Eval_any op l (d 0) (d 1) _ K hK)))
  go_big_quiet_step (fail)
  go_big_quiet_step (fail)
  go_big_quiet_step (fail)
  refine later_c1 hN1 22 (.tmp 18) rfl rfl und64 rfl c2 (by rfl) ?_; simp only [Act.put, List.setIfInBounds_toArray, List.set_cons_succ, List.set_cons_zero]
  go_big_quiet_step (fail)
  refine later_c1 hN1 22 (.tmp 20) rfl rfl und64 rfl c3 (by rfl) ?_; simp only [Act.put, List.setIfInBounds_toArray, List.set_cons_succ, List.set_cons_zero]
  go_big_quiet_step ((go_at_call 11; exact later_of hN1 _ (fun K hK hKN => REval_any op l (d 0) (d 1) _ K hK)))
  refine later_b (x := (.tmp 15)) (y := (.tmp 22)) rfl (BinRun.is h0.out (bin_eql _ (evF op l (d 0) (d 1)) (evF op l (d 0) (d 1)))) rfl rfl (by rfl) ?_; simp only [Act.put, List.setIfInBounds_toArray, List.set_cons_succ, List.set_cons_zero]
  go_big_quiet_step (fail)
  go_big_quiet_step (fail)
  refine wpQuiet_nil ?_
  rintro xw4 ⟨qxw4, exw4⟩
  have hbxw4 := qxw4.b
  rw [← exw4] at hbxw4
  clear qxw4 exw4
  obtain ⟨M5, hM5⟩ := sz_some xw4
  have lM5 := below_sz hbxw4 hN1 hM5
  have k6 := k1.below hbxw4 (by omega)
  have lo7 := lo0.trans (hbxw4.mono (by omega))
  clear k1 c2 c3 lo0 hbxw4
  go_wp2_with fail
  go_ret
  exact ⟨rfl, lo7⟩
end Go.Proofs.Ytkljnpdojmcipaa
