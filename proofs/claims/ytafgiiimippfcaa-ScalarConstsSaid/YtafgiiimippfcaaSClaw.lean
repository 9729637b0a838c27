/- ScalarConsts: the walk. -/
import Derived.Test.YtafgiiimippfcaaSm3
namespace Go.Proofs.Ytafgiiimippfcaa
open Go Go.RowKit
set_option maxRecDepth 100000 in
set_option maxHeartbeats 8000000 in
theorem law_sconsts (op : Int) (l : Bool) (d : Nat → W) (w : World) (N : Nat) (hN : Sz w N) : Calls Try.prog 5 #[(Value.int .i64 op), (Value.bool l), (Value.agg (cellsOf (dC d) 2))] w fun e w' => e = .returned (.bool true) ∧ Below N w w' := by
 have H0 := hid (doR_cR (rm op 13) l (d 0) (d 1))
 go_enter Try.func5, Try.ntmps5
 go_upto_region 1 with (first
  | (refine wpl_box rfl 23 (.tmp 2) rfl 2 _ rfl (N) hN ?_; intro w1 hN1 hb1 hh1)
  | fail)
 have lo0 : Below N w w1 := hb1
 have k1 := hh1
 clear hh1 hb1
 go_upto_region 1 with fail
 refine wp_region_later1 ((N + 1)) ?_
 try simp only [pA]
 go_big_quiet_step (fail)
 refine later_val (fun q => run_iu (x := (.tmp 8)) rfl undInt und64 rfl q.w') (by rfl) ?_; simp only [pA]
 refine later_b (x := (.tmp 9)) (y := (.const (.int .u64 13))) rfl (bin_rem _ (BitVec.ofInt 64 op) 13#64 (by decide)) rfl rfl (by rfl) ?_; simp only [pA]
 refine later_val (fun q => run_rm (x := (.tmp 10)) rfl und64 undInt (z := op) (m := 13) (by omega) rfl q.w') (by rfl) ?_; simp only [pA]
 go_big_quiet_step (fail)
 refine wpQuiet_nil ?_
 rintro xw2 ⟨qxw2, exw2⟩
 have hbxw2 := qxw2.b
 rw [← exw2] at hbxw2
 clear qxw2 exw2
 obtain ⟨M3, hM3⟩ := sz_some xw2
 have lM3 := below_sz hbxw2 hN1 hM3
 have k4 := k1.below hbxw2 (by omega)
 have lo5 := lo0.trans (hbxw2.mono (by omega))
 clear k1 lo0 hbxw2
 go_upto_region 2 with fail
 obtain ⟨c6, c7⟩ := d_cells k4
 refine wp_region_later (M3) (by kernel_rfl) (by kernel_rfl) ?_
 try simp only [pA]
 go_big_quiet_step ((go_at_call 21; exact later_of hM3 _ (fun K hK hKN => evals_any _ K hK)))
 go_big_quiet_step (fail)
 go_big_quiet_step (fail)
 go_big_quiet_step (fail)
 go_big_quiet_step (fail)
 refine later_c1 hM3 22 (.tmp 16) rfl rfl und64 rfl c6 (by rfl) ?_; simp only [pA]
 go_big_quiet_step ((go_at_call 28; exact later_of hM3 _ (fun K hK hKN => SConst_any (d 0) _ K hK)))
 go_big_quiet_step (fail)
 refine later_c1 hM3 22 (.tmp 19) rfl rfl und64 rfl c7 (by rfl) ?_; simp only [pA]
 go_big_quiet_step ((go_at_call 28; exact later_of hM3 _ (fun K hK hKN => SConst_any (d 1) _ K hK)))
 go_big_quiet_step ((go_at_call 27; exact later_of hM3 _ (fun K hK hKN => Do_any (rm op 13) l (cR (d 0)) (cR (d 1)) _ K hK)))
 go_big_quiet_step (fail)
 go_big_quiet_step (fail)
 go_big_quiet_step (fail)
 refine later_c1 hM3 22 (.tmp 25) rfl rfl und64 rfl c6 (by rfl) ?_; simp only [pA]
 go_big_quiet_step (fail)
 refine later_c1 hM3 22 (.tmp 27) rfl rfl und64 rfl c7 (by rfl) ?_; simp only [pA]
 go_big_quiet_step ((go_at_call 23; exact later_of hM3 _ (fun K hK hKN => REval_any (rm op 13) l (d 0) (d 1) _ K hK)))
 go_big_quiet_step ((go_at_call 28; exact later_of hM3 _ (fun K hK hKN => SConst_any (evF (rm op 13) l (d 0) (d 1)) _ K hK)))
 refine later_val (fun q => run_eql_op 41 41 (.tmp 22) (.tmp 30) rfl _ _ rfl rfl true (by kernel_rfl) (run_eqR_t H0.out q.w')) (by rfl) ?_; simp only [pA]
 go_big_quiet_step (fail)
 go_big_quiet_step (fail)
 refine wpQuiet_nil ?_
 rintro xw8 ⟨qxw8, exw8⟩
 have hbxw8 := qxw8.b
 rw [← exw8] at hbxw8
 clear qxw8 exw8
 obtain ⟨M9, hM9⟩ := sz_some xw8
 have lM9 := below_sz hbxw8 hM3 hM9
 have k10 := k4.below hbxw8 (by omega)
 have lo11 := lo5.trans (hbxw8.mono (by omega))
 clear k4 c6 c7 lo5 hbxw8
 go_wp2_with fail
 go_ret
 exact ⟨rfl, lo11⟩
end Go.Proofs.Ytafgiiimippfcaa
