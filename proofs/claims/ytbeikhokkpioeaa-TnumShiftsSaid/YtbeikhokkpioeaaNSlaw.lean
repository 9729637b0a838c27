/- Slaw: the walk. -/
import Derived.Test.YtbeikhokkpioeaaNh
import Derived.Test.YtbeikhokkpioeaaNss
import Derived.Test.YtbeikhokkpioeaaLex
namespace Go.Proofs.Ytbeikhokkpioeaa
open Go Go.RowKit
set_option maxRecDepth 100000 in
set_option maxHeartbeats 8000000 in
theorem law_shifts (a0 : Nm) (z y : Int) (w : World) (N : Nat) (hN : Sz w N) : Calls Try.prog 5 #[nV a0, .int .i64 z, .int .i64 y] w fun e w' => e = .returned (.bool true) ∧ Below N w w' := by
  have h1_ := hid (left_ref (rightN_rgt a0) (rm z 64))
  have h2_ := hid (down_ref (rightN_rgt a0) (rm z 64))
  have h3 := low_ref (rightN_rgt a0) y
  have h4_ := hid (left_again (rightN a0) (rm z 64) (rm_lt z 64 (by omega)))
  have k1 := rm_lt z 64 (by omega)
  have k2 : (rm z 64 : Int) < 64 := by omega
  have k3 : (0 : Int) ≤ (rm z 64 : Int) := by omega
  clear k1
  by_cases y1 : y = 1
  · subst y1
    have h3_ := hid (show tLow (rightN a0) 1 = rLow (rightN a0) 8 from h3)
    clear h3
    unfold nV
    go_enter Try.func5, Try.ntmps5
    go_upto_region 1 with (first
      | (refine wpl_box rfl 24 (.tmp 0) rfl 2 _ rfl (N) hN ?_; intro w1 hN1 hb1 hh1)
      | fail)
    have lo0 : Below N w w1 := hb1
    have k1 := hh1
    clear hh1 hb1
    go_upto_region 1 with fail
    refine wp_region_lit ?_
    try simp only [Act.put, List.setIfInBounds_toArray, List.set_cons_succ, List.set_cons_zero]
    refine wpl_run rfl (Value.agg (cellsOf (nC a0) 2)) _ (run_rw 24 (.tmp 3) rfl N rfl 24 2 _ k1 undU szU) ?_; simp only [Act.put, List.setIfInBounds_toArray, List.set_cons_succ, List.set_cons_zero]
    refine wpl_cl rfl 9 _ _ rfl #[(Value.agg (cellsOf (nC a0) 2))] (by simp only [List.map_toArray, List.map_cons, List.map_nil]; rfl) (by kernel_rfl) (Value.agg (cellsOf (nC (rightN a0)) 2)) (right_any a0 w1 (N + 1) hN1) ?_
    intro xw2 hbxw2; simp only [Act.put, List.setIfInBounds_toArray, List.set_cons_succ, List.set_cons_zero]
    obtain ⟨M3, hM3⟩ := sz_some xw2
    have lM3 := below_sz hbxw2 hN1 hM3
    have k4 := k1.below hbxw2 (by omega)
    have lo5 := lo0.trans (hbxw2.mono (by omega))
    clear k1 lo0 hbxw2
    refine wpl_store rfl 24 (.tmp 3) (.tmp 11) rfl N 2 (nC (rightN a0)) rfl rfl 24 _ k4 szU (fun j _ => nC_one _ j) ?_
    intro xw6 t7 k8; simp only [Act.put, List.setIfInBounds_toArray, List.set_cons_succ, List.set_cons_zero]
    have lo9 := t7.below lo5 (by omega)
    have h10 := t7.sz hM3
    clear k4 lo5 hM3 t7
    go_upto_region 2 with fail
    refine wp_region_later1 (M3) ?_
    try simp only [Act.put, List.setIfInBounds_toArray, List.set_cons_succ, List.set_cons_zero]
    go_big_quiet_step (fail)
    refine later_val (fun q => run_iu (x := (.tmp 12)) rfl undInt und64 rfl q.w') (by rfl) ?_; simp only [Act.put, List.setIfInBounds_toArray, List.set_cons_succ, List.set_cons_zero]
    refine later_b (x := (.tmp 13)) (y := (.const (.int .u64 64))) rfl (bin_rem _ (BitVec.ofInt 64 z) 64#64 (by decide)) rfl rfl (by rfl) ?_; simp only [Act.put, List.setIfInBounds_toArray, List.set_cons_succ, List.set_cons_zero]
    refine later_val (fun q => run_rm (x := (.tmp 14)) rfl und64 undInt (z := z) (m := 64) (by omega) rfl q.w') (by rfl) ?_; simp only [Act.put, List.setIfInBounds_toArray, List.set_cons_succ, List.set_cons_zero]
    go_big_quiet_step (fail)
    refine wpQuiet_nil ?_
    rintro xw11 ⟨qxw11, exw11⟩
    have hbxw11 := qxw11.b
    rw [← exw11] at hbxw11
    clear qxw11 exw11
    obtain ⟨M12, hM12⟩ := sz_some xw11
    have lM12 := below_sz hbxw11 h10 hM12
    have k13 := k8.below hbxw11 (by omega)
    have lo14 := lo9.trans (hbxw11.mono (by omega))
    clear k8 lo9 hbxw11
    go_upto_region 6 with fail
    refine wp_region_lit ?_
    try simp only [Act.put, List.setIfInBounds_toArray, List.set_cons_succ, List.set_cons_zero]
    refine wpl_run rfl (Value.agg (cellsOf (nC (rightN a0)) 2)) _ (run_rw 24 (.tmp 3) rfl N rfl 24 2 _ k13 undU szU) ?_; simp only [Act.put, List.setIfInBounds_toArray, List.set_cons_succ, List.set_cons_zero]
    refine wpl_cl rfl 10 _ _ rfl #[(Value.agg (cellsOf (nC (rightN a0)) 2))] (by simp only [List.map_toArray, List.map_cons, List.map_nil]; rfl) (by kernel_rfl) (Value.agg (cellsOf (nC (rightN a0)) 2)) (To_any (rightN a0) xw11 M12 hM12) ?_
    intro xw15 hbxw15; simp only [Act.put, List.setIfInBounds_toArray, List.set_cons_succ, List.set_cons_zero]
    obtain ⟨M16, hM16⟩ := sz_some xw15
    have lM16 := below_sz hbxw15 hM12 hM16
    have k17 := k13.below hbxw15 (by omega)
    have lo18 := lo14.trans (hbxw15.mono (by omega))
    clear k13 lo14 hbxw15
    obtain ⟨b_xw19, eb_xw19⟩ : ∃ b_xw19, b_xw19 = M16 := ⟨_, rfl⟩
    have hzb_xw19 : Sz xw15 b_xw19 := by rw [eb_xw19]; exact hM16
    have lob_xw19 : M16 ≤ b_xw19 := by omega
    have upb_xw19 : b_xw19 ≤ M16 := by omega
    clear eb_xw19
    refine wpl_alloc rfl 27 rfl 2 (nC zeroN) zeT b_xw19 hzb_xw19 ?_
    intro xw19 hMxw19 hbxw19 hhxw19; simp only [Act.put, List.setIfInBounds_toArray, List.set_cons_succ, List.set_cons_zero]
    have k20 := k17.below hbxw19 (by omega)
    have lo21 := lo18.trans (hbxw19.mono (by omega))
    clear k17 lo18 hbxw19 hzb_xw19
    obtain ⟨M22, eM22⟩ : ∃ M22, M22 = b_xw19 + 1 := ⟨_, rfl⟩
    rw [← eM22] at hMxw19
    have loM22 : b_xw19 + 1 ≤ M22 := by omega
    have upM22 : M22 ≤ b_xw19 + 1 := by omega
    clear eM22
    refine wpl_store rfl 27 (.tmp 9) (.tmp 29) rfl b_xw19 2 (nC (rightN a0)) rfl rfl 27 _ hhxw19 szT (fun j _ => nC_one _ j) ?_
    intro xw23 t24 k25; simp only [Act.put, List.setIfInBounds_toArray, List.set_cons_succ, List.set_cons_zero]
    have k26 := k20.touch t24 (by omega)
    have lo27 := t24.below lo21 (by omega)
    have h28 := t24.sz hMxw19
    clear hhxw19 k20 lo21 hMxw19 t24
    go_upto_region 7 with fail
    refine wp_region_later (M22) (by kernel_rfl) (by kernel_rfl) ?_
    try simp only [Act.put, List.setIfInBounds_toArray, List.set_cons_succ, List.set_cons_zero]
    go_big_quiet_step ((go_at_call 11; exact later_of h28 _ (fun K hK hKN => knows_any _ K hK)))
    go_big_quiet_step (fail)
    refine later_row h28 27 (.tmp 9) rfl (b_xw19) rfl 27 2 _ k25 undT szT (by rfl) ?_; simp only [Act.put, List.setIfInBounds_toArray, List.set_cons_succ, List.set_cons_zero]
    go_big_quiet_step (fail)
    go_big_quiet_step ((go_at_call 26; exact later_of h28 _ (fun K hK hKN => Left_k (rightN a0) (rm z 64) (rm_lt z 64 (by omega)) _ K hK)))
    go_big_quiet_step ((go_at_call 12; exact later_of h28 _ (fun K hK hKN => From_any (tLeft (rightN a0) (rm z 64)) _ K hK)))
    refine later_row h28 24 (.tmp 3) rfl (N) rfl 24 2 _ k26 undU szU (by rfl) ?_; simp only [Act.put, List.setIfInBounds_toArray, List.set_cons_succ, List.set_cons_zero]
    go_big_quiet_step (fail)
    go_big_quiet_step ((go_at_call 27; exact later_of h28 _ (fun K hK hKN => RShift_any (rightN a0) (rm z 64) true (rm_lt z 64 (by omega)) _ K hK)))
    refine later_val (fun q => run_eql_op 24 24 (.tmp 35) (.tmp 38) rfl _ _ rfl rfl true (by kernel_rfl) (run_eqU_t h1_.out q.w')) (by rfl) ?_; simp only [Act.put, List.setIfInBounds_toArray, List.set_cons_succ, List.set_cons_zero]
    go_big_quiet_step (fail)
    go_big_quiet_step (fail)
    refine later_row h28 27 (.tmp 9) rfl (b_xw19) rfl 27 2 _ k25 undT szT (by rfl) ?_; simp only [Act.put, List.setIfInBounds_toArray, List.set_cons_succ, List.set_cons_zero]
    go_big_quiet_step (fail)
    go_big_quiet_step ((go_at_call 28; exact later_of h28 _ (fun K hK hKN => Down_k (rightN a0) (rm z 64) (rm_lt z 64 (by omega)) _ K hK)))
    go_big_quiet_step ((go_at_call 12; exact later_of h28 _ (fun K hK hKN => From_any (tDown (rightN a0) (rm z 64)) _ K hK)))
    refine later_row h28 24 (.tmp 3) rfl (N) rfl 24 2 _ k26 undU szU (by rfl) ?_; simp only [Act.put, List.setIfInBounds_toArray, List.set_cons_succ, List.set_cons_zero]
    go_big_quiet_step (fail)
    go_big_quiet_step ((go_at_call 27; exact later_of h28 _ (fun K hK hKN => RShift_any (rightN a0) (rm z 64) false (rm_lt z 64 (by omega)) _ K hK)))
    refine later_val (fun q => run_eql_op 24 24 (.tmp 45) (.tmp 48) rfl _ _ rfl rfl true (by kernel_rfl) (run_eqU_t h2_.out q.w')) (by rfl) ?_; simp only [Act.put, List.setIfInBounds_toArray, List.set_cons_succ, List.set_cons_zero]
    go_big_quiet_step (fail)
    go_big_quiet_step (fail)
    refine later_row h28 27 (.tmp 9) rfl (b_xw19) rfl 27 2 _ k25 undT szT (by rfl) ?_; simp only [Act.put, List.setIfInBounds_toArray, List.set_cons_succ, List.set_cons_zero]
    go_big_quiet_step (fail)
    go_big_quiet_step ((go_at_call 29; exact later_of h28 _ (fun K hK hKN => Low_any (rightN a0) 1 _ K hK)))
    go_big_quiet_step ((go_at_call 12; exact later_of h28 _ (fun K hK hKN => From_any (tLow (rightN a0) 1) _ K hK)))
    refine later_row h28 24 (.tmp 3) rfl (N) rfl 24 2 _ k26 undU szU (by rfl) ?_; simp only [Act.put, List.setIfInBounds_toArray, List.set_cons_succ, List.set_cons_zero]
    go_big_quiet_step (fail)
    go_big_quiet_step ((go_at_call 30; exact later_of h28 _ (fun K hK hKN => RLow_any (rightN a0) 8 (by omega) _ K hK)))
    refine later_val (fun q => run_eql_op 24 24 (.tmp 55) (.tmp 58) rfl _ _ rfl rfl true (by kernel_rfl) (run_eqU_t h3_.out q.w')) (by rfl) ?_; simp only [Act.put, List.setIfInBounds_toArray, List.set_cons_succ, List.set_cons_zero]
    go_big_quiet_step (fail)
    go_big_quiet_step (fail)
    refine later_row h28 27 (.tmp 9) rfl (b_xw19) rfl 27 2 _ k25 undT szT (by rfl) ?_; simp only [Act.put, List.setIfInBounds_toArray, List.set_cons_succ, List.set_cons_zero]
    go_big_quiet_step (fail)
    go_big_quiet_step (fail)
    go_big_quiet_step ((go_at_call 26; exact later_of h28 _ (fun K hK hKN => Left_any (rightN a0) (((rm z 64) : Int) + 64) _ K hK)))
    refine later_row h28 27 (.tmp 9) rfl (b_xw19) rfl 27 2 _ k25 undT szT (by rfl) ?_; simp only [Act.put, List.setIfInBounds_toArray, List.set_cons_succ, List.set_cons_zero]
    go_big_quiet_step (fail)
    go_big_quiet_step ((go_at_call 26; exact later_of h28 _ (fun K hK hKN => Left_k (rightN a0) (rm z 64) (rm_lt z 64 (by omega)) _ K hK)))
    refine later_val (fun q => run_eql_op 27 27 (.tmp 65) (.tmp 68) rfl _ _ rfl rfl true (by kernel_rfl) (run_eqT_t h4_.out q.w')) (by rfl) ?_; simp only [Act.put, List.setIfInBounds_toArray, List.set_cons_succ, List.set_cons_zero]
    go_big_quiet_step (fail)
    go_big_quiet_step (fail)
    refine wpQuiet_nil ?_
    rintro xw29 ⟨qxw29, exw29⟩
    have hbxw29 := qxw29.b
    rw [← exw29] at hbxw29
    clear qxw29 exw29
    obtain ⟨M30, hM30⟩ := sz_some xw29
    have lM30 := below_sz hbxw29 h28 hM30
    have k31 := k26.below hbxw29 (by omega)
    have k32 := k25.below hbxw29 (by omega)
    have lo33 := lo27.trans (hbxw29.mono (by omega))
    clear k26 k25 lo27 hbxw29
    go_wp2_with fail
    go_ret
    exact ⟨rfl, lo33⟩
  by_cases y2 : y = 2
  · subst y2
    have h3_ := hid (show tLow (rightN a0) 2 = rLow (rightN a0) 16 from h3)
    clear h3
    unfold nV
    go_enter Try.func5, Try.ntmps5
    go_upto_region 1 with (first
      | (refine wpl_box rfl 24 (.tmp 0) rfl 2 _ rfl (N) hN ?_; intro w1 hN1 hb1 hh1)
      | fail)
    have lo0 : Below N w w1 := hb1
    have k1 := hh1
    clear hh1 hb1
    go_upto_region 1 with fail
    refine wp_region_lit ?_
    try simp only [Act.put, List.setIfInBounds_toArray, List.set_cons_succ, List.set_cons_zero]
    refine wpl_run rfl (Value.agg (cellsOf (nC a0) 2)) _ (run_rw 24 (.tmp 3) rfl N rfl 24 2 _ k1 undU szU) ?_; simp only [Act.put, List.setIfInBounds_toArray, List.set_cons_succ, List.set_cons_zero]
    refine wpl_cl rfl 9 _ _ rfl #[(Value.agg (cellsOf (nC a0) 2))] (by simp only [List.map_toArray, List.map_cons, List.map_nil]; rfl) (by kernel_rfl) (Value.agg (cellsOf (nC (rightN a0)) 2)) (right_any a0 w1 (N + 1) hN1) ?_
    intro xw2 hbxw2; simp only [Act.put, List.setIfInBounds_toArray, List.set_cons_succ, List.set_cons_zero]
    obtain ⟨M3, hM3⟩ := sz_some xw2
    have lM3 := below_sz hbxw2 hN1 hM3
    have k4 := k1.below hbxw2 (by omega)
    have lo5 := lo0.trans (hbxw2.mono (by omega))
    clear k1 lo0 hbxw2
    refine wpl_store rfl 24 (.tmp 3) (.tmp 11) rfl N 2 (nC (rightN a0)) rfl rfl 24 _ k4 szU (fun j _ => nC_one _ j) ?_
    intro xw6 t7 k8; simp only [Act.put, List.setIfInBounds_toArray, List.set_cons_succ, List.set_cons_zero]
    have lo9 := t7.below lo5 (by omega)
    have h10 := t7.sz hM3
    clear k4 lo5 hM3 t7
    go_upto_region 2 with fail
    refine wp_region_later1 (M3) ?_
    try simp only [Act.put, List.setIfInBounds_toArray, List.set_cons_succ, List.set_cons_zero]
    go_big_quiet_step (fail)
    refine later_val (fun q => run_iu (x := (.tmp 12)) rfl undInt und64 rfl q.w') (by rfl) ?_; simp only [Act.put, List.setIfInBounds_toArray, List.set_cons_succ, List.set_cons_zero]
    refine later_b (x := (.tmp 13)) (y := (.const (.int .u64 64))) rfl (bin_rem _ (BitVec.ofInt 64 z) 64#64 (by decide)) rfl rfl (by rfl) ?_; simp only [Act.put, List.setIfInBounds_toArray, List.set_cons_succ, List.set_cons_zero]
    refine later_val (fun q => run_rm (x := (.tmp 14)) rfl und64 undInt (z := z) (m := 64) (by omega) rfl q.w') (by rfl) ?_; simp only [Act.put, List.setIfInBounds_toArray, List.set_cons_succ, List.set_cons_zero]
    go_big_quiet_step (fail)
    refine wpQuiet_nil ?_
    rintro xw11 ⟨qxw11, exw11⟩
    have hbxw11 := qxw11.b
    rw [← exw11] at hbxw11
    clear qxw11 exw11
    obtain ⟨M12, hM12⟩ := sz_some xw11
    have lM12 := below_sz hbxw11 h10 hM12
    have k13 := k8.below hbxw11 (by omega)
    have lo14 := lo9.trans (hbxw11.mono (by omega))
    clear k8 lo9 hbxw11
    go_upto_region 6 with fail
    refine wp_region_lit ?_
    try simp only [Act.put, List.setIfInBounds_toArray, List.set_cons_succ, List.set_cons_zero]
    refine wpl_run rfl (Value.agg (cellsOf (nC (rightN a0)) 2)) _ (run_rw 24 (.tmp 3) rfl N rfl 24 2 _ k13 undU szU) ?_; simp only [Act.put, List.setIfInBounds_toArray, List.set_cons_succ, List.set_cons_zero]
    refine wpl_cl rfl 10 _ _ rfl #[(Value.agg (cellsOf (nC (rightN a0)) 2))] (by simp only [List.map_toArray, List.map_cons, List.map_nil]; rfl) (by kernel_rfl) (Value.agg (cellsOf (nC (rightN a0)) 2)) (To_any (rightN a0) xw11 M12 hM12) ?_
    intro xw15 hbxw15; simp only [Act.put, List.setIfInBounds_toArray, List.set_cons_succ, List.set_cons_zero]
    obtain ⟨M16, hM16⟩ := sz_some xw15
    have lM16 := below_sz hbxw15 hM12 hM16
    have k17 := k13.below hbxw15 (by omega)
    have lo18 := lo14.trans (hbxw15.mono (by omega))
    clear k13 lo14 hbxw15
    obtain ⟨b_xw19, eb_xw19⟩ : ∃ b_xw19, b_xw19 = M16 := ⟨_, rfl⟩
    have hzb_xw19 : Sz xw15 b_xw19 := by rw [eb_xw19]; exact hM16
    have lob_xw19 : M16 ≤ b_xw19 := by omega
    have upb_xw19 : b_xw19 ≤ M16 := by omega
    clear eb_xw19
    refine wpl_alloc rfl 27 rfl 2 (nC zeroN) zeT b_xw19 hzb_xw19 ?_
    intro xw19 hMxw19 hbxw19 hhxw19; simp only [Act.put, List.setIfInBounds_toArray, List.set_cons_succ, List.set_cons_zero]
    have k20 := k17.below hbxw19 (by omega)
    have lo21 := lo18.trans (hbxw19.mono (by omega))
    clear k17 lo18 hbxw19 hzb_xw19
    obtain ⟨M22, eM22⟩ : ∃ M22, M22 = b_xw19 + 1 := ⟨_, rfl⟩
    rw [← eM22] at hMxw19
    have loM22 : b_xw19 + 1 ≤ M22 := by omega
    have upM22 : M22 ≤ b_xw19 + 1 := by omega
    clear eM22
    refine wpl_store rfl 27 (.tmp 9) (.tmp 29) rfl b_xw19 2 (nC (rightN a0)) rfl rfl 27 _ hhxw19 szT (fun j _ => nC_one _ j) ?_
    intro xw23 t24 k25; simp only [Act.put, List.setIfInBounds_toArray, List.set_cons_succ, List.set_cons_zero]
    have k26 := k20.touch t24 (by omega)
    have lo27 := t24.below lo21 (by omega)
    have h28 := t24.sz hMxw19
    clear hhxw19 k20 lo21 hMxw19 t24
    go_upto_region 7 with fail
    refine wp_region_later (M22) (by kernel_rfl) (by kernel_rfl) ?_
    try simp only [Act.put, List.setIfInBounds_toArray, List.set_cons_succ, List.set_cons_zero]
    go_big_quiet_step ((go_at_call 11; exact later_of h28 _ (fun K hK hKN => knows_any _ K hK)))
    go_big_quiet_step (fail)
    refine later_row h28 27 (.tmp 9) rfl (b_xw19) rfl 27 2 _ k25 undT szT (by rfl) ?_; simp only [Act.put, List.setIfInBounds_toArray, List.set_cons_succ, List.set_cons_zero]
    go_big_quiet_step (fail)
    go_big_quiet_step ((go_at_call 26; exact later_of h28 _ (fun K hK hKN => Left_k (rightN a0) (rm z 64) (rm_lt z 64 (by omega)) _ K hK)))
    go_big_quiet_step ((go_at_call 12; exact later_of h28 _ (fun K hK hKN => From_any (tLeft (rightN a0) (rm z 64)) _ K hK)))
    refine later_row h28 24 (.tmp 3) rfl (N) rfl 24 2 _ k26 undU szU (by rfl) ?_; simp only [Act.put, List.setIfInBounds_toArray, List.set_cons_succ, List.set_cons_zero]
    go_big_quiet_step (fail)
    go_big_quiet_step ((go_at_call 27; exact later_of h28 _ (fun K hK hKN => RShift_any (rightN a0) (rm z 64) true (rm_lt z 64 (by omega)) _ K hK)))
    refine later_val (fun q => run_eql_op 24 24 (.tmp 35) (.tmp 38) rfl _ _ rfl rfl true (by kernel_rfl) (run_eqU_t h1_.out q.w')) (by rfl) ?_; simp only [Act.put, List.setIfInBounds_toArray, List.set_cons_succ, List.set_cons_zero]
    go_big_quiet_step (fail)
    go_big_quiet_step (fail)
    refine later_row h28 27 (.tmp 9) rfl (b_xw19) rfl 27 2 _ k25 undT szT (by rfl) ?_; simp only [Act.put, List.setIfInBounds_toArray, List.set_cons_succ, List.set_cons_zero]
    go_big_quiet_step (fail)
    go_big_quiet_step ((go_at_call 28; exact later_of h28 _ (fun K hK hKN => Down_k (rightN a0) (rm z 64) (rm_lt z 64 (by omega)) _ K hK)))
    go_big_quiet_step ((go_at_call 12; exact later_of h28 _ (fun K hK hKN => From_any (tDown (rightN a0) (rm z 64)) _ K hK)))
    refine later_row h28 24 (.tmp 3) rfl (N) rfl 24 2 _ k26 undU szU (by rfl) ?_; simp only [Act.put, List.setIfInBounds_toArray, List.set_cons_succ, List.set_cons_zero]
    go_big_quiet_step (fail)
    go_big_quiet_step ((go_at_call 27; exact later_of h28 _ (fun K hK hKN => RShift_any (rightN a0) (rm z 64) false (rm_lt z 64 (by omega)) _ K hK)))
    refine later_val (fun q => run_eql_op 24 24 (.tmp 45) (.tmp 48) rfl _ _ rfl rfl true (by kernel_rfl) (run_eqU_t h2_.out q.w')) (by rfl) ?_; simp only [Act.put, List.setIfInBounds_toArray, List.set_cons_succ, List.set_cons_zero]
    go_big_quiet_step (fail)
    go_big_quiet_step (fail)
    refine later_row h28 27 (.tmp 9) rfl (b_xw19) rfl 27 2 _ k25 undT szT (by rfl) ?_; simp only [Act.put, List.setIfInBounds_toArray, List.set_cons_succ, List.set_cons_zero]
    go_big_quiet_step (fail)
    go_big_quiet_step ((go_at_call 29; exact later_of h28 _ (fun K hK hKN => Low_any (rightN a0) 2 _ K hK)))
    go_big_quiet_step ((go_at_call 12; exact later_of h28 _ (fun K hK hKN => From_any (tLow (rightN a0) 2) _ K hK)))
    refine later_row h28 24 (.tmp 3) rfl (N) rfl 24 2 _ k26 undU szU (by rfl) ?_; simp only [Act.put, List.setIfInBounds_toArray, List.set_cons_succ, List.set_cons_zero]
    go_big_quiet_step (fail)
    go_big_quiet_step ((go_at_call 30; exact later_of h28 _ (fun K hK hKN => RLow_any (rightN a0) 16 (by omega) _ K hK)))
    refine later_val (fun q => run_eql_op 24 24 (.tmp 55) (.tmp 58) rfl _ _ rfl rfl true (by kernel_rfl) (run_eqU_t h3_.out q.w')) (by rfl) ?_; simp only [Act.put, List.setIfInBounds_toArray, List.set_cons_succ, List.set_cons_zero]
    go_big_quiet_step (fail)
    go_big_quiet_step (fail)
    refine later_row h28 27 (.tmp 9) rfl (b_xw19) rfl 27 2 _ k25 undT szT (by rfl) ?_; simp only [Act.put, List.setIfInBounds_toArray, List.set_cons_succ, List.set_cons_zero]
    go_big_quiet_step (fail)
    go_big_quiet_step (fail)
    go_big_quiet_step ((go_at_call 26; exact later_of h28 _ (fun K hK hKN => Left_any (rightN a0) (((rm z 64) : Int) + 64) _ K hK)))
    refine later_row h28 27 (.tmp 9) rfl (b_xw19) rfl 27 2 _ k25 undT szT (by rfl) ?_; simp only [Act.put, List.setIfInBounds_toArray, List.set_cons_succ, List.set_cons_zero]
    go_big_quiet_step (fail)
    go_big_quiet_step ((go_at_call 26; exact later_of h28 _ (fun K hK hKN => Left_k (rightN a0) (rm z 64) (rm_lt z 64 (by omega)) _ K hK)))
    refine later_val (fun q => run_eql_op 27 27 (.tmp 65) (.tmp 68) rfl _ _ rfl rfl true (by kernel_rfl) (run_eqT_t h4_.out q.w')) (by rfl) ?_; simp only [Act.put, List.setIfInBounds_toArray, List.set_cons_succ, List.set_cons_zero]
    go_big_quiet_step (fail)
    go_big_quiet_step (fail)
    refine wpQuiet_nil ?_
    rintro xw29 ⟨qxw29, exw29⟩
    have hbxw29 := qxw29.b
    rw [← exw29] at hbxw29
    clear qxw29 exw29
    obtain ⟨M30, hM30⟩ := sz_some xw29
    have lM30 := below_sz hbxw29 h28 hM30
    have k31 := k26.below hbxw29 (by omega)
    have k32 := k25.below hbxw29 (by omega)
    have lo33 := lo27.trans (hbxw29.mono (by omega))
    clear k26 k25 lo27 hbxw29
    go_wp2_with fail
    go_ret
    exact ⟨rfl, lo33⟩
  by_cases y4 : y = 4
  · subst y4
    have h3_ := hid (show tLow (rightN a0) 4 = rLow (rightN a0) 32 from h3)
    clear h3
    unfold nV
    go_enter Try.func5, Try.ntmps5
    go_upto_region 1 with (first
      | (refine wpl_box rfl 24 (.tmp 0) rfl 2 _ rfl (N) hN ?_; intro w1 hN1 hb1 hh1)
      | fail)
    have lo0 : Below N w w1 := hb1
    have k1 := hh1
    clear hh1 hb1
    go_upto_region 1 with fail
    refine wp_region_lit ?_
    try simp only [Act.put, List.setIfInBounds_toArray, List.set_cons_succ, List.set_cons_zero]
    refine wpl_run rfl (Value.agg (cellsOf (nC a0) 2)) _ (run_rw 24 (.tmp 3) rfl N rfl 24 2 _ k1 undU szU) ?_; simp only [Act.put, List.setIfInBounds_toArray, List.set_cons_succ, List.set_cons_zero]
    refine wpl_cl rfl 9 _ _ rfl #[(Value.agg (cellsOf (nC a0) 2))] (by simp only [List.map_toArray, List.map_cons, List.map_nil]; rfl) (by kernel_rfl) (Value.agg (cellsOf (nC (rightN a0)) 2)) (right_any a0 w1 (N + 1) hN1) ?_
    intro xw2 hbxw2; simp only [Act.put, List.setIfInBounds_toArray, List.set_cons_succ, List.set_cons_zero]
    obtain ⟨M3, hM3⟩ := sz_some xw2
    have lM3 := below_sz hbxw2 hN1 hM3
    have k4 := k1.below hbxw2 (by omega)
    have lo5 := lo0.trans (hbxw2.mono (by omega))
    clear k1 lo0 hbxw2
    refine wpl_store rfl 24 (.tmp 3) (.tmp 11) rfl N 2 (nC (rightN a0)) rfl rfl 24 _ k4 szU (fun j _ => nC_one _ j) ?_
    intro xw6 t7 k8; simp only [Act.put, List.setIfInBounds_toArray, List.set_cons_succ, List.set_cons_zero]
    have lo9 := t7.below lo5 (by omega)
    have h10 := t7.sz hM3
    clear k4 lo5 hM3 t7
    go_upto_region 2 with fail
    refine wp_region_later1 (M3) ?_
    try simp only [Act.put, List.setIfInBounds_toArray, List.set_cons_succ, List.set_cons_zero]
    go_big_quiet_step (fail)
    refine later_val (fun q => run_iu (x := (.tmp 12)) rfl undInt und64 rfl q.w') (by rfl) ?_; simp only [Act.put, List.setIfInBounds_toArray, List.set_cons_succ, List.set_cons_zero]
    refine later_b (x := (.tmp 13)) (y := (.const (.int .u64 64))) rfl (bin_rem _ (BitVec.ofInt 64 z) 64#64 (by decide)) rfl rfl (by rfl) ?_; simp only [Act.put, List.setIfInBounds_toArray, List.set_cons_succ, List.set_cons_zero]
    refine later_val (fun q => run_rm (x := (.tmp 14)) rfl und64 undInt (z := z) (m := 64) (by omega) rfl q.w') (by rfl) ?_; simp only [Act.put, List.setIfInBounds_toArray, List.set_cons_succ, List.set_cons_zero]
    go_big_quiet_step (fail)
    refine wpQuiet_nil ?_
    rintro xw11 ⟨qxw11, exw11⟩
    have hbxw11 := qxw11.b
    rw [← exw11] at hbxw11
    clear qxw11 exw11
    obtain ⟨M12, hM12⟩ := sz_some xw11
    have lM12 := below_sz hbxw11 h10 hM12
    have k13 := k8.below hbxw11 (by omega)
    have lo14 := lo9.trans (hbxw11.mono (by omega))
    clear k8 lo9 hbxw11
    go_upto_region 6 with fail
    refine wp_region_lit ?_
    try simp only [Act.put, List.setIfInBounds_toArray, List.set_cons_succ, List.set_cons_zero]
    refine wpl_run rfl (Value.agg (cellsOf (nC (rightN a0)) 2)) _ (run_rw 24 (.tmp 3) rfl N rfl 24 2 _ k13 undU szU) ?_; simp only [Act.put, List.setIfInBounds_toArray, List.set_cons_succ, List.set_cons_zero]
    refine wpl_cl rfl 10 _ _ rfl #[(Value.agg (cellsOf (nC (rightN a0)) 2))] (by simp only [List.map_toArray, List.map_cons, List.map_nil]; rfl) (by kernel_rfl) (Value.agg (cellsOf (nC (rightN a0)) 2)) (To_any (rightN a0) xw11 M12 hM12) ?_
    intro xw15 hbxw15; simp only [Act.put, List.setIfInBounds_toArray, List.set_cons_succ, List.set_cons_zero]
    obtain ⟨M16, hM16⟩ := sz_some xw15
    have lM16 := below_sz hbxw15 hM12 hM16
    have k17 := k13.below hbxw15 (by omega)
    have lo18 := lo14.trans (hbxw15.mono (by omega))
    clear k13 lo14 hbxw15
    obtain ⟨b_xw19, eb_xw19⟩ : ∃ b_xw19, b_xw19 = M16 := ⟨_, rfl⟩
    have hzb_xw19 : Sz xw15 b_xw19 := by rw [eb_xw19]; exact hM16
    have lob_xw19 : M16 ≤ b_xw19 := by omega
    have upb_xw19 : b_xw19 ≤ M16 := by omega
    clear eb_xw19
    refine wpl_alloc rfl 27 rfl 2 (nC zeroN) zeT b_xw19 hzb_xw19 ?_
    intro xw19 hMxw19 hbxw19 hhxw19; simp only [Act.put, List.setIfInBounds_toArray, List.set_cons_succ, List.set_cons_zero]
    have k20 := k17.below hbxw19 (by omega)
    have lo21 := lo18.trans (hbxw19.mono (by omega))
    clear k17 lo18 hbxw19 hzb_xw19
    obtain ⟨M22, eM22⟩ : ∃ M22, M22 = b_xw19 + 1 := ⟨_, rfl⟩
    rw [← eM22] at hMxw19
    have loM22 : b_xw19 + 1 ≤ M22 := by omega
    have upM22 : M22 ≤ b_xw19 + 1 := by omega
    clear eM22
    refine wpl_store rfl 27 (.tmp 9) (.tmp 29) rfl b_xw19 2 (nC (rightN a0)) rfl rfl 27 _ hhxw19 szT (fun j _ => nC_one _ j) ?_
    intro xw23 t24 k25; simp only [Act.put, List.setIfInBounds_toArray, List.set_cons_succ, List.set_cons_zero]
    have k26 := k20.touch t24 (by omega)
    have lo27 := t24.below lo21 (by omega)
    have h28 := t24.sz hMxw19
    clear hhxw19 k20 lo21 hMxw19 t24
    go_upto_region 7 with fail
    refine wp_region_later (M22) (by kernel_rfl) (by kernel_rfl) ?_
    try simp only [Act.put, List.setIfInBounds_toArray, List.set_cons_succ, List.set_cons_zero]
    go_big_quiet_step ((go_at_call 11; exact later_of h28 _ (fun K hK hKN => knows_any _ K hK)))
    go_big_quiet_step (fail)
    refine later_row h28 27 (.tmp 9) rfl (b_xw19) rfl 27 2 _ k25 undT szT (by rfl) ?_; simp only [Act.put, List.setIfInBounds_toArray, List.set_cons_succ, List.set_cons_zero]
    go_big_quiet_step (fail)
    go_big_quiet_step ((go_at_call 26; exact later_of h28 _ (fun K hK hKN => Left_k (rightN a0) (rm z 64) (rm_lt z 64 (by omega)) _ K hK)))
    go_big_quiet_step ((go_at_call 12; exact later_of h28 _ (fun K hK hKN => From_any (tLeft (rightN a0) (rm z 64)) _ K hK)))
    refine later_row h28 24 (.tmp 3) rfl (N) rfl 24 2 _ k26 undU szU (by rfl) ?_; simp only [Act.put, List.setIfInBounds_toArray, List.set_cons_succ, List.set_cons_zero]
    go_big_quiet_step (fail)
    go_big_quiet_step ((go_at_call 27; exact later_of h28 _ (fun K hK hKN => RShift_any (rightN a0) (rm z 64) true (rm_lt z 64 (by omega)) _ K hK)))
    refine later_val (fun q => run_eql_op 24 24 (.tmp 35) (.tmp 38) rfl _ _ rfl rfl true (by kernel_rfl) (run_eqU_t h1_.out q.w')) (by rfl) ?_; simp only [Act.put, List.setIfInBounds_toArray, List.set_cons_succ, List.set_cons_zero]
    go_big_quiet_step (fail)
    go_big_quiet_step (fail)
    refine later_row h28 27 (.tmp 9) rfl (b_xw19) rfl 27 2 _ k25 undT szT (by rfl) ?_; simp only [Act.put, List.setIfInBounds_toArray, List.set_cons_succ, List.set_cons_zero]
    go_big_quiet_step (fail)
    go_big_quiet_step ((go_at_call 28; exact later_of h28 _ (fun K hK hKN => Down_k (rightN a0) (rm z 64) (rm_lt z 64 (by omega)) _ K hK)))
    go_big_quiet_step ((go_at_call 12; exact later_of h28 _ (fun K hK hKN => From_any (tDown (rightN a0) (rm z 64)) _ K hK)))
    refine later_row h28 24 (.tmp 3) rfl (N) rfl 24 2 _ k26 undU szU (by rfl) ?_; simp only [Act.put, List.setIfInBounds_toArray, List.set_cons_succ, List.set_cons_zero]
    go_big_quiet_step (fail)
    go_big_quiet_step ((go_at_call 27; exact later_of h28 _ (fun K hK hKN => RShift_any (rightN a0) (rm z 64) false (rm_lt z 64 (by omega)) _ K hK)))
    refine later_val (fun q => run_eql_op 24 24 (.tmp 45) (.tmp 48) rfl _ _ rfl rfl true (by kernel_rfl) (run_eqU_t h2_.out q.w')) (by rfl) ?_; simp only [Act.put, List.setIfInBounds_toArray, List.set_cons_succ, List.set_cons_zero]
    go_big_quiet_step (fail)
    go_big_quiet_step (fail)
    refine later_row h28 27 (.tmp 9) rfl (b_xw19) rfl 27 2 _ k25 undT szT (by rfl) ?_; simp only [Act.put, List.setIfInBounds_toArray, List.set_cons_succ, List.set_cons_zero]
    go_big_quiet_step (fail)
    go_big_quiet_step ((go_at_call 29; exact later_of h28 _ (fun K hK hKN => Low_any (rightN a0) 4 _ K hK)))
    go_big_quiet_step ((go_at_call 12; exact later_of h28 _ (fun K hK hKN => From_any (tLow (rightN a0) 4) _ K hK)))
    refine later_row h28 24 (.tmp 3) rfl (N) rfl 24 2 _ k26 undU szU (by rfl) ?_; simp only [Act.put, List.setIfInBounds_toArray, List.set_cons_succ, List.set_cons_zero]
    go_big_quiet_step (fail)
    go_big_quiet_step ((go_at_call 30; exact later_of h28 _ (fun K hK hKN => RLow_any (rightN a0) 32 (by omega) _ K hK)))
    refine later_val (fun q => run_eql_op 24 24 (.tmp 55) (.tmp 58) rfl _ _ rfl rfl true (by kernel_rfl) (run_eqU_t h3_.out q.w')) (by rfl) ?_; simp only [Act.put, List.setIfInBounds_toArray, List.set_cons_succ, List.set_cons_zero]
    go_big_quiet_step (fail)
    go_big_quiet_step (fail)
    refine later_row h28 27 (.tmp 9) rfl (b_xw19) rfl 27 2 _ k25 undT szT (by rfl) ?_; simp only [Act.put, List.setIfInBounds_toArray, List.set_cons_succ, List.set_cons_zero]
    go_big_quiet_step (fail)
    go_big_quiet_step (fail)
    go_big_quiet_step ((go_at_call 26; exact later_of h28 _ (fun K hK hKN => Left_any (rightN a0) (((rm z 64) : Int) + 64) _ K hK)))
    refine later_row h28 27 (.tmp 9) rfl (b_xw19) rfl 27 2 _ k25 undT szT (by rfl) ?_; simp only [Act.put, List.setIfInBounds_toArray, List.set_cons_succ, List.set_cons_zero]
    go_big_quiet_step (fail)
    go_big_quiet_step ((go_at_call 26; exact later_of h28 _ (fun K hK hKN => Left_k (rightN a0) (rm z 64) (rm_lt z 64 (by omega)) _ K hK)))
    refine later_val (fun q => run_eql_op 27 27 (.tmp 65) (.tmp 68) rfl _ _ rfl rfl true (by kernel_rfl) (run_eqT_t h4_.out q.w')) (by rfl) ?_; simp only [Act.put, List.setIfInBounds_toArray, List.set_cons_succ, List.set_cons_zero]
    go_big_quiet_step (fail)
    go_big_quiet_step (fail)
    refine wpQuiet_nil ?_
    rintro xw29 ⟨qxw29, exw29⟩
    have hbxw29 := qxw29.b
    rw [← exw29] at hbxw29
    clear qxw29 exw29
    obtain ⟨M30, hM30⟩ := sz_some xw29
    have lM30 := below_sz hbxw29 h28 hM30
    have k31 := k26.below hbxw29 (by omega)
    have k32 := k25.below hbxw29 (by omega)
    have lo33 := lo27.trans (hbxw29.mono (by omega))
    clear k26 k25 lo27 hbxw29
    go_wp2_with fail
    go_ret
    exact ⟨rfl, lo33⟩
  have h3_ := hid (show tLow (rightN a0) y = rLow (rightN a0) 64 by rw [h3]; unfold cutB; rw [if_neg y1, if_neg y2, if_neg y4])
  clear h3
  have d1 : (y == 1) = false := beq_eq_false_iff_ne.2 y1
  have d2 : (y == 2) = false := beq_eq_false_iff_ne.2 y2
  have d4 : (y == 4) = false := beq_eq_false_iff_ne.2 y4
  clear y1 y2 y4
  unfold nV
  go_enter Try.func5, Try.ntmps5
  go_upto_region 1 with (first
    | (refine wpl_box rfl 24 (.tmp 0) rfl 2 _ rfl (N) hN ?_; intro w1 hN1 hb1 hh1)
    | fail)
  have lo0 : Below N w w1 := hb1
  have k1 := hh1
  clear hh1 hb1
  go_upto_region 1 with fail
  refine wp_region_lit ?_
  try simp only [Act.put, List.setIfInBounds_toArray, List.set_cons_succ, List.set_cons_zero]
  refine wpl_run rfl (Value.agg (cellsOf (nC a0) 2)) _ (run_rw 24 (.tmp 3) rfl N rfl 24 2 _ k1 undU szU) ?_; simp only [Act.put, List.setIfInBounds_toArray, List.set_cons_succ, List.set_cons_zero]
  refine wpl_cl rfl 9 _ _ rfl #[(Value.agg (cellsOf (nC a0) 2))] (by simp only [List.map_toArray, List.map_cons, List.map_nil]; rfl) (by kernel_rfl) (Value.agg (cellsOf (nC (rightN a0)) 2)) (right_any a0 w1 (N + 1) hN1) ?_
  intro xw2 hbxw2; simp only [Act.put, List.setIfInBounds_toArray, List.set_cons_succ, List.set_cons_zero]
  obtain ⟨M3, hM3⟩ := sz_some xw2
  have lM3 := below_sz hbxw2 hN1 hM3
  have k4 := k1.below hbxw2 (by omega)
  have lo5 := lo0.trans (hbxw2.mono (by omega))
  clear k1 lo0 hbxw2
  refine wpl_store rfl 24 (.tmp 3) (.tmp 11) rfl N 2 (nC (rightN a0)) rfl rfl 24 _ k4 szU (fun j _ => nC_one _ j) ?_
  intro xw6 t7 k8; simp only [Act.put, List.setIfInBounds_toArray, List.set_cons_succ, List.set_cons_zero]
  have lo9 := t7.below lo5 (by omega)
  have h10 := t7.sz hM3
  clear k4 lo5 hM3 t7
  go_upto_region 2 with fail
  refine wp_region_later1 (M3) ?_
  try simp only [Act.put, List.setIfInBounds_toArray, List.set_cons_succ, List.set_cons_zero]
  go_big_quiet_step (fail)
  refine later_val (fun q => run_iu (x := (.tmp 12)) rfl undInt und64 rfl q.w') (by rfl) ?_; simp only [Act.put, List.setIfInBounds_toArray, List.set_cons_succ, List.set_cons_zero]
  refine later_b (x := (.tmp 13)) (y := (.const (.int .u64 64))) rfl (bin_rem _ (BitVec.ofInt 64 z) 64#64 (by decide)) rfl rfl (by rfl) ?_; simp only [Act.put, List.setIfInBounds_toArray, List.set_cons_succ, List.set_cons_zero]
  refine later_val (fun q => run_rm (x := (.tmp 14)) rfl und64 undInt (z := z) (m := 64) (by omega) rfl q.w') (by rfl) ?_; simp only [Act.put, List.setIfInBounds_toArray, List.set_cons_succ, List.set_cons_zero]
  go_big_quiet_step (fail)
  refine wpQuiet_nil ?_
  rintro xw11 ⟨qxw11, exw11⟩
  have hbxw11 := qxw11.b
  rw [← exw11] at hbxw11
  clear qxw11 exw11
  obtain ⟨M12, hM12⟩ := sz_some xw11
  have lM12 := below_sz hbxw11 h10 hM12
  have k13 := k8.below hbxw11 (by omega)
  have lo14 := lo9.trans (hbxw11.mono (by omega))
  clear k8 lo9 hbxw11
  go_upto_region 6 with fail
  refine wp_region_lit ?_
  try simp only [Act.put, List.setIfInBounds_toArray, List.set_cons_succ, List.set_cons_zero]
  refine wpl_run rfl (Value.agg (cellsOf (nC (rightN a0)) 2)) _ (run_rw 24 (.tmp 3) rfl N rfl 24 2 _ k13 undU szU) ?_; simp only [Act.put, List.setIfInBounds_toArray, List.set_cons_succ, List.set_cons_zero]
  refine wpl_cl rfl 10 _ _ rfl #[(Value.agg (cellsOf (nC (rightN a0)) 2))] (by simp only [List.map_toArray, List.map_cons, List.map_nil]; rfl) (by kernel_rfl) (Value.agg (cellsOf (nC (rightN a0)) 2)) (To_any (rightN a0) xw11 M12 hM12) ?_
  intro xw15 hbxw15; simp only [Act.put, List.setIfInBounds_toArray, List.set_cons_succ, List.set_cons_zero]
  obtain ⟨M16, hM16⟩ := sz_some xw15
  have lM16 := below_sz hbxw15 hM12 hM16
  have k17 := k13.below hbxw15 (by omega)
  have lo18 := lo14.trans (hbxw15.mono (by omega))
  clear k13 lo14 hbxw15
  obtain ⟨b_xw19, eb_xw19⟩ : ∃ b_xw19, b_xw19 = M16 := ⟨_, rfl⟩
  have hzb_xw19 : Sz xw15 b_xw19 := by rw [eb_xw19]; exact hM16
  have lob_xw19 : M16 ≤ b_xw19 := by omega
  have upb_xw19 : b_xw19 ≤ M16 := by omega
  clear eb_xw19
  refine wpl_alloc rfl 27 rfl 2 (nC zeroN) zeT b_xw19 hzb_xw19 ?_
  intro xw19 hMxw19 hbxw19 hhxw19; simp only [Act.put, List.setIfInBounds_toArray, List.set_cons_succ, List.set_cons_zero]
  have k20 := k17.below hbxw19 (by omega)
  have lo21 := lo18.trans (hbxw19.mono (by omega))
  clear k17 lo18 hbxw19 hzb_xw19
  obtain ⟨M22, eM22⟩ : ∃ M22, M22 = b_xw19 + 1 := ⟨_, rfl⟩
  rw [← eM22] at hMxw19
  have loM22 : b_xw19 + 1 ≤ M22 := by omega
  have upM22 : M22 ≤ b_xw19 + 1 := by omega
  clear eM22
  refine wpl_store rfl 27 (.tmp 9) (.tmp 29) rfl b_xw19 2 (nC (rightN a0)) rfl rfl 27 _ hhxw19 szT (fun j _ => nC_one _ j) ?_
  intro xw23 t24 k25; simp only [Act.put, List.setIfInBounds_toArray, List.set_cons_succ, List.set_cons_zero]
  have k26 := k20.touch t24 (by omega)
  have lo27 := t24.below lo21 (by omega)
  have h28 := t24.sz hMxw19
  clear hhxw19 k20 lo21 hMxw19 t24
  go_upto_region 7 with fail
  refine wp_region_later (M22) (by kernel_rfl) (by kernel_rfl) ?_
  try simp only [Act.put, List.setIfInBounds_toArray, List.set_cons_succ, List.set_cons_zero]
  go_big_quiet_step ((go_at_call 11; exact later_of h28 _ (fun K hK hKN => knows_any _ K hK)))
  go_big_quiet_step (fail)
  refine later_row h28 27 (.tmp 9) rfl (b_xw19) rfl 27 2 _ k25 undT szT (by rfl) ?_; simp only [Act.put, List.setIfInBounds_toArray, List.set_cons_succ, List.set_cons_zero]
  go_big_quiet_step (fail)
  go_big_quiet_step ((go_at_call 26; exact later_of h28 _ (fun K hK hKN => Left_k (rightN a0) (rm z 64) (rm_lt z 64 (by omega)) _ K hK)))
  go_big_quiet_step ((go_at_call 12; exact later_of h28 _ (fun K hK hKN => From_any (tLeft (rightN a0) (rm z 64)) _ K hK)))
  refine later_row h28 24 (.tmp 3) rfl (N) rfl 24 2 _ k26 undU szU (by rfl) ?_; simp only [Act.put, List.setIfInBounds_toArray, List.set_cons_succ, List.set_cons_zero]
  go_big_quiet_step (fail)
  go_big_quiet_step ((go_at_call 27; exact later_of h28 _ (fun K hK hKN => RShift_any (rightN a0) (rm z 64) true (rm_lt z 64 (by omega)) _ K hK)))
  refine later_val (fun q => run_eql_op 24 24 (.tmp 35) (.tmp 38) rfl _ _ rfl rfl true (by kernel_rfl) (run_eqU_t h1_.out q.w')) (by rfl) ?_; simp only [Act.put, List.setIfInBounds_toArray, List.set_cons_succ, List.set_cons_zero]
  go_big_quiet_step (fail)
  go_big_quiet_step (fail)
  refine later_row h28 27 (.tmp 9) rfl (b_xw19) rfl 27 2 _ k25 undT szT (by rfl) ?_; simp only [Act.put, List.setIfInBounds_toArray, List.set_cons_succ, List.set_cons_zero]
  go_big_quiet_step (fail)
  go_big_quiet_step ((go_at_call 28; exact later_of h28 _ (fun K hK hKN => Down_k (rightN a0) (rm z 64) (rm_lt z 64 (by omega)) _ K hK)))
  go_big_quiet_step ((go_at_call 12; exact later_of h28 _ (fun K hK hKN => From_any (tDown (rightN a0) (rm z 64)) _ K hK)))
  refine later_row h28 24 (.tmp 3) rfl (N) rfl 24 2 _ k26 undU szU (by rfl) ?_; simp only [Act.put, List.setIfInBounds_toArray, List.set_cons_succ, List.set_cons_zero]
  go_big_quiet_step (fail)
  go_big_quiet_step ((go_at_call 27; exact later_of h28 _ (fun K hK hKN => RShift_any (rightN a0) (rm z 64) false (rm_lt z 64 (by omega)) _ K hK)))
  refine later_val (fun q => run_eql_op 24 24 (.tmp 45) (.tmp 48) rfl _ _ rfl rfl true (by kernel_rfl) (run_eqU_t h2_.out q.w')) (by rfl) ?_; simp only [Act.put, List.setIfInBounds_toArray, List.set_cons_succ, List.set_cons_zero]
  go_big_quiet_step (fail)
  go_big_quiet_step (fail)
  refine later_row h28 27 (.tmp 9) rfl (b_xw19) rfl 27 2 _ k25 undT szT (by rfl) ?_; simp only [Act.put, List.setIfInBounds_toArray, List.set_cons_succ, List.set_cons_zero]
  go_big_quiet_step (fail)
  go_big_quiet_step ((go_at_call 29; exact later_of h28 _ (fun K hK hKN => Low_any (rightN a0) y _ K hK)))
  go_big_quiet_step ((go_at_call 12; exact later_of h28 _ (fun K hK hKN => From_any (tLow (rightN a0) y) _ K hK)))
  refine later_row h28 24 (.tmp 3) rfl (N) rfl 24 2 _ k26 undU szU (by rfl) ?_; simp only [Act.put, List.setIfInBounds_toArray, List.set_cons_succ, List.set_cons_zero]
  go_big_quiet_step (fail)
  go_big_quiet_step ((go_at_call 30; exact later_of h28 _ (fun K hK hKN => RLow_any (rightN a0) 64 (by omega) _ K hK)))
  refine later_val (fun q => run_eql_op 24 24 (.tmp 55) (.tmp 58) rfl _ _ rfl rfl true (by kernel_rfl) (run_eqU_t h3_.out q.w')) (by rfl) ?_; simp only [Act.put, List.setIfInBounds_toArray, List.set_cons_succ, List.set_cons_zero]
  go_big_quiet_step (fail)
  go_big_quiet_step (fail)
  refine later_row h28 27 (.tmp 9) rfl (b_xw19) rfl 27 2 _ k25 undT szT (by rfl) ?_; simp only [Act.put, List.setIfInBounds_toArray, List.set_cons_succ, List.set_cons_zero]
  go_big_quiet_step (fail)
  go_big_quiet_step (fail)
  go_big_quiet_step ((go_at_call 26; exact later_of h28 _ (fun K hK hKN => Left_any (rightN a0) (((rm z 64) : Int) + 64) _ K hK)))
  refine later_row h28 27 (.tmp 9) rfl (b_xw19) rfl 27 2 _ k25 undT szT (by rfl) ?_; simp only [Act.put, List.setIfInBounds_toArray, List.set_cons_succ, List.set_cons_zero]
  go_big_quiet_step (fail)
  go_big_quiet_step ((go_at_call 26; exact later_of h28 _ (fun K hK hKN => Left_k (rightN a0) (rm z 64) (rm_lt z 64 (by omega)) _ K hK)))
  refine later_val (fun q => run_eql_op 27 27 (.tmp 65) (.tmp 68) rfl _ _ rfl rfl true (by kernel_rfl) (run_eqT_t h4_.out q.w')) (by rfl) ?_; simp only [Act.put, List.setIfInBounds_toArray, List.set_cons_succ, List.set_cons_zero]
  go_big_quiet_step (fail)
  go_big_quiet_step (fail)
  refine wpQuiet_nil ?_
  rintro xw29 ⟨qxw29, exw29⟩
  have hbxw29 := qxw29.b
  rw [← exw29] at hbxw29
  clear qxw29 exw29
  obtain ⟨M30, hM30⟩ := sz_some xw29
  have lM30 := below_sz hbxw29 h28 hM30
  have k31 := k26.below hbxw29 (by omega)
  have k32 := k25.below hbxw29 (by omega)
  have lo33 := lo27.trans (hbxw29.mono (by omega))
  clear k26 k25 lo27 hbxw29
  go_wp2_with fail
  go_ret
  exact ⟨rfl, lo33⟩
end Go.Proofs.Ytbeikhokkpioeaa
