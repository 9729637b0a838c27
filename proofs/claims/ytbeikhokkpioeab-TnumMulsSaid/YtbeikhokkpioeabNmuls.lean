/- TnumMuls: the walk. -/
import Derived.Test.YtbeikhokkpioeabNg
namespace Go.Proofs.Ytbeikhokkpioeab
open Go Go.RowKit
theorem pick_has {a : Nm} (ha : Rgt a) (x : W) : tHas a (a.v ||| (x &&& a.m)) = true := by
  rw [has_iff]
  intro i hi
  have := ha.bit i
  simp only [BitVec.getLsbD_or, BitVec.getLsbD_and]
  revert this
  cases a.v.getLsbD i <;> cases a.m.getLsbD i <;> cases x.getLsbD i <;> decide
theorem mul_shl (x : W) (k : Nat) : x * (1#64 <<< k) = x <<< k := by
  apply BitVec.eq_of_toNat_eq
  simp only [BitVec.toNat_mul, BitVec.toNat_shiftLeft, Nat.shiftLeft_eq, BitVec.toNat_ofNat]
  rw [show 1 % 2 ^ 64 * 2 ^ k = 2 ^ k from by simp, Nat.mul_mod_mod]
set_option maxRecDepth 100000 in
set_option maxHeartbeats 1000000 in
theorem law_muls (a0 : Nm) (z : Int) (x : W) (w : World) (N : Nat) (hN : Sz w N) : Calls Try.prog 4 #[nV a0, .int .i64 z, Q x] w fun e w' => e = .returned (.bool true) ∧ Below N w w' := by
  have ha := rightN_rgt a0
  have hk := rm_lt z 64 (by omega)
  have hp : tHas (rightN a0) ((rightN a0).v ||| (x &&& (rightN a0).m)) = true := pick_has ha x
  have H1 : tHas (tMul (rightN a0) (tConst (1#64 <<< rm z 64))) (((rightN a0).v ||| (x &&& (rightN a0).m)) <<< rm z 64) = true := by
    have := mul_has hp (const_has (1#64 <<< rm z 64)); rwa [mul_shl] at this
  have H2 : tHas (tMul (tConst (1#64 <<< rm z 64)) (rightN a0)) (((rightN a0).v ||| (x &&& (rightN a0).m)) <<< rm z 64) = true := by
    have := mul_has (const_has (1#64 <<< rm z 64)) hp; rwa [BitVec.mul_comm, mul_shl] at this
  have H3 : tRight (tMul (rightN a0) (tConst (1#64 <<< rm z 64))) = true := tRight_iff.2 (mulN_rgt _ _ _)
  have H4 : tRight (tMul (tConst (1#64 <<< rm z 64)) (rightN a0)) = true := tRight_iff.2 (mulN_rgt _ _ _)
  have H5 : tHas (tMul (rightN a0) (rightN a0)) (((rightN a0).v ||| (x &&& (rightN a0).m)) * ((rightN a0).v ||| (x &&& (rightN a0).m))) = true := mul_has hp hp
  have h1 := hid H1
  have h2 := hid H2
  have h3 := hid H3
  have h4 := hid H4
  have h5 := hid H5
  clear H1 H2 H3 H4 H5 hp ha hk
  unfold nV
  go_enter Try.func4, Try.ntmps4
  go_upto_region 1 with (first
    | (refine wpl_box rfl 24 (.tmp 0) rfl 2 _ rfl (N) hN ?_; intro w1 hN1 hb1 hh1)
    | fail)
  have lo0 : Below N w w1 := hb1
  have k1 := hh1
  clear hh1 hb1
  go_upto_region 1 with fail
  refine wp_region_lit ?_
  try simp only [Act.put, List.setIfInBounds_toArray, List.set_cons_succ, List.set_cons_zero]
  refine wpl_run rfl (Value.agg (cellsOf (nC a0) 2)) _ (run_rw 24 (.tmp 3) rfl N rfl 24 2 _ k1 undU szU) ?_; simp only [Act.put, List.setIfInBounds_toArray, List.set_cons_succ, List.set_cons_zero]
  refine wpl_cl rfl 5 _ _ rfl #[(Value.agg (cellsOf (nC a0) 2))] (by simp only [List.map_toArray, List.map_cons, List.map_nil]; rfl) (by kernel_rfl) (Value.agg (cellsOf (nC (rightN a0)) 2)) (right_any a0 w1 (N + 1) hN1) ?_
  intro xw2 hbxw2; simp only [Act.put, List.setIfInBounds_toArray, List.set_cons_succ, List.set_cons_zero]
  obtain ⟨M3, hM3⟩ := sz_some xw2
  have lM3 := below_sz hbxw2 hN1 hM3
  have k4 := k1.below hbxw2 (by omega)
  have lo5 := lo0.trans (hbxw2.mono (by omega))
  clear k1 lo0 hbxw2
  refine wpl_store rfl 24 (.tmp 3) (.tmp 12) rfl N 2 (nC (rightN a0)) rfl rfl 24 _ k4 szU (fun j _ => nC_one _ j) ?_
  intro xw6 t7 k8; simp only [Act.put, List.setIfInBounds_toArray, List.set_cons_succ, List.set_cons_zero]
  have lo9 := t7.below lo5 (by omega)
  have h10 := t7.sz hM3
  clear k4 lo5 hM3 t7
  go_upto_region 2 with fail
  refine wp_region_later1 (M3) ?_
  go_big_quiet_step (fail)
  refine later_val (fun q => run_iu (x := (.tmp 13)) rfl undInt und64 rfl q.w') (by rfl) ?_; simp only [Act.put, List.setIfInBounds_toArray, List.set_cons_succ, List.set_cons_zero]
  refine later_b (x := (.tmp 14)) (y := (.const (.int .u64 64))) rfl (bin_rem _ (BitVec.ofInt 64 z) 64#64 (by decide)) rfl rfl (by rfl) ?_; simp only [Act.put, List.setIfInBounds_toArray, List.set_cons_succ, List.set_cons_zero]
  refine later_val (fun q => run_rm (x := (.tmp 15)) rfl und64 undInt (z := z) (m := 64) (by omega) rfl q.w') (by rfl) ?_; simp only [Act.put, List.setIfInBounds_toArray, List.set_cons_succ, List.set_cons_zero]
  go_big_quiet_step (fail)
  refine wpQuiet_nil ?_
  rintro xw11 ⟨qxw11, exw11⟩
  have hbxw11 := qxw11.b
  rw [← exw11] at hbxw11
  clear qxw11 exw11
  obtain ⟨M12, hM12⟩ := sz_some xw11
  have lM12 := below_sz hbxw11 h10 hM12
  have k13 := k8.below hbxw11 (by omega)
  have lo14 := lo9.trans (hbxw11.mono (by omega))
  clear k8 lo9 hbxw11
  go_upto_region 3 with fail
  refine wp_region_any (by kernel_rfl) ?_
  replace k13 : Has xw11.drew N 24 2 (nC (rightN a0)) := k13
  replace hM12 : Sz xw11.drew M12 := hM12
  replace lo14 : Below N w xw11.drew := lo14.drew
  change wpAny _ _ _ _ _ _ _ (World.drew _)
  generalize xw11.drew = xw15 at *
  refine wpAny_pot (rem := [0, 1, 2, 3, 4, 5, 6]) (FG M12 (fun j => if j = 0 then some (Value.agg (cellsOf (nC (rightN a0)) 2)) else if j = 1 then some (Value.agg (cellsOf (nC (rightN a0)) 2)) else if j = 2 then some (Value.int .i64 ((rm z 64) : Int)) else if j = 3 then some (Q (1#64 <<< (rm z 64))) else if j = 4 then some (Value.agg (cellsOf (nC (tConst (1#64 <<< (rm z 64)))) 2)) else if j = 5 then some (Value.agg (cellsOf (nC (tMul (rightN a0) (tConst (1#64 <<< (rm z 64))))) 2)) else none) (fun j => (27, 2, nC zeroN))) (TwoN (fun j => if j = 0 then some (Value.agg (cellsOf (nC (rightN a0)) 2)) else if j = 1 then some (Value.agg (cellsOf (nC (rightN a0)) 2)) else if j = 2 then some (Value.int .i64 ((rm z 64) : Int)) else if j = 3 then some (Q (1#64 <<< (rm z 64))) else if j = 4 then some (Value.agg (cellsOf (nC (tConst (1#64 <<< (rm z 64)))) 2)) else if j = 5 then some (Value.agg (cellsOf (nC (tMul (rightN a0) (tConst (1#64 <<< (rm z 64))))) 2)) else none)) (Below M12 xw15) _ _ _ _ (by kernel_rfl) (size_dstG (by kernel_rfl)) (Below.refl _ _) ?_ ?_
  · intro i hi ac wa hI ha hv
    simp only [List.mem_cons, List.not_mem_nil, or_false] at hi
    rcases hi with rfl | rfl | rfl | rfl | rfl | rfl | rfl
    · exact potg_run rfl rfl (Value.agg (cellsOf (nC (rightN a0)) 2)) rfl (run_rw 24 (.tmp 3) rfl N (ha 3 (not_dstG (by kernel_rfl))) 24 2 _ (Has.below k13 hI (Has.ltN k13 hM12)) undU szU) hM12 hI
    · obtain ⟨v0, hv0a, hv0b⟩ := hv 0 (by simp) (by kernel_rfl)
      have ev0 := hv0b.val rfl
      subst ev0
      exact potg_cl rfl rfl 6 _ _ rfl #[(Value.agg (cellsOf (nC (rightN a0)) 2))] (by simp only [List.map_toArray, List.map_cons, List.map_nil, (show ac.eval (.tmp 17) = (Value.agg (cellsOf (nC (rightN a0)) 2)) from (hv0a 17 rfl))] <;> rfl) (by kernel_rfl) (Value.agg (cellsOf (nC (rightN a0)) 2)) (fun K hK => To_any (rightN a0) wa K hK) rfl hM12 hI
    · exact potg_run rfl rfl (Value.int .i64 ((rm z 64) : Int)) rfl (run_mv (x := (.tmp 7)) rfl _ (ha 7 (not_dstG (by kernel_rfl)))) hM12 hI
    · obtain ⟨v2, hv2a, hv2b⟩ := hv 2 (by simp) (by kernel_rfl)
      have ev2 := hv2b.val rfl
      subst ev2
      exact potg_run rfl rfl (Q (1#64 <<< (rm z 64))) rfl ((bin_shl _ 1#64 (rm z 64)) _ _ (.const (.int .u64 1)) (.tmp 19) _ wa rfl rfl (hv2a 19 rfl)) hM12 hI
    · obtain ⟨v3, hv3a, hv3b⟩ := hv 3 (by simp) (by kernel_rfl)
      have ev3 := hv3b.val rfl
      subst ev3
      exact potg_cl rfl rfl 16 _ _ rfl #[(Q (1#64 <<< (rm z 64)))] (by simp only [List.map_toArray, List.map_cons, List.map_nil, (show ac.eval (.tmp 20) = (Q (1#64 <<< (rm z 64))) from (hv3a 20 rfl))] <;> rfl) (by kernel_rfl) (Value.agg (cellsOf (nC (tConst (1#64 <<< (rm z 64)))) 2)) (fun K hK => Const_any (1#64 <<< (rm z 64)) wa K hK) rfl hM12 hI
    · obtain ⟨v1, hv1a, hv1b⟩ := hv 1 (by simp) (by kernel_rfl)
      have ev1 := hv1b.val rfl
      subst ev1
      obtain ⟨v4, hv4a, hv4b⟩ := hv 4 (by simp) (by kernel_rfl)
      have ev4 := hv4b.val rfl
      subst ev4
      exact potg_cl rfl rfl 15 _ _ rfl #[(Value.agg (cellsOf (nC (rightN a0)) 2)), (Value.agg (cellsOf (nC (tConst (1#64 <<< (rm z 64)))) 2))] (by simp only [List.map_toArray, List.map_cons, List.map_nil, (show ac.eval (.tmp 18) = (Value.agg (cellsOf (nC (rightN a0)) 2)) from (hv1a 18 rfl)), (show ac.eval (.tmp 21) = (Value.agg (cellsOf (nC (tConst (1#64 <<< (rm z 64)))) 2)) from (hv4a 21 rfl))] <;> rfl) (by kernel_rfl) (Value.agg (cellsOf (nC (tMul (rightN a0) (tConst (1#64 <<< (rm z 64))))) 2)) (fun K hK => Mul_any (rightN a0) (tConst (1#64 <<< (rm z 64))) wa K hK) rfl hM12 hI
    · exact potg_al rfl rfl rfl zeT rfl rfl hM12 hI
  · intro vals w5_16_ hb5_16_ hF hG
    have e_16_0 := (hF 0 (by simp)).val rfl
    have e_16_1 := (hF 1 (by simp)).val rfl
    have e_16_2 := (hF 2 (by simp)).val rfl
    have e_16_3 := (hF 3 (by simp)).val rfl
    have e_16_4 := (hF 4 (by simp)).val rfl
    have e_16_5 := (hF 5 (by simp)).val rfl
    obtain ⟨b_16_6, l_16_6, e_16_6, h_16_6⟩ := (hF 6 (by simp)).al rfl rfl
    clear hF hG
    simp only [List.foldl_cons, List.foldl_nil, dstOf, List.getElem?_toArray, List.getElem?_cons_succ, List.getElem?_cons_zero, Option.bind_some, Act.put, List.setIfInBounds_toArray, List.set_cons_succ, List.set_cons_zero, e_16_0, e_16_1, e_16_2, e_16_3, e_16_4, e_16_5, e_16_6]
    clear e_16_0 e_16_1 e_16_2 e_16_3 e_16_4 e_16_5 e_16_6
    refine wpAny_chain [7] _ _ _ _ (by kernel_rfl) (by decide) ?_
    simp only [List.filterMap_cons, List.filterMap_nil, List.getElem?_toArray, List.getElem?_cons_succ, List.getElem?_cons_zero]
    have k17 := k13.below hb5_16_ (by omega)
    have lo18 := lo14.trans (hb5_16_.mono (by omega))
    clear k13 lo14 hb5_16_
    refine wpl_store rfl 27 (.tmp 8) (.tmp 22) rfl b_16_6 2 (nC (tMul (rightN a0) (tConst (1#64 <<< (rm z 64))))) rfl rfl 27 _ h_16_6 szT (fun j _ => nC_one _ j) ?_
    intro xw19 t20 k21
    have k22 := k17.touch t20 (by omega)
    have lo23 := t20.below lo18 (by omega)
    clear h_16_6 k17 lo18 t20
    obtain ⟨M24, hM24⟩ := sz_some xw19
    have lt_25 := k22.ltN hM24
    have lt_26 := k21.ltN hM24
    go_upto_region 4 with fail
    refine wp_region_any (by kernel_rfl) ?_
    replace k22 : Has xw19.drew N 24 2 (nC (rightN a0)) := k22
    replace k21 : Has xw19.drew b_16_6 27 2 (nC (tMul (rightN a0) (tConst (1#64 <<< (rm z 64))))) := k21
    replace hM24 : Sz xw19.drew M24 := hM24
    replace lo23 : Below N w xw19.drew := lo23.drew
    change wpAny _ _ _ _ _ _ _ (World.drew _)
    generalize xw19.drew = xw27 at *
    refine wpAny_pot (rem := [0, 1, 2, 3, 4, 5, 6]) (FG M24 (fun j => if j = 0 then some (Value.int .i64 ((rm z 64) : Int)) else if j = 1 then some (Q (1#64 <<< (rm z 64))) else if j = 2 then some (Value.agg (cellsOf (nC (tConst (1#64 <<< (rm z 64)))) 2)) else if j = 3 then some (Value.agg (cellsOf (nC (rightN a0)) 2)) else if j = 4 then some (Value.agg (cellsOf (nC (rightN a0)) 2)) else if j = 5 then some (Value.agg (cellsOf (nC (tMul (tConst (1#64 <<< (rm z 64))) (rightN a0))) 2)) else none) (fun j => (27, 2, nC zeroN))) (TwoN (fun j => if j = 0 then some (Value.int .i64 ((rm z 64) : Int)) else if j = 1 then some (Q (1#64 <<< (rm z 64))) else if j = 2 then some (Value.agg (cellsOf (nC (tConst (1#64 <<< (rm z 64)))) 2)) else if j = 3 then some (Value.agg (cellsOf (nC (rightN a0)) 2)) else if j = 4 then some (Value.agg (cellsOf (nC (rightN a0)) 2)) else if j = 5 then some (Value.agg (cellsOf (nC (tMul (tConst (1#64 <<< (rm z 64))) (rightN a0))) 2)) else none)) (Below M24 xw27) _ _ _ _ (by kernel_rfl) (size_dstG (by kernel_rfl)) (Below.refl _ _) ?_ ?_
    · intro i hi ac wa hI ha hv
      simp only [List.mem_cons, List.not_mem_nil, or_false] at hi
      rcases hi with rfl | rfl | rfl | rfl | rfl | rfl | rfl
      · exact potg_run rfl rfl (Value.int .i64 ((rm z 64) : Int)) rfl (run_mv (x := (.tmp 7)) rfl _ (ha 7 (not_dstG (by kernel_rfl)))) hM24 hI
      · obtain ⟨v0, hv0a, hv0b⟩ := hv 0 (by simp) (by kernel_rfl)
        have ev0 := hv0b.val rfl
        subst ev0
        exact potg_run rfl rfl (Q (1#64 <<< (rm z 64))) rfl ((bin_shl _ 1#64 (rm z 64)) _ _ (.const (.int .u64 1)) (.tmp 23) _ wa rfl rfl (hv0a 23 rfl)) hM24 hI
      · obtain ⟨v1, hv1a, hv1b⟩ := hv 1 (by simp) (by kernel_rfl)
        have ev1 := hv1b.val rfl
        subst ev1
        exact potg_cl rfl rfl 16 _ _ rfl #[(Q (1#64 <<< (rm z 64)))] (by simp only [List.map_toArray, List.map_cons, List.map_nil, (show ac.eval (.tmp 24) = (Q (1#64 <<< (rm z 64))) from (hv1a 24 rfl))] <;> rfl) (by kernel_rfl) (Value.agg (cellsOf (nC (tConst (1#64 <<< (rm z 64)))) 2)) (fun K hK => Const_any (1#64 <<< (rm z 64)) wa K hK) rfl hM24 hI
      · exact potg_run rfl rfl (Value.agg (cellsOf (nC (rightN a0)) 2)) rfl (run_rw 24 (.tmp 3) rfl N (ha 3 (not_dstG (by kernel_rfl))) 24 2 _ (Has.below k22 hI (Has.ltN k22 hM24)) undU szU) hM24 hI
      · obtain ⟨v3, hv3a, hv3b⟩ := hv 3 (by simp) (by kernel_rfl)
        have ev3 := hv3b.val rfl
        subst ev3
        exact potg_cl rfl rfl 6 _ _ rfl #[(Value.agg (cellsOf (nC (rightN a0)) 2))] (by simp only [List.map_toArray, List.map_cons, List.map_nil, (show ac.eval (.tmp 26) = (Value.agg (cellsOf (nC (rightN a0)) 2)) from (hv3a 26 rfl))] <;> rfl) (by kernel_rfl) (Value.agg (cellsOf (nC (rightN a0)) 2)) (fun K hK => To_any (rightN a0) wa K hK) rfl hM24 hI
      · obtain ⟨v2, hv2a, hv2b⟩ := hv 2 (by simp) (by kernel_rfl)
        have ev2 := hv2b.val rfl
        subst ev2
        obtain ⟨v4, hv4a, hv4b⟩ := hv 4 (by simp) (by kernel_rfl)
        have ev4 := hv4b.val rfl
        subst ev4
        exact potg_cl rfl rfl 15 _ _ rfl #[(Value.agg (cellsOf (nC (tConst (1#64 <<< (rm z 64)))) 2)), (Value.agg (cellsOf (nC (rightN a0)) 2))] (by simp only [List.map_toArray, List.map_cons, List.map_nil, (show ac.eval (.tmp 25) = (Value.agg (cellsOf (nC (tConst (1#64 <<< (rm z 64)))) 2)) from (hv2a 25 rfl)), (show ac.eval (.tmp 27) = (Value.agg (cellsOf (nC (rightN a0)) 2)) from (hv4a 27 rfl))] <;> rfl) (by kernel_rfl) (Value.agg (cellsOf (nC (tMul (tConst (1#64 <<< (rm z 64))) (rightN a0))) 2)) (fun K hK => Mul_any (tConst (1#64 <<< (rm z 64))) (rightN a0) wa K hK) rfl hM24 hI
      · exact potg_al rfl rfl rfl zeT rfl rfl hM24 hI
    · intro vals w5_28_ hb5_28_ hF hG
      have e_28_0 := (hF 0 (by simp)).val rfl
      have e_28_1 := (hF 1 (by simp)).val rfl
      have e_28_2 := (hF 2 (by simp)).val rfl
      have e_28_3 := (hF 3 (by simp)).val rfl
      have e_28_4 := (hF 4 (by simp)).val rfl
      have e_28_5 := (hF 5 (by simp)).val rfl
      obtain ⟨b_28_6, l_28_6, e_28_6, h_28_6⟩ := (hF 6 (by simp)).al rfl rfl
      clear hF hG
      simp only [List.foldl_cons, List.foldl_nil, dstOf, List.getElem?_toArray, List.getElem?_cons_succ, List.getElem?_cons_zero, Option.bind_some, Act.put, List.setIfInBounds_toArray, List.set_cons_succ, List.set_cons_zero, e_28_0, e_28_1, e_28_2, e_28_3, e_28_4, e_28_5, e_28_6]
      clear e_28_0 e_28_1 e_28_2 e_28_3 e_28_4 e_28_5 e_28_6
      refine wpAny_chain [7] _ _ _ _ (by kernel_rfl) (by decide) ?_
      simp only [List.filterMap_cons, List.filterMap_nil, List.getElem?_toArray, List.getElem?_cons_succ, List.getElem?_cons_zero]
      have k29 := k22.below hb5_28_ (by omega)
      have k30 := k21.below hb5_28_ (by omega)
      have lo31 := lo23.trans (hb5_28_.mono (by omega))
      clear k22 k21 lo23 hb5_28_
      refine wpl_store rfl 27 (.tmp 9) (.tmp 28) rfl b_28_6 2 (nC (tMul (tConst (1#64 <<< (rm z 64))) (rightN a0))) rfl rfl 27 _ h_28_6 szT (fun j _ => nC_one _ j) ?_
      intro xw32 t33 k34
      have k35 := k29.touch t33 (by omega)
      have k36 := k30.touch t33 (by omega)
      have lo37 := t33.below lo31 (by omega)
      clear h_28_6 k29 k30 lo31 t33
      obtain ⟨M38, hM38⟩ := sz_some xw32
      have lt_39 := k35.ltN hM38
      have lt_40 := k36.ltN hM38
      have lt_41 := k34.ltN hM38
      go_upto_region 5 with fail
      refine wp_region_later1 (M38) ?_
      refine later_row hM38 24 (.tmp 3) rfl (N) rfl 24 2 _ k35 undU szU (by rfl) ?_; simp only [Act.put, List.setIfInBounds_toArray, List.set_cons_succ, List.set_cons_zero]
      go_big_quiet_step (fail)
      go_big_quiet_step ((go_at_call 17; exact later_of hM38 _ (fun K hK hKN => Pick_any (rightN a0) x _ K hK)))
      go_big_quiet_step (fail)
      refine wpQuiet_nil ?_
      rintro xw42 ⟨qxw42, exw42⟩
      have hbxw42 := qxw42.b
      rw [← exw42] at hbxw42
      clear qxw42 exw42
      obtain ⟨M43, hM43⟩ := sz_some xw42
      have lM43 := below_sz hbxw42 hM38 hM43
      have k44 := k35.below hbxw42 (by omega)
      have k45 := k36.below hbxw42 (by omega)
      have k46 := k34.below hbxw42 (by omega)
      have lo47 := lo37.trans (hbxw42.mono (by omega))
      clear k35 k36 k34 lo37 hbxw42
      go_upto_region 6 with fail
      refine wp_region_later (M43) (by kernel_rfl) (by kernel_rfl) ?_
      go_big_quiet_step ((go_at_call 7; exact later_of hM43 _ (fun K hK hKN => knows_any _ K hK)))
      go_big_quiet_step (fail)
      refine later_row hM43 27 (.tmp 8) rfl (b_16_6) rfl 27 2 _ k45 undT szT (by rfl) ?_; simp only [Act.put, List.setIfInBounds_toArray, List.set_cons_succ, List.set_cons_zero]
      go_big_quiet_step (fail)
      go_big_quiet_step (fail)
      refine later_b (x := (.tmp 35)) (y := (.tmp 36)) rfl (bin_shl _ ((rightN a0).v ||| (x &&& (rightN a0).m)) (rm z 64)) rfl rfl (by rfl) ?_; simp only [Act.put, List.setIfInBounds_toArray, List.set_cons_succ, List.set_cons_zero]
      go_big_quiet_step ((go_at_call 18; exact later_of hM43 _ (fun K hK hKN => ret_is h1.out (Has_any (tMul (rightN a0) (tConst (1#64 <<< (rm z 64)))) (((rightN a0).v ||| (x &&& (rightN a0).m)) <<< (rm z 64))) _ K hK)))
      go_big_quiet_step (fail)
      go_big_quiet_step (fail)
      refine later_row hM43 27 (.tmp 9) rfl (b_28_6) rfl 27 2 _ k46 undT szT (by rfl) ?_; simp only [Act.put, List.setIfInBounds_toArray, List.set_cons_succ, List.set_cons_zero]
      go_big_quiet_step (fail)
      go_big_quiet_step (fail)
      refine later_b (x := (.tmp 42)) (y := (.tmp 43)) rfl (bin_shl _ ((rightN a0).v ||| (x &&& (rightN a0).m)) (rm z 64)) rfl rfl (by rfl) ?_; simp only [Act.put, List.setIfInBounds_toArray, List.set_cons_succ, List.set_cons_zero]
      go_big_quiet_step ((go_at_call 18; exact later_of hM43 _ (fun K hK hKN => ret_is h2.out (Has_any (tMul (tConst (1#64 <<< (rm z 64))) (rightN a0)) (((rightN a0).v ||| (x &&& (rightN a0).m)) <<< (rm z 64))) _ K hK)))
      go_big_quiet_step (fail)
      go_big_quiet_step (fail)
      refine later_row hM43 27 (.tmp 8) rfl (b_16_6) rfl 27 2 _ k45 undT szT (by rfl) ?_; simp only [Act.put, List.setIfInBounds_toArray, List.set_cons_succ, List.set_cons_zero]
      go_big_quiet_step ((go_at_call 19; exact later_of hM43 _ (fun K hK hKN => ret_is h3.out (Right_any (tMul (rightN a0) (tConst (1#64 <<< (rm z 64))))) _ K hK)))
      go_big_quiet_step (fail)
      go_big_quiet_step (fail)
      refine later_row hM43 27 (.tmp 9) rfl (b_28_6) rfl 27 2 _ k46 undT szT (by rfl) ?_; simp only [Act.put, List.setIfInBounds_toArray, List.set_cons_succ, List.set_cons_zero]
      go_big_quiet_step ((go_at_call 19; exact later_of hM43 _ (fun K hK hKN => ret_is h4.out (Right_any (tMul (tConst (1#64 <<< (rm z 64))) (rightN a0))) _ K hK)))
      go_big_quiet_step (fail)
      go_big_quiet_step (fail)
      refine later_row hM43 24 (.tmp 3) rfl (N) rfl 24 2 _ k44 undU szU (by rfl) ?_; simp only [Act.put, List.setIfInBounds_toArray, List.set_cons_succ, List.set_cons_zero]
      go_big_quiet_step ((go_at_call 6; exact later_of hM43 _ (fun K hK hKN => To_any (rightN a0) _ K hK)))
      refine later_row hM43 24 (.tmp 3) rfl (N) rfl 24 2 _ k44 undU szU (by rfl) ?_; simp only [Act.put, List.setIfInBounds_toArray, List.set_cons_succ, List.set_cons_zero]
      go_big_quiet_step ((go_at_call 6; exact later_of hM43 _ (fun K hK hKN => To_any (rightN a0) _ K hK)))
      go_big_quiet_step ((go_at_call 15; exact later_of hM43 _ (fun K hK hKN => Mul_any (rightN a0) (rightN a0) _ K hK)))
      go_big_quiet_step (fail)
      go_big_quiet_step (fail)
      refine later_b (x := (.tmp 61)) (y := (.tmp 62)) rfl (bin_mul _ ((rightN a0).v ||| (x &&& (rightN a0).m)) ((rightN a0).v ||| (x &&& (rightN a0).m))) rfl rfl (by rfl) ?_; simp only [Act.put, List.setIfInBounds_toArray, List.set_cons_succ, List.set_cons_zero]
      go_big_quiet_step ((go_at_call 18; exact later_of hM43 _ (fun K hK hKN => ret_is h5.out (Has_any (tMul (rightN a0) (rightN a0)) (((rightN a0).v ||| (x &&& (rightN a0).m)) * ((rightN a0).v ||| (x &&& (rightN a0).m)))) _ K hK)))
      go_big_quiet_step (fail)
      go_big_quiet_step (fail)
      refine wpQuiet_nil ?_
      rintro xw48 ⟨qxw48, exw48⟩
      have hbxw48 := qxw48.b
      rw [← exw48] at hbxw48
      clear qxw48 exw48
      obtain ⟨M49, hM49⟩ := sz_some xw48
      have lM49 := below_sz hbxw48 hM43 hM49
      have k50 := k44.below hbxw48 (by omega)
      have k51 := k45.below hbxw48 (by omega)
      have k52 := k46.below hbxw48 (by omega)
      have lo53 := lo47.trans (hbxw48.mono (by omega))
      clear k44 k45 k46 lo47 hbxw48
      go_wp2_with fail
      go_ret
      exact ⟨rfl, lo53⟩
end Go.Proofs.Ytbeikhokkpioeab
