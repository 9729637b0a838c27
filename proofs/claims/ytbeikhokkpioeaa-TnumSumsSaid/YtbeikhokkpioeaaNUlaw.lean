/- Ulaw: the walk. -/
import Derived.Test.YtbeikhokkpioeaaNr7a
import Derived.Test.YtbeikhokkpioeaaNr7b
import Derived.Test.YtbeikhokkpioeaaNr6a
import Derived.Test.YtbeikhokkpioeaaNr6b
import Derived.Test.YtbeikhokkpioeaaNr6c
import Derived.Test.YtbeikhokkpioeaaNsu
import Derived.Test.YtbeikhokkpioeaaLex
import Derived.Test.YtbeikhokkpioeaaNg
namespace Go.Proofs.Ytbeikhokkpioeaa
open Go Go.RowKit
set_option maxRecDepth 100000 in
set_option maxHeartbeats 8000000 in
theorem law_sums (a0 b0 : Nm) (w : World) (N : Nat) (hN : Sz w N) : Calls Try.prog 3 #[nV a0, nV b0] w fun e w' => e = .returned (.bool true) ∧ Below N w w' := by
  have ha := rightN_rgt a0
  have hb := rightN_rgt b0
  have h0_ := hid (add_ref ha hb)
  have h1_ := hid (sub_ref ha hb)
  have h2_ := hid (and_ref ha hb)
  have h3_ := hid (or_ref ha hb)
  have h4_ := hid (xor_ref ha hb)
  have h5_ := hid ((tRight_iff.2 (mulN_rgt (rightN a0) (rightN b0) 64) : tRight (tMul (rightN a0) (rightN b0)) = true))
  clear ha hb
  unfold nV
  go_enter Try.func3, Try.ntmps3
  go_upto_region 1 with (first
    | (refine wpl_box rfl 24 (.tmp 0) rfl 2 _ rfl (N) hN ?_; intro w1 hN1 hb1 hh1)
    | (refine wpl_box rfl 24 (.tmp 1) rfl 2 _ rfl (N + 1) hN1 ?_; intro w2 hN2 hb2 hh2)
    | fail)
  have lo0 : Below N w w2 := (hb1.trans (hb2.mono (by omega)))
  have k1 := (hh1.below hb2 (by omega))
  have k2 := hh2
  clear hh1 hb1 hh2 hb2 hN1
  go_upto_region 1 with fail
  refine wp_region_any (by kernel_rfl) ?_
  replace k1 : Has w2.drew N 24 2 (nC a0) := k1
  replace k2 : Has w2.drew (N + 1) 24 2 (nC b0) := k2
  replace hN2 : Sz w2.drew (N + 1 + 1) := hN2
  replace lo0 : Below N w w2.drew := lo0.drew
  change wpAny _ _ _ _ _ _ _ (World.drew _)
  generalize w2.drew = xw3 at *
  refine wpAny_pot (rem := [0, 1, 2, 3]) (FG (N + 1 + 1) (fun j => if j = 0 then some (Value.agg (cellsOf (nC a0) 2)) else if j = 1 then some (Value.agg (cellsOf (nC (rightN a0)) 2)) else if j = 2 then some (Value.agg (cellsOf (nC b0) 2)) else some (Value.agg (cellsOf (nC (rightN b0)) 2))) (fun j => (0, 0, fun _ => undef))) (TwoN (fun j => if j = 0 then some (Value.agg (cellsOf (nC a0) 2)) else if j = 1 then some (Value.agg (cellsOf (nC (rightN a0)) 2)) else if j = 2 then some (Value.agg (cellsOf (nC b0) 2)) else some (Value.agg (cellsOf (nC (rightN b0)) 2)))) (Below (N + 1 + 1) xw3) _ _ _ _ (by kernel_rfl) (size_dstG (by kernel_rfl)) (Below.refl _ _) ?_ ?_
  · intro i hi ac wa hI ha hv
    simp only [List.mem_cons, List.not_mem_nil, or_false] at hi
    rcases hi with rfl | rfl | rfl | rfl
    · exact potg_run rfl rfl (Value.agg (cellsOf (nC a0) 2)) rfl (run_rw 24 (.tmp 2) rfl N (ha 2 (not_dstG (by kernel_rfl))) 24 2 _ (Has.below k1 hI (Has.ltN k1 hN2)) undU szU) hN2 hI
    · obtain ⟨v0, hv0a, hv0b⟩ := hv 0 (by simp) (by kernel_rfl)
      have ev0 := hv0b.val rfl
      subst ev0
      exact potg_cl rfl rfl 9 _ _ rfl #[(Value.agg (cellsOf (nC a0) 2))] (by simp only [List.map_toArray, List.map_cons, List.map_nil, (show ac.eval (.tmp 7) = (Value.agg (cellsOf (nC a0) 2)) from (hv0a 7 rfl))] <;> rfl) (by kernel_rfl) (Value.agg (cellsOf (nC (rightN a0)) 2)) (fun K hK => right_any a0 wa K hK) rfl hN2 hI
    · exact potg_run rfl rfl (Value.agg (cellsOf (nC b0) 2)) rfl (run_rw 24 (.tmp 3) rfl (N + 1) (ha 3 (not_dstG (by kernel_rfl))) 24 2 _ (Has.below k2 hI (Has.ltN k2 hN2)) undU szU) hN2 hI
    · obtain ⟨v2, hv2a, hv2b⟩ := hv 2 (by simp) (by kernel_rfl)
      have ev2 := hv2b.val rfl
      subst ev2
      exact potg_cl rfl rfl 9 _ _ rfl #[(Value.agg (cellsOf (nC b0) 2))] (by simp only [List.map_toArray, List.map_cons, List.map_nil, (show ac.eval (.tmp 9) = (Value.agg (cellsOf (nC b0) 2)) from (hv2a 9 rfl))] <;> rfl) (by kernel_rfl) (Value.agg (cellsOf (nC (rightN b0)) 2)) (fun K hK => right_any b0 wa K hK) rfl hN2 hI
  · intro vals w5_4_ hb5_4_ hF hG
    have e_4_0 := (hF 0 (by simp)).val rfl
    have e_4_1 := (hF 1 (by simp)).val rfl
    have e_4_2 := (hF 2 (by simp)).val rfl
    have e_4_3 := (hF 3 (by simp)).val rfl
    clear hF hG
    simp only [List.foldl_cons, List.foldl_nil, dstOf, List.getElem?_toArray, List.getElem?_cons_succ, List.getElem?_cons_zero, Option.bind_some, Act.put, List.setIfInBounds_toArray, List.set_cons_succ, List.set_cons_zero, e_4_0, e_4_1, e_4_2, e_4_3]
    clear e_4_0 e_4_1 e_4_2 e_4_3
    refine wpAny_chain [4, 5] _ _ _ _ (by kernel_rfl) (by decide) ?_
    simp only [List.filterMap_cons, List.filterMap_nil, List.getElem?_toArray, List.getElem?_cons_succ, List.getElem?_cons_zero]
    have k5 := k1.below hb5_4_ (by omega)
    have k6 := k2.below hb5_4_ (by omega)
    have lo7 := lo0.trans (hb5_4_.mono (by omega))
    clear k1 k2 lo0 hb5_4_
    refine wpl_store rfl 24 (.tmp 2) (.tmp 8) rfl N 2 (nC (rightN a0)) rfl rfl 24 _ k5 szU (fun j _ => nC_one _ j) ?_
    intro xw8 t9 k10
    have k11 := k6.touch t9 (by omega)
    have lo12 := t9.below lo7 (by omega)
    clear k5 k6 lo7 t9
    refine wpl_store rfl 24 (.tmp 3) (.tmp 10) rfl (N + 1) 2 (nC (rightN b0)) rfl rfl 24 _ k11 szU (fun j _ => nC_one _ j) ?_
    intro xw13 t14 k15
    have k16 := k10.touch t14 (by omega)
    have lo17 := t14.below lo12 (by omega)
    clear k11 k10 lo12 t14
    obtain ⟨M18, hM18⟩ := sz_some xw13
    have lt_19 := k16.ltN hM18
    have lt_20 := k15.ltN hM18
    go_upto_region 2 with fail
    refine wp_region_any (by kernel_rfl) ?_
    replace k16 : Has xw13.drew N 24 2 (nC (rightN a0)) := k16
    replace k15 : Has xw13.drew (N + 1) 24 2 (nC (rightN b0)) := k15
    replace hM18 : Sz xw13.drew M18 := hM18
    replace lo17 : Below N w xw13.drew := lo17.drew
    change wpAny _ _ _ _ _ _ _ (World.drew _)
    generalize xw13.drew = xw21 at *
    refine wpAny_pot (rem := [0, 1, 2, 3, 4, 5]) (FG M18 (fun j => if j = 0 then some (Value.agg (cellsOf (nC (rightN a0)) 2)) else if j = 1 then some (Value.agg (cellsOf (nC (rightN a0)) 2)) else if j = 2 then some (Value.agg (cellsOf (nC (rightN b0)) 2)) else if j = 3 then some (Value.agg (cellsOf (nC (rightN b0)) 2)) else if j = 4 then none else none) (fun j => if j = 4 then (27, 2, nC zeroN) else (27, 2, nC zeroN))) (TwoN (fun j => if j = 0 then some (Value.agg (cellsOf (nC (rightN a0)) 2)) else if j = 1 then some (Value.agg (cellsOf (nC (rightN a0)) 2)) else if j = 2 then some (Value.agg (cellsOf (nC (rightN b0)) 2)) else if j = 3 then some (Value.agg (cellsOf (nC (rightN b0)) 2)) else if j = 4 then none else none)) (Below M18 xw21) _ _ _ _ (by kernel_rfl) (size_dstG (by kernel_rfl)) (Below.refl _ _) ?_ ?_
    · intro i hi ac wa hI ha hv
      simp only [List.mem_cons, List.not_mem_nil, or_false] at hi
      rcases hi with rfl | rfl | rfl | rfl | rfl | rfl
      · exact potg_run rfl rfl (Value.agg (cellsOf (nC (rightN a0)) 2)) rfl (run_rw 24 (.tmp 2) rfl N (ha 2 (not_dstG (by kernel_rfl))) 24 2 _ (Has.below k16 hI (Has.ltN k16 hM18)) undU szU) hM18 hI
      · obtain ⟨v0, hv0a, hv0b⟩ := hv 0 (by simp) (by kernel_rfl)
        have ev0 := hv0b.val rfl
        subst ev0
        exact potg_cl rfl rfl 10 _ _ rfl #[(Value.agg (cellsOf (nC (rightN a0)) 2))] (by simp only [List.map_toArray, List.map_cons, List.map_nil, (show ac.eval (.tmp 11) = (Value.agg (cellsOf (nC (rightN a0)) 2)) from (hv0a 11 rfl))] <;> rfl) (by kernel_rfl) (Value.agg (cellsOf (nC (rightN a0)) 2)) (fun K hK => To_any (rightN a0) wa K hK) rfl hM18 hI
      · exact potg_run rfl rfl (Value.agg (cellsOf (nC (rightN b0)) 2)) rfl (run_rw 24 (.tmp 3) rfl (N + 1) (ha 3 (not_dstG (by kernel_rfl))) 24 2 _ (Has.below k15 hI (Has.ltN k15 hM18)) undU szU) hM18 hI
      · obtain ⟨v2, hv2a, hv2b⟩ := hv 2 (by simp) (by kernel_rfl)
        have ev2 := hv2b.val rfl
        subst ev2
        exact potg_cl rfl rfl 10 _ _ rfl #[(Value.agg (cellsOf (nC (rightN b0)) 2))] (by simp only [List.map_toArray, List.map_cons, List.map_nil, (show ac.eval (.tmp 13) = (Value.agg (cellsOf (nC (rightN b0)) 2)) from (hv2a 13 rfl))] <;> rfl) (by kernel_rfl) (Value.agg (cellsOf (nC (rightN b0)) 2)) (fun K hK => To_any (rightN b0) wa K hK) rfl hM18 hI
      · exact potg_al rfl rfl rfl zeT rfl rfl hM18 hI
      · exact potg_al rfl rfl rfl zeT rfl rfl hM18 hI
    · intro vals w5_22_ hb5_22_ hF hG
      have e_22_0 := (hF 0 (by simp)).val rfl
      have e_22_1 := (hF 1 (by simp)).val rfl
      have e_22_2 := (hF 2 (by simp)).val rfl
      have e_22_3 := (hF 3 (by simp)).val rfl
      obtain ⟨b_22_4, l_22_4, e_22_4, h_22_4⟩ := (hF 4 (by simp)).al rfl rfl
      obtain ⟨b_22_5, l_22_5, e_22_5, h_22_5⟩ := (hF 5 (by simp)).al rfl rfl
      have n_22_4_5 := hG 4 (by simp) 5 (by simp) (by omega) rfl rfl b_22_4 b_22_5 e_22_4 e_22_5
      clear hF hG
      simp only [List.foldl_cons, List.foldl_nil, dstOf, List.getElem?_toArray, List.getElem?_cons_succ, List.getElem?_cons_zero, Option.bind_some, Act.put, List.setIfInBounds_toArray, List.set_cons_succ, List.set_cons_zero, e_22_0, e_22_1, e_22_2, e_22_3, e_22_4, e_22_5]
      clear e_22_0 e_22_1 e_22_2 e_22_3 e_22_4 e_22_5
      refine wpAny_chain [6, 7] _ _ _ _ (by kernel_rfl) (by decide) ?_
      simp only [List.filterMap_cons, List.filterMap_nil, List.getElem?_toArray, List.getElem?_cons_succ, List.getElem?_cons_zero]
      have k23 := k16.below hb5_22_ (by omega)
      have k24 := k15.below hb5_22_ (by omega)
      have lo25 := lo17.trans (hb5_22_.mono (by omega))
      clear k16 k15 lo17 hb5_22_
      refine wpl_store rfl 27 (.tmp 5) (.tmp 12) rfl b_22_4 2 (nC (rightN a0)) rfl rfl 27 _ h_22_4 szT (fun j _ => nC_one _ j) ?_
      intro xw26 t27 k28
      have k29 := k23.touch t27 (by omega)
      have k30 := k24.touch t27 (by omega)
      have k31 := h_22_5.touch t27 (by omega)
      have lo32 := t27.below lo25 (by omega)
      clear h_22_4 k23 k24 h_22_5 lo25 t27
      refine wpl_store rfl 27 (.tmp 6) (.tmp 14) rfl b_22_5 2 (nC (rightN b0)) rfl rfl 27 _ k31 szT (fun j _ => nC_one _ j) ?_
      intro xw33 t34 k35
      have k36 := k29.touch t34 (by omega)
      have k37 := k30.touch t34 (by omega)
      have k38 := k28.touch t34 (by omega)
      have lo39 := t34.below lo32 (by omega)
      clear k31 k29 k30 k28 lo32 t34
      obtain ⟨M40, hM40⟩ := sz_some xw33
      have lt_41 := k36.ltN hM40
      have lt_42 := k37.ltN hM40
      have lt_43 := k38.ltN hM40
      have lt_44 := k35.ltN hM40
      go_upto_region 3 with fail
      first | refine wp_region_later1 (M40) ?_ | refine wp_region_laterL (M40) (by kernel_rfl) (by kernel_rfl) ?_
      try simp only [Act.put, List.setIfInBounds_toArray, List.set_cons_succ, List.set_cons_zero]
      go_big_quiet_step ((go_at_call 11; exact later_of hM40 _ (fun K hK hKN => knows_any _ K hK)))
      go_big_quiet_step (fail)
      refine later_row hM40 27 (.tmp 5) rfl (b_22_4) rfl 27 2 _ k38 undT szT (by rfl) ?_; simp only [Act.put, List.setIfInBounds_toArray, List.set_cons_succ, List.set_cons_zero]
      refine later_row hM40 27 (.tmp 6) rfl (b_22_5) rfl 27 2 _ k35 undT szT (by rfl) ?_; simp only [Act.put, List.setIfInBounds_toArray, List.set_cons_succ, List.set_cons_zero]
      go_big_quiet_step ((go_at_call 13; exact later_of hM40 _ (fun K hK hKN => Add_any (rightN a0) (rightN b0) _ K hK)))
      go_big_quiet_step ((go_at_call 12; exact later_of hM40 _ (fun K hK hKN => From_any (tAdd (rightN a0) (rightN b0)) _ K hK)))
      refine later_row hM40 24 (.tmp 2) rfl (N) rfl 24 2 _ k36 undU szU (by rfl) ?_; simp only [Act.put, List.setIfInBounds_toArray, List.set_cons_succ, List.set_cons_zero]
      refine later_row hM40 24 (.tmp 3) rfl ((N + 1)) rfl 24 2 _ k37 undU szU (by rfl) ?_; simp only [Act.put, List.setIfInBounds_toArray, List.set_cons_succ, List.set_cons_zero]
      go_big_quiet_step ((go_at_call 14; exact later_of hM40 _ (fun K hK hKN => RSum_false (rightN a0) (rightN b0) _ K hK)))
      refine later_val (fun q => run_eql_op 24 24 (.tmp 20) (.tmp 23) rfl _ _ rfl rfl true (by kernel_rfl) (run_eqU_t h0_.out q.w')) (by rfl) ?_; simp only [Act.put, List.setIfInBounds_toArray, List.set_cons_succ, List.set_cons_zero]
      go_big_quiet_step (fail)
      go_big_quiet_step (fail)
      refine later_row hM40 27 (.tmp 5) rfl (b_22_4) rfl 27 2 _ k38 undT szT (by rfl) ?_; simp only [Act.put, List.setIfInBounds_toArray, List.set_cons_succ, List.set_cons_zero]
      refine later_row hM40 27 (.tmp 6) rfl (b_22_5) rfl 27 2 _ k35 undT szT (by rfl) ?_; simp only [Act.put, List.setIfInBounds_toArray, List.set_cons_succ, List.set_cons_zero]
      go_big_quiet_step ((go_at_call 15; exact later_of hM40 _ (fun K hK hKN => Sub_any (rightN a0) (rightN b0) _ K hK)))
      go_big_quiet_step ((go_at_call 12; exact later_of hM40 _ (fun K hK hKN => From_any (tSub (rightN a0) (rightN b0)) _ K hK)))
      refine later_row hM40 24 (.tmp 2) rfl (N) rfl 24 2 _ k36 undU szU (by rfl) ?_; simp only [Act.put, List.setIfInBounds_toArray, List.set_cons_succ, List.set_cons_zero]
      refine later_row hM40 24 (.tmp 3) rfl ((N + 1)) rfl 24 2 _ k37 undU szU (by rfl) ?_; simp only [Act.put, List.setIfInBounds_toArray, List.set_cons_succ, List.set_cons_zero]
      go_big_quiet_step ((go_at_call 14; exact later_of hM40 _ (fun K hK hKN => RSum_true (rightN a0) (rightN b0) _ K hK)))
      refine later_val (fun q => run_eql_op 24 24 (.tmp 30) (.tmp 33) rfl _ _ rfl rfl true (by kernel_rfl) (run_eqU_t h1_.out q.w')) (by rfl) ?_; simp only [Act.put, List.setIfInBounds_toArray, List.set_cons_succ, List.set_cons_zero]
      go_big_quiet_step (fail)
      go_big_quiet_step (fail)
      refine later_row hM40 27 (.tmp 5) rfl (b_22_4) rfl 27 2 _ k38 undT szT (by rfl) ?_; simp only [Act.put, List.setIfInBounds_toArray, List.set_cons_succ, List.set_cons_zero]
      refine later_row hM40 27 (.tmp 6) rfl (b_22_5) rfl 27 2 _ k35 undT szT (by rfl) ?_; simp only [Act.put, List.setIfInBounds_toArray, List.set_cons_succ, List.set_cons_zero]
      go_big_quiet_step ((go_at_call 16; exact later_of hM40 _ (fun K hK hKN => And_any (rightN a0) (rightN b0) _ K hK)))
      go_big_quiet_step ((go_at_call 12; exact later_of hM40 _ (fun K hK hKN => From_any (tAnd (rightN a0) (rightN b0)) _ K hK)))
      refine later_row hM40 24 (.tmp 2) rfl (N) rfl 24 2 _ k36 undU szU (by rfl) ?_; simp only [Act.put, List.setIfInBounds_toArray, List.set_cons_succ, List.set_cons_zero]
      refine later_row hM40 24 (.tmp 3) rfl ((N + 1)) rfl 24 2 _ k37 undU szU (by rfl) ?_; simp only [Act.put, List.setIfInBounds_toArray, List.set_cons_succ, List.set_cons_zero]
      go_big_quiet_step ((go_at_call 17; exact later_of hM40 _ (fun K hK hKN => REach_0 (rightN a0) (rightN b0) _ K hK)))
      refine later_val (fun q => run_eql_op 24 24 (.tmp 40) (.tmp 43) rfl _ _ rfl rfl true (by kernel_rfl) (run_eqU_t h2_.out q.w')) (by rfl) ?_; simp only [Act.put, List.setIfInBounds_toArray, List.set_cons_succ, List.set_cons_zero]
      go_big_quiet_step (fail)
      go_big_quiet_step (fail)
      refine later_row hM40 27 (.tmp 5) rfl (b_22_4) rfl 27 2 _ k38 undT szT (by rfl) ?_; simp only [Act.put, List.setIfInBounds_toArray, List.set_cons_succ, List.set_cons_zero]
      refine later_row hM40 27 (.tmp 6) rfl (b_22_5) rfl 27 2 _ k35 undT szT (by rfl) ?_; simp only [Act.put, List.setIfInBounds_toArray, List.set_cons_succ, List.set_cons_zero]
      go_big_quiet_step ((go_at_call 18; exact later_of hM40 _ (fun K hK hKN => Or_any (rightN a0) (rightN b0) _ K hK)))
      go_big_quiet_step ((go_at_call 12; exact later_of hM40 _ (fun K hK hKN => From_any (tOr (rightN a0) (rightN b0)) _ K hK)))
      refine later_row hM40 24 (.tmp 2) rfl (N) rfl 24 2 _ k36 undU szU (by rfl) ?_; simp only [Act.put, List.setIfInBounds_toArray, List.set_cons_succ, List.set_cons_zero]
      refine later_row hM40 24 (.tmp 3) rfl ((N + 1)) rfl 24 2 _ k37 undU szU (by rfl) ?_; simp only [Act.put, List.setIfInBounds_toArray, List.set_cons_succ, List.set_cons_zero]
      go_big_quiet_step ((go_at_call 17; exact later_of hM40 _ (fun K hK hKN => REach_1 (rightN a0) (rightN b0) _ K hK)))
      refine later_val (fun q => run_eql_op 24 24 (.tmp 50) (.tmp 53) rfl _ _ rfl rfl true (by kernel_rfl) (run_eqU_t h3_.out q.w')) (by rfl) ?_; simp only [Act.put, List.setIfInBounds_toArray, List.set_cons_succ, List.set_cons_zero]
      go_big_quiet_step (fail)
      go_big_quiet_step (fail)
      refine later_row hM40 27 (.tmp 5) rfl (b_22_4) rfl 27 2 _ k38 undT szT (by rfl) ?_; simp only [Act.put, List.setIfInBounds_toArray, List.set_cons_succ, List.set_cons_zero]
      refine later_row hM40 27 (.tmp 6) rfl (b_22_5) rfl 27 2 _ k35 undT szT (by rfl) ?_; simp only [Act.put, List.setIfInBounds_toArray, List.set_cons_succ, List.set_cons_zero]
      go_big_quiet_step ((go_at_call 19; exact later_of hM40 _ (fun K hK hKN => Xor_any (rightN a0) (rightN b0) _ K hK)))
      go_big_quiet_step ((go_at_call 12; exact later_of hM40 _ (fun K hK hKN => From_any (tXor (rightN a0) (rightN b0)) _ K hK)))
      refine later_row hM40 24 (.tmp 2) rfl (N) rfl 24 2 _ k36 undU szU (by rfl) ?_; simp only [Act.put, List.setIfInBounds_toArray, List.set_cons_succ, List.set_cons_zero]
      refine later_row hM40 24 (.tmp 3) rfl ((N + 1)) rfl 24 2 _ k37 undU szU (by rfl) ?_; simp only [Act.put, List.setIfInBounds_toArray, List.set_cons_succ, List.set_cons_zero]
      go_big_quiet_step ((go_at_call 17; exact later_of hM40 _ (fun K hK hKN => REach_2 (rightN a0) (rightN b0) _ K hK)))
      refine later_val (fun q => run_eql_op 24 24 (.tmp 60) (.tmp 63) rfl _ _ rfl rfl true (by kernel_rfl) (run_eqU_t h4_.out q.w')) (by rfl) ?_; simp only [Act.put, List.setIfInBounds_toArray, List.set_cons_succ, List.set_cons_zero]
      go_big_quiet_step (fail)
      go_big_quiet_step (fail)
      refine later_row hM40 27 (.tmp 5) rfl (b_22_4) rfl 27 2 _ k38 undT szT (by rfl) ?_; simp only [Act.put, List.setIfInBounds_toArray, List.set_cons_succ, List.set_cons_zero]
      refine later_row hM40 27 (.tmp 6) rfl (b_22_5) rfl 27 2 _ k35 undT szT (by rfl) ?_; simp only [Act.put, List.setIfInBounds_toArray, List.set_cons_succ, List.set_cons_zero]
      go_big_quiet_step ((go_at_call 21; exact later_of hM40 _ (fun K hK hKN => Mul_any (rightN a0) (rightN b0) _ K hK)))
      go_big_quiet_step ((go_at_call 20; exact later_of hM40 _ (fun K hK hKN => ret_is h5_.out (Right_any (tMul (rightN a0) (rightN b0))) _ K hK)))
      go_big_quiet_step (fail)
      go_big_quiet_step (fail)
      refine wpQuiet_nil ?_
      rintro xw45 ⟨qxw45, exw45⟩
      have hbxw45 := qxw45.b
      rw [← exw45] at hbxw45
      clear qxw45 exw45
      obtain ⟨M46, hM46⟩ := sz_some xw45
      have lM46 := below_sz hbxw45 hM40 hM46
      have k47 := k36.below hbxw45 (by omega)
      have k48 := k37.below hbxw45 (by omega)
      have k49 := k38.below hbxw45 (by omega)
      have k50 := k35.below hbxw45 (by omega)
      have lo51 := lo39.trans (hbxw45.mono (by omega))
      clear k36 k37 k38 k35 lo39 hbxw45
      go_wp2_with fail
      go_ret
      exact ⟨rfl, lo51⟩
end Go.Proofs.Ytbeikhokkpioeaa
