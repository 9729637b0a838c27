/- TnumOrders: the walk. -/
import Derived.Test.YtbeikhokkpioeabNg
import Derived.Test.YtbeikhokkpioeabNo
namespace Go.Proofs.Ytbeikhokkpioeab
open Go Go.RowKit
set_option maxRecDepth 100000 in
set_option maxHeartbeats 1000000 in
theorem law_orders (a0 b0 : Nm) (m : W) (w : World) (N : Nat) (hN : Sz w N) : Calls Try.prog 3 #[nV a0, nV b0, Q m] w fun e w' => e = .returned (.bool true) ∧ Below N w w' := by
  have ha := rightN_rgt a0
  have hb := rightN_rgt b0
  have hw : Wider (rightN a0) (rightN ⟨(rightN a0).v, ((rightN a0).m ||| m)⟩) := wider_of ha m
  have h1 := hid (add_comm' (rightN a0) (rightN b0))
  have h2 := hid (and_comm' (rightN a0) (rightN b0))
  have h3 := hid (or_comm' (rightN a0) (rightN b0))
  have h4 := hid (xor_comm' (rightN a0) (rightN b0))
  have h5 := hid (join_comm' (rightN a0) (rightN b0))
  have h6 := hid (wider_within hw)
  have h7 := hid (add_mono hw hb)
  have h8 := hid (sub_mono hw hb)
  have h9 := hid (and_mono hw hb)
  clear ha hb hw
  unfold nV
  go_enter Try.func3, Try.ntmps3
  go_upto_region 1 with (first
    | (refine wpl_box rfl 24 (.tmp 0) rfl 2 _ rfl (N) hN ?_; intro w1 hN1 hb1 hh1)
    | (refine wpl_box rfl 24 (.tmp 1) rfl 2 _ rfl (N + 1) hN1 ?_; intro w2 hN2 hb2 hh2)
    | fail)
  have lo0 : Below N w w2 := (hb1.trans (hb2.mono (by omega)))
  have k1 := (hh1.below hb2 (by omega))
  have k2 := hh2
  clear hh1 hb1 hh2 hb2 hN1
  go_upto_region 1 with fail
  refine wp_region_any (by kernel_rfl) ?_
  replace k1 : Has w2.drew N 24 2 (nC a0) := k1
  replace k2 : Has w2.drew (N + 1) 24 2 (nC b0) := k2
  replace hN2 : Sz w2.drew (N + 1 + 1) := hN2
  replace lo0 : Below N w w2.drew := lo0.drew
  change wpAny _ _ _ _ _ _ _ (World.drew _)
  generalize w2.drew = xw3 at *
  refine wpAny_pot (rem := [0, 1, 2, 3]) (FG (N + 1 + 1) (fun j => if j = 0 then some (Value.agg (cellsOf (nC a0) 2)) else if j = 1 then some (Value.agg (cellsOf (nC (rightN a0)) 2)) else if j = 2 then some (Value.agg (cellsOf (nC b0) 2)) else some (Value.agg (cellsOf (nC (rightN b0)) 2))) (fun j => (0, 0, fun _ => undef))) (TwoN (fun j => if j = 0 then some (Value.agg (cellsOf (nC a0) 2)) else if j = 1 then some (Value.agg (cellsOf (nC (rightN a0)) 2)) else if j = 2 then some (Value.agg (cellsOf (nC b0) 2)) else some (Value.agg (cellsOf (nC (rightN b0)) 2)))) (Below (N + 1 + 1) xw3) _ _ _ _ (by kernel_rfl) (size_dstG (by kernel_rfl)) (Below.refl _ _) ?_ ?_
  · intro i hi ac wa hI ha hv
    simp only [List.mem_cons, List.not_mem_nil, or_false] at hi
    rcases hi with rfl | rfl | rfl | rfl
    · exact potg_run rfl rfl (Value.agg (cellsOf (nC a0) 2)) rfl (run_rw 24 (.tmp 3) rfl N (ha 3 (not_dstG (by kernel_rfl))) 24 2 _ (Has.below k1 hI (Has.ltN k1 hN2)) undU szU) hN2 hI
    · obtain ⟨v0, hv0a, hv0b⟩ := hv 0 (by simp) (by kernel_rfl)
      have ev0 := hv0b.val rfl
      subst ev0
      exact potg_cl rfl rfl 5 _ _ rfl #[(Value.agg (cellsOf (nC a0) 2))] (by simp only [List.map_toArray, List.map_cons, List.map_nil, (show ac.eval (.tmp 10) = (Value.agg (cellsOf (nC a0) 2)) from (hv0a 10 rfl))] <;> rfl) (by kernel_rfl) (Value.agg (cellsOf (nC (rightN a0)) 2)) (fun K hK => right_any a0 wa K hK) rfl hN2 hI
    · exact potg_run rfl rfl (Value.agg (cellsOf (nC b0) 2)) rfl (run_rw 24 (.tmp 4) rfl (N + 1) (ha 4 (not_dstG (by kernel_rfl))) 24 2 _ (Has.below k2 hI (Has.ltN k2 hN2)) undU szU) hN2 hI
    · obtain ⟨v2, hv2a, hv2b⟩ := hv 2 (by simp) (by kernel_rfl)
      have ev2 := hv2b.val rfl
      subst ev2
      exact potg_cl rfl rfl 5 _ _ rfl #[(Value.agg (cellsOf (nC b0) 2))] (by simp only [List.map_toArray, List.map_cons, List.map_nil, (show ac.eval (.tmp 12) = (Value.agg (cellsOf (nC b0) 2)) from (hv2a 12 rfl))] <;> rfl) (by kernel_rfl) (Value.agg (cellsOf (nC (rightN b0)) 2)) (fun K hK => right_any b0 wa K hK) rfl hN2 hI
  · intro vals w5_4_ hb5_4_ hF hG
    have e_4_0 := (hF 0 (by simp)).val rfl
    have e_4_1 := (hF 1 (by simp)).val rfl
    have e_4_2 := (hF 2 (by simp)).val rfl
    have e_4_3 := (hF 3 (by simp)).val rfl
    clear hF hG
    simp only [List.foldl_cons, List.foldl_nil, dstOf, List.getElem?_toArray, List.getElem?_cons_succ, List.getElem?_cons_zero, Option.bind_some, Act.put, List.setIfInBounds_toArray, List.set_cons_succ, List.set_cons_zero, e_4_0, e_4_1, e_4_2, e_4_3]
    clear e_4_0 e_4_1 e_4_2 e_4_3
    refine wpAny_chain [4, 5] _ _ _ _ (by kernel_rfl) (by decide) ?_
    simp only [List.filterMap_cons, List.filterMap_nil, List.getElem?_toArray, List.getElem?_cons_succ, List.getElem?_cons_zero]
    have k5 := k1.below hb5_4_ (by omega)
    have k6 := k2.below hb5_4_ (by omega)
    have lo7 := lo0.trans (hb5_4_.mono (by omega))
    clear k1 k2 lo0 hb5_4_
    refine wpl_store rfl 24 (.tmp 3) (.tmp 11) rfl N 2 (nC (rightN a0)) rfl rfl 24 _ k5 szU (fun j _ => nC_one _ j) ?_
    intro xw8 t9 k10
    have k11 := k6.touch t9 (by omega)
    have lo12 := t9.below lo7 (by omega)
    clear k5 k6 lo7 t9
    refine wpl_store rfl 24 (.tmp 4) (.tmp 13) rfl (N + 1) 2 (nC (rightN b0)) rfl rfl 24 _ k11 szU (fun j _ => nC_one _ j) ?_
    intro xw13 t14 k15
    have k16 := k10.touch t14 (by omega)
    have lo17 := t14.below lo12 (by omega)
    clear k11 k10 lo12 t14
    obtain ⟨M18, hM18⟩ := sz_some xw13
    have lt_19 := k16.ltN hM18
    have lt_20 := k15.ltN hM18
    go_upto_region 2 with fail
    refine wp_region_any (by kernel_rfl) ?_
    replace k16 : Has xw13.drew N 24 2 (nC (rightN a0)) := k16
    replace k15 : Has xw13.drew (N + 1) 24 2 (nC (rightN b0)) := k15
    replace hM18 : Sz xw13.drew M18 := hM18
    replace lo17 : Below N w xw13.drew := lo17.drew
    change wpAny _ _ _ _ _ _ _ (World.drew _)
    generalize xw13.drew = xw21 at *
    refine wpAny_pot (rem := [0, 1, 2, 3, 4, 5]) (FG M18 (fun j => if j = 0 then some (Value.agg (cellsOf (nC (rightN a0)) 2)) else if j = 1 then some (Value.agg (cellsOf (nC (rightN a0)) 2)) else if j = 2 then some (Value.agg (cellsOf (nC (rightN b0)) 2)) else if j = 3 then some (Value.agg (cellsOf (nC (rightN b0)) 2)) else if j = 4 then none else none) (fun j => if j = 4 then (27, 2, nC zeroN) else (27, 2, nC zeroN))) (TwoN (fun j => if j = 0 then some (Value.agg (cellsOf (nC (rightN a0)) 2)) else if j = 1 then some (Value.agg (cellsOf (nC (rightN a0)) 2)) else if j = 2 then some (Value.agg (cellsOf (nC (rightN b0)) 2)) else if j = 3 then some (Value.agg (cellsOf (nC (rightN b0)) 2)) else if j = 4 then none else none)) (Below M18 xw21) _ _ _ _ (by kernel_rfl) (size_dstG (by kernel_rfl)) (Below.refl _ _) ?_ ?_
    · intro i hi ac wa hI ha hv
      simp only [List.mem_cons, List.not_mem_nil, or_false] at hi
      rcases hi with rfl | rfl | rfl | rfl | rfl | rfl
      · exact potg_run rfl rfl (Value.agg (cellsOf (nC (rightN a0)) 2)) rfl (run_rw 24 (.tmp 3) rfl N (ha 3 (not_dstG (by kernel_rfl))) 24 2 _ (Has.below k16 hI (Has.ltN k16 hM18)) undU szU) hM18 hI
      · obtain ⟨v0, hv0a, hv0b⟩ := hv 0 (by simp) (by kernel_rfl)
        have ev0 := hv0b.val rfl
        subst ev0
        exact potg_cl rfl rfl 6 _ _ rfl #[(Value.agg (cellsOf (nC (rightN a0)) 2))] (by simp only [List.map_toArray, List.map_cons, List.map_nil, (show ac.eval (.tmp 14) = (Value.agg (cellsOf (nC (rightN a0)) 2)) from (hv0a 14 rfl))] <;> rfl) (by kernel_rfl) (Value.agg (cellsOf (nC (rightN a0)) 2)) (fun K hK => To_any (rightN a0) wa K hK) rfl hM18 hI
      · exact potg_run rfl rfl (Value.agg (cellsOf (nC (rightN b0)) 2)) rfl (run_rw 24 (.tmp 4) rfl (N + 1) (ha 4 (not_dstG (by kernel_rfl))) 24 2 _ (Has.below k15 hI (Has.ltN k15 hM18)) undU szU) hM18 hI
      · obtain ⟨v2, hv2a, hv2b⟩ := hv 2 (by simp) (by kernel_rfl)
        have ev2 := hv2b.val rfl
        subst ev2
        exact potg_cl rfl rfl 6 _ _ rfl #[(Value.agg (cellsOf (nC (rightN b0)) 2))] (by simp only [List.map_toArray, List.map_cons, List.map_nil, (show ac.eval (.tmp 16) = (Value.agg (cellsOf (nC (rightN b0)) 2)) from (hv2a 16 rfl))] <;> rfl) (by kernel_rfl) (Value.agg (cellsOf (nC (rightN b0)) 2)) (fun K hK => To_any (rightN b0) wa K hK) rfl hM18 hI
      · exact potg_al rfl rfl rfl zeT rfl rfl hM18 hI
      · exact potg_al rfl rfl rfl zeT rfl rfl hM18 hI
    · intro vals w5_22_ hb5_22_ hF hG
      have e_22_0 := (hF 0 (by simp)).val rfl
      have e_22_1 := (hF 1 (by simp)).val rfl
      have e_22_2 := (hF 2 (by simp)).val rfl
      have e_22_3 := (hF 3 (by simp)).val rfl
      obtain ⟨b_22_4, l_22_4, e_22_4, h_22_4⟩ := (hF 4 (by simp)).al rfl rfl
      obtain ⟨b_22_5, l_22_5, e_22_5, h_22_5⟩ := (hF 5 (by simp)).al rfl rfl
      have n_22_4_5 := hG 4 (by simp) 5 (by simp) (by omega) rfl rfl b_22_4 b_22_5 e_22_4 e_22_5
      clear hF hG
      simp only [List.foldl_cons, List.foldl_nil, dstOf, List.getElem?_toArray, List.getElem?_cons_succ, List.getElem?_cons_zero, Option.bind_some, Act.put, List.setIfInBounds_toArray, List.set_cons_succ, List.set_cons_zero, e_22_0, e_22_1, e_22_2, e_22_3, e_22_4, e_22_5]
      clear e_22_0 e_22_1 e_22_2 e_22_3 e_22_4 e_22_5
      refine wpAny_chain [6, 7] _ _ _ _ (by kernel_rfl) (by decide) ?_
      simp only [List.filterMap_cons, List.filterMap_nil, List.getElem?_toArray, List.getElem?_cons_succ, List.getElem?_cons_zero]
      have k23 := k16.below hb5_22_ (by omega)
      have k24 := k15.below hb5_22_ (by omega)
      have lo25 := lo17.trans (hb5_22_.mono (by omega))
      clear k16 k15 lo17 hb5_22_
      refine wpl_store rfl 27 (.tmp 7) (.tmp 15) rfl b_22_4 2 (nC (rightN a0)) rfl rfl 27 _ h_22_4 szT (fun j _ => nC_one _ j) ?_
      intro xw26 t27 k28
      have k29 := k23.touch t27 (by omega)
      have k30 := k24.touch t27 (by omega)
      have k31 := h_22_5.touch t27 (by omega)
      have lo32 := t27.below lo25 (by omega)
      clear h_22_4 k23 k24 h_22_5 lo25 t27
      refine wpl_store rfl 27 (.tmp 8) (.tmp 17) rfl b_22_5 2 (nC (rightN b0)) rfl rfl 27 _ k31 szT (fun j _ => nC_one _ j) ?_
      intro xw33 t34 k35
      have k36 := k29.touch t34 (by omega)
      have k37 := k30.touch t34 (by omega)
      have k38 := k28.touch t34 (by omega)
      have lo39 := t34.below lo32 (by omega)
      clear k31 k29 k30 k28 lo32 t34
      obtain ⟨M40, hM40⟩ := sz_some xw33
      have lt_41 := k36.ltN hM40
      have lt_42 := k37.ltN hM40
      have lt_43 := k38.ltN hM40
      have lt_44 := k35.ltN hM40
      go_upto_region 3 with fail
      refine wp_region_lit ?_
      try simp only [Act.put, List.setIfInBounds_toArray, List.set_cons_succ, List.set_cons_zero]
      refine wpl_run rfl (Value.pointer (some ⟨N, 0, none⟩)) _ (run_fa 24 (.tmp 3) 0 0 rfl rfl faU0) ?_; simp only [Act.put, List.setIfInBounds_toArray, List.set_cons_succ, List.set_cons_zero]
      obtain ⟨c45, c46⟩ := n_cells k36
      refine wpl_run rfl (Q (rightN a0).v) _ (run_c1 22 (.tmp 18) rfl ⟨N, 0, none⟩ rfl und64 rfl c45) ?_; simp only [Act.put, List.setIfInBounds_toArray, List.set_cons_succ, List.set_cons_zero]
      refine wpl_run rfl (Value.pointer (some ⟨N, 1, none⟩)) _ (run_fa 24 (.tmp 3) 1 1 rfl rfl faU1) ?_; simp only [Act.put, List.setIfInBounds_toArray, List.set_cons_succ, List.set_cons_zero]
      refine wpl_run rfl (Q (rightN a0).m) _ (run_c1 22 (.tmp 20) rfl ⟨N, 1, none⟩ rfl und64 rfl c46) ?_; simp only [Act.put, List.setIfInBounds_toArray, List.set_cons_succ, List.set_cons_zero]
      refine wpl_run rfl (Q m) _ (run_mv (x := (.tmp 2)) rfl _ rfl) ?_; simp only [Act.put, List.setIfInBounds_toArray, List.set_cons_succ, List.set_cons_zero]
      refine wpl_b (x := (.tmp 21)) (y := (.tmp 22)) rfl rfl (bin_or _ (rightN a0).m m) rfl rfl ?_; simp only [Act.put, List.setIfInBounds_toArray, List.set_cons_succ, List.set_cons_zero]
      refine wpl_run rfl (Value.agg (cellsOf (nC ⟨(rightN a0).v, ((rightN a0).m ||| m)⟩) 2)) _ (run_bd 24 _ rfl (cellsOf (nC ⟨(rightN a0).v, ((rightN a0).m ||| m)⟩) 2) (by kernel_rfl) _) ?_; simp only [Act.put, List.setIfInBounds_toArray, List.set_cons_succ, List.set_cons_zero]
      refine wpl_cl rfl 5 _ _ rfl #[(Value.agg (cellsOf (nC ⟨(rightN a0).v, ((rightN a0).m ||| m)⟩) 2))] (by simp only [List.map_toArray, List.map_cons, List.map_nil]; rfl) (by kernel_rfl) (Value.agg (cellsOf (nC (rightN ⟨(rightN a0).v, ((rightN a0).m ||| m)⟩)) 2)) (right_any ⟨(rightN a0).v, ((rightN a0).m ||| m)⟩ xw33 M40 hM40) ?_
      intro xw47 hbxw47; simp only [Act.put, List.setIfInBounds_toArray, List.set_cons_succ, List.set_cons_zero]
      obtain ⟨M48, hM48⟩ := sz_some xw47
      have lM48 := below_sz hbxw47 hM40 hM48
      have k49 := k36.below hbxw47 (by omega)
      have k50 := k37.below hbxw47 (by omega)
      have k51 := k38.below hbxw47 (by omega)
      have k52 := k35.below hbxw47 (by omega)
      have lo53 := lo39.trans (hbxw47.mono (by omega))
      clear k36 c45 c46 k37 k38 k35 lo39 hbxw47
      refine wpl_cl rfl 6 _ _ rfl #[(Value.agg (cellsOf (nC (rightN ⟨(rightN a0).v, ((rightN a0).m ||| m)⟩)) 2))] (by simp only [List.map_toArray, List.map_cons, List.map_nil]; rfl) (by kernel_rfl) (Value.agg (cellsOf (nC (rightN ⟨(rightN a0).v, ((rightN a0).m ||| m)⟩)) 2)) (To_any (rightN ⟨(rightN a0).v, ((rightN a0).m ||| m)⟩) xw47 M48 hM48) ?_
      intro xw54 hbxw54; simp only [Act.put, List.setIfInBounds_toArray, List.set_cons_succ, List.set_cons_zero]
      obtain ⟨M55, hM55⟩ := sz_some xw54
      have lM55 := below_sz hbxw54 hM48 hM55
      have k56 := k49.below hbxw54 (by omega)
      have k57 := k50.below hbxw54 (by omega)
      have k58 := k51.below hbxw54 (by omega)
      have k59 := k52.below hbxw54 (by omega)
      have lo60 := lo53.trans (hbxw54.mono (by omega))
      clear k49 k50 k51 k52 lo53 hbxw54
      obtain ⟨b_xw61, eb_xw61⟩ : ∃ b_xw61, b_xw61 = M55 := ⟨_, rfl⟩
      have hzb_xw61 : Sz xw54 b_xw61 := by rw [eb_xw61]; exact hM55
      refine wpl_alloc rfl 27 rfl 2 (nC zeroN) zeT b_xw61 hzb_xw61 ?_
      intro xw61 hMxw61 hbxw61 hhxw61; simp only [Act.put, List.setIfInBounds_toArray, List.set_cons_succ, List.set_cons_zero]
      have k62 := k56.below hbxw61 (by omega)
      have k63 := k57.below hbxw61 (by omega)
      have k64 := k58.below hbxw61 (by omega)
      have k65 := k59.below hbxw61 (by omega)
      have lo66 := lo60.trans (hbxw61.mono (by omega))
      clear k56 k57 k58 k59 lo60 hbxw61 hzb_xw61
      obtain ⟨M67, eM67⟩ : ∃ M67, M67 = b_xw61 + 1 := ⟨_, rfl⟩
      rw [← eM67] at hMxw61
      refine wpl_store rfl 27 (.tmp 9) (.tmp 26) rfl b_xw61 2 (nC (rightN ⟨(rightN a0).v, ((rightN a0).m ||| m)⟩)) rfl rfl 27 _ hhxw61 szT (fun j _ => nC_one _ j) ?_
      intro xw68 t69 k70; simp only [Act.put, List.setIfInBounds_toArray, List.set_cons_succ, List.set_cons_zero]
      have k71 := k62.touch t69 (by omega)
      have k72 := k63.touch t69 (by omega)
      have k73 := k64.touch t69 (by omega)
      have k74 := k65.touch t69 (by omega)
      have lo75 := t69.below lo66 (by omega)
      have h76 := t69.sz hMxw61
      clear hhxw61 k62 k63 k64 k65 lo66 hMxw61 t69
      go_upto_region 4 with fail
      first | refine wp_region_later (M67) (by kernel_rfl) (by kernel_rfl) ?_ | refine wp_region_later1 (M67) ?_
      change wpQuiet _ (List.toArray (_ :: _ :: _ :: _ :: _ :: _ :: _ :: _ :: _ :: _ :: _ :: _ :: _ :: _ :: _ :: _ :: _ :: _ :: _ :: _ :: _ :: _ :: _ :: _ :: _ :: _ :: _ :: _ :: _ :: _ :: _ :: _ :: _ :: _ :: _ :: _ :: _ :: _ :: _ :: _ :: _ :: _ :: _ :: _ :: _ :: _ :: _ :: _ :: _ :: _ :: _ :: _ :: _ :: _ :: _ :: _ :: _ :: _ :: _ :: _ :: _ :: _ :: _ :: _ :: _ :: _ :: _ :: _ :: _ :: _ :: _ :: _ :: _ :: _ :: _ :: _ :: _ :: _ :: _ :: [])) _ _ (_ :: _ :: _ :: _ :: _ :: _ :: _ :: _ :: _ :: _ :: _ :: _ :: _ :: _ :: _ :: _ :: _ :: _ :: _ :: _ :: _ :: _ :: _ :: _ :: _ :: _ :: _ :: _ :: _ :: _ :: _ :: _ :: _ :: _ :: _ :: _ :: _ :: _ :: _ :: _ :: _ :: _ :: _ :: _ :: _ :: _ :: _ :: _ :: _ :: _ :: _ :: _ :: _ :: _ :: _ :: _ :: _ :: _ :: _ :: _ :: _ :: _ :: _ :: _ :: _ :: _ :: _ :: _ :: _ :: _ :: _ :: _ :: _ :: _ :: _ :: _ :: _ :: _ :: _ :: []) _
      go_big_quiet_step ((go_at_call 7; exact later_of h76 _ (fun K hK hKN => knows_any _ K hK)))
      go_big_quiet_step (fail)
      refine later_row h76 27 (.tmp 7) rfl (b_22_4) rfl 27 2 _ k73 undT szT (by rfl) ?_; simp only [Act.put, List.setIfInBounds_toArray, List.set_cons_succ, List.set_cons_zero]
      refine later_row h76 27 (.tmp 8) rfl (b_22_5) rfl 27 2 _ k74 undT szT (by rfl) ?_; simp only [Act.put, List.setIfInBounds_toArray, List.set_cons_succ, List.set_cons_zero]
      go_big_quiet_step ((go_at_call 8; exact later_of h76 _ (fun K hK hKN => Add_any (rightN a0) (rightN b0) _ K hK)))
      refine later_row h76 27 (.tmp 8) rfl (b_22_5) rfl 27 2 _ k74 undT szT (by rfl) ?_; simp only [Act.put, List.setIfInBounds_toArray, List.set_cons_succ, List.set_cons_zero]
      refine later_row h76 27 (.tmp 7) rfl (b_22_4) rfl 27 2 _ k73 undT szT (by rfl) ?_; simp only [Act.put, List.setIfInBounds_toArray, List.set_cons_succ, List.set_cons_zero]
      go_big_quiet_step ((go_at_call 8; exact later_of h76 _ (fun K hK hKN => Add_any (rightN b0) (rightN a0) _ K hK)))
      refine later_val (fun q => run_eql_op 27 27 (.tmp 31) (.tmp 34) rfl _ _ rfl rfl true (by kernel_rfl) (run_eqT_t h1.out q.w')) (by rfl) ?_; simp only [Act.put, List.setIfInBounds_toArray, List.set_cons_succ, List.set_cons_zero]
      go_big_quiet_step (fail)
      go_big_quiet_step (fail)
      refine later_row h76 27 (.tmp 7) rfl (b_22_4) rfl 27 2 _ k73 undT szT (by rfl) ?_; simp only [Act.put, List.setIfInBounds_toArray, List.set_cons_succ, List.set_cons_zero]
      refine later_row h76 27 (.tmp 8) rfl (b_22_5) rfl 27 2 _ k74 undT szT (by rfl) ?_; simp only [Act.put, List.setIfInBounds_toArray, List.set_cons_succ, List.set_cons_zero]
      go_big_quiet_step ((go_at_call 9; exact later_of h76 _ (fun K hK hKN => And_any (rightN a0) (rightN b0) _ K hK)))
      refine later_row h76 27 (.tmp 8) rfl (b_22_5) rfl 27 2 _ k74 undT szT (by rfl) ?_; simp only [Act.put, List.setIfInBounds_toArray, List.set_cons_succ, List.set_cons_zero]
      refine later_row h76 27 (.tmp 7) rfl (b_22_4) rfl 27 2 _ k73 undT szT (by rfl) ?_; simp only [Act.put, List.setIfInBounds_toArray, List.set_cons_succ, List.set_cons_zero]
      go_big_quiet_step ((go_at_call 9; exact later_of h76 _ (fun K hK hKN => And_any (rightN b0) (rightN a0) _ K hK)))
      refine later_val (fun q => run_eql_op 27 27 (.tmp 40) (.tmp 43) rfl _ _ rfl rfl true (by kernel_rfl) (run_eqT_t h2.out q.w')) (by rfl) ?_; simp only [Act.put, List.setIfInBounds_toArray, List.set_cons_succ, List.set_cons_zero]
      go_big_quiet_step (fail)
      go_big_quiet_step (fail)
      refine later_row h76 27 (.tmp 7) rfl (b_22_4) rfl 27 2 _ k73 undT szT (by rfl) ?_; simp only [Act.put, List.setIfInBounds_toArray, List.set_cons_succ, List.set_cons_zero]
      refine later_row h76 27 (.tmp 8) rfl (b_22_5) rfl 27 2 _ k74 undT szT (by rfl) ?_; simp only [Act.put, List.setIfInBounds_toArray, List.set_cons_succ, List.set_cons_zero]
      go_big_quiet_step ((go_at_call 10; exact later_of h76 _ (fun K hK hKN => Or_any (rightN a0) (rightN b0) _ K hK)))
      refine later_row h76 27 (.tmp 8) rfl (b_22_5) rfl 27 2 _ k74 undT szT (by rfl) ?_; simp only [Act.put, List.setIfInBounds_toArray, List.set_cons_succ, List.set_cons_zero]
      refine later_row h76 27 (.tmp 7) rfl (b_22_4) rfl 27 2 _ k73 undT szT (by rfl) ?_; simp only [Act.put, List.setIfInBounds_toArray, List.set_cons_succ, List.set_cons_zero]
      go_big_quiet_step ((go_at_call 10; exact later_of h76 _ (fun K hK hKN => Or_any (rightN b0) (rightN a0) _ K hK)))
      refine later_val (fun q => run_eql_op 27 27 (.tmp 49) (.tmp 52) rfl _ _ rfl rfl true (by kernel_rfl) (run_eqT_t h3.out q.w')) (by rfl) ?_; simp only [Act.put, List.setIfInBounds_toArray, List.set_cons_succ, List.set_cons_zero]
      go_big_quiet_step (fail)
      go_big_quiet_step (fail)
      refine later_row h76 27 (.tmp 7) rfl (b_22_4) rfl 27 2 _ k73 undT szT (by rfl) ?_; simp only [Act.put, List.setIfInBounds_toArray, List.set_cons_succ, List.set_cons_zero]
      refine later_row h76 27 (.tmp 8) rfl (b_22_5) rfl 27 2 _ k74 undT szT (by rfl) ?_; simp only [Act.put, List.setIfInBounds_toArray, List.set_cons_succ, List.set_cons_zero]
      go_big_quiet_step ((go_at_call 11; exact later_of h76 _ (fun K hK hKN => Xor_any (rightN a0) (rightN b0) _ K hK)))
      refine later_row h76 27 (.tmp 8) rfl (b_22_5) rfl 27 2 _ k74 undT szT (by rfl) ?_; simp only [Act.put, List.setIfInBounds_toArray, List.set_cons_succ, List.set_cons_zero]
      refine later_row h76 27 (.tmp 7) rfl (b_22_4) rfl 27 2 _ k73 undT szT (by rfl) ?_; simp only [Act.put, List.setIfInBounds_toArray, List.set_cons_succ, List.set_cons_zero]
      go_big_quiet_step ((go_at_call 11; exact later_of h76 _ (fun K hK hKN => Xor_any (rightN b0) (rightN a0) _ K hK)))
      refine later_val (fun q => run_eql_op 27 27 (.tmp 58) (.tmp 61) rfl _ _ rfl rfl true (by kernel_rfl) (run_eqT_t h4.out q.w')) (by rfl) ?_; simp only [Act.put, List.setIfInBounds_toArray, List.set_cons_succ, List.set_cons_zero]
      go_big_quiet_step (fail)
      go_big_quiet_step (fail)
      refine later_row h76 27 (.tmp 7) rfl (b_22_4) rfl 27 2 _ k73 undT szT (by rfl) ?_; simp only [Act.put, List.setIfInBounds_toArray, List.set_cons_succ, List.set_cons_zero]
      refine later_row h76 27 (.tmp 8) rfl (b_22_5) rfl 27 2 _ k74 undT szT (by rfl) ?_; simp only [Act.put, List.setIfInBounds_toArray, List.set_cons_succ, List.set_cons_zero]
      go_big_quiet_step ((go_at_call 12; exact later_of h76 _ (fun K hK hKN => Join_any (rightN a0) (rightN b0) _ K hK)))
      refine later_row h76 27 (.tmp 8) rfl (b_22_5) rfl 27 2 _ k74 undT szT (by rfl) ?_; simp only [Act.put, List.setIfInBounds_toArray, List.set_cons_succ, List.set_cons_zero]
      refine later_row h76 27 (.tmp 7) rfl (b_22_4) rfl 27 2 _ k73 undT szT (by rfl) ?_; simp only [Act.put, List.setIfInBounds_toArray, List.set_cons_succ, List.set_cons_zero]
      go_big_quiet_step ((go_at_call 12; exact later_of h76 _ (fun K hK hKN => Join_any (rightN b0) (rightN a0) _ K hK)))
      refine later_val (fun q => run_eql_op 27 27 (.tmp 67) (.tmp 70) rfl _ _ rfl rfl true (by kernel_rfl) (run_eqT_t h5.out q.w')) (by rfl) ?_; simp only [Act.put, List.setIfInBounds_toArray, List.set_cons_succ, List.set_cons_zero]
      go_big_quiet_step (fail)
      go_big_quiet_step (fail)
      refine later_row h76 27 (.tmp 7) rfl (b_22_4) rfl 27 2 _ k73 undT szT (by rfl) ?_; simp only [Act.put, List.setIfInBounds_toArray, List.set_cons_succ, List.set_cons_zero]
      refine later_row h76 27 (.tmp 9) rfl (b_xw61) rfl 27 2 _ k70 undT szT (by rfl) ?_; simp only [Act.put, List.setIfInBounds_toArray, List.set_cons_succ, List.set_cons_zero]
      go_big_quiet_step ((go_at_call 13; exact later_of h76 _ (fun K hK hKN => ret_is h6.out (Within_any (rightN a0) (rightN ⟨(rightN a0).v, ((rightN a0).m ||| m)⟩)) _ K hK)))
      go_big_quiet_step (fail)
      go_big_quiet_step (fail)
      refine later_row h76 27 (.tmp 7) rfl (b_22_4) rfl 27 2 _ k73 undT szT (by rfl) ?_; simp only [Act.put, List.setIfInBounds_toArray, List.set_cons_succ, List.set_cons_zero]
      refine later_row h76 27 (.tmp 8) rfl (b_22_5) rfl 27 2 _ k74 undT szT (by rfl) ?_; simp only [Act.put, List.setIfInBounds_toArray, List.set_cons_succ, List.set_cons_zero]
      go_big_quiet_step ((go_at_call 8; exact later_of h76 _ (fun K hK hKN => Add_any (rightN a0) (rightN b0) _ K hK)))
      refine later_row h76 27 (.tmp 9) rfl (b_xw61) rfl 27 2 _ k70 undT szT (by rfl) ?_; simp only [Act.put, List.setIfInBounds_toArray, List.set_cons_succ, List.set_cons_zero]
      refine later_row h76 27 (.tmp 8) rfl (b_22_5) rfl 27 2 _ k74 undT szT (by rfl) ?_; simp only [Act.put, List.setIfInBounds_toArray, List.set_cons_succ, List.set_cons_zero]
      go_big_quiet_step ((go_at_call 8; exact later_of h76 _ (fun K hK hKN => Add_any (rightN ⟨(rightN a0).v, ((rightN a0).m ||| m)⟩) (rightN b0) _ K hK)))
      go_big_quiet_step ((go_at_call 13; exact later_of h76 _ (fun K hK hKN => ret_is h7.out (Within_any (tAdd (rightN a0) (rightN b0)) (tAdd (rightN ⟨(rightN a0).v, ((rightN a0).m ||| m)⟩) (rightN b0))) _ K hK)))
      go_big_quiet_step (fail)
      go_big_quiet_step (fail)
      refine later_row h76 27 (.tmp 7) rfl (b_22_4) rfl 27 2 _ k73 undT szT (by rfl) ?_; simp only [Act.put, List.setIfInBounds_toArray, List.set_cons_succ, List.set_cons_zero]
      refine later_row h76 27 (.tmp 8) rfl (b_22_5) rfl 27 2 _ k74 undT szT (by rfl) ?_; simp only [Act.put, List.setIfInBounds_toArray, List.set_cons_succ, List.set_cons_zero]
      go_big_quiet_step ((go_at_call 14; exact later_of h76 _ (fun K hK hKN => Sub_any (rightN a0) (rightN b0) _ K hK)))
      refine later_row h76 27 (.tmp 9) rfl (b_xw61) rfl 27 2 _ k70 undT szT (by rfl) ?_; simp only [Act.put, List.setIfInBounds_toArray, List.set_cons_succ, List.set_cons_zero]
      refine later_row h76 27 (.tmp 8) rfl (b_22_5) rfl 27 2 _ k74 undT szT (by rfl) ?_; simp only [Act.put, List.setIfInBounds_toArray, List.set_cons_succ, List.set_cons_zero]
      go_big_quiet_step ((go_at_call 14; exact later_of h76 _ (fun K hK hKN => Sub_any (rightN ⟨(rightN a0).v, ((rightN a0).m ||| m)⟩) (rightN b0) _ K hK)))
      go_big_quiet_step ((go_at_call 13; exact later_of h76 _ (fun K hK hKN => ret_is h8.out (Within_any (tSub (rightN a0) (rightN b0)) (tSub (rightN ⟨(rightN a0).v, ((rightN a0).m ||| m)⟩) (rightN b0))) _ K hK)))
      go_big_quiet_step (fail)
      go_big_quiet_step (fail)
      refine later_row h76 27 (.tmp 7) rfl (b_22_4) rfl 27 2 _ k73 undT szT (by rfl) ?_; simp only [Act.put, List.setIfInBounds_toArray, List.set_cons_succ, List.set_cons_zero]
      refine later_row h76 27 (.tmp 8) rfl (b_22_5) rfl 27 2 _ k74 undT szT (by rfl) ?_; simp only [Act.put, List.setIfInBounds_toArray, List.set_cons_succ, List.set_cons_zero]
      go_big_quiet_step ((go_at_call 9; exact later_of h76 _ (fun K hK hKN => And_any (rightN a0) (rightN b0) _ K hK)))
      refine later_row h76 27 (.tmp 9) rfl (b_xw61) rfl 27 2 _ k70 undT szT (by rfl) ?_; simp only [Act.put, List.setIfInBounds_toArray, List.set_cons_succ, List.set_cons_zero]
      refine later_row h76 27 (.tmp 8) rfl (b_22_5) rfl 27 2 _ k74 undT szT (by rfl) ?_; simp only [Act.put, List.setIfInBounds_toArray, List.set_cons_succ, List.set_cons_zero]
      go_big_quiet_step ((go_at_call 9; exact later_of h76 _ (fun K hK hKN => And_any (rightN ⟨(rightN a0).v, ((rightN a0).m ||| m)⟩) (rightN b0) _ K hK)))
      go_big_quiet_step ((go_at_call 13; exact later_of h76 _ (fun K hK hKN => ret_is h9.out (Within_any (tAnd (rightN a0) (rightN b0)) (tAnd (rightN ⟨(rightN a0).v, ((rightN a0).m ||| m)⟩) (rightN b0))) _ K hK)))
      go_big_quiet_step (fail)
      go_big_quiet_step (fail)
      refine wpQuiet_nil ?_
      rintro xw77 ⟨qxw77, exw77⟩
      have hbxw77 := qxw77.b
      rw [← exw77] at hbxw77
      clear qxw77 exw77
      obtain ⟨M78, hM78⟩ := sz_some xw77
      have lM78 := below_sz hbxw77 h76 hM78
      have k79 := k71.below hbxw77 (by omega)
      have k80 := k72.below hbxw77 (by omega)
      have k81 := k73.below hbxw77 (by omega)
      have k82 := k74.below hbxw77 (by omega)
      have k83 := k70.below hbxw77 (by omega)
      have lo84 := lo75.trans (hbxw77.mono (by omega))
      clear k71 k72 k73 k74 k70 lo75 hbxw77
      go_wp2_with fail
      go_ret
      exact ⟨rfl, lo84⟩
end Go.Proofs.Ytbeikhokkpioeab
