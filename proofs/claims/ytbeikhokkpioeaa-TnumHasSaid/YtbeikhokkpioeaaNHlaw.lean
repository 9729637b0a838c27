/- Hlaw: the walk. -/
import Derived.Test.YtbeikhokkpioeaaNh
import Derived.Test.YtbeikhokkpioeaaNmp
namespace Go.Proofs.Ytbeikhokkpioeaa
open Go Go.RowKit
set_option maxRecDepth 100000 in
set_option maxHeartbeats 4000000 in
theorem law_has (a0 b0 : Nm) (d : Nat → W) (w : World) (N : Nat) (hN : Sz w N) : Calls Try.prog 4 #[nV a0, nV b0, .agg (cellsOf (dC d) 2)] w fun e w' => e = .returned (.bool true) ∧ Below N w w' := by
  have hp : tHas (rightN a0) ((rightN a0).v ||| ((d 0) &&& (rightN a0).m)) = true := pick_has (rightN_rgt a0) (d 0)
  have hq : tHas (rightN b0) ((rightN b0).v ||| ((d 1) &&& (rightN b0).m)) = true := pick_has (rightN_rgt b0) (d 1)
  have h0_ := hid (hp)
  have h1_ := hid (add_has hp hq)
  have h2_ := hid (sub_has hp hq)
  have h3_ := hid (mul_has hp hq)
  have h4_ := hid (and_has hp hq)
  have h5_ := hid (or_has hp hq)
  have h6_ := hid (xor_has hp hq)
  have h7_ := hid (join_has_l hp (rightN_rgt b0))
  have h8_ := hid (join_has_r hq (rightN_rgt a0))
  have h9_ := hid (mul_const ((rightN a0).v ||| ((d 0) &&& (rightN a0).m)) ((rightN b0).v ||| ((d 1) &&& (rightN b0).m)))
  clear hp hq
  unfold nV
  go_enter Try.func4, Try.ntmps4
  go_upto_region 1 with (first
    | (refine wpl_box rfl 24 (.tmp 0) rfl 2 _ rfl (N) hN ?_; intro w1 hN1 hb1 hh1)
    | (refine wpl_box rfl 24 (.tmp 1) rfl 2 _ rfl (N + 1) hN1 ?_; intro w2 hN2 hb2 hh2)
    | (refine wpl_box rfl 36 (.tmp 2) rfl 2 _ rfl (N + 1 + 1) hN2 ?_; intro w3 hN3 hb3 hh3)
    | fail)
  have lo0 : Below N w w3 := ((hb1.trans (hb2.mono (by omega))).trans (hb3.mono (by omega)))
  have k1 := ((hh1.below hb2 (by omega)).below hb3 (by omega))
  have k2 := (hh2.below hb3 (by omega))
  have k3 := hh3
  clear hh1 hb1 hh2 hb2 hh3 hb3 hN1 hN2
  go_upto_region 1 with fail
  refine wp_region_any (by kernel_rfl) ?_
  replace k1 : Has w3.drew N 24 2 (nC a0) := k1
  replace k2 : Has w3.drew (N + 1) 24 2 (nC b0) := k2
  replace k3 : Has w3.drew (N + 1 + 1) 36 2 (dC d) := k3
  replace hN3 : Sz w3.drew (N + 1 + 1 + 1) := hN3
  replace lo0 : Below N w w3.drew := lo0.drew
  change wpAny _ _ _ _ _ _ _ (World.drew _)
  generalize w3.drew = xw4 at *
  refine wpAny_pot (rem := [0, 1, 2, 3]) (FG (N + 1 + 1 + 1) (fun j => if j = 0 then some (Value.agg (cellsOf (nC a0) 2)) else if j = 1 then some (Value.agg (cellsOf (nC (rightN a0)) 2)) else if j = 2 then some (Value.agg (cellsOf (nC b0) 2)) else some (Value.agg (cellsOf (nC (rightN b0)) 2))) (fun j => (0, 0, fun _ => undef))) (TwoN (fun j => if j = 0 then some (Value.agg (cellsOf (nC a0) 2)) else if j = 1 then some (Value.agg (cellsOf (nC (rightN a0)) 2)) else if j = 2 then some (Value.agg (cellsOf (nC b0) 2)) else some (Value.agg (cellsOf (nC (rightN b0)) 2)))) (Below (N + 1 + 1 + 1) xw4) _ _ _ _ (by kernel_rfl) (size_dstG (by kernel_rfl)) (Below.refl _ _) ?_ ?_
  · intro i hi ac wa hI ha hv
    simp only [List.mem_cons, List.not_mem_nil, or_false] at hi
    rcases hi with rfl | rfl | rfl | rfl
    · exact potg_run rfl rfl (Value.agg (cellsOf (nC a0) 2)) rfl (run_rw 24 (.tmp 3) rfl N (ha 3 (not_dstG (by kernel_rfl))) 24 2 _ (Has.below k1 hI (Has.ltN k1 hN3)) undU szU) hN3 hI
    · obtain ⟨v0, hv0a, hv0b⟩ := hv 0 (by simp) (by kernel_rfl)
      have ev0 := hv0b.val rfl
      subst ev0
      exact potg_cl rfl rfl 9 _ _ rfl #[(Value.agg (cellsOf (nC a0) 2))] (by simp only [List.map_toArray, List.map_cons, List.map_nil, (show ac.eval (.tmp 11) = (Value.agg (cellsOf (nC a0) 2)) from (hv0a 11 rfl))] <;> rfl) (by kernel_rfl) (Value.agg (cellsOf (nC (rightN a0)) 2)) (fun K hK => right_any a0 wa K hK) rfl hN3 hI
    · exact potg_run rfl rfl (Value.agg (cellsOf (nC b0) 2)) rfl (run_rw 24 (.tmp 4) rfl (N + 1) (ha 4 (not_dstG (by kernel_rfl))) 24 2 _ (Has.below k2 hI (Has.ltN k2 hN3)) undU szU) hN3 hI
    · obtain ⟨v2, hv2a, hv2b⟩ := hv 2 (by simp) (by kernel_rfl)
      have ev2 := hv2b.val rfl
      subst ev2
      exact potg_cl rfl rfl 9 _ _ rfl #[(Value.agg (cellsOf (nC b0) 2))] (by simp only [List.map_toArray, List.map_cons, List.map_nil, (show ac.eval (.tmp 13) = (Value.agg (cellsOf (nC b0) 2)) from (hv2a 13 rfl))] <;> rfl) (by kernel_rfl) (Value.agg (cellsOf (nC (rightN b0)) 2)) (fun K hK => right_any b0 wa K hK) rfl hN3 hI
  · intro vals w5_5_ hb5_5_ hF hG
    have e_5_0 := (hF 0 (by simp)).val rfl
    have e_5_1 := (hF 1 (by simp)).val rfl
    have e_5_2 := (hF 2 (by simp)).val rfl
    have e_5_3 := (hF 3 (by simp)).val rfl
    clear hF hG
    simp only [List.foldl_cons, List.foldl_nil, dstOf, List.getElem?_toArray, List.getElem?_cons_succ, List.getElem?_cons_zero, Option.bind_some, Act.put, List.setIfInBounds_toArray, List.set_cons_succ, List.set_cons_zero, e_5_0, e_5_1, e_5_2, e_5_3]
    clear e_5_0 e_5_1 e_5_2 e_5_3
    refine wpAny_chain [4, 5] _ _ _ _ (by kernel_rfl) (by decide) ?_
    simp only [List.filterMap_cons, List.filterMap_nil, List.getElem?_toArray, List.getElem?_cons_succ, List.getElem?_cons_zero]
    have k6 := k1.below hb5_5_ (by omega)
    have k7 := k2.below hb5_5_ (by omega)
    have k8 := k3.below hb5_5_ (by omega)
    have lo9 := lo0.trans (hb5_5_.mono (by omega))
    clear k1 k2 k3 lo0 hb5_5_
    refine wpl_store rfl 24 (.tmp 3) (.tmp 12) rfl N 2 (nC (rightN a0)) rfl rfl 24 _ k6 szU (fun j _ => nC_one _ j) ?_
    intro xw10 t11 k12
    have k13 := k7.touch t11 (by omega)
    have k14 := k8.touch t11 (by omega)
    have lo15 := t11.below lo9 (by omega)
    clear k6 k7 k8 lo9 t11
    refine wpl_store rfl 24 (.tmp 4) (.tmp 14) rfl (N + 1) 2 (nC (rightN b0)) rfl rfl 24 _ k13 szU (fun j _ => nC_one _ j) ?_
    intro xw16 t17 k18
    have k19 := k12.touch t17 (by omega)
    have k20 := k14.touch t17 (by omega)
    have lo21 := t17.below lo15 (by omega)
    clear k13 k12 k14 lo15 t17
    obtain ⟨M22, hM22⟩ := sz_some xw16
    have lt_23 := k19.ltN hM22
    have lt_24 := k18.ltN hM22
    have lt_25 := k20.ltN hM22
    go_upto_region 2 with fail
    refine wp_region_any (by kernel_rfl) ?_
    replace k19 : Has xw16.drew N 24 2 (nC (rightN a0)) := k19
    replace k18 : Has xw16.drew (N + 1) 24 2 (nC (rightN b0)) := k18
    replace k20 : Has xw16.drew (N + 1 + 1) 36 2 (dC d) := k20
    replace hM22 : Sz xw16.drew M22 := hM22
    replace lo21 : Below N w xw16.drew := lo21.drew
    change wpAny _ _ _ _ _ _ _ (World.drew _)
    generalize xw16.drew = xw26 at *
    refine wpAny_pot (rem := [0, 1, 2, 3, 4, 5]) (FG M22 (fun j => if j = 0 then some (Value.agg (cellsOf (nC (rightN a0)) 2)) else if j = 1 then some (Value.agg (cellsOf (nC (rightN a0)) 2)) else if j = 2 then some (Value.agg (cellsOf (nC (rightN b0)) 2)) else if j = 3 then some (Value.agg (cellsOf (nC (rightN b0)) 2)) else if j = 4 then none else none) (fun j => if j = 4 then (27, 2, nC zeroN) else (27, 2, nC zeroN))) (TwoN (fun j => if j = 0 then some (Value.agg (cellsOf (nC (rightN a0)) 2)) else if j = 1 then some (Value.agg (cellsOf (nC (rightN a0)) 2)) else if j = 2 then some (Value.agg (cellsOf (nC (rightN b0)) 2)) else if j = 3 then some (Value.agg (cellsOf (nC (rightN b0)) 2)) else if j = 4 then none else none)) (Below M22 xw26) _ _ _ _ (by kernel_rfl) (size_dstG (by kernel_rfl)) (Below.refl _ _) ?_ ?_
    · intro i hi ac wa hI ha hv
      simp only [List.mem_cons, List.not_mem_nil, or_false] at hi
      rcases hi with rfl | rfl | rfl | rfl | rfl | rfl
      · exact potg_run rfl rfl (Value.agg (cellsOf (nC (rightN a0)) 2)) rfl (run_rw 24 (.tmp 3) rfl N (ha 3 (not_dstG (by kernel_rfl))) 24 2 _ (Has.below k19 hI (Has.ltN k19 hM22)) undU szU) hM22 hI
      · obtain ⟨v0, hv0a, hv0b⟩ := hv 0 (by simp) (by kernel_rfl)
        have ev0 := hv0b.val rfl
        subst ev0
        exact potg_cl rfl rfl 10 _ _ rfl #[(Value.agg (cellsOf (nC (rightN a0)) 2))] (by simp only [List.map_toArray, List.map_cons, List.map_nil, (show ac.eval (.tmp 15) = (Value.agg (cellsOf (nC (rightN a0)) 2)) from (hv0a 15 rfl))] <;> rfl) (by kernel_rfl) (Value.agg (cellsOf (nC (rightN a0)) 2)) (fun K hK => To_any (rightN a0) wa K hK) rfl hM22 hI
      · exact potg_run rfl rfl (Value.agg (cellsOf (nC (rightN b0)) 2)) rfl (run_rw 24 (.tmp 4) rfl (N + 1) (ha 4 (not_dstG (by kernel_rfl))) 24 2 _ (Has.below k18 hI (Has.ltN k18 hM22)) undU szU) hM22 hI
      · obtain ⟨v2, hv2a, hv2b⟩ := hv 2 (by simp) (by kernel_rfl)
        have ev2 := hv2b.val rfl
        subst ev2
        exact potg_cl rfl rfl 10 _ _ rfl #[(Value.agg (cellsOf (nC (rightN b0)) 2))] (by simp only [List.map_toArray, List.map_cons, List.map_nil, (show ac.eval (.tmp 17) = (Value.agg (cellsOf (nC (rightN b0)) 2)) from (hv2a 17 rfl))] <;> rfl) (by kernel_rfl) (Value.agg (cellsOf (nC (rightN b0)) 2)) (fun K hK => To_any (rightN b0) wa K hK) rfl hM22 hI
      · exact potg_al rfl rfl rfl zeT rfl rfl hM22 hI
      · exact potg_al rfl rfl rfl zeT rfl rfl hM22 hI
    · intro vals w5_27_ hb5_27_ hF hG
      have e_27_0 := (hF 0 (by simp)).val rfl
      have e_27_1 := (hF 1 (by simp)).val rfl
      have e_27_2 := (hF 2 (by simp)).val rfl
      have e_27_3 := (hF 3 (by simp)).val rfl
      obtain ⟨b_27_4, l_27_4, e_27_4, h_27_4⟩ := (hF 4 (by simp)).al rfl rfl
      obtain ⟨b_27_5, l_27_5, e_27_5, h_27_5⟩ := (hF 5 (by simp)).al rfl rfl
      have n_27_4_5 := hG 4 (by simp) 5 (by simp) (by omega) rfl rfl b_27_4 b_27_5 e_27_4 e_27_5
      clear hF hG
      simp only [List.foldl_cons, List.foldl_nil, dstOf, List.getElem?_toArray, List.getElem?_cons_succ, List.getElem?_cons_zero, Option.bind_some, Act.put, List.setIfInBounds_toArray, List.set_cons_succ, List.set_cons_zero, e_27_0, e_27_1, e_27_2, e_27_3, e_27_4, e_27_5]
      clear e_27_0 e_27_1 e_27_2 e_27_3 e_27_4 e_27_5
      refine wpAny_chain [6, 7] _ _ _ _ (by kernel_rfl) (by decide) ?_
      simp only [List.filterMap_cons, List.filterMap_nil, List.getElem?_toArray, List.getElem?_cons_succ, List.getElem?_cons_zero]
      have k28 := k19.below hb5_27_ (by omega)
      have k29 := k18.below hb5_27_ (by omega)
      have k30 := k20.below hb5_27_ (by omega)
      have lo31 := lo21.trans (hb5_27_.mono (by omega))
      clear k19 k18 k20 lo21 hb5_27_
      refine wpl_store rfl 27 (.tmp 7) (.tmp 16) rfl b_27_4 2 (nC (rightN a0)) rfl rfl 27 _ h_27_4 szT (fun j _ => nC_one _ j) ?_
      intro xw32 t33 k34
      have k35 := k28.touch t33 (by omega)
      have k36 := k29.touch t33 (by omega)
      have k37 := k30.touch t33 (by omega)
      have k38 := h_27_5.touch t33 (by omega)
      have lo39 := t33.below lo31 (by omega)
      clear h_27_4 k28 k29 k30 h_27_5 lo31 t33
      refine wpl_store rfl 27 (.tmp 8) (.tmp 18) rfl b_27_5 2 (nC (rightN b0)) rfl rfl 27 _ k38 szT (fun j _ => nC_one _ j) ?_
      intro xw40 t41 k42
      have k43 := k35.touch t41 (by omega)
      have k44 := k36.touch t41 (by omega)
      have k45 := k37.touch t41 (by omega)
      have k46 := k34.touch t41 (by omega)
      have lo47 := t41.below lo39 (by omega)
      clear k38 k35 k36 k37 k34 lo39 t41
      obtain ⟨M48, hM48⟩ := sz_some xw40
      have lt_49 := k43.ltN hM48
      have lt_50 := k44.ltN hM48
      have lt_51 := k45.ltN hM48
      have lt_52 := k46.ltN hM48
      have lt_53 := k42.ltN hM48
      go_upto_region 3 with fail
      obtain ⟨c54, c55⟩ := d_cells k45
      first | refine wp_region_later (M48) (by kernel_rfl) (by kernel_rfl) ?_ | refine wp_region_later1 (M48) ?_
      refine later_row hM48 24 (.tmp 3) rfl (N) rfl 24 2 _ k43 undU szU (by rfl) ?_; simp only [Act.put, List.setIfInBounds_toArray, List.set_cons_succ, List.set_cons_zero]
      go_big_quiet_step (fail)
      refine later_c1 hM48 22 (.tmp 20) rfl rfl und64 rfl c54 (by rfl) ?_; simp only [Act.put, List.setIfInBounds_toArray, List.set_cons_succ, List.set_cons_zero]
      go_big_quiet_step ((go_at_call 22; exact later_of hM48 _ (fun K hK hKN => Pick_any (rightN a0) (d 0) _ K hK)))
      refine later_row hM48 24 (.tmp 4) rfl ((N + 1)) rfl 24 2 _ k44 undU szU (by rfl) ?_; simp only [Act.put, List.setIfInBounds_toArray, List.set_cons_succ, List.set_cons_zero]
      go_big_quiet_step (fail)
      refine later_c1 hM48 22 (.tmp 24) rfl rfl und64 rfl c55 (by rfl) ?_; simp only [Act.put, List.setIfInBounds_toArray, List.set_cons_succ, List.set_cons_zero]
      go_big_quiet_step ((go_at_call 22; exact later_of hM48 _ (fun K hK hKN => Pick_any (rightN b0) (d 1) _ K hK)))
      go_big_quiet_step (fail)
      go_big_quiet_step (fail)
      refine wpQuiet_nil ?_
      rintro xw56 ⟨qxw56, exw56⟩
      have hbxw56 := qxw56.b
      rw [← exw56] at hbxw56
      clear qxw56 exw56
      obtain ⟨M57, hM57⟩ := sz_some xw56
      have lM57 := below_sz hbxw56 hM48 hM57
      have k58 := k43.below hbxw56 (by omega)
      have k59 := k44.below hbxw56 (by omega)
      have k60 := k45.below hbxw56 (by omega)
      have k61 := k46.below hbxw56 (by omega)
      have k62 := k42.below hbxw56 (by omega)
      have lo63 := lo47.trans (hbxw56.mono (by omega))
      clear k43 k44 k45 c54 c55 k46 k42 lo47 hbxw56
      go_upto_region 4 with fail
      first | refine wp_region_later (M57) (by kernel_rfl) (by kernel_rfl) ?_ | refine wp_region_later1 (M57) ?_
      change wpQuiet _ (List.toArray (_ :: _ :: _ :: _ :: _ :: _ :: _ :: _ :: _ :: _ :: _ :: _ :: _ :: _ :: _ :: _ :: _ :: _ :: _ :: _ :: _ :: _ :: _ :: _ :: _ :: _ :: _ :: _ :: _ :: _ :: _ :: _ :: _ :: _ :: _ :: _ :: _ :: _ :: _ :: _ :: _ :: _ :: _ :: _ :: _ :: _ :: _ :: _ :: _ :: _ :: _ :: _ :: _ :: _ :: _ :: _ :: _ :: _ :: _ :: _ :: _ :: _ :: _ :: _ :: _ :: _ :: _ :: _ :: _ :: _ :: _ :: _ :: _ :: _ :: _ :: _ :: _ :: _ :: _ :: _ :: _ :: _ :: _ :: _ :: _ :: _ :: _ :: [])) _ _ (_ :: _ :: _ :: _ :: _ :: _ :: _ :: _ :: _ :: _ :: _ :: _ :: _ :: _ :: _ :: _ :: _ :: _ :: _ :: _ :: _ :: _ :: _ :: _ :: _ :: _ :: _ :: _ :: _ :: _ :: _ :: _ :: _ :: _ :: _ :: _ :: _ :: _ :: _ :: _ :: _ :: _ :: _ :: _ :: _ :: _ :: _ :: _ :: _ :: _ :: _ :: _ :: _ :: _ :: _ :: _ :: _ :: _ :: _ :: _ :: _ :: _ :: _ :: _ :: _ :: _ :: _ :: _ :: _ :: _ :: _ :: _ :: _ :: _ :: _ :: _ :: _ :: _ :: _ :: _ :: _ :: _ :: _ :: _ :: _ :: _ :: _ :: []) _
      go_big_quiet_step ((go_at_call 11; exact later_of hM57 _ (fun K hK hKN => knows_any _ K hK)))
      go_big_quiet_step (fail)
      refine later_row hM57 27 (.tmp 7) rfl (b_27_4) rfl 27 2 _ k61 undT szT (by rfl) ?_; simp only [Act.put, List.setIfInBounds_toArray, List.set_cons_succ, List.set_cons_zero]
      go_big_quiet_step (fail)
      go_big_quiet_step ((go_at_call 23; exact later_of hM57 _ (fun K hK hKN => ret_is h0_.out (Has_any (rightN a0) ((rightN a0).v ||| ((d 0) &&& (rightN a0).m))) _ K hK)))
      go_big_quiet_step (fail)
      go_big_quiet_step (fail)
      refine later_row hM57 27 (.tmp 7) rfl (b_27_4) rfl 27 2 _ k61 undT szT (by rfl) ?_; simp only [Act.put, List.setIfInBounds_toArray, List.set_cons_succ, List.set_cons_zero]
      refine later_row hM57 27 (.tmp 8) rfl (b_27_5) rfl 27 2 _ k62 undT szT (by rfl) ?_; simp only [Act.put, List.setIfInBounds_toArray, List.set_cons_succ, List.set_cons_zero]
      go_big_quiet_step ((go_at_call 13; exact later_of hM57 _ (fun K hK hKN => Add_any (rightN a0) (rightN b0) _ K hK)))
      go_big_quiet_step (fail)
      go_big_quiet_step (fail)
      refine later_b (x := (.tmp 37)) (y := (.tmp 38)) rfl (bin_add _ ((rightN a0).v ||| ((d 0) &&& (rightN a0).m)) ((rightN b0).v ||| ((d 1) &&& (rightN b0).m))) rfl rfl (by rfl) ?_; simp only [Act.put, List.setIfInBounds_toArray, List.set_cons_succ, List.set_cons_zero]
      go_big_quiet_step ((go_at_call 23; exact later_of hM57 _ (fun K hK hKN => ret_is h1_.out (Has_any (tAdd (rightN a0) (rightN b0)) (((rightN a0).v ||| ((d 0) &&& (rightN a0).m)) + ((rightN b0).v ||| ((d 1) &&& (rightN b0).m)))) _ K hK)))
      go_big_quiet_step (fail)
      go_big_quiet_step (fail)
      refine later_row hM57 27 (.tmp 7) rfl (b_27_4) rfl 27 2 _ k61 undT szT (by rfl) ?_; simp only [Act.put, List.setIfInBounds_toArray, List.set_cons_succ, List.set_cons_zero]
      refine later_row hM57 27 (.tmp 8) rfl (b_27_5) rfl 27 2 _ k62 undT szT (by rfl) ?_; simp only [Act.put, List.setIfInBounds_toArray, List.set_cons_succ, List.set_cons_zero]
      go_big_quiet_step ((go_at_call 15; exact later_of hM57 _ (fun K hK hKN => Sub_any (rightN a0) (rightN b0) _ K hK)))
      go_big_quiet_step (fail)
      go_big_quiet_step (fail)
      refine later_b (x := (.tmp 46)) (y := (.tmp 47)) rfl (bin_sub _ ((rightN a0).v ||| ((d 0) &&& (rightN a0).m)) ((rightN b0).v ||| ((d 1) &&& (rightN b0).m))) rfl rfl (by rfl) ?_; simp only [Act.put, List.setIfInBounds_toArray, List.set_cons_succ, List.set_cons_zero]
      go_big_quiet_step ((go_at_call 23; exact later_of hM57 _ (fun K hK hKN => ret_is h2_.out (Has_any (tSub (rightN a0) (rightN b0)) (((rightN a0).v ||| ((d 0) &&& (rightN a0).m)) - ((rightN b0).v ||| ((d 1) &&& (rightN b0).m)))) _ K hK)))
      go_big_quiet_step (fail)
      go_big_quiet_step (fail)
      refine later_row hM57 27 (.tmp 7) rfl (b_27_4) rfl 27 2 _ k61 undT szT (by rfl) ?_; simp only [Act.put, List.setIfInBounds_toArray, List.set_cons_succ, List.set_cons_zero]
      refine later_row hM57 27 (.tmp 8) rfl (b_27_5) rfl 27 2 _ k62 undT szT (by rfl) ?_; simp only [Act.put, List.setIfInBounds_toArray, List.set_cons_succ, List.set_cons_zero]
      go_big_quiet_step ((go_at_call 21; exact later_of hM57 _ (fun K hK hKN => Mul_any (rightN a0) (rightN b0) _ K hK)))
      go_big_quiet_step (fail)
      go_big_quiet_step (fail)
      refine later_b (x := (.tmp 55)) (y := (.tmp 56)) rfl (bin_mul _ ((rightN a0).v ||| ((d 0) &&& (rightN a0).m)) ((rightN b0).v ||| ((d 1) &&& (rightN b0).m))) rfl rfl (by rfl) ?_; simp only [Act.put, List.setIfInBounds_toArray, List.set_cons_succ, List.set_cons_zero]
      go_big_quiet_step ((go_at_call 23; exact later_of hM57 _ (fun K hK hKN => ret_is h3_.out (Has_any (tMul (rightN a0) (rightN b0)) (((rightN a0).v ||| ((d 0) &&& (rightN a0).m)) * ((rightN b0).v ||| ((d 1) &&& (rightN b0).m)))) _ K hK)))
      go_big_quiet_step (fail)
      go_big_quiet_step (fail)
      refine later_row hM57 27 (.tmp 7) rfl (b_27_4) rfl 27 2 _ k61 undT szT (by rfl) ?_; simp only [Act.put, List.setIfInBounds_toArray, List.set_cons_succ, List.set_cons_zero]
      refine later_row hM57 27 (.tmp 8) rfl (b_27_5) rfl 27 2 _ k62 undT szT (by rfl) ?_; simp only [Act.put, List.setIfInBounds_toArray, List.set_cons_succ, List.set_cons_zero]
      go_big_quiet_step ((go_at_call 16; exact later_of hM57 _ (fun K hK hKN => And_any (rightN a0) (rightN b0) _ K hK)))
      go_big_quiet_step (fail)
      go_big_quiet_step (fail)
      refine later_b (x := (.tmp 64)) (y := (.tmp 65)) rfl (bin_and _ ((rightN a0).v ||| ((d 0) &&& (rightN a0).m)) ((rightN b0).v ||| ((d 1) &&& (rightN b0).m))) rfl rfl (by rfl) ?_; simp only [Act.put, List.setIfInBounds_toArray, List.set_cons_succ, List.set_cons_zero]
      go_big_quiet_step ((go_at_call 23; exact later_of hM57 _ (fun K hK hKN => ret_is h4_.out (Has_any (tAnd (rightN a0) (rightN b0)) (((rightN a0).v ||| ((d 0) &&& (rightN a0).m)) &&& ((rightN b0).v ||| ((d 1) &&& (rightN b0).m)))) _ K hK)))
      go_big_quiet_step (fail)
      go_big_quiet_step (fail)
      refine later_row hM57 27 (.tmp 7) rfl (b_27_4) rfl 27 2 _ k61 undT szT (by rfl) ?_; simp only [Act.put, List.setIfInBounds_toArray, List.set_cons_succ, List.set_cons_zero]
      refine later_row hM57 27 (.tmp 8) rfl (b_27_5) rfl 27 2 _ k62 undT szT (by rfl) ?_; simp only [Act.put, List.setIfInBounds_toArray, List.set_cons_succ, List.set_cons_zero]
      go_big_quiet_step ((go_at_call 18; exact later_of hM57 _ (fun K hK hKN => Or_any (rightN a0) (rightN b0) _ K hK)))
      go_big_quiet_step (fail)
      go_big_quiet_step (fail)
      refine later_b (x := (.tmp 73)) (y := (.tmp 74)) rfl (bin_or _ ((rightN a0).v ||| ((d 0) &&& (rightN a0).m)) ((rightN b0).v ||| ((d 1) &&& (rightN b0).m))) rfl rfl (by rfl) ?_; simp only [Act.put, List.setIfInBounds_toArray, List.set_cons_succ, List.set_cons_zero]
      go_big_quiet_step ((go_at_call 23; exact later_of hM57 _ (fun K hK hKN => ret_is h5_.out (Has_any (tOr (rightN a0) (rightN b0)) (((rightN a0).v ||| ((d 0) &&& (rightN a0).m)) ||| ((rightN b0).v ||| ((d 1) &&& (rightN b0).m)))) _ K hK)))
      go_big_quiet_step (fail)
      go_big_quiet_step (fail)
      refine later_row hM57 27 (.tmp 7) rfl (b_27_4) rfl 27 2 _ k61 undT szT (by rfl) ?_; simp only [Act.put, List.setIfInBounds_toArray, List.set_cons_succ, List.set_cons_zero]
      refine later_row hM57 27 (.tmp 8) rfl (b_27_5) rfl 27 2 _ k62 undT szT (by rfl) ?_; simp only [Act.put, List.setIfInBounds_toArray, List.set_cons_succ, List.set_cons_zero]
      go_big_quiet_step ((go_at_call 19; exact later_of hM57 _ (fun K hK hKN => Xor_any (rightN a0) (rightN b0) _ K hK)))
      go_big_quiet_step (fail)
      go_big_quiet_step (fail)
      refine later_b (x := (.tmp 82)) (y := (.tmp 83)) rfl (bin_xor _ ((rightN a0).v ||| ((d 0) &&& (rightN a0).m)) ((rightN b0).v ||| ((d 1) &&& (rightN b0).m))) rfl rfl (by rfl) ?_; simp only [Act.put, List.setIfInBounds_toArray, List.set_cons_succ, List.set_cons_zero]
      go_big_quiet_step ((go_at_call 23; exact later_of hM57 _ (fun K hK hKN => ret_is h6_.out (Has_any (tXor (rightN a0) (rightN b0)) (((rightN a0).v ||| ((d 0) &&& (rightN a0).m)) ^^^ ((rightN b0).v ||| ((d 1) &&& (rightN b0).m)))) _ K hK)))
      go_big_quiet_step (fail)
      go_big_quiet_step (fail)
      refine later_row hM57 27 (.tmp 7) rfl (b_27_4) rfl 27 2 _ k61 undT szT (by rfl) ?_; simp only [Act.put, List.setIfInBounds_toArray, List.set_cons_succ, List.set_cons_zero]
      refine later_row hM57 27 (.tmp 8) rfl (b_27_5) rfl 27 2 _ k62 undT szT (by rfl) ?_; simp only [Act.put, List.setIfInBounds_toArray, List.set_cons_succ, List.set_cons_zero]
      go_big_quiet_step ((go_at_call 24; exact later_of hM57 _ (fun K hK hKN => Join_any (rightN a0) (rightN b0) _ K hK)))
      go_big_quiet_step (fail)
      go_big_quiet_step ((go_at_call 23; exact later_of hM57 _ (fun K hK hKN => ret_is h7_.out (Has_any (tJoin (rightN a0) (rightN b0)) ((rightN a0).v ||| ((d 0) &&& (rightN a0).m))) _ K hK)))
      go_big_quiet_step (fail)
      go_big_quiet_step (fail)
      refine later_row hM57 27 (.tmp 7) rfl (b_27_4) rfl 27 2 _ k61 undT szT (by rfl) ?_; simp only [Act.put, List.setIfInBounds_toArray, List.set_cons_succ, List.set_cons_zero]
      refine later_row hM57 27 (.tmp 8) rfl (b_27_5) rfl 27 2 _ k62 undT szT (by rfl) ?_; simp only [Act.put, List.setIfInBounds_toArray, List.set_cons_succ, List.set_cons_zero]
      go_big_quiet_step ((go_at_call 24; exact later_of hM57 _ (fun K hK hKN => Join_any (rightN a0) (rightN b0) _ K hK)))
      go_big_quiet_step (fail)
      go_big_quiet_step ((go_at_call 23; exact later_of hM57 _ (fun K hK hKN => ret_is h8_.out (Has_any (tJoin (rightN a0) (rightN b0)) ((rightN b0).v ||| ((d 1) &&& (rightN b0).m))) _ K hK)))
      go_big_quiet_step (fail)
      go_big_quiet_step (fail)
      go_big_quiet_step (fail)
      go_big_quiet_step ((go_at_call 25; exact later_of hM57 _ (fun K hK hKN => Const_any ((rightN a0).v ||| ((d 0) &&& (rightN a0).m)) _ K hK)))
      go_big_quiet_step (fail)
      go_big_quiet_step ((go_at_call 25; exact later_of hM57 _ (fun K hK hKN => Const_any ((rightN b0).v ||| ((d 1) &&& (rightN b0).m)) _ K hK)))
      go_big_quiet_step ((go_at_call 21; exact later_of hM57 _ (fun K hK hKN => Mul_any (tConst ((rightN a0).v ||| ((d 0) &&& (rightN a0).m))) (tConst ((rightN b0).v ||| ((d 1) &&& (rightN b0).m))) _ K hK)))
      go_big_quiet_step (fail)
      go_big_quiet_step (fail)
      refine later_b (x := (.tmp 107)) (y := (.tmp 108)) rfl (bin_mul _ ((rightN a0).v ||| ((d 0) &&& (rightN a0).m)) ((rightN b0).v ||| ((d 1) &&& (rightN b0).m))) rfl rfl (by rfl) ?_; simp only [Act.put, List.setIfInBounds_toArray, List.set_cons_succ, List.set_cons_zero]
      go_big_quiet_step ((go_at_call 25; exact later_of hM57 _ (fun K hK hKN => Const_any (((rightN a0).v ||| ((d 0) &&& (rightN a0).m)) * ((rightN b0).v ||| ((d 1) &&& (rightN b0).m))) _ K hK)))
      refine later_val (fun q => run_eql_op 27 27 (.tmp 106) (.tmp 110) rfl _ _ rfl rfl true (by kernel_rfl) (run_eqT_t h9_.out q.w')) (by rfl) ?_; simp only [Act.put, List.setIfInBounds_toArray, List.set_cons_succ, List.set_cons_zero]
      go_big_quiet_step (fail)
      go_big_quiet_step (fail)
      refine wpQuiet_nil ?_
      rintro xw64 ⟨qxw64, exw64⟩
      have hbxw64 := qxw64.b
      rw [← exw64] at hbxw64
      clear qxw64 exw64
      obtain ⟨M65, hM65⟩ := sz_some xw64
      have lM65 := below_sz hbxw64 hM57 hM65
      have k66 := k58.below hbxw64 (by omega)
      have k67 := k59.below hbxw64 (by omega)
      have k68 := k60.below hbxw64 (by omega)
      have k69 := k61.below hbxw64 (by omega)
      have k70 := k62.below hbxw64 (by omega)
      have lo71 := lo63.trans (hbxw64.mono (by omega))
      clear k58 k59 k60 k61 k62 lo63 hbxw64
      go_wp2_with fail
      go_ret
      exact ⟨rfl, lo71⟩
end Go.Proofs.Ytbeikhokkpioeaa
