/- Rlaw: the walk. -/
import Derived.Test.YtbeikhokkpioeaaNh
import Derived.Test.YtbeikhokkpioeaaNme
namespace Go.Proofs.Ytbeikhokkpioeaa
open Go Go.RowKit
set_option maxRecDepth 100000 in
set_option maxHeartbeats 2000000 in
theorem law_right (a0 b0 : Nm) (z : Int) (w : World) (N : Nat) (hN : Sz w N) : Calls Try.prog 7 #[nV a0, nV b0, .int .i64 z] w fun e w' => e = .returned (.bool true) ∧ Below N w w' := by
  unfold nV
  go_enter Try.func7, Try.ntmps7
  go_upto_region 1 with (first
    | (refine wpl_box rfl 24 (.tmp 0) rfl 2 _ rfl (N) hN ?_; intro w1 hN1 hb1 hh1)
    | (refine wpl_box rfl 24 (.tmp 1) rfl 2 _ rfl (N + 1) hN1 ?_; intro w2 hN2 hb2 hh2)
    | fail)
  have lo0 : Below N w w2 := (hb1.trans (hb2.mono (by omega)))
  have k1 := (hh1.below hb2 (by omega))
  have k2 := hh2
  clear hh1 hb1 hh2 hb2 hN1
  go_upto_region 1 with fail
  refine wp_region_any (by kernel_rfl) ?_
  replace k1 : Has w2.drew N 24 2 (nC a0) := k1
  replace k2 : Has w2.drew (N + 1) 24 2 (nC b0) := k2
  replace hN2 : Sz w2.drew (N + 1 + 1) := hN2
  replace lo0 : Below N w w2.drew := lo0.drew
  change wpAny _ _ _ _ _ _ _ (World.drew _)
  generalize w2.drew = xw3 at *
  refine wpAny_pot (rem := [0, 1, 2, 3, 4, 5]) (FG (N + 1 + 1) (fun j => if j = 0 then some (Value.agg (cellsOf (nC a0) 2)) else if j = 1 then some (Value.agg (cellsOf (nC a0) 2)) else if j = 2 then some (Value.agg (cellsOf (nC b0) 2)) else if j = 3 then some (Value.agg (cellsOf (nC b0) 2)) else if j = 4 then none else none) (fun j => if j = 4 then (27, 2, nC zeroN) else (27, 2, nC zeroN))) (TwoN (fun j => if j = 0 then some (Value.agg (cellsOf (nC a0) 2)) else if j = 1 then some (Value.agg (cellsOf (nC a0) 2)) else if j = 2 then some (Value.agg (cellsOf (nC b0) 2)) else if j = 3 then some (Value.agg (cellsOf (nC b0) 2)) else if j = 4 then none else none)) (Below (N + 1 + 1) xw3) _ _ _ _ (by kernel_rfl) (size_dstG (by kernel_rfl)) (Below.refl _ _) ?_ ?_
  · intro i hi ac wa hI ha hv
    simp only [List.mem_cons, List.not_mem_nil, or_false] at hi
    rcases hi with rfl | rfl | rfl | rfl | rfl | rfl
    · exact potg_run rfl rfl (Value.agg (cellsOf (nC a0) 2)) rfl (run_rw 24 (.tmp 3) rfl N (ha 3 (not_dstG (by kernel_rfl))) 24 2 _ (Has.below k1 hI (Has.ltN k1 hN2)) undU szU) hN2 hI
    · obtain ⟨v0, hv0a, hv0b⟩ := hv 0 (by simp) (by kernel_rfl)
      have ev0 := hv0b.val rfl
      subst ev0
      exact potg_cl rfl rfl 10 _ _ rfl #[(Value.agg (cellsOf (nC a0) 2))] (by simp only [List.map_toArray, List.map_cons, List.map_nil, (show ac.eval (.tmp 9) = (Value.agg (cellsOf (nC a0) 2)) from (hv0a 9 rfl))] <;> rfl) (by kernel_rfl) (Value.agg (cellsOf (nC a0) 2)) (fun K hK => To_any a0 wa K hK) rfl hN2 hI
    · exact potg_run rfl rfl (Value.agg (cellsOf (nC b0) 2)) rfl (run_rw 24 (.tmp 4) rfl (N + 1) (ha 4 (not_dstG (by kernel_rfl))) 24 2 _ (Has.below k2 hI (Has.ltN k2 hN2)) undU szU) hN2 hI
    · obtain ⟨v2, hv2a, hv2b⟩ := hv 2 (by simp) (by kernel_rfl)
      have ev2 := hv2b.val rfl
      subst ev2
      exact potg_cl rfl rfl 10 _ _ rfl #[(Value.agg (cellsOf (nC b0) 2))] (by simp only [List.map_toArray, List.map_cons, List.map_nil, (show ac.eval (.tmp 11) = (Value.agg (cellsOf (nC b0) 2)) from (hv2a 11 rfl))] <;> rfl) (by kernel_rfl) (Value.agg (cellsOf (nC b0) 2)) (fun K hK => To_any b0 wa K hK) rfl hN2 hI
    · exact potg_al rfl rfl rfl zeT rfl rfl hN2 hI
    · exact potg_al rfl rfl rfl zeT rfl rfl hN2 hI
  · intro vals w5_4_ hb5_4_ hF hG
    have e_4_0 := (hF 0 (by simp)).val rfl
    have e_4_1 := (hF 1 (by simp)).val rfl
    have e_4_2 := (hF 2 (by simp)).val rfl
    have e_4_3 := (hF 3 (by simp)).val rfl
    obtain ⟨b_4_4, l_4_4, e_4_4, h_4_4⟩ := (hF 4 (by simp)).al rfl rfl
    obtain ⟨b_4_5, l_4_5, e_4_5, h_4_5⟩ := (hF 5 (by simp)).al rfl rfl
    have n_4_4_5 := hG 4 (by simp) 5 (by simp) (by omega) rfl rfl b_4_4 b_4_5 e_4_4 e_4_5
    clear hF hG
    simp only [List.foldl_cons, List.foldl_nil, dstOf, List.getElem?_toArray, List.getElem?_cons_succ, List.getElem?_cons_zero, Option.bind_some, Act.put, List.setIfInBounds_toArray, List.set_cons_succ, List.set_cons_zero, e_4_0, e_4_1, e_4_2, e_4_3, e_4_4, e_4_5]
    clear e_4_0 e_4_1 e_4_2 e_4_3 e_4_4 e_4_5
    refine wpAny_chain [6, 7] _ _ _ _ (by kernel_rfl) (by decide) ?_
    simp only [List.filterMap_cons, List.filterMap_nil, List.getElem?_toArray, List.getElem?_cons_succ, List.getElem?_cons_zero]
    have k5 := k1.below hb5_4_ (by omega)
    have k6 := k2.below hb5_4_ (by omega)
    have lo7 := lo0.trans (hb5_4_.mono (by omega))
    clear k1 k2 lo0 hb5_4_
    refine wpl_store rfl 27 (.tmp 7) (.tmp 10) rfl b_4_4 2 (nC a0) rfl rfl 27 _ h_4_4 szT (fun j _ => nC_one _ j) ?_
    intro xw8 t9 k10
    have k11 := k5.touch t9 (by omega)
    have k12 := k6.touch t9 (by omega)
    have k13 := h_4_5.touch t9 (by omega)
    have lo14 := t9.below lo7 (by omega)
    clear h_4_4 k5 k6 h_4_5 lo7 t9
    refine wpl_store rfl 27 (.tmp 8) (.tmp 12) rfl b_4_5 2 (nC b0) rfl rfl 27 _ k13 szT (fun j _ => nC_one _ j) ?_
    intro xw15 t16 k17
    have k18 := k11.touch t16 (by omega)
    have k19 := k12.touch t16 (by omega)
    have k20 := k10.touch t16 (by omega)
    have lo21 := t16.below lo14 (by omega)
    clear k13 k11 k12 k10 lo14 t16
    obtain ⟨M22, hM22⟩ := sz_some xw15
    have lt_23 := k18.ltN hM22
    have lt_24 := k19.ltN hM22
    have lt_25 := k20.ltN hM22
    have lt_26 := k17.ltN hM22
    go_upto_region 2 with fail
    refine wp_region_later1 (M22) ?_
    refine later_row hM22 27 (.tmp 7) rfl (b_4_4) rfl 27 2 _ k20 undT szT (by rfl) ?_; simp only [Act.put, List.setIfInBounds_toArray, List.set_cons_succ, List.set_cons_zero]
    refine later_row hM22 27 (.tmp 8) rfl (b_4_5) rfl 27 2 _ k17 undT szT (by rfl) ?_; simp only [Act.put, List.setIfInBounds_toArray, List.set_cons_succ, List.set_cons_zero]
    go_big_quiet_step ((go_at_call 13; exact later_of hM22 _ (fun K hK hKN => Add_any a0 b0 _ K hK)))
    refine wpQuiet_nil ?_
    rintro xw27 ⟨qxw27, exw27⟩
    have hbxw27 := qxw27.b
    rw [← exw27] at hbxw27
    clear qxw27 exw27
    obtain ⟨M28, hM28⟩ := sz_some xw27
    have lM28 := below_sz hbxw27 hM22 hM28
    have k29 := k18.below hbxw27 (by omega)
    have k30 := k19.below hbxw27 (by omega)
    have k31 := k20.below hbxw27 (by omega)
    have k32 := k17.below hbxw27 (by omega)
    have lo33 := lo21.trans (hbxw27.mono (by omega))
    clear k18 k19 k20 k17 lo21 hbxw27
    go_upto_region 3 with fail
    refine wp_region_later1 (M28) ?_
    refine later_row hM28 27 (.tmp 7) rfl (b_4_4) rfl 27 2 _ k31 undT szT (by rfl) ?_; simp only [Act.put, List.setIfInBounds_toArray, List.set_cons_succ, List.set_cons_zero]
    refine later_row hM28 27 (.tmp 8) rfl (b_4_5) rfl 27 2 _ k32 undT szT (by rfl) ?_; simp only [Act.put, List.setIfInBounds_toArray, List.set_cons_succ, List.set_cons_zero]
    go_big_quiet_step ((go_at_call 15; exact later_of hM28 _ (fun K hK hKN => Sub_any a0 b0 _ K hK)))
    refine wpQuiet_nil ?_
    rintro xw34 ⟨qxw34, exw34⟩
    have hbxw34 := qxw34.b
    rw [← exw34] at hbxw34
    clear qxw34 exw34
    obtain ⟨M35, hM35⟩ := sz_some xw34
    have lM35 := below_sz hbxw34 hM28 hM35
    have k36 := k29.below hbxw34 (by omega)
    have k37 := k30.below hbxw34 (by omega)
    have k38 := k31.below hbxw34 (by omega)
    have k39 := k32.below hbxw34 (by omega)
    have lo40 := lo33.trans (hbxw34.mono (by omega))
    clear k29 k30 k31 k32 lo33 hbxw34
    go_upto_region 4 with fail
    refine wp_region_later1 (M35) ?_
    refine later_row hM35 27 (.tmp 7) rfl (b_4_4) rfl 27 2 _ k38 undT szT (by rfl) ?_; simp only [Act.put, List.setIfInBounds_toArray, List.set_cons_succ, List.set_cons_zero]
    refine later_row hM35 27 (.tmp 8) rfl (b_4_5) rfl 27 2 _ k39 undT szT (by rfl) ?_; simp only [Act.put, List.setIfInBounds_toArray, List.set_cons_succ, List.set_cons_zero]
    go_big_quiet_step ((go_at_call 21; exact later_of hM35 _ (fun K hK hKN => Mul_any a0 b0 _ K hK)))
    refine wpQuiet_nil ?_
    rintro xw41 ⟨qxw41, exw41⟩
    have hbxw41 := qxw41.b
    rw [← exw41] at hbxw41
    clear qxw41 exw41
    obtain ⟨M42, hM42⟩ := sz_some xw41
    have lM42 := below_sz hbxw41 hM35 hM42
    have k43 := k36.below hbxw41 (by omega)
    have k44 := k37.below hbxw41 (by omega)
    have k45 := k38.below hbxw41 (by omega)
    have k46 := k39.below hbxw41 (by omega)
    have lo47 := lo40.trans (hbxw41.mono (by omega))
    clear k36 k37 k38 k39 lo40 hbxw41
    go_upto_region 5 with fail
    refine wp_region_later1 (M42) ?_
    refine later_row hM42 27 (.tmp 7) rfl (b_4_4) rfl 27 2 _ k45 undT szT (by rfl) ?_; simp only [Act.put, List.setIfInBounds_toArray, List.set_cons_succ, List.set_cons_zero]
    refine later_row hM42 27 (.tmp 8) rfl (b_4_5) rfl 27 2 _ k46 undT szT (by rfl) ?_; simp only [Act.put, List.setIfInBounds_toArray, List.set_cons_succ, List.set_cons_zero]
    go_big_quiet_step ((go_at_call 24; exact later_of hM42 _ (fun K hK hKN => Join_any a0 b0 _ K hK)))
    refine wpQuiet_nil ?_
    rintro xw48 ⟨qxw48, exw48⟩
    have hbxw48 := qxw48.b
    rw [← exw48] at hbxw48
    clear qxw48 exw48
    obtain ⟨M49, hM49⟩ := sz_some xw48
    have lM49 := below_sz hbxw48 hM42 hM49
    have k50 := k43.below hbxw48 (by omega)
    have k51 := k44.below hbxw48 (by omega)
    have k52 := k45.below hbxw48 (by omega)
    have k53 := k46.below hbxw48 (by omega)
    have lo54 := lo47.trans (hbxw48.mono (by omega))
    clear k43 k44 k45 k46 lo47 hbxw48
    go_upto_region 6 with fail
    refine wp_region_later1 (M49) ?_
    refine later_row hM49 27 (.tmp 7) rfl (b_4_4) rfl 27 2 _ k52 undT szT (by rfl) ?_; simp only [Act.put, List.setIfInBounds_toArray, List.set_cons_succ, List.set_cons_zero]
    refine later_row hM49 27 (.tmp 8) rfl (b_4_5) rfl 27 2 _ k53 undT szT (by rfl) ?_; simp only [Act.put, List.setIfInBounds_toArray, List.set_cons_succ, List.set_cons_zero]
    go_big_quiet_step ((go_at_call 31; exact later_of hM49 _ (fun K hK hKN => Meet_any a0 b0 _ K hK)))
    refine wpQuiet_nil ?_
    rintro xw55 ⟨qxw55, exw55⟩
    have hbxw55 := qxw55.b
    rw [← exw55] at hbxw55
    clear qxw55 exw55
    obtain ⟨M56, hM56⟩ := sz_some xw55
    have lM56 := below_sz hbxw55 hM49 hM56
    have k57 := k50.below hbxw55 (by omega)
    have k58 := k51.below hbxw55 (by omega)
    have k59 := k52.below hbxw55 (by omega)
    have k60 := k53.below hbxw55 (by omega)
    have lo61 := lo54.trans (hbxw55.mono (by omega))
    clear k50 k51 k52 k53 lo54 hbxw55
    go_upto_region 7 with fail
    refine wp_region_later1 (M56) ?_
    refine later_row hM56 27 (.tmp 7) rfl (b_4_4) rfl 27 2 _ k59 undT szT (by rfl) ?_; simp only [Act.put, List.setIfInBounds_toArray, List.set_cons_succ, List.set_cons_zero]
    go_big_quiet_step (fail)
    go_big_quiet_step ((go_at_call 26; exact later_of hM56 _ (fun K hK hKN => Left_any a0 z _ K hK)))
    refine wpQuiet_nil ?_
    rintro xw62 ⟨qxw62, exw62⟩
    have hbxw62 := qxw62.b
    rw [← exw62] at hbxw62
    clear qxw62 exw62
    obtain ⟨M63, hM63⟩ := sz_some xw62
    have lM63 := below_sz hbxw62 hM56 hM63
    have k64 := k57.below hbxw62 (by omega)
    have k65 := k58.below hbxw62 (by omega)
    have k66 := k59.below hbxw62 (by omega)
    have k67 := k60.below hbxw62 (by omega)
    have lo68 := lo61.trans (hbxw62.mono (by omega))
    clear k57 k58 k59 k60 lo61 hbxw62
    go_upto_region 8 with fail
    refine wp_region_later1 (M63) ?_
    refine later_row hM63 27 (.tmp 7) rfl (b_4_4) rfl 27 2 _ k66 undT szT (by rfl) ?_; simp only [Act.put, List.setIfInBounds_toArray, List.set_cons_succ, List.set_cons_zero]
    go_big_quiet_step (fail)
    go_big_quiet_step ((go_at_call 28; exact later_of hM63 _ (fun K hK hKN => Down_any a0 z _ K hK)))
    refine wpQuiet_nil ?_
    rintro xw69 ⟨qxw69, exw69⟩
    have hbxw69 := qxw69.b
    rw [← exw69] at hbxw69
    clear qxw69 exw69
    obtain ⟨M70, hM70⟩ := sz_some xw69
    have lM70 := below_sz hbxw69 hM63 hM70
    have k71 := k64.below hbxw69 (by omega)
    have k72 := k65.below hbxw69 (by omega)
    have k73 := k66.below hbxw69 (by omega)
    have k74 := k67.below hbxw69 (by omega)
    have lo75 := lo68.trans (hbxw69.mono (by omega))
    clear k64 k65 k66 k67 lo68 hbxw69
    go_upto_region 9 with fail
    refine wp_region_later1 (M70) ?_
    refine later_row hM70 27 (.tmp 7) rfl (b_4_4) rfl 27 2 _ k73 undT szT (by rfl) ?_; simp only [Act.put, List.setIfInBounds_toArray, List.set_cons_succ, List.set_cons_zero]
    go_big_quiet_step (fail)
    go_big_quiet_step ((go_at_call 29; exact later_of hM70 _ (fun K hK hKN => Low_any a0 z _ K hK)))
    refine wpQuiet_nil ?_
    rintro xw76 ⟨qxw76, exw76⟩
    have hbxw76 := qxw76.b
    rw [← exw76] at hbxw76
    clear qxw76 exw76
    obtain ⟨M77, hM77⟩ := sz_some xw76
    have lM77 := below_sz hbxw76 hM70 hM77
    have k78 := k71.below hbxw76 (by omega)
    have k79 := k72.below hbxw76 (by omega)
    have k80 := k73.below hbxw76 (by omega)
    have k81 := k74.below hbxw76 (by omega)
    have lo82 := lo75.trans (hbxw76.mono (by omega))
    clear k71 k72 k73 k74 lo75 hbxw76
    go_upto_region 10 with fail
    refine wp_region_later (M77) (by kernel_rfl) (by kernel_rfl) ?_
    go_big_quiet_step ((go_at_call 11; exact later_of hM77 _ (fun K hK hKN => knows_any _ K hK)))
    go_big_quiet_step (fail)
    refine later_row hM77 27 (.tmp 7) rfl (b_4_4) rfl 27 2 _ k80 undT szT (by rfl) ?_; simp only [Act.put, List.setIfInBounds_toArray, List.set_cons_succ, List.set_cons_zero]
    go_big_quiet_step ((go_at_call 20; exact later_of hM77 _ (fun K hK hKN => Right_any a0 _ K hK)))
    refine later_row hM77 24 (.tmp 3) rfl (N) rfl 24 2 _ k78 undU szU (by rfl) ?_; simp only [Act.put, List.setIfInBounds_toArray, List.set_cons_succ, List.set_cons_zero]
    go_big_quiet_step ((go_at_call 37; exact later_of hM77 _ (fun K hK hKN => RRight_any a0 _ K hK)))
    refine later_val (fun q => run_eqb 4 4 (.tmp 40) (.tmp 42) rfl undBool (p := (tRight a0)) (q := (tRight a0)) (r := true) rfl rfl (by simp)) (by rfl) ?_; simp only [Act.put, List.setIfInBounds_toArray, List.set_cons_succ, List.set_cons_zero]
    go_big_quiet_step (fail)
    go_big_quiet_step (fail)
    refine wpQuiet_nil ?_
    rintro xw83 ⟨qxw83, exw83⟩
    have hbxw83 := qxw83.b
    rw [← exw83] at hbxw83
    clear qxw83 exw83
    obtain ⟨M84, hM84⟩ := sz_some xw83
    have lM84 := below_sz hbxw83 hM77 hM84
    have k85 := k78.below hbxw83 (by omega)
    have k86 := k79.below hbxw83 (by omega)
    have k87 := k80.below hbxw83 (by omega)
    have k88 := k81.below hbxw83 (by omega)
    have lo89 := lo82.trans (hbxw83.mono (by omega))
    clear k78 k79 k80 k81 lo82 hbxw83
    go_wp2_with fail
    go_ret
    exact ⟨rfl, lo89⟩
end Go.Proofs.Ytbeikhokkpioeaa
