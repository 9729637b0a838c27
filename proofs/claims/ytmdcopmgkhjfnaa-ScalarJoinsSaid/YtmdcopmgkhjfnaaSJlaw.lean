/- ScalarJoins: the walk. -/
import Derived.Test.YtmdcopmgkhjfnaaSr4
namespace Go.Proofs.Ytmdcopmgkhjfnaa
open Go Go.RowKit
set_option maxRecDepth 100000 in
set_option maxHeartbeats 8000000 in
theorem law_sjoins_1t (Z0 Z1 : Nat → W) (p0 p1 : Option Addr) (n0 c0 n1 c1 : Nat) (z0 z1 : Int) (u0 u1 : W) (w : World) (N : Nat) (hN : Sz w N) (hc0 : n0 ≤ c0) (hc1 : n1 ≤ c1) (hw0 : Ats w p0 n0 (fun j => Q (Z0 j))) (hw1 : Ats w p1 n1 (fun j => Q (Z1 j))) (HW : Hid (sWithin (csA Z0 n0 5#64 u0) (csA Z1 n1 3#64 u1) = true)) : Calls Try.prog 6 #[(Value.agg (cellsOf (caC ⟨p0, n0, c0, p1, n1, c1, z0, z1, u0, u1⟩) 6)), (Value.int .i64 1)] w fun e w' => e = .returned (.bool true) ∧ Below N w w' := by
 have NR := hid (settle_nar (settle_in (cs_in Z0 n0 5#64 u0 z0)).1)
 have F0 := hid (show (sHas (joinR (csA Z0 n0 5#64 u0) (csA Z1 n1 3#64 u1)) (csX Z0 n0 5#64 z0)) = true from (join_in_l (cs_in Z0 n0 5#64 u0 z0) (cs_rgt Z1 n1 3#64 u1)).has)
 have F1 := hid (show (sHas (joinR (csA Z0 n0 5#64 u0) (csA Z1 n1 3#64 u1)) (csX Z1 n1 3#64 z1)) = true from (join_in_r (cs_in Z1 n1 3#64 u1 z1) (cs_rgt Z0 n0 5#64 u0)).has)
 have F2 := hid (show (settleF (csA Z0 n0 5#64 u0)).2 = true from (settle_in (cs_in Z0 n0 5#64 u0 z0)).1)
 have F3 := hid (show (sHas (settleF (csA Z0 n0 5#64 u0)).1 (csX Z0 n0 5#64 z0)) = true from (settle_in (cs_in Z0 n0 5#64 u0 z0)).2.has)
 have F4 := hid (show (sWithin (csA Z0 n0 5#64 u0) (csA Z0 n0 5#64 u0)) = true from sWithin_self (cs_rgt Z0 n0 5#64 u0))
 have F5 := hid (show (sWithin (csA Z0 n0 5#64 u0) (obR tAny)) = true from sWithin_any _)
 have F6 := hid (show (sHas (lowR1 (csA Z0 n0 5#64 u0)) ((csX Z0 n0 5#64 z0) % (1#64 <<< 8))) = true from low_1 (cs_in Z0 n0 5#64 u0 z0))
 have F7 := hid (show (sHas (csA Z1 n1 3#64 u1) (csX Z0 n0 5#64 z0)) = true from (within_in HW.out (cs_in Z0 n0 5#64 u0 z0) (cs_rgt Z1 n1 3#64 u1)).has)
 have G0 := hid (show (BitVec.ult (settleF (csA Z0 n0 5#64 u0)).1.lo (csA Z0 n0 5#64 u0).lo) = false from nar_lo NR.out.1)
 have G1 := hid (show (BitVec.ult (csA Z0 n0 5#64 u0).hi (settleF (csA Z0 n0 5#64 u0)).1.hi) = false from nar_hi NR.out.1)
 have G2 := hid (show (BitVec.slt (settleF (csA Z0 n0 5#64 u0)).1.sl (csA Z0 n0 5#64 u0).sl) = false from nar_sl NR.out.1)
 have G3 := hid (show (BitVec.slt (csA Z0 n0 5#64 u0).sh (settleF (csA Z0 n0 5#64 u0)).1.sh) = false from nar_sh NR.out.1)
 have G4 := hid (show (((settleF (csA Z0 n0 5#64 u0)).1.b.m &&& ~~~(csA Z0 n0 5#64 u0).b.m) != 0#64) = false from NR.out.1.mask NR.out.2.1)
 go_enter Try.func6, Try.ntmps6
 go_upto_region 1 with (first
  | (refine wpl_box rfl 30 (.tmp 0) rfl 6 _ rfl (N) hN ?_; intro w1 hN1 hb1 hh1)
  | fail)
 have lo0 : Below N w w1 := hb1
 have k1 := hh1
 clear hh1 hb1
 go_upto_region 1 with fail
 refine wp_region_lit ?_
 try simp only [pA]
 change wpList _ _ _ ((_ :: _ :: _ :: _ :: _ :: _ :: _ :: []) ++ (_ :: _ :: _ :: _ :: _ :: _ :: [])) _ _
 refine wpList_prefix (C := fun w' => ∃ x : Later (N + 1) w1, w' = x.w') _ _ _ _ ⟨⟨_, Below.refl _ _⟩, rfl⟩ ?_
 refine later_row hN1 30 (.tmp 2) rfl (N) rfl 30 6 _ k1 undCs szCs (by rfl) ?_; simp only [pA]
 go_big_quiet_step ((go_at_call 24; exact later_ofB hN1 _ (fun K hK hbB => Ranges_any Z0 Z1 p0 p1 n0 c0 n1 c1 z0 z1 u0 u1 hc0 hc1 _ K hK ((hw0.below hN lo0).below hN1 hbB) ((hw1.below hN lo0).below hN1 hbB))))
 iterate 5 (go_big_quiet_step (fail))
 refine wpQuiet_nil (laterE hN1 ?_)
 intro xw2 M3 hbxw2 hM3 lM3
 have k4 := k1.below hbxw2 (by omega)
 have lo5 := lo0.trans (hbxw2.mono (by omega))
 clear k1 lo0 hbxw2
 obtain ⟨b_xw6, eb_xw6⟩ : ∃ b_xw6, b_xw6 = M3 := ⟨_, rfl⟩
 have hzb_xw6 : Sz xw2 b_xw6 := by rw [eb_xw6]; exact hM3
 have lob_xw6 : M3 ≤ b_xw6 := by omega
 have upb_xw6 : b_xw6 ≤ M3 := by omega
 clear eb_xw6
 refine wpl_alloc rfl 34 rfl 6 (rC zeroR) zeRU b_xw6 hzb_xw6 ?_
 intro xw6 hMxw6 hbxw6 hhxw6; simp only [pA]
 have k7 := k4.below hbxw6 (by omega)
 have lo8 := lo5.trans (hbxw6.mono (by omega))
 clear k4 lo5 hbxw6 hzb_xw6
 obtain ⟨M9, eM9⟩ : ∃ M9, M9 = b_xw6 + 1 := ⟨_, rfl⟩
 rw [← eM9] at hMxw6
 have loM9 : b_xw6 + 1 ≤ M9 := by omega
 have upM9 : M9 ≤ b_xw6 + 1 := by omega
 clear eM9
 obtain ⟨b_xw10, eb_xw10⟩ : ∃ b_xw10, b_xw10 = M9 := ⟨_, rfl⟩
 have hzb_xw10 : Sz xw6 b_xw10 := by rw [eb_xw10]; exact hMxw6
 have lob_xw10 : M9 ≤ b_xw10 := by omega
 have upb_xw10 : b_xw10 ≤ M9 := by omega
 clear eb_xw10
 refine wpl_alloc rfl 34 rfl 6 (rC zeroR) zeRU b_xw10 hzb_xw10 ?_
 intro xw10 hMxw10 hbxw10 hhxw10; simp only [pA]
 have k11 := k7.below hbxw10 (by omega)
 have k12 := hhxw6.below hbxw10 (by omega)
 have lo13 := lo8.trans (hbxw10.mono (by omega))
 clear k7 hhxw6 lo8 hbxw10 hzb_xw10
 obtain ⟨M14, eM14⟩ : ∃ M14, M14 = b_xw10 + 1 := ⟨_, rfl⟩
 rw [← eM14] at hMxw10
 have loM14 : b_xw10 + 1 ≤ M14 := by omega
 have upM14 : M14 ≤ b_xw10 + 1 := by omega
 clear eM14
 refine wpl_store rfl 34 (.tmp 5) (.tmp 16) rfl b_xw6 6 (rC (csA Z0 n0 5#64 u0)) rfl rfl 34 _ k12 szRU (fun j _ => rC_one _ j) ?_
 intro xw15 t16 k17; try simp only [pA]
 have k18 := k11.touch t16 (by omega)
 have k19 := hhxw10.touch t16 (by omega)
 have lo20 := t16.below lo13 (by omega)
 have h21 := t16.sz hMxw10
 clear k12 k11 hhxw10 lo13 hMxw10 t16
 refine wpl_store rfl 34 (.tmp 6) (.tmp 17) rfl b_xw10 6 (rC (csA Z1 n1 3#64 u1)) rfl rfl 34 _ k19 szRU (fun j _ => rC_one _ j) ?_
 intro xw22 t23 k24; try simp only [pA]
 have k25 := k18.touch t23 (by omega)
 have k26 := k17.touch t23 (by omega)
 have lo27 := t23.below lo20 (by omega)
 have h28 := t23.sz h21
 clear k19 k18 k17 lo20 h21 t23
 refine wpl_run rfl (Q (csX Z0 n0 5#64 z0)) _ (run_as (x := (.tmp 18)) rfl _ rfl) ?_; simp only [pA]
 refine wpl_run rfl (Q (csX Z1 n1 3#64 z1)) _ (run_as (x := (.tmp 19)) rfl _ rfl) ?_; simp only [pA]
 obtain ⟨M29, hM29⟩ := sz_some xw22
 have lt_30 := k25.ltN hM29
 have lt_31 := k26.ltN hM29
 have lt_32 := k24.ltN hM29
 go_upto_region 2 with fail
 refine wp_region_any (by kernel_rfl) ?_
 replace k25 : Has xw22.drew N 30 6 (caC ⟨p0, n0, c0, p1, n1, c1, z0, z1, u0, u1⟩) := k25
 replace k26 : Has xw22.drew b_xw6 34 6 (rC (csA Z0 n0 5#64 u0)) := k26
 replace k24 : Has xw22.drew b_xw10 34 6 (rC (csA Z1 n1 3#64 u1)) := k24
 replace hM29 : Sz xw22.drew M29 := hM29
 replace lo27 : Below N w xw22.drew := lo27.drew
 change wpAny _ _ _ _ _ _ _ (World.drew _)
 generalize xw22.drew = xw33 at *
 refine wpAny_pot (rem := [0, 1, 2, 3, 4, 5]) (FG M29 (fun j => if j = 0 then some (Value.agg (cellsOf (rC (csA Z0 n0 5#64 u0)) 6)) else if j = 1 then some (Value.agg (cellsOf (rC (csA Z0 n0 5#64 u0)) 6)) else if j = 2 then some (Value.agg (cellsOf (rC (csA Z1 n1 3#64 u1)) 6)) else if j = 3 then some (Value.agg (cellsOf (rC (csA Z1 n1 3#64 u1)) 6)) else if j = 4 then some (Value.agg (cellsOf (rC (joinR (csA Z0 n0 5#64 u0) (csA Z1 n1 3#64 u1))) 6)) else none) (fun j => (41, 6, rC zeroR))) (TwoN (fun j => if j = 0 then some (Value.agg (cellsOf (rC (csA Z0 n0 5#64 u0)) 6)) else if j = 1 then some (Value.agg (cellsOf (rC (csA Z0 n0 5#64 u0)) 6)) else if j = 2 then some (Value.agg (cellsOf (rC (csA Z1 n1 3#64 u1)) 6)) else if j = 3 then some (Value.agg (cellsOf (rC (csA Z1 n1 3#64 u1)) 6)) else if j = 4 then some (Value.agg (cellsOf (rC (joinR (csA Z0 n0 5#64 u0) (csA Z1 n1 3#64 u1))) 6)) else none)) (Below M29 xw33) _ _ _ _ (by kernel_rfl) (size_dstG (by kernel_rfl)) (Below.refl _ _) ?_ ?_
 ·intro i hi ac wa hI ha hv
  simp only [List.mem_cons, List.not_mem_nil, or_false] at hi
  rcases hi with rfl | rfl | rfl | rfl | rfl | rfl
  ·exact potg_run rfl rfl (Value.agg (cellsOf (rC (csA Z0 n0 5#64 u0)) 6)) rfl (run_rw 34 (.tmp 5) rfl b_xw6 (ha 5 (not_dstG (by kernel_rfl))) 34 6 _ (Has.below k26 hI (Has.ltN k26 hM29)) undRU szRU) hM29 hI
  ·obtain ⟨v0, hv0a, hv0b⟩ := hv 0 (by simp) (by kernel_rfl)
   have ev0 := hv0b.val rfl
   subst ev0
   exact potg_cl rfl rfl 26 _ _ rfl #[(Value.agg (cellsOf (rC (csA Z0 n0 5#64 u0)) 6))] (by simp only [List.map_toArray, List.map_cons, List.map_nil, (show ac.eval (.tmp 20) = (Value.agg (cellsOf (rC (csA Z0 n0 5#64 u0)) 6)) from (hv0a 20 rfl))] <;> rfl) (by kernel_rfl) (Value.agg (cellsOf (rC (csA Z0 n0 5#64 u0)) 6)) (fun K hK => To14_any (csA Z0 n0 5#64 u0) wa K hK) rfl hM29 hI
  ·exact potg_run rfl rfl (Value.agg (cellsOf (rC (csA Z1 n1 3#64 u1)) 6)) rfl (run_rw 34 (.tmp 6) rfl b_xw10 (ha 6 (not_dstG (by kernel_rfl))) 34 6 _ (Has.below k24 hI (Has.ltN k24 hM29)) undRU szRU) hM29 hI
  ·obtain ⟨v2, hv2a, hv2b⟩ := hv 2 (by simp) (by kernel_rfl)
   have ev2 := hv2b.val rfl
   subst ev2
   exact potg_cl rfl rfl 26 _ _ rfl #[(Value.agg (cellsOf (rC (csA Z1 n1 3#64 u1)) 6))] (by simp only [List.map_toArray, List.map_cons, List.map_nil, (show ac.eval (.tmp 22) = (Value.agg (cellsOf (rC (csA Z1 n1 3#64 u1)) 6)) from (hv2a 22 rfl))] <;> rfl) (by kernel_rfl) (Value.agg (cellsOf (rC (csA Z1 n1 3#64 u1)) 6)) (fun K hK => To14_any (csA Z1 n1 3#64 u1) wa K hK) rfl hM29 hI
  ·obtain ⟨v1, hv1a, hv1b⟩ := hv 1 (by simp) (by kernel_rfl)
   have ev1 := hv1b.val rfl
   subst ev1
   obtain ⟨v3, hv3a, hv3b⟩ := hv 3 (by simp) (by kernel_rfl)
   have ev3 := hv3b.val rfl
   subst ev3
   exact potg_cl rfl rfl 29 _ _ rfl #[(Value.agg (cellsOf (rC (csA Z0 n0 5#64 u0)) 6)), (Value.agg (cellsOf (rC (csA Z1 n1 3#64 u1)) 6))] (by simp only [List.map_toArray, List.map_cons, List.map_nil, (show ac.eval (.tmp 21) = (Value.agg (cellsOf (rC (csA Z0 n0 5#64 u0)) 6)) from (hv1a 21 rfl)), (show ac.eval (.tmp 23) = (Value.agg (cellsOf (rC (csA Z1 n1 3#64 u1)) 6)) from (hv3a 23 rfl))] <;> rfl) (by kernel_rfl) (Value.agg (cellsOf (rC (joinR (csA Z0 n0 5#64 u0) (csA Z1 n1 3#64 u1))) 6)) (fun K hK => SJoin_any (csA Z0 n0 5#64 u0) (csA Z1 n1 3#64 u1) wa K hK) rfl hM29 hI
  ·exact potg_al rfl rfl rfl zeR rfl rfl hM29 hI
 ·intro vals w5_34_ hb5_34_ hF hG
  have e_34_0 := (hF 0 (by simp)).val rfl
  have e_34_1 := (hF 1 (by simp)).val rfl
  have e_34_2 := (hF 2 (by simp)).val rfl
  have e_34_3 := (hF 3 (by simp)).val rfl
  have e_34_4 := (hF 4 (by simp)).val rfl
  obtain ⟨b_34_5, l_34_5, e_34_5, h_34_5⟩ := (hF 5 (by simp)).al rfl rfl
  clear hF hG
  simp only [List.foldl_cons, List.foldl_nil, dstOf, List.getElem?_toArray, List.getElem?_cons_succ, List.getElem?_cons_zero, Option.bind_some, Act.put, List.setIfInBounds_toArray, List.set_cons_succ, List.set_cons_zero, e_34_0, e_34_1, e_34_2, e_34_3, e_34_4, e_34_5]
  clear e_34_0 e_34_1 e_34_2 e_34_3 e_34_4 e_34_5
  refine wpAny_chain [6] _ _ _ _ (by kernel_rfl) (by decide) ?_
  simp only [List.filterMap_cons, List.filterMap_nil, List.getElem?_toArray, List.getElem?_cons_succ, List.getElem?_cons_zero]
  have k35 := k25.below hb5_34_ (by omega)
  have k36 := k26.below hb5_34_ (by omega)
  have k37 := k24.below hb5_34_ (by omega)
  have lo38 := lo27.trans (hb5_34_.mono (by omega))
  clear k25 k26 k24 lo27 hb5_34_
  refine wpl_store rfl 41 (.tmp 9) (.tmp 24) rfl b_34_5 6 (rC (joinR (csA Z0 n0 5#64 u0) (csA Z1 n1 3#64 u1))) rfl rfl 41 _ h_34_5 szR (fun j _ => rC_one _ j) ?_
  intro xw39 t40 k41
  have k42 := k35.touch t40 (by omega)
  have k43 := k36.touch t40 (by omega)
  have k44 := k37.touch t40 (by omega)
  have lo45 := t40.below lo38 (by omega)
  clear h_34_5 k35 k36 k37 lo38 t40
  obtain ⟨M46, hM46⟩ := sz_some xw39
  have lt_47 := k42.ltN hM46
  have lt_48 := k43.ltN hM46
  have lt_49 := k44.ltN hM46
  have lt_50 := k41.ltN hM46
  have CS51 := fun w N hN => Settle_any (csA Z0 n0 5#64 u0) w N hN
  rw [F2.out] at CS51
  go_upto_region 3 with fail
  refine wp_region_lit ?_
  try simp only [pA]
  change wpList _ _ _ ((_ :: _ :: _ :: _ :: _ :: _ :: []) ++ (_ :: _ :: _ :: [])) _ _
  refine wpList_prefix (C := fun w' => ∃ x : Later M46 xw39, w' = x.w') _ _ _ _ ⟨⟨_, Below.refl _ _⟩, rfl⟩ ?_
  refine later_row hM46 34 (.tmp 5) rfl (b_xw6) rfl 34 6 _ k43 undRU szRU (by rfl) ?_; simp only [pA]
  go_big_quiet_step ((go_at_call 26; exact later_of hM46 _ (fun K hK hKN => To14_any (csA Z0 n0 5#64 u0) _ K hK)))
  go_big_quiet_step ((go_at_call 30; exact later_of hM46 _ (fun K hK hKN => CS51 _ K hK)))
  iterate 3 (go_big_quiet_step (fail))
  refine wpQuiet_nil (laterE hM46 ?_)
  intro xw52 M53 hbxw52 hM53 lM53
  have k54 := k42.below hbxw52 (by omega)
  have k55 := k43.below hbxw52 (by omega)
  have k56 := k44.below hbxw52 (by omega)
  have k57 := k41.below hbxw52 (by omega)
  have lo58 := lo45.trans (hbxw52.mono (by omega))
  clear k42 k43 k44 k41 lo45 hbxw52
  obtain ⟨b_xw59, eb_xw59⟩ : ∃ b_xw59, b_xw59 = M53 := ⟨_, rfl⟩
  have hzb_xw59 : Sz xw52 b_xw59 := by rw [eb_xw59]; exact hM53
  have lob_xw59 : M53 ≤ b_xw59 := by omega
  have upb_xw59 : b_xw59 ≤ M53 := by omega
  clear eb_xw59
  refine wpl_alloc rfl 41 rfl 6 (rC zeroR) zeR b_xw59 hzb_xw59 ?_
  intro xw59 hMxw59 hbxw59 hhxw59; simp only [pA]
  have k60 := k54.below hbxw59 (by omega)
  have k61 := k55.below hbxw59 (by omega)
  have k62 := k56.below hbxw59 (by omega)
  have k63 := k57.below hbxw59 (by omega)
  have lo64 := lo58.trans (hbxw59.mono (by omega))
  clear k54 k55 k56 k57 lo58 hbxw59 hzb_xw59
  obtain ⟨M65, eM65⟩ : ∃ M65, M65 = b_xw59 + 1 := ⟨_, rfl⟩
  rw [← eM65] at hMxw59
  have loM65 : b_xw59 + 1 ≤ M65 := by omega
  have upM65 : M65 ≤ b_xw59 + 1 := by omega
  clear eM65
  refine wpl_store rfl 41 (.tmp 10) (.tmp 29) rfl b_xw59 6 (rC (settleF (csA Z0 n0 5#64 u0)).1) rfl rfl 41 _ hhxw59 szR (fun j _ => rC_one _ j) ?_
  intro xw66 t67 k68; try simp only [pA]
  have k69 := k60.touch t67 (by omega)
  have k70 := k61.touch t67 (by omega)
  have k71 := k62.touch t67 (by omega)
  have k72 := k63.touch t67 (by omega)
  have lo73 := t67.below lo64 (by omega)
  have h74 := t67.sz hMxw59
  clear hhxw59 k60 k61 k62 k63 lo64 hMxw59 t67
  refine wpl_run rfl (Value.bool true) _ (run_as (x := (.tmp 30)) rfl _ rfl) ?_; simp only [pA]
  obtain ⟨M75, hM75⟩ := sz_some xw66
  have lt_76 := k69.ltN hM75
  have lt_77 := k70.ltN hM75
  have lt_78 := k71.ltN hM75
  have lt_79 := k72.ltN hM75
  have lt_80 := k68.ltN hM75
  go_upto_region 4 with fail
  refine wp_region_later1 (M75) ?_
  try simp only [pA]
  iterate 2 (go_big_quiet_step (fail))
  refine wpQuiet_nil (laterE hM75 ?_)
  intro xw81 M82 hbxw81 hM82 lM82
  have k83 := k69.below hbxw81 (by omega)
  have k84 := k70.below hbxw81 (by omega)
  have k85 := k71.below hbxw81 (by omega)
  have k86 := k72.below hbxw81 (by omega)
  have k87 := k68.below hbxw81 (by omega)
  have lo88 := lo73.trans (hbxw81.mono (by omega))
  clear k69 k70 k71 k72 k68 lo73 hbxw81
  go_upto_region 5 with fail
  refine wp_region_later1 (M82) ?_
  try simp only [pA]
  iterate 10 (go_big_quiet_step (fail))
  refine wpQuiet_nil (laterE hM82 ?_)
  intro xw89 M90 hbxw89 hM90 lM90
  have k91 := k83.below hbxw89 (by omega)
  have k92 := k84.below hbxw89 (by omega)
  have k93 := k85.below hbxw89 (by omega)
  have k94 := k86.below hbxw89 (by omega)
  have k95 := k87.below hbxw89 (by omega)
  have lo96 := lo88.trans (hbxw89.mono (by omega))
  clear k83 k84 k85 k86 k87 lo88 hbxw89
  go_upto_region 6 with fail
  refine wp_region_later1 (M90) ?_
  try simp only [pA]
  iterate 2 (go_big_quiet_step (fail))
  refine later_val (fun q => run_mulL (x := (.const (.int .i64 8))) (y := (.tmp 43)) rfl rfl rfl (show IntKind.i64.wrap (8 * 1) = 8 by decide) q.w') (by rfl) ?_; simp only [pA]
  refine later_b (x := (.const (.int .u64 1))) (y := (.tmp 44)) rfl (bin_shl _ 1#64 8) rfl rfl (by rfl) ?_; simp only [pA]
  refine later_b (x := (.tmp 42)) (y := (.tmp 45)) rfl (bin_rem _ (csX Z0 n0 5#64 z0) (1#64 <<< 8) (by decide)) rfl rfl (by rfl) ?_; simp only [pA]
  go_big_quiet_step (fail)
  refine wpQuiet_nil (laterE hM90 ?_)
  intro xw97 M98 hbxw97 hM98 lM98
  have k99 := k91.below hbxw97 (by omega)
  have k100 := k92.below hbxw97 (by omega)
  have k101 := k93.below hbxw97 (by omega)
  have k102 := k94.below hbxw97 (by omega)
  have k103 := k95.below hbxw97 (by omega)
  have lo104 := lo96.trans (hbxw97.mono (by omega))
  clear k91 k92 k93 k94 k95 lo96 hbxw97
  go_upto_region 7 with fail
  refine wp_region_later1 (M98) ?_
  try simp only [pA]
  go_big_quiet_step ((go_at_call 21; exact later_of hM98 _ (fun K hK hKN => evals_any _ K hK)))
  iterate 2 (go_big_quiet_step (fail))
  refine later_row hM98 41 (.tmp 9) rfl (b_34_5) rfl 41 6 _ k102 undR szR (by rfl) ?_; simp only [pA]
  go_big_quiet_step (fail)
  go_big_quiet_step ((go_at_call 25; exact later_of hM98 _ (fun K hK hKN => ret_is F0.out (SHas_any (joinR (csA Z0 n0 5#64 u0) (csA Z1 n1 3#64 u1)) (csX Z0 n0 5#64 z0)) _ K hK)))
  iterate 3 (go_big_quiet_step (fail))
  refine later_row hM98 41 (.tmp 9) rfl (b_34_5) rfl 41 6 _ k102 undR szR (by rfl) ?_; simp only [pA]
  go_big_quiet_step (fail)
  go_big_quiet_step ((go_at_call 25; exact later_of hM98 _ (fun K hK hKN => ret_is F1.out (SHas_any (joinR (csA Z0 n0 5#64 u0) (csA Z1 n1 3#64 u1)) (csX Z1 n1 3#64 z1)) _ K hK)))
  iterate 7 (go_big_quiet_step (fail))
  refine later_row hM98 41 (.tmp 10) rfl (b_xw59) rfl 41 6 _ k103 undR szR (by rfl) ?_; simp only [pA]
  go_big_quiet_step (fail)
  go_big_quiet_step ((go_at_call 25; exact later_of hM98 _ (fun K hK hKN => ret_is F3.out (SHas_any (settleF (csA Z0 n0 5#64 u0)).1 (csX Z0 n0 5#64 z0)) _ K hK)))
  iterate 3 (go_big_quiet_step (fail))
  refine later_row hM98 34 (.tmp 5) rfl (b_xw6) rfl 34 6 _ k100 undRU szRU (by rfl) ?_; simp only [pA]
  go_big_quiet_step ((go_at_call 26; exact later_of hM98 _ (fun K hK hKN => To14_any (csA Z0 n0 5#64 u0) _ K hK)))
  go_big_quiet_step (fail)
  go_big_quiet_step ((go_at_call 31; exact later_of hM98 _ (fun K hK hKN => SLow_1 (csA Z0 n0 5#64 u0) _ K hK)))
  go_big_quiet_step (fail)
  go_big_quiet_step ((go_at_call 25; exact later_of hM98 _ (fun K hK hKN => ret_is F6.out (SHas_any (lowR1 (csA Z0 n0 5#64 u0)) ((csX Z0 n0 5#64 z0) % (1#64 <<< 8))) _ K hK)))
  iterate 2 (go_big_quiet_step (fail))
  refine wpQuiet_nil (laterE hM98 ?_)
  intro xw105 M106 hbxw105 hM106 lM106
  have k107 := k99.below hbxw105 (by omega)
  have k108 := k100.below hbxw105 (by omega)
  have k109 := k101.below hbxw105 (by omega)
  have k110 := k102.below hbxw105 (by omega)
  have k111 := k103.below hbxw105 (by omega)
  have lo112 := lo104.trans (hbxw105.mono (by omega))
  clear k99 k100 k101 k102 k103 lo104 hbxw105
  go_upto_region 9 with fail
  obtain ⟨c113, c114, c115, c116, c117, c118⟩ := r_cells k111
  obtain ⟨c119, c120, c121, c122, c123, c124⟩ := r_cells k108
  refine wp_region_later1 (M106) ?_
  try simp only [pA]
  go_big_quiet_step (fail)
  refine later_c1 hM106 22 (.tmp 80) rfl rfl und64 rfl c115 (by rfl) ?_; simp only [pA]
  go_big_quiet_step (fail)
  refine later_c1 hM106 22 (.tmp 82) rfl rfl und64 rfl c121 (by rfl) ?_; simp only [pA]
  refine later_b (x := (.tmp 81)) (y := (.tmp 83)) rfl (BinRun.is G0.out (bin_lss _ (settleF (csA Z0 n0 5#64 u0)).1.lo (csA Z0 n0 5#64 u0).lo)) rfl rfl (by rfl) ?_; simp only [pA]
  iterate 2 (go_big_quiet_step (fail))
  refine later_c1 hM106 22 (.tmp 86) rfl rfl und64 rfl c116 (by rfl) ?_; simp only [pA]
  go_big_quiet_step (fail)
  refine later_c1 hM106 22 (.tmp 88) rfl rfl und64 rfl c122 (by rfl) ?_; simp only [pA]
  refine later_b (x := (.tmp 87)) (y := (.tmp 89)) rfl (BinRun.is G1.out (bin_gtr _ (settleF (csA Z0 n0 5#64 u0)).1.hi (csA Z0 n0 5#64 u0).hi)) rfl rfl (by rfl) ?_; simp only [pA]
  iterate 3 (go_big_quiet_step (fail))
  refine later_c1 hM106 2 (.tmp 93) rfl rfl undI64 rfl c117 (by rfl) ?_; simp only [pA]
  go_big_quiet_step (fail)
  refine later_c1 hM106 2 (.tmp 95) rfl rfl undI64 rfl c123 (by rfl) ?_; simp only [pA]
  refine later_b (x := (.tmp 94)) (y := (.tmp 96)) rfl (BinRun.is G2.out (bin_slss _ (settleF (csA Z0 n0 5#64 u0)).1.sl (csA Z0 n0 5#64 u0).sl)) rfl rfl (by rfl) ?_; simp only [pA]
  iterate 3 (go_big_quiet_step (fail))
  refine later_c1 hM106 2 (.tmp 100) rfl rfl undI64 rfl c118 (by rfl) ?_; simp only [pA]
  go_big_quiet_step (fail)
  refine later_c1 hM106 2 (.tmp 102) rfl rfl undI64 rfl c124 (by rfl) ?_; simp only [pA]
  refine later_b (x := (.tmp 101)) (y := (.tmp 103)) rfl (BinRun.is G3.out (bin_sgtr _ (settleF (csA Z0 n0 5#64 u0)).1.sh (csA Z0 n0 5#64 u0).sh)) rfl rfl (by rfl) ?_; simp only [pA]
  iterate 4 (go_big_quiet_step (fail))
  refine later_c1 hM106 22 (.tmp 108) rfl rfl und64 rfl c114 (by rfl) ?_; simp only [pA]
  iterate 2 (go_big_quiet_step (fail))
  refine later_c1 hM106 22 (.tmp 111) rfl rfl und64 rfl c120 (by rfl) ?_; simp only [pA]
  refine later_b (x := (.tmp 109)) (y := (.tmp 112)) rfl (bin_andn _ (settleF (csA Z0 n0 5#64 u0)).1.b.m (csA Z0 n0 5#64 u0).b.m) rfl rfl (by rfl) ?_; simp only [pA]
  refine later_b (x := (.tmp 113)) (y := (.const (.int .u64 0))) rfl (BinRun.is G4.out (bin_neq _ ((settleF (csA Z0 n0 5#64 u0)).1.b.m &&& ~~~(csA Z0 n0 5#64 u0).b.m) 0#64)) rfl rfl (by rfl) ?_; simp only [pA]
  go_big_quiet_step (fail)
  refine wpQuiet_nil (laterE hM106 ?_)
  intro xw125 M126 hbxw125 hM126 lM126
  have k127 := k107.below hbxw125 (by omega)
  have k128 := k108.below hbxw125 (by omega)
  have k129 := k109.below hbxw125 (by omega)
  have k130 := k110.below hbxw125 (by omega)
  have k131 := k111.below hbxw125 (by omega)
  have lo132 := lo112.trans (hbxw125.mono (by omega))
  clear k107 k108 c119 c120 c121 c122 c123 c124 k109 k110 k111 c113 c114 c115 c116 c117 c118 lo112 hbxw125
  go_upto_region 11 with fail
  refine wp_region_later (M126) (by kernel_rfl) (by kernel_rfl) ?_
  try simp only [pA]
  refine later_row hM126 34 (.tmp 5) rfl (b_xw6) rfl 34 6 _ k128 undRU szRU (by rfl) ?_; simp only [pA]
  go_big_quiet_step ((go_at_call 26; exact later_of hM126 _ (fun K hK hKN => To14_any (csA Z0 n0 5#64 u0) _ K hK)))
  refine later_row hM126 34 (.tmp 6) rfl (b_xw10) rfl 34 6 _ k129 undRU szRU (by rfl) ?_; simp only [pA]
  go_big_quiet_step ((go_at_call 26; exact later_of hM126 _ (fun K hK hKN => To14_any (csA Z1 n1 3#64 u1) _ K hK)))
  go_big_quiet_step ((go_at_call 32; exact later_of hM126 _ (fun K hK hKN => ret_is HW.out (SWithin_any (csA Z0 n0 5#64 u0) (csA Z1 n1 3#64 u1)) _ K hK)))
  go_big_quiet_step (fail)
  refine later_row hM126 34 (.tmp 6) rfl (b_xw10) rfl 34 6 _ k129 undRU szRU (by rfl) ?_; simp only [pA]
  go_big_quiet_step ((go_at_call 26; exact later_of hM126 _ (fun K hK hKN => To14_any (csA Z1 n1 3#64 u1) _ K hK)))
  go_big_quiet_step (fail)
  go_big_quiet_step ((go_at_call 25; exact later_of hM126 _ (fun K hK hKN => ret_is F7.out (SHas_any (csA Z1 n1 3#64 u1) (csX Z0 n0 5#64 z0)) _ K hK)))
  iterate 2 (go_big_quiet_step (fail))
  refine wpQuiet_nil (laterE hM126 ?_)
  intro xw133 M134 hbxw133 hM134 lM134
  have k135 := k127.below hbxw133 (by omega)
  have k136 := k128.below hbxw133 (by omega)
  have k137 := k129.below hbxw133 (by omega)
  have k138 := k130.below hbxw133 (by omega)
  have k139 := k131.below hbxw133 (by omega)
  have lo140 := lo132.trans (hbxw133.mono (by omega))
  clear k127 k128 k129 k130 k131 lo132 hbxw133
  go_upto_region 13 with fail
  refine wp_region_later (M134) (by kernel_rfl) (by kernel_rfl) ?_
  try simp only [pA]
  refine later_row hM134 34 (.tmp 5) rfl (b_xw6) rfl 34 6 _ k136 undRU szRU (by rfl) ?_; simp only [pA]
  go_big_quiet_step ((go_at_call 26; exact later_of hM134 _ (fun K hK hKN => To14_any (csA Z0 n0 5#64 u0) _ K hK)))
  refine later_row hM134 34 (.tmp 5) rfl (b_xw6) rfl 34 6 _ k136 undRU szRU (by rfl) ?_; simp only [pA]
  go_big_quiet_step ((go_at_call 26; exact later_of hM134 _ (fun K hK hKN => To14_any (csA Z0 n0 5#64 u0) _ K hK)))
  go_big_quiet_step ((go_at_call 32; exact later_of hM134 _ (fun K hK hKN => ret_is F4.out (SWithin_any (csA Z0 n0 5#64 u0) (csA Z0 n0 5#64 u0)) _ K hK)))
  go_big_quiet_step (fail)
  refine later_row hM134 34 (.tmp 5) rfl (b_xw6) rfl 34 6 _ k136 undRU szRU (by rfl) ?_; simp only [pA]
  go_big_quiet_step ((go_at_call 26; exact later_of hM134 _ (fun K hK hKN => To14_any (csA Z0 n0 5#64 u0) _ K hK)))
  go_big_quiet_step ((go_at_call 33; exact later_of hM134 _ (fun K hK hKN => SAny_any  _ K hK)))
  go_big_quiet_step ((go_at_call 32; exact later_of hM134 _ (fun K hK hKN => ret_is F5.out (SWithin_any (csA Z0 n0 5#64 u0) (obR tAny)) _ K hK)))
  iterate 2 (go_big_quiet_step (fail))
  refine wpQuiet_nil (laterE hM134 ?_)
  intro xw141 M142 hbxw141 hM142 lM142
  have k143 := k135.below hbxw141 (by omega)
  have k144 := k136.below hbxw141 (by omega)
  have k145 := k137.below hbxw141 (by omega)
  have k146 := k138.below hbxw141 (by omega)
  have k147 := k139.below hbxw141 (by omega)
  have lo148 := lo140.trans (hbxw141.mono (by omega))
  clear k135 k136 k137 k138 k139 lo140 hbxw141
  go_wp2_with fail
  go_ret
  exact ⟨rfl, lo148⟩
set_option maxRecDepth 100000 in
set_option maxHeartbeats 8000000 in
theorem law_sjoins_1f (Z0 Z1 : Nat → W) (p0 p1 : Option Addr) (n0 c0 n1 c1 : Nat) (z0 z1 : Int) (u0 u1 : W) (w : World) (N : Nat) (hN : Sz w N) (hc0 : n0 ≤ c0) (hc1 : n1 ≤ c1) (hw0 : Ats w p0 n0 (fun j => Q (Z0 j))) (hw1 : Ats w p1 n1 (fun j => Q (Z1 j))) (HW : Hid (sWithin (csA Z0 n0 5#64 u0) (csA Z1 n1 3#64 u1) = false)) : Calls Try.prog 6 #[(Value.agg (cellsOf (caC ⟨p0, n0, c0, p1, n1, c1, z0, z1, u0, u1⟩) 6)), (Value.int .i64 1)] w fun e w' => e = .returned (.bool true) ∧ Below N w w' := by
 have NR := hid (settle_nar (settle_in (cs_in Z0 n0 5#64 u0 z0)).1)
 have F0 := hid (show (sHas (joinR (csA Z0 n0 5#64 u0) (csA Z1 n1 3#64 u1)) (csX Z0 n0 5#64 z0)) = true from (join_in_l (cs_in Z0 n0 5#64 u0 z0) (cs_rgt Z1 n1 3#64 u1)).has)
 have F1 := hid (show (sHas (joinR (csA Z0 n0 5#64 u0) (csA Z1 n1 3#64 u1)) (csX Z1 n1 3#64 z1)) = true from (join_in_r (cs_in Z1 n1 3#64 u1 z1) (cs_rgt Z0 n0 5#64 u0)).has)
 have F2 := hid (show (settleF (csA Z0 n0 5#64 u0)).2 = true from (settle_in (cs_in Z0 n0 5#64 u0 z0)).1)
 have F3 := hid (show (sHas (settleF (csA Z0 n0 5#64 u0)).1 (csX Z0 n0 5#64 z0)) = true from (settle_in (cs_in Z0 n0 5#64 u0 z0)).2.has)
 have F4 := hid (show (sWithin (csA Z0 n0 5#64 u0) (csA Z0 n0 5#64 u0)) = true from sWithin_self (cs_rgt Z0 n0 5#64 u0))
 have F5 := hid (show (sWithin (csA Z0 n0 5#64 u0) (obR tAny)) = true from sWithin_any _)
 have F6 := hid (show (sHas (lowR1 (csA Z0 n0 5#64 u0)) ((csX Z0 n0 5#64 z0) % (1#64 <<< 8))) = true from low_1 (cs_in Z0 n0 5#64 u0 z0))
 have G0 := hid (show (BitVec.ult (settleF (csA Z0 n0 5#64 u0)).1.lo (csA Z0 n0 5#64 u0).lo) = false from nar_lo NR.out.1)
 have G1 := hid (show (BitVec.ult (csA Z0 n0 5#64 u0).hi (settleF (csA Z0 n0 5#64 u0)).1.hi) = false from nar_hi NR.out.1)
 have G2 := hid (show (BitVec.slt (settleF (csA Z0 n0 5#64 u0)).1.sl (csA Z0 n0 5#64 u0).sl) = false from nar_sl NR.out.1)
 have G3 := hid (show (BitVec.slt (csA Z0 n0 5#64 u0).sh (settleF (csA Z0 n0 5#64 u0)).1.sh) = false from nar_sh NR.out.1)
 have G4 := hid (show (((settleF (csA Z0 n0 5#64 u0)).1.b.m &&& ~~~(csA Z0 n0 5#64 u0).b.m) != 0#64) = false from NR.out.1.mask NR.out.2.1)
 go_enter Try.func6, Try.ntmps6
 go_upto_region 1 with (first
  | (refine wpl_box rfl 30 (.tmp 0) rfl 6 _ rfl (N) hN ?_; intro w1 hN1 hb1 hh1)
  | fail)
 have lo0 : Below N w w1 := hb1
 have k1 := hh1
 clear hh1 hb1
 go_upto_region 1 with fail
 refine wp_region_lit ?_
 try simp only [pA]
 change wpList _ _ _ ((_ :: _ :: _ :: _ :: _ :: _ :: _ :: []) ++ (_ :: _ :: _ :: _ :: _ :: _ :: [])) _ _
 refine wpList_prefix (C := fun w' => ∃ x : Later (N + 1) w1, w' = x.w') _ _ _ _ ⟨⟨_, Below.refl _ _⟩, rfl⟩ ?_
 refine later_row hN1 30 (.tmp 2) rfl (N) rfl 30 6 _ k1 undCs szCs (by rfl) ?_; simp only [pA]
 go_big_quiet_step ((go_at_call 24; exact later_ofB hN1 _ (fun K hK hbB => Ranges_any Z0 Z1 p0 p1 n0 c0 n1 c1 z0 z1 u0 u1 hc0 hc1 _ K hK ((hw0.below hN lo0).below hN1 hbB) ((hw1.below hN lo0).below hN1 hbB))))
 iterate 5 (go_big_quiet_step (fail))
 refine wpQuiet_nil (laterE hN1 ?_)
 intro xw2 M3 hbxw2 hM3 lM3
 have k4 := k1.below hbxw2 (by omega)
 have lo5 := lo0.trans (hbxw2.mono (by omega))
 clear k1 lo0 hbxw2
 obtain ⟨b_xw6, eb_xw6⟩ : ∃ b_xw6, b_xw6 = M3 := ⟨_, rfl⟩
 have hzb_xw6 : Sz xw2 b_xw6 := by rw [eb_xw6]; exact hM3
 have lob_xw6 : M3 ≤ b_xw6 := by omega
 have upb_xw6 : b_xw6 ≤ M3 := by omega
 clear eb_xw6
 refine wpl_alloc rfl 34 rfl 6 (rC zeroR) zeRU b_xw6 hzb_xw6 ?_
 intro xw6 hMxw6 hbxw6 hhxw6; simp only [pA]
 have k7 := k4.below hbxw6 (by omega)
 have lo8 := lo5.trans (hbxw6.mono (by omega))
 clear k4 lo5 hbxw6 hzb_xw6
 obtain ⟨M9, eM9⟩ : ∃ M9, M9 = b_xw6 + 1 := ⟨_, rfl⟩
 rw [← eM9] at hMxw6
 have loM9 : b_xw6 + 1 ≤ M9 := by omega
 have upM9 : M9 ≤ b_xw6 + 1 := by omega
 clear eM9
 obtain ⟨b_xw10, eb_xw10⟩ : ∃ b_xw10, b_xw10 = M9 := ⟨_, rfl⟩
 have hzb_xw10 : Sz xw6 b_xw10 := by rw [eb_xw10]; exact hMxw6
 have lob_xw10 : M9 ≤ b_xw10 := by omega
 have upb_xw10 : b_xw10 ≤ M9 := by omega
 clear eb_xw10
 refine wpl_alloc rfl 34 rfl 6 (rC zeroR) zeRU b_xw10 hzb_xw10 ?_
 intro xw10 hMxw10 hbxw10 hhxw10; simp only [pA]
 have k11 := k7.below hbxw10 (by omega)
 have k12 := hhxw6.below hbxw10 (by omega)
 have lo13 := lo8.trans (hbxw10.mono (by omega))
 clear k7 hhxw6 lo8 hbxw10 hzb_xw10
 obtain ⟨M14, eM14⟩ : ∃ M14, M14 = b_xw10 + 1 := ⟨_, rfl⟩
 rw [← eM14] at hMxw10
 have loM14 : b_xw10 + 1 ≤ M14 := by omega
 have upM14 : M14 ≤ b_xw10 + 1 := by omega
 clear eM14
 refine wpl_store rfl 34 (.tmp 5) (.tmp 16) rfl b_xw6 6 (rC (csA Z0 n0 5#64 u0)) rfl rfl 34 _ k12 szRU (fun j _ => rC_one _ j) ?_
 intro xw15 t16 k17; try simp only [pA]
 have k18 := k11.touch t16 (by omega)
 have k19 := hhxw10.touch t16 (by omega)
 have lo20 := t16.below lo13 (by omega)
 have h21 := t16.sz hMxw10
 clear k12 k11 hhxw10 lo13 hMxw10 t16
 refine wpl_store rfl 34 (.tmp 6) (.tmp 17) rfl b_xw10 6 (rC (csA Z1 n1 3#64 u1)) rfl rfl 34 _ k19 szRU (fun j _ => rC_one _ j) ?_
 intro xw22 t23 k24; try simp only [pA]
 have k25 := k18.touch t23 (by omega)
 have k26 := k17.touch t23 (by omega)
 have lo27 := t23.below lo20 (by omega)
 have h28 := t23.sz h21
 clear k19 k18 k17 lo20 h21 t23
 refine wpl_run rfl (Q (csX Z0 n0 5#64 z0)) _ (run_as (x := (.tmp 18)) rfl _ rfl) ?_; simp only [pA]
 refine wpl_run rfl (Q (csX Z1 n1 3#64 z1)) _ (run_as (x := (.tmp 19)) rfl _ rfl) ?_; simp only [pA]
 obtain ⟨M29, hM29⟩ := sz_some xw22
 have lt_30 := k25.ltN hM29
 have lt_31 := k26.ltN hM29
 have lt_32 := k24.ltN hM29
 go_upto_region 2 with fail
 refine wp_region_any (by kernel_rfl) ?_
 replace k25 : Has xw22.drew N 30 6 (caC ⟨p0, n0, c0, p1, n1, c1, z0, z1, u0, u1⟩) := k25
 replace k26 : Has xw22.drew b_xw6 34 6 (rC (csA Z0 n0 5#64 u0)) := k26
 replace k24 : Has xw22.drew b_xw10 34 6 (rC (csA Z1 n1 3#64 u1)) := k24
 replace hM29 : Sz xw22.drew M29 := hM29
 replace lo27 : Below N w xw22.drew := lo27.drew
 change wpAny _ _ _ _ _ _ _ (World.drew _)
 generalize xw22.drew = xw33 at *
 refine wpAny_pot (rem := [0, 1, 2, 3, 4, 5]) (FG M29 (fun j => if j = 0 then some (Value.agg (cellsOf (rC (csA Z0 n0 5#64 u0)) 6)) else if j = 1 then some (Value.agg (cellsOf (rC (csA Z0 n0 5#64 u0)) 6)) else if j = 2 then some (Value.agg (cellsOf (rC (csA Z1 n1 3#64 u1)) 6)) else if j = 3 then some (Value.agg (cellsOf (rC (csA Z1 n1 3#64 u1)) 6)) else if j = 4 then some (Value.agg (cellsOf (rC (joinR (csA Z0 n0 5#64 u0) (csA Z1 n1 3#64 u1))) 6)) else none) (fun j => (41, 6, rC zeroR))) (TwoN (fun j => if j = 0 then some (Value.agg (cellsOf (rC (csA Z0 n0 5#64 u0)) 6)) else if j = 1 then some (Value.agg (cellsOf (rC (csA Z0 n0 5#64 u0)) 6)) else if j = 2 then some (Value.agg (cellsOf (rC (csA Z1 n1 3#64 u1)) 6)) else if j = 3 then some (Value.agg (cellsOf (rC (csA Z1 n1 3#64 u1)) 6)) else if j = 4 then some (Value.agg (cellsOf (rC (joinR (csA Z0 n0 5#64 u0) (csA Z1 n1 3#64 u1))) 6)) else none)) (Below M29 xw33) _ _ _ _ (by kernel_rfl) (size_dstG (by kernel_rfl)) (Below.refl _ _) ?_ ?_
 ·intro i hi ac wa hI ha hv
  simp only [List.mem_cons, List.not_mem_nil, or_false] at hi
  rcases hi with rfl | rfl | rfl | rfl | rfl | rfl
  ·exact potg_run rfl rfl (Value.agg (cellsOf (rC (csA Z0 n0 5#64 u0)) 6)) rfl (run_rw 34 (.tmp 5) rfl b_xw6 (ha 5 (not_dstG (by kernel_rfl))) 34 6 _ (Has.below k26 hI (Has.ltN k26 hM29)) undRU szRU) hM29 hI
  ·obtain ⟨v0, hv0a, hv0b⟩ := hv 0 (by simp) (by kernel_rfl)
   have ev0 := hv0b.val rfl
   subst ev0
   exact potg_cl rfl rfl 26 _ _ rfl #[(Value.agg (cellsOf (rC (csA Z0 n0 5#64 u0)) 6))] (by simp only [List.map_toArray, List.map_cons, List.map_nil, (show ac.eval (.tmp 20) = (Value.agg (cellsOf (rC (csA Z0 n0 5#64 u0)) 6)) from (hv0a 20 rfl))] <;> rfl) (by kernel_rfl) (Value.agg (cellsOf (rC (csA Z0 n0 5#64 u0)) 6)) (fun K hK => To14_any (csA Z0 n0 5#64 u0) wa K hK) rfl hM29 hI
  ·exact potg_run rfl rfl (Value.agg (cellsOf (rC (csA Z1 n1 3#64 u1)) 6)) rfl (run_rw 34 (.tmp 6) rfl b_xw10 (ha 6 (not_dstG (by kernel_rfl))) 34 6 _ (Has.below k24 hI (Has.ltN k24 hM29)) undRU szRU) hM29 hI
  ·obtain ⟨v2, hv2a, hv2b⟩ := hv 2 (by simp) (by kernel_rfl)
   have ev2 := hv2b.val rfl
   subst ev2
   exact potg_cl rfl rfl 26 _ _ rfl #[(Value.agg (cellsOf (rC (csA Z1 n1 3#64 u1)) 6))] (by simp only [List.map_toArray, List.map_cons, List.map_nil, (show ac.eval (.tmp 22) = (Value.agg (cellsOf (rC (csA Z1 n1 3#64 u1)) 6)) from (hv2a 22 rfl))] <;> rfl) (by kernel_rfl) (Value.agg (cellsOf (rC (csA Z1 n1 3#64 u1)) 6)) (fun K hK => To14_any (csA Z1 n1 3#64 u1) wa K hK) rfl hM29 hI
  ·obtain ⟨v1, hv1a, hv1b⟩ := hv 1 (by simp) (by kernel_rfl)
   have ev1 := hv1b.val rfl
   subst ev1
   obtain ⟨v3, hv3a, hv3b⟩ := hv 3 (by simp) (by kernel_rfl)
   have ev3 := hv3b.val rfl
   subst ev3
   exact potg_cl rfl rfl 29 _ _ rfl #[(Value.agg (cellsOf (rC (csA Z0 n0 5#64 u0)) 6)), (Value.agg (cellsOf (rC (csA Z1 n1 3#64 u1)) 6))] (by simp only [List.map_toArray, List.map_cons, List.map_nil, (show ac.eval (.tmp 21) = (Value.agg (cellsOf (rC (csA Z0 n0 5#64 u0)) 6)) from (hv1a 21 rfl)), (show ac.eval (.tmp 23) = (Value.agg (cellsOf (rC (csA Z1 n1 3#64 u1)) 6)) from (hv3a 23 rfl))] <;> rfl) (by kernel_rfl) (Value.agg (cellsOf (rC (joinR (csA Z0 n0 5#64 u0) (csA Z1 n1 3#64 u1))) 6)) (fun K hK => SJoin_any (csA Z0 n0 5#64 u0) (csA Z1 n1 3#64 u1) wa K hK) rfl hM29 hI
  ·exact potg_al rfl rfl rfl zeR rfl rfl hM29 hI
 ·intro vals w5_34_ hb5_34_ hF hG
  have e_34_0 := (hF 0 (by simp)).val rfl
  have e_34_1 := (hF 1 (by simp)).val rfl
  have e_34_2 := (hF 2 (by simp)).val rfl
  have e_34_3 := (hF 3 (by simp)).val rfl
  have e_34_4 := (hF 4 (by simp)).val rfl
  obtain ⟨b_34_5, l_34_5, e_34_5, h_34_5⟩ := (hF 5 (by simp)).al rfl rfl
  clear hF hG
  simp only [List.foldl_cons, List.foldl_nil, dstOf, List.getElem?_toArray, List.getElem?_cons_succ, List.getElem?_cons_zero, Option.bind_some, Act.put, List.setIfInBounds_toArray, List.set_cons_succ, List.set_cons_zero, e_34_0, e_34_1, e_34_2, e_34_3, e_34_4, e_34_5]
  clear e_34_0 e_34_1 e_34_2 e_34_3 e_34_4 e_34_5
  refine wpAny_chain [6] _ _ _ _ (by kernel_rfl) (by decide) ?_
  simp only [List.filterMap_cons, List.filterMap_nil, List.getElem?_toArray, List.getElem?_cons_succ, List.getElem?_cons_zero]
  have k35 := k25.below hb5_34_ (by omega)
  have k36 := k26.below hb5_34_ (by omega)
  have k37 := k24.below hb5_34_ (by omega)
  have lo38 := lo27.trans (hb5_34_.mono (by omega))
  clear k25 k26 k24 lo27 hb5_34_
  refine wpl_store rfl 41 (.tmp 9) (.tmp 24) rfl b_34_5 6 (rC (joinR (csA Z0 n0 5#64 u0) (csA Z1 n1 3#64 u1))) rfl rfl 41 _ h_34_5 szR (fun j _ => rC_one _ j) ?_
  intro xw39 t40 k41
  have k42 := k35.touch t40 (by omega)
  have k43 := k36.touch t40 (by omega)
  have k44 := k37.touch t40 (by omega)
  have lo45 := t40.below lo38 (by omega)
  clear h_34_5 k35 k36 k37 lo38 t40
  obtain ⟨M46, hM46⟩ := sz_some xw39
  have lt_47 := k42.ltN hM46
  have lt_48 := k43.ltN hM46
  have lt_49 := k44.ltN hM46
  have lt_50 := k41.ltN hM46
  have CS51 := fun w N hN => Settle_any (csA Z0 n0 5#64 u0) w N hN
  rw [F2.out] at CS51
  go_upto_region 3 with fail
  refine wp_region_lit ?_
  try simp only [pA]
  change wpList _ _ _ ((_ :: _ :: _ :: _ :: _ :: _ :: []) ++ (_ :: _ :: _ :: [])) _ _
  refine wpList_prefix (C := fun w' => ∃ x : Later M46 xw39, w' = x.w') _ _ _ _ ⟨⟨_, Below.refl _ _⟩, rfl⟩ ?_
  refine later_row hM46 34 (.tmp 5) rfl (b_xw6) rfl 34 6 _ k43 undRU szRU (by rfl) ?_; simp only [pA]
  go_big_quiet_step ((go_at_call 26; exact later_of hM46 _ (fun K hK hKN => To14_any (csA Z0 n0 5#64 u0) _ K hK)))
  go_big_quiet_step ((go_at_call 30; exact later_of hM46 _ (fun K hK hKN => CS51 _ K hK)))
  iterate 3 (go_big_quiet_step (fail))
  refine wpQuiet_nil (laterE hM46 ?_)
  intro xw52 M53 hbxw52 hM53 lM53
  have k54 := k42.below hbxw52 (by omega)
  have k55 := k43.below hbxw52 (by omega)
  have k56 := k44.below hbxw52 (by omega)
  have k57 := k41.below hbxw52 (by omega)
  have lo58 := lo45.trans (hbxw52.mono (by omega))
  clear k42 k43 k44 k41 lo45 hbxw52
  obtain ⟨b_xw59, eb_xw59⟩ : ∃ b_xw59, b_xw59 = M53 := ⟨_, rfl⟩
  have hzb_xw59 : Sz xw52 b_xw59 := by rw [eb_xw59]; exact hM53
  have lob_xw59 : M53 ≤ b_xw59 := by omega
  have upb_xw59 : b_xw59 ≤ M53 := by omega
  clear eb_xw59
  refine wpl_alloc rfl 41 rfl 6 (rC zeroR) zeR b_xw59 hzb_xw59 ?_
  intro xw59 hMxw59 hbxw59 hhxw59; simp only [pA]
  have k60 := k54.below hbxw59 (by omega)
  have k61 := k55.below hbxw59 (by omega)
  have k62 := k56.below hbxw59 (by omega)
  have k63 := k57.below hbxw59 (by omega)
  have lo64 := lo58.trans (hbxw59.mono (by omega))
  clear k54 k55 k56 k57 lo58 hbxw59 hzb_xw59
  obtain ⟨M65, eM65⟩ : ∃ M65, M65 = b_xw59 + 1 := ⟨_, rfl⟩
  rw [← eM65] at hMxw59
  have loM65 : b_xw59 + 1 ≤ M65 := by omega
  have upM65 : M65 ≤ b_xw59 + 1 := by omega
  clear eM65
  refine wpl_store rfl 41 (.tmp 10) (.tmp 29) rfl b_xw59 6 (rC (settleF (csA Z0 n0 5#64 u0)).1) rfl rfl 41 _ hhxw59 szR (fun j _ => rC_one _ j) ?_
  intro xw66 t67 k68; try simp only [pA]
  have k69 := k60.touch t67 (by omega)
  have k70 := k61.touch t67 (by omega)
  have k71 := k62.touch t67 (by omega)
  have k72 := k63.touch t67 (by omega)
  have lo73 := t67.below lo64 (by omega)
  have h74 := t67.sz hMxw59
  clear hhxw59 k60 k61 k62 k63 lo64 hMxw59 t67
  refine wpl_run rfl (Value.bool true) _ (run_as (x := (.tmp 30)) rfl _ rfl) ?_; simp only [pA]
  obtain ⟨M75, hM75⟩ := sz_some xw66
  have lt_76 := k69.ltN hM75
  have lt_77 := k70.ltN hM75
  have lt_78 := k71.ltN hM75
  have lt_79 := k72.ltN hM75
  have lt_80 := k68.ltN hM75
  go_upto_region 4 with fail
  refine wp_region_later1 (M75) ?_
  try simp only [pA]
  iterate 2 (go_big_quiet_step (fail))
  refine wpQuiet_nil (laterE hM75 ?_)
  intro xw81 M82 hbxw81 hM82 lM82
  have k83 := k69.below hbxw81 (by omega)
  have k84 := k70.below hbxw81 (by omega)
  have k85 := k71.below hbxw81 (by omega)
  have k86 := k72.below hbxw81 (by omega)
  have k87 := k68.below hbxw81 (by omega)
  have lo88 := lo73.trans (hbxw81.mono (by omega))
  clear k69 k70 k71 k72 k68 lo73 hbxw81
  go_upto_region 5 with fail
  refine wp_region_later1 (M82) ?_
  try simp only [pA]
  iterate 10 (go_big_quiet_step (fail))
  refine wpQuiet_nil (laterE hM82 ?_)
  intro xw89 M90 hbxw89 hM90 lM90
  have k91 := k83.below hbxw89 (by omega)
  have k92 := k84.below hbxw89 (by omega)
  have k93 := k85.below hbxw89 (by omega)
  have k94 := k86.below hbxw89 (by omega)
  have k95 := k87.below hbxw89 (by omega)
  have lo96 := lo88.trans (hbxw89.mono (by omega))
  clear k83 k84 k85 k86 k87 lo88 hbxw89
  go_upto_region 6 with fail
  refine wp_region_later1 (M90) ?_
  try simp only [pA]
  iterate 2 (go_big_quiet_step (fail))
  refine later_val (fun q => run_mulL (x := (.const (.int .i64 8))) (y := (.tmp 43)) rfl rfl rfl (show IntKind.i64.wrap (8 * 1) = 8 by decide) q.w') (by rfl) ?_; simp only [pA]
  refine later_b (x := (.const (.int .u64 1))) (y := (.tmp 44)) rfl (bin_shl _ 1#64 8) rfl rfl (by rfl) ?_; simp only [pA]
  refine later_b (x := (.tmp 42)) (y := (.tmp 45)) rfl (bin_rem _ (csX Z0 n0 5#64 z0) (1#64 <<< 8) (by decide)) rfl rfl (by rfl) ?_; simp only [pA]
  go_big_quiet_step (fail)
  refine wpQuiet_nil (laterE hM90 ?_)
  intro xw97 M98 hbxw97 hM98 lM98
  have k99 := k91.below hbxw97 (by omega)
  have k100 := k92.below hbxw97 (by omega)
  have k101 := k93.below hbxw97 (by omega)
  have k102 := k94.below hbxw97 (by omega)
  have k103 := k95.below hbxw97 (by omega)
  have lo104 := lo96.trans (hbxw97.mono (by omega))
  clear k91 k92 k93 k94 k95 lo96 hbxw97
  go_upto_region 7 with fail
  refine wp_region_later1 (M98) ?_
  try simp only [pA]
  go_big_quiet_step ((go_at_call 21; exact later_of hM98 _ (fun K hK hKN => evals_any _ K hK)))
  iterate 2 (go_big_quiet_step (fail))
  refine later_row hM98 41 (.tmp 9) rfl (b_34_5) rfl 41 6 _ k102 undR szR (by rfl) ?_; simp only [pA]
  go_big_quiet_step (fail)
  go_big_quiet_step ((go_at_call 25; exact later_of hM98 _ (fun K hK hKN => ret_is F0.out (SHas_any (joinR (csA Z0 n0 5#64 u0) (csA Z1 n1 3#64 u1)) (csX Z0 n0 5#64 z0)) _ K hK)))
  iterate 3 (go_big_quiet_step (fail))
  refine later_row hM98 41 (.tmp 9) rfl (b_34_5) rfl 41 6 _ k102 undR szR (by rfl) ?_; simp only [pA]
  go_big_quiet_step (fail)
  go_big_quiet_step ((go_at_call 25; exact later_of hM98 _ (fun K hK hKN => ret_is F1.out (SHas_any (joinR (csA Z0 n0 5#64 u0) (csA Z1 n1 3#64 u1)) (csX Z1 n1 3#64 z1)) _ K hK)))
  iterate 7 (go_big_quiet_step (fail))
  refine later_row hM98 41 (.tmp 10) rfl (b_xw59) rfl 41 6 _ k103 undR szR (by rfl) ?_; simp only [pA]
  go_big_quiet_step (fail)
  go_big_quiet_step ((go_at_call 25; exact later_of hM98 _ (fun K hK hKN => ret_is F3.out (SHas_any (settleF (csA Z0 n0 5#64 u0)).1 (csX Z0 n0 5#64 z0)) _ K hK)))
  iterate 3 (go_big_quiet_step (fail))
  refine later_row hM98 34 (.tmp 5) rfl (b_xw6) rfl 34 6 _ k100 undRU szRU (by rfl) ?_; simp only [pA]
  go_big_quiet_step ((go_at_call 26; exact later_of hM98 _ (fun K hK hKN => To14_any (csA Z0 n0 5#64 u0) _ K hK)))
  go_big_quiet_step (fail)
  go_big_quiet_step ((go_at_call 31; exact later_of hM98 _ (fun K hK hKN => SLow_1 (csA Z0 n0 5#64 u0) _ K hK)))
  go_big_quiet_step (fail)
  go_big_quiet_step ((go_at_call 25; exact later_of hM98 _ (fun K hK hKN => ret_is F6.out (SHas_any (lowR1 (csA Z0 n0 5#64 u0)) ((csX Z0 n0 5#64 z0) % (1#64 <<< 8))) _ K hK)))
  iterate 2 (go_big_quiet_step (fail))
  refine wpQuiet_nil (laterE hM98 ?_)
  intro xw105 M106 hbxw105 hM106 lM106
  have k107 := k99.below hbxw105 (by omega)
  have k108 := k100.below hbxw105 (by omega)
  have k109 := k101.below hbxw105 (by omega)
  have k110 := k102.below hbxw105 (by omega)
  have k111 := k103.below hbxw105 (by omega)
  have lo112 := lo104.trans (hbxw105.mono (by omega))
  clear k99 k100 k101 k102 k103 lo104 hbxw105
  go_upto_region 9 with fail
  obtain ⟨c113, c114, c115, c116, c117, c118⟩ := r_cells k111
  obtain ⟨c119, c120, c121, c122, c123, c124⟩ := r_cells k108
  refine wp_region_later1 (M106) ?_
  try simp only [pA]
  go_big_quiet_step (fail)
  refine later_c1 hM106 22 (.tmp 80) rfl rfl und64 rfl c115 (by rfl) ?_; simp only [pA]
  go_big_quiet_step (fail)
  refine later_c1 hM106 22 (.tmp 82) rfl rfl und64 rfl c121 (by rfl) ?_; simp only [pA]
  refine later_b (x := (.tmp 81)) (y := (.tmp 83)) rfl (BinRun.is G0.out (bin_lss _ (settleF (csA Z0 n0 5#64 u0)).1.lo (csA Z0 n0 5#64 u0).lo)) rfl rfl (by rfl) ?_; simp only [pA]
  iterate 2 (go_big_quiet_step (fail))
  refine later_c1 hM106 22 (.tmp 86) rfl rfl und64 rfl c116 (by rfl) ?_; simp only [pA]
  go_big_quiet_step (fail)
  refine later_c1 hM106 22 (.tmp 88) rfl rfl und64 rfl c122 (by rfl) ?_; simp only [pA]
  refine later_b (x := (.tmp 87)) (y := (.tmp 89)) rfl (BinRun.is G1.out (bin_gtr _ (settleF (csA Z0 n0 5#64 u0)).1.hi (csA Z0 n0 5#64 u0).hi)) rfl rfl (by rfl) ?_; simp only [pA]
  iterate 3 (go_big_quiet_step (fail))
  refine later_c1 hM106 2 (.tmp 93) rfl rfl undI64 rfl c117 (by rfl) ?_; simp only [pA]
  go_big_quiet_step (fail)
  refine later_c1 hM106 2 (.tmp 95) rfl rfl undI64 rfl c123 (by rfl) ?_; simp only [pA]
  refine later_b (x := (.tmp 94)) (y := (.tmp 96)) rfl (BinRun.is G2.out (bin_slss _ (settleF (csA Z0 n0 5#64 u0)).1.sl (csA Z0 n0 5#64 u0).sl)) rfl rfl (by rfl) ?_; simp only [pA]
  iterate 3 (go_big_quiet_step (fail))
  refine later_c1 hM106 2 (.tmp 100) rfl rfl undI64 rfl c118 (by rfl) ?_; simp only [pA]
  go_big_quiet_step (fail)
  refine later_c1 hM106 2 (.tmp 102) rfl rfl undI64 rfl c124 (by rfl) ?_; simp only [pA]
  refine later_b (x := (.tmp 101)) (y := (.tmp 103)) rfl (BinRun.is G3.out (bin_sgtr _ (settleF (csA Z0 n0 5#64 u0)).1.sh (csA Z0 n0 5#64 u0).sh)) rfl rfl (by rfl) ?_; simp only [pA]
  iterate 4 (go_big_quiet_step (fail))
  refine later_c1 hM106 22 (.tmp 108) rfl rfl und64 rfl c114 (by rfl) ?_; simp only [pA]
  iterate 2 (go_big_quiet_step (fail))
  refine later_c1 hM106 22 (.tmp 111) rfl rfl und64 rfl c120 (by rfl) ?_; simp only [pA]
  refine later_b (x := (.tmp 109)) (y := (.tmp 112)) rfl (bin_andn _ (settleF (csA Z0 n0 5#64 u0)).1.b.m (csA Z0 n0 5#64 u0).b.m) rfl rfl (by rfl) ?_; simp only [pA]
  refine later_b (x := (.tmp 113)) (y := (.const (.int .u64 0))) rfl (BinRun.is G4.out (bin_neq _ ((settleF (csA Z0 n0 5#64 u0)).1.b.m &&& ~~~(csA Z0 n0 5#64 u0).b.m) 0#64)) rfl rfl (by rfl) ?_; simp only [pA]
  go_big_quiet_step (fail)
  refine wpQuiet_nil (laterE hM106 ?_)
  intro xw125 M126 hbxw125 hM126 lM126
  have k127 := k107.below hbxw125 (by omega)
  have k128 := k108.below hbxw125 (by omega)
  have k129 := k109.below hbxw125 (by omega)
  have k130 := k110.below hbxw125 (by omega)
  have k131 := k111.below hbxw125 (by omega)
  have lo132 := lo112.trans (hbxw125.mono (by omega))
  clear k107 k108 c119 c120 c121 c122 c123 c124 k109 k110 k111 c113 c114 c115 c116 c117 c118 lo112 hbxw125
  go_upto_region 11 with fail
  refine wp_region_later (M126) (by kernel_rfl) (by kernel_rfl) ?_
  try simp only [pA]
  refine later_row hM126 34 (.tmp 5) rfl (b_xw6) rfl 34 6 _ k128 undRU szRU (by rfl) ?_; simp only [pA]
  go_big_quiet_step ((go_at_call 26; exact later_of hM126 _ (fun K hK hKN => To14_any (csA Z0 n0 5#64 u0) _ K hK)))
  refine later_row hM126 34 (.tmp 6) rfl (b_xw10) rfl 34 6 _ k129 undRU szRU (by rfl) ?_; simp only [pA]
  go_big_quiet_step ((go_at_call 26; exact later_of hM126 _ (fun K hK hKN => To14_any (csA Z1 n1 3#64 u1) _ K hK)))
  go_big_quiet_step ((go_at_call 32; exact later_of hM126 _ (fun K hK hKN => ret_is HW.out (SWithin_any (csA Z0 n0 5#64 u0) (csA Z1 n1 3#64 u1)) _ K hK)))
  iterate 7 (go_big_quiet_step (fail))
  refine wpQuiet_nil (laterE hM126 ?_)
  intro xw133 M134 hbxw133 hM134 lM134
  have k135 := k127.below hbxw133 (by omega)
  have k136 := k128.below hbxw133 (by omega)
  have k137 := k129.below hbxw133 (by omega)
  have k138 := k130.below hbxw133 (by omega)
  have k139 := k131.below hbxw133 (by omega)
  have lo140 := lo132.trans (hbxw133.mono (by omega))
  clear k127 k128 k129 k130 k131 lo132 hbxw133
  go_upto_region 13 with fail
  refine wp_region_later (M134) (by kernel_rfl) (by kernel_rfl) ?_
  try simp only [pA]
  refine later_row hM134 34 (.tmp 5) rfl (b_xw6) rfl 34 6 _ k136 undRU szRU (by rfl) ?_; simp only [pA]
  go_big_quiet_step ((go_at_call 26; exact later_of hM134 _ (fun K hK hKN => To14_any (csA Z0 n0 5#64 u0) _ K hK)))
  refine later_row hM134 34 (.tmp 5) rfl (b_xw6) rfl 34 6 _ k136 undRU szRU (by rfl) ?_; simp only [pA]
  go_big_quiet_step ((go_at_call 26; exact later_of hM134 _ (fun K hK hKN => To14_any (csA Z0 n0 5#64 u0) _ K hK)))
  go_big_quiet_step ((go_at_call 32; exact later_of hM134 _ (fun K hK hKN => ret_is F4.out (SWithin_any (csA Z0 n0 5#64 u0) (csA Z0 n0 5#64 u0)) _ K hK)))
  go_big_quiet_step (fail)
  refine later_row hM134 34 (.tmp 5) rfl (b_xw6) rfl 34 6 _ k136 undRU szRU (by rfl) ?_; simp only [pA]
  go_big_quiet_step ((go_at_call 26; exact later_of hM134 _ (fun K hK hKN => To14_any (csA Z0 n0 5#64 u0) _ K hK)))
  go_big_quiet_step ((go_at_call 33; exact later_of hM134 _ (fun K hK hKN => SAny_any  _ K hK)))
  go_big_quiet_step ((go_at_call 32; exact later_of hM134 _ (fun K hK hKN => ret_is F5.out (SWithin_any (csA Z0 n0 5#64 u0) (obR tAny)) _ K hK)))
  iterate 2 (go_big_quiet_step (fail))
  refine wpQuiet_nil (laterE hM134 ?_)
  intro xw141 M142 hbxw141 hM142 lM142
  have k143 := k135.below hbxw141 (by omega)
  have k144 := k136.below hbxw141 (by omega)
  have k145 := k137.below hbxw141 (by omega)
  have k146 := k138.below hbxw141 (by omega)
  have k147 := k139.below hbxw141 (by omega)
  have lo148 := lo140.trans (hbxw141.mono (by omega))
  clear k135 k136 k137 k138 k139 lo140 hbxw141
  go_wp2_with fail
  go_ret
  exact ⟨rfl, lo148⟩
set_option maxRecDepth 100000 in
set_option maxHeartbeats 8000000 in
theorem law_sjoins_2t (Z0 Z1 : Nat → W) (p0 p1 : Option Addr) (n0 c0 n1 c1 : Nat) (z0 z1 : Int) (u0 u1 : W) (w : World) (N : Nat) (hN : Sz w N) (hc0 : n0 ≤ c0) (hc1 : n1 ≤ c1) (hw0 : Ats w p0 n0 (fun j => Q (Z0 j))) (hw1 : Ats w p1 n1 (fun j => Q (Z1 j))) (HW : Hid (sWithin (csA Z0 n0 5#64 u0) (csA Z1 n1 3#64 u1) = true)) : Calls Try.prog 6 #[(Value.agg (cellsOf (caC ⟨p0, n0, c0, p1, n1, c1, z0, z1, u0, u1⟩) 6)), (Value.int .i64 2)] w fun e w' => e = .returned (.bool true) ∧ Below N w w' := by
 have NR := hid (settle_nar (settle_in (cs_in Z0 n0 5#64 u0 z0)).1)
 have F0 := hid (show (sHas (joinR (csA Z0 n0 5#64 u0) (csA Z1 n1 3#64 u1)) (csX Z0 n0 5#64 z0)) = true from (join_in_l (cs_in Z0 n0 5#64 u0 z0) (cs_rgt Z1 n1 3#64 u1)).has)
 have F1 := hid (show (sHas (joinR (csA Z0 n0 5#64 u0) (csA Z1 n1 3#64 u1)) (csX Z1 n1 3#64 z1)) = true from (join_in_r (cs_in Z1 n1 3#64 u1 z1) (cs_rgt Z0 n0 5#64 u0)).has)
 have F2 := hid (show (settleF (csA Z0 n0 5#64 u0)).2 = true from (settle_in (cs_in Z0 n0 5#64 u0 z0)).1)
 have F3 := hid (show (sHas (settleF (csA Z0 n0 5#64 u0)).1 (csX Z0 n0 5#64 z0)) = true from (settle_in (cs_in Z0 n0 5#64 u0 z0)).2.has)
 have F4 := hid (show (sWithin (csA Z0 n0 5#64 u0) (csA Z0 n0 5#64 u0)) = true from sWithin_self (cs_rgt Z0 n0 5#64 u0))
 have F5 := hid (show (sWithin (csA Z0 n0 5#64 u0) (obR tAny)) = true from sWithin_any _)
 have F6 := hid (show (sHas (lowR2 (csA Z0 n0 5#64 u0)) ((csX Z0 n0 5#64 z0) % (1#64 <<< 16))) = true from low_2 (cs_in Z0 n0 5#64 u0 z0))
 have F7 := hid (show (sHas (csA Z1 n1 3#64 u1) (csX Z0 n0 5#64 z0)) = true from (within_in HW.out (cs_in Z0 n0 5#64 u0 z0) (cs_rgt Z1 n1 3#64 u1)).has)
 have G0 := hid (show (BitVec.ult (settleF (csA Z0 n0 5#64 u0)).1.lo (csA Z0 n0 5#64 u0).lo) = false from nar_lo NR.out.1)
 have G1 := hid (show (BitVec.ult (csA Z0 n0 5#64 u0).hi (settleF (csA Z0 n0 5#64 u0)).1.hi) = false from nar_hi NR.out.1)
 have G2 := hid (show (BitVec.slt (settleF (csA Z0 n0 5#64 u0)).1.sl (csA Z0 n0 5#64 u0).sl) = false from nar_sl NR.out.1)
 have G3 := hid (show (BitVec.slt (csA Z0 n0 5#64 u0).sh (settleF (csA Z0 n0 5#64 u0)).1.sh) = false from nar_sh NR.out.1)
 have G4 := hid (show (((settleF (csA Z0 n0 5#64 u0)).1.b.m &&& ~~~(csA Z0 n0 5#64 u0).b.m) != 0#64) = false from NR.out.1.mask NR.out.2.1)
 go_enter Try.func6, Try.ntmps6
 go_upto_region 1 with (first
  | (refine wpl_box rfl 30 (.tmp 0) rfl 6 _ rfl (N) hN ?_; intro w1 hN1 hb1 hh1)
  | fail)
 have lo0 : Below N w w1 := hb1
 have k1 := hh1
 clear hh1 hb1
 go_upto_region 1 with fail
 refine wp_region_lit ?_
 try simp only [pA]
 change wpList _ _ _ ((_ :: _ :: _ :: _ :: _ :: _ :: _ :: []) ++ (_ :: _ :: _ :: _ :: _ :: _ :: [])) _ _
 refine wpList_prefix (C := fun w' => ∃ x : Later (N + 1) w1, w' = x.w') _ _ _ _ ⟨⟨_, Below.refl _ _⟩, rfl⟩ ?_
 refine later_row hN1 30 (.tmp 2) rfl (N) rfl 30 6 _ k1 undCs szCs (by rfl) ?_; simp only [pA]
 go_big_quiet_step ((go_at_call 24; exact later_ofB hN1 _ (fun K hK hbB => Ranges_any Z0 Z1 p0 p1 n0 c0 n1 c1 z0 z1 u0 u1 hc0 hc1 _ K hK ((hw0.below hN lo0).below hN1 hbB) ((hw1.below hN lo0).below hN1 hbB))))
 iterate 5 (go_big_quiet_step (fail))
 refine wpQuiet_nil (laterE hN1 ?_)
 intro xw2 M3 hbxw2 hM3 lM3
 have k4 := k1.below hbxw2 (by omega)
 have lo5 := lo0.trans (hbxw2.mono (by omega))
 clear k1 lo0 hbxw2
 obtain ⟨b_xw6, eb_xw6⟩ : ∃ b_xw6, b_xw6 = M3 := ⟨_, rfl⟩
 have hzb_xw6 : Sz xw2 b_xw6 := by rw [eb_xw6]; exact hM3
 have lob_xw6 : M3 ≤ b_xw6 := by omega
 have upb_xw6 : b_xw6 ≤ M3 := by omega
 clear eb_xw6
 refine wpl_alloc rfl 34 rfl 6 (rC zeroR) zeRU b_xw6 hzb_xw6 ?_
 intro xw6 hMxw6 hbxw6 hhxw6; simp only [pA]
 have k7 := k4.below hbxw6 (by omega)
 have lo8 := lo5.trans (hbxw6.mono (by omega))
 clear k4 lo5 hbxw6 hzb_xw6
 obtain ⟨M9, eM9⟩ : ∃ M9, M9 = b_xw6 + 1 := ⟨_, rfl⟩
 rw [← eM9] at hMxw6
 have loM9 : b_xw6 + 1 ≤ M9 := by omega
 have upM9 : M9 ≤ b_xw6 + 1 := by omega
 clear eM9
 obtain ⟨b_xw10, eb_xw10⟩ : ∃ b_xw10, b_xw10 = M9 := ⟨_, rfl⟩
 have hzb_xw10 : Sz xw6 b_xw10 := by rw [eb_xw10]; exact hMxw6
 have lob_xw10 : M9 ≤ b_xw10 := by omega
 have upb_xw10 : b_xw10 ≤ M9 := by omega
 clear eb_xw10
 refine wpl_alloc rfl 34 rfl 6 (rC zeroR) zeRU b_xw10 hzb_xw10 ?_
 intro xw10 hMxw10 hbxw10 hhxw10; simp only [pA]
 have k11 := k7.below hbxw10 (by omega)
 have k12 := hhxw6.below hbxw10 (by omega)
 have lo13 := lo8.trans (hbxw10.mono (by omega))
 clear k7 hhxw6 lo8 hbxw10 hzb_xw10
 obtain ⟨M14, eM14⟩ : ∃ M14, M14 = b_xw10 + 1 := ⟨_, rfl⟩
 rw [← eM14] at hMxw10
 have loM14 : b_xw10 + 1 ≤ M14 := by omega
 have upM14 : M14 ≤ b_xw10 + 1 := by omega
 clear eM14
 refine wpl_store rfl 34 (.tmp 5) (.tmp 16) rfl b_xw6 6 (rC (csA Z0 n0 5#64 u0)) rfl rfl 34 _ k12 szRU (fun j _ => rC_one _ j) ?_
 intro xw15 t16 k17; try simp only [pA]
 have k18 := k11.touch t16 (by omega)
 have k19 := hhxw10.touch t16 (by omega)
 have lo20 := t16.below lo13 (by omega)
 have h21 := t16.sz hMxw10
 clear k12 k11 hhxw10 lo13 hMxw10 t16
 refine wpl_store rfl 34 (.tmp 6) (.tmp 17) rfl b_xw10 6 (rC (csA Z1 n1 3#64 u1)) rfl rfl 34 _ k19 szRU (fun j _ => rC_one _ j) ?_
 intro xw22 t23 k24; try simp only [pA]
 have k25 := k18.touch t23 (by omega)
 have k26 := k17.touch t23 (by omega)
 have lo27 := t23.below lo20 (by omega)
 have h28 := t23.sz h21
 clear k19 k18 k17 lo20 h21 t23
 refine wpl_run rfl (Q (csX Z0 n0 5#64 z0)) _ (run_as (x := (.tmp 18)) rfl _ rfl) ?_; simp only [pA]
 refine wpl_run rfl (Q (csX Z1 n1 3#64 z1)) _ (run_as (x := (.tmp 19)) rfl _ rfl) ?_; simp only [pA]
 obtain ⟨M29, hM29⟩ := sz_some xw22
 have lt_30 := k25.ltN hM29
 have lt_31 := k26.ltN hM29
 have lt_32 := k24.ltN hM29
 go_upto_region 2 with fail
 refine wp_region_any (by kernel_rfl) ?_
 replace k25 : Has xw22.drew N 30 6 (caC ⟨p0, n0, c0, p1, n1, c1, z0, z1, u0, u1⟩) := k25
 replace k26 : Has xw22.drew b_xw6 34 6 (rC (csA Z0 n0 5#64 u0)) := k26
 replace k24 : Has xw22.drew b_xw10 34 6 (rC (csA Z1 n1 3#64 u1)) := k24
 replace hM29 : Sz xw22.drew M29 := hM29
 replace lo27 : Below N w xw22.drew := lo27.drew
 change wpAny _ _ _ _ _ _ _ (World.drew _)
 generalize xw22.drew = xw33 at *
 refine wpAny_pot (rem := [0, 1, 2, 3, 4, 5]) (FG M29 (fun j => if j = 0 then some (Value.agg (cellsOf (rC (csA Z0 n0 5#64 u0)) 6)) else if j = 1 then some (Value.agg (cellsOf (rC (csA Z0 n0 5#64 u0)) 6)) else if j = 2 then some (Value.agg (cellsOf (rC (csA Z1 n1 3#64 u1)) 6)) else if j = 3 then some (Value.agg (cellsOf (rC (csA Z1 n1 3#64 u1)) 6)) else if j = 4 then some (Value.agg (cellsOf (rC (joinR (csA Z0 n0 5#64 u0) (csA Z1 n1 3#64 u1))) 6)) else none) (fun j => (41, 6, rC zeroR))) (TwoN (fun j => if j = 0 then some (Value.agg (cellsOf (rC (csA Z0 n0 5#64 u0)) 6)) else if j = 1 then some (Value.agg (cellsOf (rC (csA Z0 n0 5#64 u0)) 6)) else if j = 2 then some (Value.agg (cellsOf (rC (csA Z1 n1 3#64 u1)) 6)) else if j = 3 then some (Value.agg (cellsOf (rC (csA Z1 n1 3#64 u1)) 6)) else if j = 4 then some (Value.agg (cellsOf (rC (joinR (csA Z0 n0 5#64 u0) (csA Z1 n1 3#64 u1))) 6)) else none)) (Below M29 xw33) _ _ _ _ (by kernel_rfl) (size_dstG (by kernel_rfl)) (Below.refl _ _) ?_ ?_
 ·intro i hi ac wa hI ha hv
  simp only [List.mem_cons, List.not_mem_nil, or_false] at hi
  rcases hi with rfl | rfl | rfl | rfl | rfl | rfl
  ·exact potg_run rfl rfl (Value.agg (cellsOf (rC (csA Z0 n0 5#64 u0)) 6)) rfl (run_rw 34 (.tmp 5) rfl b_xw6 (ha 5 (not_dstG (by kernel_rfl))) 34 6 _ (Has.below k26 hI (Has.ltN k26 hM29)) undRU szRU) hM29 hI
  ·obtain ⟨v0, hv0a, hv0b⟩ := hv 0 (by simp) (by kernel_rfl)
   have ev0 := hv0b.val rfl
   subst ev0
   exact potg_cl rfl rfl 26 _ _ rfl #[(Value.agg (cellsOf (rC (csA Z0 n0 5#64 u0)) 6))] (by simp only [List.map_toArray, List.map_cons, List.map_nil, (show ac.eval (.tmp 20) = (Value.agg (cellsOf (rC (csA Z0 n0 5#64 u0)) 6)) from (hv0a 20 rfl))] <;> rfl) (by kernel_rfl) (Value.agg (cellsOf (rC (csA Z0 n0 5#64 u0)) 6)) (fun K hK => To14_any (csA Z0 n0 5#64 u0) wa K hK) rfl hM29 hI
  ·exact potg_run rfl rfl (Value.agg (cellsOf (rC (csA Z1 n1 3#64 u1)) 6)) rfl (run_rw 34 (.tmp 6) rfl b_xw10 (ha 6 (not_dstG (by kernel_rfl))) 34 6 _ (Has.below k24 hI (Has.ltN k24 hM29)) undRU szRU) hM29 hI
  ·obtain ⟨v2, hv2a, hv2b⟩ := hv 2 (by simp) (by kernel_rfl)
   have ev2 := hv2b.val rfl
   subst ev2
   exact potg_cl rfl rfl 26 _ _ rfl #[(Value.agg (cellsOf (rC (csA Z1 n1 3#64 u1)) 6))] (by simp only [List.map_toArray, List.map_cons, List.map_nil, (show ac.eval (.tmp 22) = (Value.agg (cellsOf (rC (csA Z1 n1 3#64 u1)) 6)) from (hv2a 22 rfl))] <;> rfl) (by kernel_rfl) (Value.agg (cellsOf (rC (csA Z1 n1 3#64 u1)) 6)) (fun K hK => To14_any (csA Z1 n1 3#64 u1) wa K hK) rfl hM29 hI
  ·obtain ⟨v1, hv1a, hv1b⟩ := hv 1 (by simp) (by kernel_rfl)
   have ev1 := hv1b.val rfl
   subst ev1
   obtain ⟨v3, hv3a, hv3b⟩ := hv 3 (by simp) (by kernel_rfl)
   have ev3 := hv3b.val rfl
   subst ev3
   exact potg_cl rfl rfl 29 _ _ rfl #[(Value.agg (cellsOf (rC (csA Z0 n0 5#64 u0)) 6)), (Value.agg (cellsOf (rC (csA Z1 n1 3#64 u1)) 6))] (by simp only [List.map_toArray, List.map_cons, List.map_nil, (show ac.eval (.tmp 21) = (Value.agg (cellsOf (rC (csA Z0 n0 5#64 u0)) 6)) from (hv1a 21 rfl)), (show ac.eval (.tmp 23) = (Value.agg (cellsOf (rC (csA Z1 n1 3#64 u1)) 6)) from (hv3a 23 rfl))] <;> rfl) (by kernel_rfl) (Value.agg (cellsOf (rC (joinR (csA Z0 n0 5#64 u0) (csA Z1 n1 3#64 u1))) 6)) (fun K hK => SJoin_any (csA Z0 n0 5#64 u0) (csA Z1 n1 3#64 u1) wa K hK) rfl hM29 hI
  ·exact potg_al rfl rfl rfl zeR rfl rfl hM29 hI
 ·intro vals w5_34_ hb5_34_ hF hG
  have e_34_0 := (hF 0 (by simp)).val rfl
  have e_34_1 := (hF 1 (by simp)).val rfl
  have e_34_2 := (hF 2 (by simp)).val rfl
  have e_34_3 := (hF 3 (by simp)).val rfl
  have e_34_4 := (hF 4 (by simp)).val rfl
  obtain ⟨b_34_5, l_34_5, e_34_5, h_34_5⟩ := (hF 5 (by simp)).al rfl rfl
  clear hF hG
  simp only [List.foldl_cons, List.foldl_nil, dstOf, List.getElem?_toArray, List.getElem?_cons_succ, List.getElem?_cons_zero, Option.bind_some, Act.put, List.setIfInBounds_toArray, List.set_cons_succ, List.set_cons_zero, e_34_0, e_34_1, e_34_2, e_34_3, e_34_4, e_34_5]
  clear e_34_0 e_34_1 e_34_2 e_34_3 e_34_4 e_34_5
  refine wpAny_chain [6] _ _ _ _ (by kernel_rfl) (by decide) ?_
  simp only [List.filterMap_cons, List.filterMap_nil, List.getElem?_toArray, List.getElem?_cons_succ, List.getElem?_cons_zero]
  have k35 := k25.below hb5_34_ (by omega)
  have k36 := k26.below hb5_34_ (by omega)
  have k37 := k24.below hb5_34_ (by omega)
  have lo38 := lo27.trans (hb5_34_.mono (by omega))
  clear k25 k26 k24 lo27 hb5_34_
  refine wpl_store rfl 41 (.tmp 9) (.tmp 24) rfl b_34_5 6 (rC (joinR (csA Z0 n0 5#64 u0) (csA Z1 n1 3#64 u1))) rfl rfl 41 _ h_34_5 szR (fun j _ => rC_one _ j) ?_
  intro xw39 t40 k41
  have k42 := k35.touch t40 (by omega)
  have k43 := k36.touch t40 (by omega)
  have k44 := k37.touch t40 (by omega)
  have lo45 := t40.below lo38 (by omega)
  clear h_34_5 k35 k36 k37 lo38 t40
  obtain ⟨M46, hM46⟩ := sz_some xw39
  have lt_47 := k42.ltN hM46
  have lt_48 := k43.ltN hM46
  have lt_49 := k44.ltN hM46
  have lt_50 := k41.ltN hM46
  have CS51 := fun w N hN => Settle_any (csA Z0 n0 5#64 u0) w N hN
  rw [F2.out] at CS51
  go_upto_region 3 with fail
  refine wp_region_lit ?_
  try simp only [pA]
  change wpList _ _ _ ((_ :: _ :: _ :: _ :: _ :: _ :: []) ++ (_ :: _ :: _ :: [])) _ _
  refine wpList_prefix (C := fun w' => ∃ x : Later M46 xw39, w' = x.w') _ _ _ _ ⟨⟨_, Below.refl _ _⟩, rfl⟩ ?_
  refine later_row hM46 34 (.tmp 5) rfl (b_xw6) rfl 34 6 _ k43 undRU szRU (by rfl) ?_; simp only [pA]
  go_big_quiet_step ((go_at_call 26; exact later_of hM46 _ (fun K hK hKN => To14_any (csA Z0 n0 5#64 u0) _ K hK)))
  go_big_quiet_step ((go_at_call 30; exact later_of hM46 _ (fun K hK hKN => CS51 _ K hK)))
  iterate 3 (go_big_quiet_step (fail))
  refine wpQuiet_nil (laterE hM46 ?_)
  intro xw52 M53 hbxw52 hM53 lM53
  have k54 := k42.below hbxw52 (by omega)
  have k55 := k43.below hbxw52 (by omega)
  have k56 := k44.below hbxw52 (by omega)
  have k57 := k41.below hbxw52 (by omega)
  have lo58 := lo45.trans (hbxw52.mono (by omega))
  clear k42 k43 k44 k41 lo45 hbxw52
  obtain ⟨b_xw59, eb_xw59⟩ : ∃ b_xw59, b_xw59 = M53 := ⟨_, rfl⟩
  have hzb_xw59 : Sz xw52 b_xw59 := by rw [eb_xw59]; exact hM53
  have lob_xw59 : M53 ≤ b_xw59 := by omega
  have upb_xw59 : b_xw59 ≤ M53 := by omega
  clear eb_xw59
  refine wpl_alloc rfl 41 rfl 6 (rC zeroR) zeR b_xw59 hzb_xw59 ?_
  intro xw59 hMxw59 hbxw59 hhxw59; simp only [pA]
  have k60 := k54.below hbxw59 (by omega)
  have k61 := k55.below hbxw59 (by omega)
  have k62 := k56.below hbxw59 (by omega)
  have k63 := k57.below hbxw59 (by omega)
  have lo64 := lo58.trans (hbxw59.mono (by omega))
  clear k54 k55 k56 k57 lo58 hbxw59 hzb_xw59
  obtain ⟨M65, eM65⟩ : ∃ M65, M65 = b_xw59 + 1 := ⟨_, rfl⟩
  rw [← eM65] at hMxw59
  have loM65 : b_xw59 + 1 ≤ M65 := by omega
  have upM65 : M65 ≤ b_xw59 + 1 := by omega
  clear eM65
  refine wpl_store rfl 41 (.tmp 10) (.tmp 29) rfl b_xw59 6 (rC (settleF (csA Z0 n0 5#64 u0)).1) rfl rfl 41 _ hhxw59 szR (fun j _ => rC_one _ j) ?_
  intro xw66 t67 k68; try simp only [pA]
  have k69 := k60.touch t67 (by omega)
  have k70 := k61.touch t67 (by omega)
  have k71 := k62.touch t67 (by omega)
  have k72 := k63.touch t67 (by omega)
  have lo73 := t67.below lo64 (by omega)
  have h74 := t67.sz hMxw59
  clear hhxw59 k60 k61 k62 k63 lo64 hMxw59 t67
  refine wpl_run rfl (Value.bool true) _ (run_as (x := (.tmp 30)) rfl _ rfl) ?_; simp only [pA]
  obtain ⟨M75, hM75⟩ := sz_some xw66
  have lt_76 := k69.ltN hM75
  have lt_77 := k70.ltN hM75
  have lt_78 := k71.ltN hM75
  have lt_79 := k72.ltN hM75
  have lt_80 := k68.ltN hM75
  go_upto_region 4 with fail
  refine wp_region_later1 (M75) ?_
  try simp only [pA]
  iterate 2 (go_big_quiet_step (fail))
  refine wpQuiet_nil (laterE hM75 ?_)
  intro xw81 M82 hbxw81 hM82 lM82
  have k83 := k69.below hbxw81 (by omega)
  have k84 := k70.below hbxw81 (by omega)
  have k85 := k71.below hbxw81 (by omega)
  have k86 := k72.below hbxw81 (by omega)
  have k87 := k68.below hbxw81 (by omega)
  have lo88 := lo73.trans (hbxw81.mono (by omega))
  clear k69 k70 k71 k72 k68 lo73 hbxw81
  go_upto_region 5 with fail
  refine wp_region_later1 (M82) ?_
  try simp only [pA]
  iterate 10 (go_big_quiet_step (fail))
  refine wpQuiet_nil (laterE hM82 ?_)
  intro xw89 M90 hbxw89 hM90 lM90
  have k91 := k83.below hbxw89 (by omega)
  have k92 := k84.below hbxw89 (by omega)
  have k93 := k85.below hbxw89 (by omega)
  have k94 := k86.below hbxw89 (by omega)
  have k95 := k87.below hbxw89 (by omega)
  have lo96 := lo88.trans (hbxw89.mono (by omega))
  clear k83 k84 k85 k86 k87 lo88 hbxw89
  go_upto_region 6 with fail
  refine wp_region_later1 (M90) ?_
  try simp only [pA]
  iterate 2 (go_big_quiet_step (fail))
  refine later_val (fun q => run_mulL (x := (.const (.int .i64 8))) (y := (.tmp 43)) rfl rfl rfl (show IntKind.i64.wrap (8 * 2) = 16 by decide) q.w') (by rfl) ?_; simp only [pA]
  refine later_b (x := (.const (.int .u64 1))) (y := (.tmp 44)) rfl (bin_shl _ 1#64 16) rfl rfl (by rfl) ?_; simp only [pA]
  refine later_b (x := (.tmp 42)) (y := (.tmp 45)) rfl (bin_rem _ (csX Z0 n0 5#64 z0) (1#64 <<< 16) (by decide)) rfl rfl (by rfl) ?_; simp only [pA]
  go_big_quiet_step (fail)
  refine wpQuiet_nil (laterE hM90 ?_)
  intro xw97 M98 hbxw97 hM98 lM98
  have k99 := k91.below hbxw97 (by omega)
  have k100 := k92.below hbxw97 (by omega)
  have k101 := k93.below hbxw97 (by omega)
  have k102 := k94.below hbxw97 (by omega)
  have k103 := k95.below hbxw97 (by omega)
  have lo104 := lo96.trans (hbxw97.mono (by omega))
  clear k91 k92 k93 k94 k95 lo96 hbxw97
  go_upto_region 7 with fail
  refine wp_region_later1 (M98) ?_
  try simp only [pA]
  go_big_quiet_step ((go_at_call 21; exact later_of hM98 _ (fun K hK hKN => evals_any _ K hK)))
  iterate 2 (go_big_quiet_step (fail))
  refine later_row hM98 41 (.tmp 9) rfl (b_34_5) rfl 41 6 _ k102 undR szR (by rfl) ?_; simp only [pA]
  go_big_quiet_step (fail)
  go_big_quiet_step ((go_at_call 25; exact later_of hM98 _ (fun K hK hKN => ret_is F0.out (SHas_any (joinR (csA Z0 n0 5#64 u0) (csA Z1 n1 3#64 u1)) (csX Z0 n0 5#64 z0)) _ K hK)))
  iterate 3 (go_big_quiet_step (fail))
  refine later_row hM98 41 (.tmp 9) rfl (b_34_5) rfl 41 6 _ k102 undR szR (by rfl) ?_; simp only [pA]
  go_big_quiet_step (fail)
  go_big_quiet_step ((go_at_call 25; exact later_of hM98 _ (fun K hK hKN => ret_is F1.out (SHas_any (joinR (csA Z0 n0 5#64 u0) (csA Z1 n1 3#64 u1)) (csX Z1 n1 3#64 z1)) _ K hK)))
  iterate 7 (go_big_quiet_step (fail))
  refine later_row hM98 41 (.tmp 10) rfl (b_xw59) rfl 41 6 _ k103 undR szR (by rfl) ?_; simp only [pA]
  go_big_quiet_step (fail)
  go_big_quiet_step ((go_at_call 25; exact later_of hM98 _ (fun K hK hKN => ret_is F3.out (SHas_any (settleF (csA Z0 n0 5#64 u0)).1 (csX Z0 n0 5#64 z0)) _ K hK)))
  iterate 3 (go_big_quiet_step (fail))
  refine later_row hM98 34 (.tmp 5) rfl (b_xw6) rfl 34 6 _ k100 undRU szRU (by rfl) ?_; simp only [pA]
  go_big_quiet_step ((go_at_call 26; exact later_of hM98 _ (fun K hK hKN => To14_any (csA Z0 n0 5#64 u0) _ K hK)))
  go_big_quiet_step (fail)
  go_big_quiet_step ((go_at_call 31; exact later_of hM98 _ (fun K hK hKN => SLow_2 (csA Z0 n0 5#64 u0) _ K hK)))
  go_big_quiet_step (fail)
  go_big_quiet_step ((go_at_call 25; exact later_of hM98 _ (fun K hK hKN => ret_is F6.out (SHas_any (lowR2 (csA Z0 n0 5#64 u0)) ((csX Z0 n0 5#64 z0) % (1#64 <<< 16))) _ K hK)))
  iterate 2 (go_big_quiet_step (fail))
  refine wpQuiet_nil (laterE hM98 ?_)
  intro xw105 M106 hbxw105 hM106 lM106
  have k107 := k99.below hbxw105 (by omega)
  have k108 := k100.below hbxw105 (by omega)
  have k109 := k101.below hbxw105 (by omega)
  have k110 := k102.below hbxw105 (by omega)
  have k111 := k103.below hbxw105 (by omega)
  have lo112 := lo104.trans (hbxw105.mono (by omega))
  clear k99 k100 k101 k102 k103 lo104 hbxw105
  go_upto_region 9 with fail
  obtain ⟨c113, c114, c115, c116, c117, c118⟩ := r_cells k111
  obtain ⟨c119, c120, c121, c122, c123, c124⟩ := r_cells k108
  refine wp_region_later1 (M106) ?_
  try simp only [pA]
  go_big_quiet_step (fail)
  refine later_c1 hM106 22 (.tmp 80) rfl rfl und64 rfl c115 (by rfl) ?_; simp only [pA]
  go_big_quiet_step (fail)
  refine later_c1 hM106 22 (.tmp 82) rfl rfl und64 rfl c121 (by rfl) ?_; simp only [pA]
  refine later_b (x := (.tmp 81)) (y := (.tmp 83)) rfl (BinRun.is G0.out (bin_lss _ (settleF (csA Z0 n0 5#64 u0)).1.lo (csA Z0 n0 5#64 u0).lo)) rfl rfl (by rfl) ?_; simp only [pA]
  iterate 2 (go_big_quiet_step (fail))
  refine later_c1 hM106 22 (.tmp 86) rfl rfl und64 rfl c116 (by rfl) ?_; simp only [pA]
  go_big_quiet_step (fail)
  refine later_c1 hM106 22 (.tmp 88) rfl rfl und64 rfl c122 (by rfl) ?_; simp only [pA]
  refine later_b (x := (.tmp 87)) (y := (.tmp 89)) rfl (BinRun.is G1.out (bin_gtr _ (settleF (csA Z0 n0 5#64 u0)).1.hi (csA Z0 n0 5#64 u0).hi)) rfl rfl (by rfl) ?_; simp only [pA]
  iterate 3 (go_big_quiet_step (fail))
  refine later_c1 hM106 2 (.tmp 93) rfl rfl undI64 rfl c117 (by rfl) ?_; simp only [pA]
  go_big_quiet_step (fail)
  refine later_c1 hM106 2 (.tmp 95) rfl rfl undI64 rfl c123 (by rfl) ?_; simp only [pA]
  refine later_b (x := (.tmp 94)) (y := (.tmp 96)) rfl (BinRun.is G2.out (bin_slss _ (settleF (csA Z0 n0 5#64 u0)).1.sl (csA Z0 n0 5#64 u0).sl)) rfl rfl (by rfl) ?_; simp only [pA]
  iterate 3 (go_big_quiet_step (fail))
  refine later_c1 hM106 2 (.tmp 100) rfl rfl undI64 rfl c118 (by rfl) ?_; simp only [pA]
  go_big_quiet_step (fail)
  refine later_c1 hM106 2 (.tmp 102) rfl rfl undI64 rfl c124 (by rfl) ?_; simp only [pA]
  refine later_b (x := (.tmp 101)) (y := (.tmp 103)) rfl (BinRun.is G3.out (bin_sgtr _ (settleF (csA Z0 n0 5#64 u0)).1.sh (csA Z0 n0 5#64 u0).sh)) rfl rfl (by rfl) ?_; simp only [pA]
  iterate 4 (go_big_quiet_step (fail))
  refine later_c1 hM106 22 (.tmp 108) rfl rfl und64 rfl c114 (by rfl) ?_; simp only [pA]
  iterate 2 (go_big_quiet_step (fail))
  refine later_c1 hM106 22 (.tmp 111) rfl rfl und64 rfl c120 (by rfl) ?_; simp only [pA]
  refine later_b (x := (.tmp 109)) (y := (.tmp 112)) rfl (bin_andn _ (settleF (csA Z0 n0 5#64 u0)).1.b.m (csA Z0 n0 5#64 u0).b.m) rfl rfl (by rfl) ?_; simp only [pA]
  refine later_b (x := (.tmp 113)) (y := (.const (.int .u64 0))) rfl (BinRun.is G4.out (bin_neq _ ((settleF (csA Z0 n0 5#64 u0)).1.b.m &&& ~~~(csA Z0 n0 5#64 u0).b.m) 0#64)) rfl rfl (by rfl) ?_; simp only [pA]
  go_big_quiet_step (fail)
  refine wpQuiet_nil (laterE hM106 ?_)
  intro xw125 M126 hbxw125 hM126 lM126
  have k127 := k107.below hbxw125 (by omega)
  have k128 := k108.below hbxw125 (by omega)
  have k129 := k109.below hbxw125 (by omega)
  have k130 := k110.below hbxw125 (by omega)
  have k131 := k111.below hbxw125 (by omega)
  have lo132 := lo112.trans (hbxw125.mono (by omega))
  clear k107 k108 c119 c120 c121 c122 c123 c124 k109 k110 k111 c113 c114 c115 c116 c117 c118 lo112 hbxw125
  go_upto_region 11 with fail
  refine wp_region_later (M126) (by kernel_rfl) (by kernel_rfl) ?_
  try simp only [pA]
  refine later_row hM126 34 (.tmp 5) rfl (b_xw6) rfl 34 6 _ k128 undRU szRU (by rfl) ?_; simp only [pA]
  go_big_quiet_step ((go_at_call 26; exact later_of hM126 _ (fun K hK hKN => To14_any (csA Z0 n0 5#64 u0) _ K hK)))
  refine later_row hM126 34 (.tmp 6) rfl (b_xw10) rfl 34 6 _ k129 undRU szRU (by rfl) ?_; simp only [pA]
  go_big_quiet_step ((go_at_call 26; exact later_of hM126 _ (fun K hK hKN => To14_any (csA Z1 n1 3#64 u1) _ K hK)))
  go_big_quiet_step ((go_at_call 32; exact later_of hM126 _ (fun K hK hKN => ret_is HW.out (SWithin_any (csA Z0 n0 5#64 u0) (csA Z1 n1 3#64 u1)) _ K hK)))
  go_big_quiet_step (fail)
  refine later_row hM126 34 (.tmp 6) rfl (b_xw10) rfl 34 6 _ k129 undRU szRU (by rfl) ?_; simp only [pA]
  go_big_quiet_step ((go_at_call 26; exact later_of hM126 _ (fun K hK hKN => To14_any (csA Z1 n1 3#64 u1) _ K hK)))
  go_big_quiet_step (fail)
  go_big_quiet_step ((go_at_call 25; exact later_of hM126 _ (fun K hK hKN => ret_is F7.out (SHas_any (csA Z1 n1 3#64 u1) (csX Z0 n0 5#64 z0)) _ K hK)))
  iterate 2 (go_big_quiet_step (fail))
  refine wpQuiet_nil (laterE hM126 ?_)
  intro xw133 M134 hbxw133 hM134 lM134
  have k135 := k127.below hbxw133 (by omega)
  have k136 := k128.below hbxw133 (by omega)
  have k137 := k129.below hbxw133 (by omega)
  have k138 := k130.below hbxw133 (by omega)
  have k139 := k131.below hbxw133 (by omega)
  have lo140 := lo132.trans (hbxw133.mono (by omega))
  clear k127 k128 k129 k130 k131 lo132 hbxw133
  go_upto_region 13 with fail
  refine wp_region_later (M134) (by kernel_rfl) (by kernel_rfl) ?_
  try simp only [pA]
  refine later_row hM134 34 (.tmp 5) rfl (b_xw6) rfl 34 6 _ k136 undRU szRU (by rfl) ?_; simp only [pA]
  go_big_quiet_step ((go_at_call 26; exact later_of hM134 _ (fun K hK hKN => To14_any (csA Z0 n0 5#64 u0) _ K hK)))
  refine later_row hM134 34 (.tmp 5) rfl (b_xw6) rfl 34 6 _ k136 undRU szRU (by rfl) ?_; simp only [pA]
  go_big_quiet_step ((go_at_call 26; exact later_of hM134 _ (fun K hK hKN => To14_any (csA Z0 n0 5#64 u0) _ K hK)))
  go_big_quiet_step ((go_at_call 32; exact later_of hM134 _ (fun K hK hKN => ret_is F4.out (SWithin_any (csA Z0 n0 5#64 u0) (csA Z0 n0 5#64 u0)) _ K hK)))
  go_big_quiet_step (fail)
  refine later_row hM134 34 (.tmp 5) rfl (b_xw6) rfl 34 6 _ k136 undRU szRU (by rfl) ?_; simp only [pA]
  go_big_quiet_step ((go_at_call 26; exact later_of hM134 _ (fun K hK hKN => To14_any (csA Z0 n0 5#64 u0) _ K hK)))
  go_big_quiet_step ((go_at_call 33; exact later_of hM134 _ (fun K hK hKN => SAny_any  _ K hK)))
  go_big_quiet_step ((go_at_call 32; exact later_of hM134 _ (fun K hK hKN => ret_is F5.out (SWithin_any (csA Z0 n0 5#64 u0) (obR tAny)) _ K hK)))
  iterate 2 (go_big_quiet_step (fail))
  refine wpQuiet_nil (laterE hM134 ?_)
  intro xw141 M142 hbxw141 hM142 lM142
  have k143 := k135.below hbxw141 (by omega)
  have k144 := k136.below hbxw141 (by omega)
  have k145 := k137.below hbxw141 (by omega)
  have k146 := k138.below hbxw141 (by omega)
  have k147 := k139.below hbxw141 (by omega)
  have lo148 := lo140.trans (hbxw141.mono (by omega))
  clear k135 k136 k137 k138 k139 lo140 hbxw141
  go_wp2_with fail
  go_ret
  exact ⟨rfl, lo148⟩
set_option maxRecDepth 100000 in
set_option maxHeartbeats 8000000 in
theorem law_sjoins_2f (Z0 Z1 : Nat → W) (p0 p1 : Option Addr) (n0 c0 n1 c1 : Nat) (z0 z1 : Int) (u0 u1 : W) (w : World) (N : Nat) (hN : Sz w N) (hc0 : n0 ≤ c0) (hc1 : n1 ≤ c1) (hw0 : Ats w p0 n0 (fun j => Q (Z0 j))) (hw1 : Ats w p1 n1 (fun j => Q (Z1 j))) (HW : Hid (sWithin (csA Z0 n0 5#64 u0) (csA Z1 n1 3#64 u1) = false)) : Calls Try.prog 6 #[(Value.agg (cellsOf (caC ⟨p0, n0, c0, p1, n1, c1, z0, z1, u0, u1⟩) 6)), (Value.int .i64 2)] w fun e w' => e = .returned (.bool true) ∧ Below N w w' := by
 have NR := hid (settle_nar (settle_in (cs_in Z0 n0 5#64 u0 z0)).1)
 have F0 := hid (show (sHas (joinR (csA Z0 n0 5#64 u0) (csA Z1 n1 3#64 u1)) (csX Z0 n0 5#64 z0)) = true from (join_in_l (cs_in Z0 n0 5#64 u0 z0) (cs_rgt Z1 n1 3#64 u1)).has)
 have F1 := hid (show (sHas (joinR (csA Z0 n0 5#64 u0) (csA Z1 n1 3#64 u1)) (csX Z1 n1 3#64 z1)) = true from (join_in_r (cs_in Z1 n1 3#64 u1 z1) (cs_rgt Z0 n0 5#64 u0)).has)
 have F2 := hid (show (settleF (csA Z0 n0 5#64 u0)).2 = true from (settle_in (cs_in Z0 n0 5#64 u0 z0)).1)
 have F3 := hid (show (sHas (settleF (csA Z0 n0 5#64 u0)).1 (csX Z0 n0 5#64 z0)) = true from (settle_in (cs_in Z0 n0 5#64 u0 z0)).2.has)
 have F4 := hid (show (sWithin (csA Z0 n0 5#64 u0) (csA Z0 n0 5#64 u0)) = true from sWithin_self (cs_rgt Z0 n0 5#64 u0))
 have F5 := hid (show (sWithin (csA Z0 n0 5#64 u0) (obR tAny)) = true from sWithin_any _)
 have F6 := hid (show (sHas (lowR2 (csA Z0 n0 5#64 u0)) ((csX Z0 n0 5#64 z0) % (1#64 <<< 16))) = true from low_2 (cs_in Z0 n0 5#64 u0 z0))
 have G0 := hid (show (BitVec.ult (settleF (csA Z0 n0 5#64 u0)).1.lo (csA Z0 n0 5#64 u0).lo) = false from nar_lo NR.out.1)
 have G1 := hid (show (BitVec.ult (csA Z0 n0 5#64 u0).hi (settleF (csA Z0 n0 5#64 u0)).1.hi) = false from nar_hi NR.out.1)
 have G2 := hid (show (BitVec.slt (settleF (csA Z0 n0 5#64 u0)).1.sl (csA Z0 n0 5#64 u0).sl) = false from nar_sl NR.out.1)
 have G3 := hid (show (BitVec.slt (csA Z0 n0 5#64 u0).sh (settleF (csA Z0 n0 5#64 u0)).1.sh) = false from nar_sh NR.out.1)
 have G4 := hid (show (((settleF (csA Z0 n0 5#64 u0)).1.b.m &&& ~~~(csA Z0 n0 5#64 u0).b.m) != 0#64) = false from NR.out.1.mask NR.out.2.1)
 go_enter Try.func6, Try.ntmps6
 go_upto_region 1 with (first
  | (refine wpl_box rfl 30 (.tmp 0) rfl 6 _ rfl (N) hN ?_; intro w1 hN1 hb1 hh1)
  | fail)
 have lo0 : Below N w w1 := hb1
 have k1 := hh1
 clear hh1 hb1
 go_upto_region 1 with fail
 refine wp_region_lit ?_
 try simp only [pA]
 change wpList _ _ _ ((_ :: _ :: _ :: _ :: _ :: _ :: _ :: []) ++ (_ :: _ :: _ :: _ :: _ :: _ :: [])) _ _
 refine wpList_prefix (C := fun w' => ∃ x : Later (N + 1) w1, w' = x.w') _ _ _ _ ⟨⟨_, Below.refl _ _⟩, rfl⟩ ?_
 refine later_row hN1 30 (.tmp 2) rfl (N) rfl 30 6 _ k1 undCs szCs (by rfl) ?_; simp only [pA]
 go_big_quiet_step ((go_at_call 24; exact later_ofB hN1 _ (fun K hK hbB => Ranges_any Z0 Z1 p0 p1 n0 c0 n1 c1 z0 z1 u0 u1 hc0 hc1 _ K hK ((hw0.below hN lo0).below hN1 hbB) ((hw1.below hN lo0).below hN1 hbB))))
 iterate 5 (go_big_quiet_step (fail))
 refine wpQuiet_nil (laterE hN1 ?_)
 intro xw2 M3 hbxw2 hM3 lM3
 have k4 := k1.below hbxw2 (by omega)
 have lo5 := lo0.trans (hbxw2.mono (by omega))
 clear k1 lo0 hbxw2
 obtain ⟨b_xw6, eb_xw6⟩ : ∃ b_xw6, b_xw6 = M3 := ⟨_, rfl⟩
 have hzb_xw6 : Sz xw2 b_xw6 := by rw [eb_xw6]; exact hM3
 have lob_xw6 : M3 ≤ b_xw6 := by omega
 have upb_xw6 : b_xw6 ≤ M3 := by omega
 clear eb_xw6
 refine wpl_alloc rfl 34 rfl 6 (rC zeroR) zeRU b_xw6 hzb_xw6 ?_
 intro xw6 hMxw6 hbxw6 hhxw6; simp only [pA]
 have k7 := k4.below hbxw6 (by omega)
 have lo8 := lo5.trans (hbxw6.mono (by omega))
 clear k4 lo5 hbxw6 hzb_xw6
 obtain ⟨M9, eM9⟩ : ∃ M9, M9 = b_xw6 + 1 := ⟨_, rfl⟩
 rw [← eM9] at hMxw6
 have loM9 : b_xw6 + 1 ≤ M9 := by omega
 have upM9 : M9 ≤ b_xw6 + 1 := by omega
 clear eM9
 obtain ⟨b_xw10, eb_xw10⟩ : ∃ b_xw10, b_xw10 = M9 := ⟨_, rfl⟩
 have hzb_xw10 : Sz xw6 b_xw10 := by rw [eb_xw10]; exact hMxw6
 have lob_xw10 : M9 ≤ b_xw10 := by omega
 have upb_xw10 : b_xw10 ≤ M9 := by omega
 clear eb_xw10
 refine wpl_alloc rfl 34 rfl 6 (rC zeroR) zeRU b_xw10 hzb_xw10 ?_
 intro xw10 hMxw10 hbxw10 hhxw10; simp only [pA]
 have k11 := k7.below hbxw10 (by omega)
 have k12 := hhxw6.below hbxw10 (by omega)
 have lo13 := lo8.trans (hbxw10.mono (by omega))
 clear k7 hhxw6 lo8 hbxw10 hzb_xw10
 obtain ⟨M14, eM14⟩ : ∃ M14, M14 = b_xw10 + 1 := ⟨_, rfl⟩
 rw [← eM14] at hMxw10
 have loM14 : b_xw10 + 1 ≤ M14 := by omega
 have upM14 : M14 ≤ b_xw10 + 1 := by omega
 clear eM14
 refine wpl_store rfl 34 (.tmp 5) (.tmp 16) rfl b_xw6 6 (rC (csA Z0 n0 5#64 u0)) rfl rfl 34 _ k12 szRU (fun j _ => rC_one _ j) ?_
 intro xw15 t16 k17; try simp only [pA]
 have k18 := k11.touch t16 (by omega)
 have k19 := hhxw10.touch t16 (by omega)
 have lo20 := t16.below lo13 (by omega)
 have h21 := t16.sz hMxw10
 clear k12 k11 hhxw10 lo13 hMxw10 t16
 refine wpl_store rfl 34 (.tmp 6) (.tmp 17) rfl b_xw10 6 (rC (csA Z1 n1 3#64 u1)) rfl rfl 34 _ k19 szRU (fun j _ => rC_one _ j) ?_
 intro xw22 t23 k24; try simp only [pA]
 have k25 := k18.touch t23 (by omega)
 have k26 := k17.touch t23 (by omega)
 have lo27 := t23.below lo20 (by omega)
 have h28 := t23.sz h21
 clear k19 k18 k17 lo20 h21 t23
 refine wpl_run rfl (Q (csX Z0 n0 5#64 z0)) _ (run_as (x := (.tmp 18)) rfl _ rfl) ?_; simp only [pA]
 refine wpl_run rfl (Q (csX Z1 n1 3#64 z1)) _ (run_as (x := (.tmp 19)) rfl _ rfl) ?_; simp only [pA]
 obtain ⟨M29, hM29⟩ := sz_some xw22
 have lt_30 := k25.ltN hM29
 have lt_31 := k26.ltN hM29
 have lt_32 := k24.ltN hM29
 go_upto_region 2 with fail
 refine wp_region_any (by kernel_rfl) ?_
 replace k25 : Has xw22.drew N 30 6 (caC ⟨p0, n0, c0, p1, n1, c1, z0, z1, u0, u1⟩) := k25
 replace k26 : Has xw22.drew b_xw6 34 6 (rC (csA Z0 n0 5#64 u0)) := k26
 replace k24 : Has xw22.drew b_xw10 34 6 (rC (csA Z1 n1 3#64 u1)) := k24
 replace hM29 : Sz xw22.drew M29 := hM29
 replace lo27 : Below N w xw22.drew := lo27.drew
 change wpAny _ _ _ _ _ _ _ (World.drew _)
 generalize xw22.drew = xw33 at *
 refine wpAny_pot (rem := [0, 1, 2, 3, 4, 5]) (FG M29 (fun j => if j = 0 then some (Value.agg (cellsOf (rC (csA Z0 n0 5#64 u0)) 6)) else if j = 1 then some (Value.agg (cellsOf (rC (csA Z0 n0 5#64 u0)) 6)) else if j = 2 then some (Value.agg (cellsOf (rC (csA Z1 n1 3#64 u1)) 6)) else if j = 3 then some (Value.agg (cellsOf (rC (csA Z1 n1 3#64 u1)) 6)) else if j = 4 then some (Value.agg (cellsOf (rC (joinR (csA Z0 n0 5#64 u0) (csA Z1 n1 3#64 u1))) 6)) else none) (fun j => (41, 6, rC zeroR))) (TwoN (fun j => if j = 0 then some (Value.agg (cellsOf (rC (csA Z0 n0 5#64 u0)) 6)) else if j = 1 then some (Value.agg (cellsOf (rC (csA Z0 n0 5#64 u0)) 6)) else if j = 2 then some (Value.agg (cellsOf (rC (csA Z1 n1 3#64 u1)) 6)) else if j = 3 then some (Value.agg (cellsOf (rC (csA Z1 n1 3#64 u1)) 6)) else if j = 4 then some (Value.agg (cellsOf (rC (joinR (csA Z0 n0 5#64 u0) (csA Z1 n1 3#64 u1))) 6)) else none)) (Below M29 xw33) _ _ _ _ (by kernel_rfl) (size_dstG (by kernel_rfl)) (Below.refl _ _) ?_ ?_
 ·intro i hi ac wa hI ha hv
  simp only [List.mem_cons, List.not_mem_nil, or_false] at hi
  rcases hi with rfl | rfl | rfl | rfl | rfl | rfl
  ·exact potg_run rfl rfl (Value.agg (cellsOf (rC (csA Z0 n0 5#64 u0)) 6)) rfl (run_rw 34 (.tmp 5) rfl b_xw6 (ha 5 (not_dstG (by kernel_rfl))) 34 6 _ (Has.below k26 hI (Has.ltN k26 hM29)) undRU szRU) hM29 hI
  ·obtain ⟨v0, hv0a, hv0b⟩ := hv 0 (by simp) (by kernel_rfl)
   have ev0 := hv0b.val rfl
   subst ev0
   exact potg_cl rfl rfl 26 _ _ rfl #[(Value.agg (cellsOf (rC (csA Z0 n0 5#64 u0)) 6))] (by simp only [List.map_toArray, List.map_cons, List.map_nil, (show ac.eval (.tmp 20) = (Value.agg (cellsOf (rC (csA Z0 n0 5#64 u0)) 6)) from (hv0a 20 rfl))] <;> rfl) (by kernel_rfl) (Value.agg (cellsOf (rC (csA Z0 n0 5#64 u0)) 6)) (fun K hK => To14_any (csA Z0 n0 5#64 u0) wa K hK) rfl hM29 hI
  ·exact potg_run rfl rfl (Value.agg (cellsOf (rC (csA Z1 n1 3#64 u1)) 6)) rfl (run_rw 34 (.tmp 6) rfl b_xw10 (ha 6 (not_dstG (by kernel_rfl))) 34 6 _ (Has.below k24 hI (Has.ltN k24 hM29)) undRU szRU) hM29 hI
  ·obtain ⟨v2, hv2a, hv2b⟩ := hv 2 (by simp) (by kernel_rfl)
   have ev2 := hv2b.val rfl
   subst ev2
   exact potg_cl rfl rfl 26 _ _ rfl #[(Value.agg (cellsOf (rC (csA Z1 n1 3#64 u1)) 6))] (by simp only [List.map_toArray, List.map_cons, List.map_nil, (show ac.eval (.tmp 22) = (Value.agg (cellsOf (rC (csA Z1 n1 3#64 u1)) 6)) from (hv2a 22 rfl))] <;> rfl) (by kernel_rfl) (Value.agg (cellsOf (rC (csA Z1 n1 3#64 u1)) 6)) (fun K hK => To14_any (csA Z1 n1 3#64 u1) wa K hK) rfl hM29 hI
  ·obtain ⟨v1, hv1a, hv1b⟩ := hv 1 (by simp) (by kernel_rfl)
   have ev1 := hv1b.val rfl
   subst ev1
   obtain ⟨v3, hv3a, hv3b⟩ := hv 3 (by simp) (by kernel_rfl)
   have ev3 := hv3b.val rfl
   subst ev3
   exact potg_cl rfl rfl 29 _ _ rfl #[(Value.agg (cellsOf (rC (csA Z0 n0 5#64 u0)) 6)), (Value.agg (cellsOf (rC (csA Z1 n1 3#64 u1)) 6))] (by simp only [List.map_toArray, List.map_cons, List.map_nil, (show ac.eval (.tmp 21) = (Value.agg (cellsOf (rC (csA Z0 n0 5#64 u0)) 6)) from (hv1a 21 rfl)), (show ac.eval (.tmp 23) = (Value.agg (cellsOf (rC (csA Z1 n1 3#64 u1)) 6)) from (hv3a 23 rfl))] <;> rfl) (by kernel_rfl) (Value.agg (cellsOf (rC (joinR (csA Z0 n0 5#64 u0) (csA Z1 n1 3#64 u1))) 6)) (fun K hK => SJoin_any (csA Z0 n0 5#64 u0) (csA Z1 n1 3#64 u1) wa K hK) rfl hM29 hI
  ·exact potg_al rfl rfl rfl zeR rfl rfl hM29 hI
 ·intro vals w5_34_ hb5_34_ hF hG
  have e_34_0 := (hF 0 (by simp)).val rfl
  have e_34_1 := (hF 1 (by simp)).val rfl
  have e_34_2 := (hF 2 (by simp)).val rfl
  have e_34_3 := (hF 3 (by simp)).val rfl
  have e_34_4 := (hF 4 (by simp)).val rfl
  obtain ⟨b_34_5, l_34_5, e_34_5, h_34_5⟩ := (hF 5 (by simp)).al rfl rfl
  clear hF hG
  simp only [List.foldl_cons, List.foldl_nil, dstOf, List.getElem?_toArray, List.getElem?_cons_succ, List.getElem?_cons_zero, Option.bind_some, Act.put, List.setIfInBounds_toArray, List.set_cons_succ, List.set_cons_zero, e_34_0, e_34_1, e_34_2, e_34_3, e_34_4, e_34_5]
  clear e_34_0 e_34_1 e_34_2 e_34_3 e_34_4 e_34_5
  refine wpAny_chain [6] _ _ _ _ (by kernel_rfl) (by decide) ?_
  simp only [List.filterMap_cons, List.filterMap_nil, List.getElem?_toArray, List.getElem?_cons_succ, List.getElem?_cons_zero]
  have k35 := k25.below hb5_34_ (by omega)
  have k36 := k26.below hb5_34_ (by omega)
  have k37 := k24.below hb5_34_ (by omega)
  have lo38 := lo27.trans (hb5_34_.mono (by omega))
  clear k25 k26 k24 lo27 hb5_34_
  refine wpl_store rfl 41 (.tmp 9) (.tmp 24) rfl b_34_5 6 (rC (joinR (csA Z0 n0 5#64 u0) (csA Z1 n1 3#64 u1))) rfl rfl 41 _ h_34_5 szR (fun j _ => rC_one _ j) ?_
  intro xw39 t40 k41
  have k42 := k35.touch t40 (by omega)
  have k43 := k36.touch t40 (by omega)
  have k44 := k37.touch t40 (by omega)
  have lo45 := t40.below lo38 (by omega)
  clear h_34_5 k35 k36 k37 lo38 t40
  obtain ⟨M46, hM46⟩ := sz_some xw39
  have lt_47 := k42.ltN hM46
  have lt_48 := k43.ltN hM46
  have lt_49 := k44.ltN hM46
  have lt_50 := k41.ltN hM46
  have CS51 := fun w N hN => Settle_any (csA Z0 n0 5#64 u0) w N hN
  rw [F2.out] at CS51
  go_upto_region 3 with fail
  refine wp_region_lit ?_
  try simp only [pA]
  change wpList _ _ _ ((_ :: _ :: _ :: _ :: _ :: _ :: []) ++ (_ :: _ :: _ :: [])) _ _
  refine wpList_prefix (C := fun w' => ∃ x : Later M46 xw39, w' = x.w') _ _ _ _ ⟨⟨_, Below.refl _ _⟩, rfl⟩ ?_
  refine later_row hM46 34 (.tmp 5) rfl (b_xw6) rfl 34 6 _ k43 undRU szRU (by rfl) ?_; simp only [pA]
  go_big_quiet_step ((go_at_call 26; exact later_of hM46 _ (fun K hK hKN => To14_any (csA Z0 n0 5#64 u0) _ K hK)))
  go_big_quiet_step ((go_at_call 30; exact later_of hM46 _ (fun K hK hKN => CS51 _ K hK)))
  iterate 3 (go_big_quiet_step (fail))
  refine wpQuiet_nil (laterE hM46 ?_)
  intro xw52 M53 hbxw52 hM53 lM53
  have k54 := k42.below hbxw52 (by omega)
  have k55 := k43.below hbxw52 (by omega)
  have k56 := k44.below hbxw52 (by omega)
  have k57 := k41.below hbxw52 (by omega)
  have lo58 := lo45.trans (hbxw52.mono (by omega))
  clear k42 k43 k44 k41 lo45 hbxw52
  obtain ⟨b_xw59, eb_xw59⟩ : ∃ b_xw59, b_xw59 = M53 := ⟨_, rfl⟩
  have hzb_xw59 : Sz xw52 b_xw59 := by rw [eb_xw59]; exact hM53
  have lob_xw59 : M53 ≤ b_xw59 := by omega
  have upb_xw59 : b_xw59 ≤ M53 := by omega
  clear eb_xw59
  refine wpl_alloc rfl 41 rfl 6 (rC zeroR) zeR b_xw59 hzb_xw59 ?_
  intro xw59 hMxw59 hbxw59 hhxw59; simp only [pA]
  have k60 := k54.below hbxw59 (by omega)
  have k61 := k55.below hbxw59 (by omega)
  have k62 := k56.below hbxw59 (by omega)
  have k63 := k57.below hbxw59 (by omega)
  have lo64 := lo58.trans (hbxw59.mono (by omega))
  clear k54 k55 k56 k57 lo58 hbxw59 hzb_xw59
  obtain ⟨M65, eM65⟩ : ∃ M65, M65 = b_xw59 + 1 := ⟨_, rfl⟩
  rw [← eM65] at hMxw59
  have loM65 : b_xw59 + 1 ≤ M65 := by omega
  have upM65 : M65 ≤ b_xw59 + 1 := by omega
  clear eM65
  refine wpl_store rfl 41 (.tmp 10) (.tmp 29) rfl b_xw59 6 (rC (settleF (csA Z0 n0 5#64 u0)).1) rfl rfl 41 _ hhxw59 szR (fun j _ => rC_one _ j) ?_
  intro xw66 t67 k68; try simp only [pA]
  have k69 := k60.touch t67 (by omega)
  have k70 := k61.touch t67 (by omega)
  have k71 := k62.touch t67 (by omega)
  have k72 := k63.touch t67 (by omega)
  have lo73 := t67.below lo64 (by omega)
  have h74 := t67.sz hMxw59
  clear hhxw59 k60 k61 k62 k63 lo64 hMxw59 t67
  refine wpl_run rfl (Value.bool true) _ (run_as (x := (.tmp 30)) rfl _ rfl) ?_; simp only [pA]
  obtain ⟨M75, hM75⟩ := sz_some xw66
  have lt_76 := k69.ltN hM75
  have lt_77 := k70.ltN hM75
  have lt_78 := k71.ltN hM75
  have lt_79 := k72.ltN hM75
  have lt_80 := k68.ltN hM75
  go_upto_region 4 with fail
  refine wp_region_later1 (M75) ?_
  try simp only [pA]
  iterate 2 (go_big_quiet_step (fail))
  refine wpQuiet_nil (laterE hM75 ?_)
  intro xw81 M82 hbxw81 hM82 lM82
  have k83 := k69.below hbxw81 (by omega)
  have k84 := k70.below hbxw81 (by omega)
  have k85 := k71.below hbxw81 (by omega)
  have k86 := k72.below hbxw81 (by omega)
  have k87 := k68.below hbxw81 (by omega)
  have lo88 := lo73.trans (hbxw81.mono (by omega))
  clear k69 k70 k71 k72 k68 lo73 hbxw81
  go_upto_region 5 with fail
  refine wp_region_later1 (M82) ?_
  try simp only [pA]
  iterate 10 (go_big_quiet_step (fail))
  refine wpQuiet_nil (laterE hM82 ?_)
  intro xw89 M90 hbxw89 hM90 lM90
  have k91 := k83.below hbxw89 (by omega)
  have k92 := k84.below hbxw89 (by omega)
  have k93 := k85.below hbxw89 (by omega)
  have k94 := k86.below hbxw89 (by omega)
  have k95 := k87.below hbxw89 (by omega)
  have lo96 := lo88.trans (hbxw89.mono (by omega))
  clear k83 k84 k85 k86 k87 lo88 hbxw89
  go_upto_region 6 with fail
  refine wp_region_later1 (M90) ?_
  try simp only [pA]
  iterate 2 (go_big_quiet_step (fail))
  refine later_val (fun q => run_mulL (x := (.const (.int .i64 8))) (y := (.tmp 43)) rfl rfl rfl (show IntKind.i64.wrap (8 * 2) = 16 by decide) q.w') (by rfl) ?_; simp only [pA]
  refine later_b (x := (.const (.int .u64 1))) (y := (.tmp 44)) rfl (bin_shl _ 1#64 16) rfl rfl (by rfl) ?_; simp only [pA]
  refine later_b (x := (.tmp 42)) (y := (.tmp 45)) rfl (bin_rem _ (csX Z0 n0 5#64 z0) (1#64 <<< 16) (by decide)) rfl rfl (by rfl) ?_; simp only [pA]
  go_big_quiet_step (fail)
  refine wpQuiet_nil (laterE hM90 ?_)
  intro xw97 M98 hbxw97 hM98 lM98
  have k99 := k91.below hbxw97 (by omega)
  have k100 := k92.below hbxw97 (by omega)
  have k101 := k93.below hbxw97 (by omega)
  have k102 := k94.below hbxw97 (by omega)
  have k103 := k95.below hbxw97 (by omega)
  have lo104 := lo96.trans (hbxw97.mono (by omega))
  clear k91 k92 k93 k94 k95 lo96 hbxw97
  go_upto_region 7 with fail
  refine wp_region_later1 (M98) ?_
  try simp only [pA]
  go_big_quiet_step ((go_at_call 21; exact later_of hM98 _ (fun K hK hKN => evals_any _ K hK)))
  iterate 2 (go_big_quiet_step (fail))
  refine later_row hM98 41 (.tmp 9) rfl (b_34_5) rfl 41 6 _ k102 undR szR (by rfl) ?_; simp only [pA]
  go_big_quiet_step (fail)
  go_big_quiet_step ((go_at_call 25; exact later_of hM98 _ (fun K hK hKN => ret_is F0.out (SHas_any (joinR (csA Z0 n0 5#64 u0) (csA Z1 n1 3#64 u1)) (csX Z0 n0 5#64 z0)) _ K hK)))
  iterate 3 (go_big_quiet_step (fail))
  refine later_row hM98 41 (.tmp 9) rfl (b_34_5) rfl 41 6 _ k102 undR szR (by rfl) ?_; simp only [pA]
  go_big_quiet_step (fail)
  go_big_quiet_step ((go_at_call 25; exact later_of hM98 _ (fun K hK hKN => ret_is F1.out (SHas_any (joinR (csA Z0 n0 5#64 u0) (csA Z1 n1 3#64 u1)) (csX Z1 n1 3#64 z1)) _ K hK)))
  iterate 7 (go_big_quiet_step (fail))
  refine later_row hM98 41 (.tmp 10) rfl (b_xw59) rfl 41 6 _ k103 undR szR (by rfl) ?_; simp only [pA]
  go_big_quiet_step (fail)
  go_big_quiet_step ((go_at_call 25; exact later_of hM98 _ (fun K hK hKN => ret_is F3.out (SHas_any (settleF (csA Z0 n0 5#64 u0)).1 (csX Z0 n0 5#64 z0)) _ K hK)))
  iterate 3 (go_big_quiet_step (fail))
  refine later_row hM98 34 (.tmp 5) rfl (b_xw6) rfl 34 6 _ k100 undRU szRU (by rfl) ?_; simp only [pA]
  go_big_quiet_step ((go_at_call 26; exact later_of hM98 _ (fun K hK hKN => To14_any (csA Z0 n0 5#64 u0) _ K hK)))
  go_big_quiet_step (fail)
  go_big_quiet_step ((go_at_call 31; exact later_of hM98 _ (fun K hK hKN => SLow_2 (csA Z0 n0 5#64 u0) _ K hK)))
  go_big_quiet_step (fail)
  go_big_quiet_step ((go_at_call 25; exact later_of hM98 _ (fun K hK hKN => ret_is F6.out (SHas_any (lowR2 (csA Z0 n0 5#64 u0)) ((csX Z0 n0 5#64 z0) % (1#64 <<< 16))) _ K hK)))
  iterate 2 (go_big_quiet_step (fail))
  refine wpQuiet_nil (laterE hM98 ?_)
  intro xw105 M106 hbxw105 hM106 lM106
  have k107 := k99.below hbxw105 (by omega)
  have k108 := k100.below hbxw105 (by omega)
  have k109 := k101.below hbxw105 (by omega)
  have k110 := k102.below hbxw105 (by omega)
  have k111 := k103.below hbxw105 (by omega)
  have lo112 := lo104.trans (hbxw105.mono (by omega))
  clear k99 k100 k101 k102 k103 lo104 hbxw105
  go_upto_region 9 with fail
  obtain ⟨c113, c114, c115, c116, c117, c118⟩ := r_cells k111
  obtain ⟨c119, c120, c121, c122, c123, c124⟩ := r_cells k108
  refine wp_region_later1 (M106) ?_
  try simp only [pA]
  go_big_quiet_step (fail)
  refine later_c1 hM106 22 (.tmp 80) rfl rfl und64 rfl c115 (by rfl) ?_; simp only [pA]
  go_big_quiet_step (fail)
  refine later_c1 hM106 22 (.tmp 82) rfl rfl und64 rfl c121 (by rfl) ?_; simp only [pA]
  refine later_b (x := (.tmp 81)) (y := (.tmp 83)) rfl (BinRun.is G0.out (bin_lss _ (settleF (csA Z0 n0 5#64 u0)).1.lo (csA Z0 n0 5#64 u0).lo)) rfl rfl (by rfl) ?_; simp only [pA]
  iterate 2 (go_big_quiet_step (fail))
  refine later_c1 hM106 22 (.tmp 86) rfl rfl und64 rfl c116 (by rfl) ?_; simp only [pA]
  go_big_quiet_step (fail)
  refine later_c1 hM106 22 (.tmp 88) rfl rfl und64 rfl c122 (by rfl) ?_; simp only [pA]
  refine later_b (x := (.tmp 87)) (y := (.tmp 89)) rfl (BinRun.is G1.out (bin_gtr _ (settleF (csA Z0 n0 5#64 u0)).1.hi (csA Z0 n0 5#64 u0).hi)) rfl rfl (by rfl) ?_; simp only [pA]
  iterate 3 (go_big_quiet_step (fail))
  refine later_c1 hM106 2 (.tmp 93) rfl rfl undI64 rfl c117 (by rfl) ?_; simp only [pA]
  go_big_quiet_step (fail)
  refine later_c1 hM106 2 (.tmp 95) rfl rfl undI64 rfl c123 (by rfl) ?_; simp only [pA]
  refine later_b (x := (.tmp 94)) (y := (.tmp 96)) rfl (BinRun.is G2.out (bin_slss _ (settleF (csA Z0 n0 5#64 u0)).1.sl (csA Z0 n0 5#64 u0).sl)) rfl rfl (by rfl) ?_; simp only [pA]
  iterate 3 (go_big_quiet_step (fail))
  refine later_c1 hM106 2 (.tmp 100) rfl rfl undI64 rfl c118 (by rfl) ?_; simp only [pA]
  go_big_quiet_step (fail)
  refine later_c1 hM106 2 (.tmp 102) rfl rfl undI64 rfl c124 (by rfl) ?_; simp only [pA]
  refine later_b (x := (.tmp 101)) (y := (.tmp 103)) rfl (BinRun.is G3.out (bin_sgtr _ (settleF (csA Z0 n0 5#64 u0)).1.sh (csA Z0 n0 5#64 u0).sh)) rfl rfl (by rfl) ?_; simp only [pA]
  iterate 4 (go_big_quiet_step (fail))
  refine later_c1 hM106 22 (.tmp 108) rfl rfl und64 rfl c114 (by rfl) ?_; simp only [pA]
  iterate 2 (go_big_quiet_step (fail))
  refine later_c1 hM106 22 (.tmp 111) rfl rfl und64 rfl c120 (by rfl) ?_; simp only [pA]
  refine later_b (x := (.tmp 109)) (y := (.tmp 112)) rfl (bin_andn _ (settleF (csA Z0 n0 5#64 u0)).1.b.m (csA Z0 n0 5#64 u0).b.m) rfl rfl (by rfl) ?_; simp only [pA]
  refine later_b (x := (.tmp 113)) (y := (.const (.int .u64 0))) rfl (BinRun.is G4.out (bin_neq _ ((settleF (csA Z0 n0 5#64 u0)).1.b.m &&& ~~~(csA Z0 n0 5#64 u0).b.m) 0#64)) rfl rfl (by rfl) ?_; simp only [pA]
  go_big_quiet_step (fail)
  refine wpQuiet_nil (laterE hM106 ?_)
  intro xw125 M126 hbxw125 hM126 lM126
  have k127 := k107.below hbxw125 (by omega)
  have k128 := k108.below hbxw125 (by omega)
  have k129 := k109.below hbxw125 (by omega)
  have k130 := k110.below hbxw125 (by omega)
  have k131 := k111.below hbxw125 (by omega)
  have lo132 := lo112.trans (hbxw125.mono (by omega))
  clear k107 k108 c119 c120 c121 c122 c123 c124 k109 k110 k111 c113 c114 c115 c116 c117 c118 lo112 hbxw125
  go_upto_region 11 with fail
  refine wp_region_later (M126) (by kernel_rfl) (by kernel_rfl) ?_
  try simp only [pA]
  refine later_row hM126 34 (.tmp 5) rfl (b_xw6) rfl 34 6 _ k128 undRU szRU (by rfl) ?_; simp only [pA]
  go_big_quiet_step ((go_at_call 26; exact later_of hM126 _ (fun K hK hKN => To14_any (csA Z0 n0 5#64 u0) _ K hK)))
  refine later_row hM126 34 (.tmp 6) rfl (b_xw10) rfl 34 6 _ k129 undRU szRU (by rfl) ?_; simp only [pA]
  go_big_quiet_step ((go_at_call 26; exact later_of hM126 _ (fun K hK hKN => To14_any (csA Z1 n1 3#64 u1) _ K hK)))
  go_big_quiet_step ((go_at_call 32; exact later_of hM126 _ (fun K hK hKN => ret_is HW.out (SWithin_any (csA Z0 n0 5#64 u0) (csA Z1 n1 3#64 u1)) _ K hK)))
  iterate 7 (go_big_quiet_step (fail))
  refine wpQuiet_nil (laterE hM126 ?_)
  intro xw133 M134 hbxw133 hM134 lM134
  have k135 := k127.below hbxw133 (by omega)
  have k136 := k128.below hbxw133 (by omega)
  have k137 := k129.below hbxw133 (by omega)
  have k138 := k130.below hbxw133 (by omega)
  have k139 := k131.below hbxw133 (by omega)
  have lo140 := lo132.trans (hbxw133.mono (by omega))
  clear k127 k128 k129 k130 k131 lo132 hbxw133
  go_upto_region 13 with fail
  refine wp_region_later (M134) (by kernel_rfl) (by kernel_rfl) ?_
  try simp only [pA]
  refine later_row hM134 34 (.tmp 5) rfl (b_xw6) rfl 34 6 _ k136 undRU szRU (by rfl) ?_; simp only [pA]
  go_big_quiet_step ((go_at_call 26; exact later_of hM134 _ (fun K hK hKN => To14_any (csA Z0 n0 5#64 u0) _ K hK)))
  refine later_row hM134 34 (.tmp 5) rfl (b_xw6) rfl 34 6 _ k136 undRU szRU (by rfl) ?_; simp only [pA]
  go_big_quiet_step ((go_at_call 26; exact later_of hM134 _ (fun K hK hKN => To14_any (csA Z0 n0 5#64 u0) _ K hK)))
  go_big_quiet_step ((go_at_call 32; exact later_of hM134 _ (fun K hK hKN => ret_is F4.out (SWithin_any (csA Z0 n0 5#64 u0) (csA Z0 n0 5#64 u0)) _ K hK)))
  go_big_quiet_step (fail)
  refine later_row hM134 34 (.tmp 5) rfl (b_xw6) rfl 34 6 _ k136 undRU szRU (by rfl) ?_; simp only [pA]
  go_big_quiet_step ((go_at_call 26; exact later_of hM134 _ (fun K hK hKN => To14_any (csA Z0 n0 5#64 u0) _ K hK)))
  go_big_quiet_step ((go_at_call 33; exact later_of hM134 _ (fun K hK hKN => SAny_any  _ K hK)))
  go_big_quiet_step ((go_at_call 32; exact later_of hM134 _ (fun K hK hKN => ret_is F5.out (SWithin_any (csA Z0 n0 5#64 u0) (obR tAny)) _ K hK)))
  iterate 2 (go_big_quiet_step (fail))
  refine wpQuiet_nil (laterE hM134 ?_)
  intro xw141 M142 hbxw141 hM142 lM142
  have k143 := k135.below hbxw141 (by omega)
  have k144 := k136.below hbxw141 (by omega)
  have k145 := k137.below hbxw141 (by omega)
  have k146 := k138.below hbxw141 (by omega)
  have k147 := k139.below hbxw141 (by omega)
  have lo148 := lo140.trans (hbxw141.mono (by omega))
  clear k135 k136 k137 k138 k139 lo140 hbxw141
  go_wp2_with fail
  go_ret
  exact ⟨rfl, lo148⟩
set_option maxRecDepth 100000 in
set_option maxHeartbeats 8000000 in
theorem law_sjoins_4t (Z0 Z1 : Nat → W) (p0 p1 : Option Addr) (n0 c0 n1 c1 : Nat) (z0 z1 : Int) (u0 u1 : W) (w : World) (N : Nat) (hN : Sz w N) (hc0 : n0 ≤ c0) (hc1 : n1 ≤ c1) (hw0 : Ats w p0 n0 (fun j => Q (Z0 j))) (hw1 : Ats w p1 n1 (fun j => Q (Z1 j))) (HW : Hid (sWithin (csA Z0 n0 5#64 u0) (csA Z1 n1 3#64 u1) = true)) : Calls Try.prog 6 #[(Value.agg (cellsOf (caC ⟨p0, n0, c0, p1, n1, c1, z0, z1, u0, u1⟩) 6)), (Value.int .i64 4)] w fun e w' => e = .returned (.bool true) ∧ Below N w w' := by
 have NR := hid (settle_nar (settle_in (cs_in Z0 n0 5#64 u0 z0)).1)
 have F0 := hid (show (sHas (joinR (csA Z0 n0 5#64 u0) (csA Z1 n1 3#64 u1)) (csX Z0 n0 5#64 z0)) = true from (join_in_l (cs_in Z0 n0 5#64 u0 z0) (cs_rgt Z1 n1 3#64 u1)).has)
 have F1 := hid (show (sHas (joinR (csA Z0 n0 5#64 u0) (csA Z1 n1 3#64 u1)) (csX Z1 n1 3#64 z1)) = true from (join_in_r (cs_in Z1 n1 3#64 u1 z1) (cs_rgt Z0 n0 5#64 u0)).has)
 have F2 := hid (show (settleF (csA Z0 n0 5#64 u0)).2 = true from (settle_in (cs_in Z0 n0 5#64 u0 z0)).1)
 have F3 := hid (show (sHas (settleF (csA Z0 n0 5#64 u0)).1 (csX Z0 n0 5#64 z0)) = true from (settle_in (cs_in Z0 n0 5#64 u0 z0)).2.has)
 have F4 := hid (show (sWithin (csA Z0 n0 5#64 u0) (csA Z0 n0 5#64 u0)) = true from sWithin_self (cs_rgt Z0 n0 5#64 u0))
 have F5 := hid (show (sWithin (csA Z0 n0 5#64 u0) (obR tAny)) = true from sWithin_any _)
 have F6 := hid (show (sHas (lowR4 (csA Z0 n0 5#64 u0)) ((csX Z0 n0 5#64 z0) % (1#64 <<< 32))) = true from low_4 (cs_in Z0 n0 5#64 u0 z0))
 have F7 := hid (show (sHas (csA Z1 n1 3#64 u1) (csX Z0 n0 5#64 z0)) = true from (within_in HW.out (cs_in Z0 n0 5#64 u0 z0) (cs_rgt Z1 n1 3#64 u1)).has)
 have G0 := hid (show (BitVec.ult (settleF (csA Z0 n0 5#64 u0)).1.lo (csA Z0 n0 5#64 u0).lo) = false from nar_lo NR.out.1)
 have G1 := hid (show (BitVec.ult (csA Z0 n0 5#64 u0).hi (settleF (csA Z0 n0 5#64 u0)).1.hi) = false from nar_hi NR.out.1)
 have G2 := hid (show (BitVec.slt (settleF (csA Z0 n0 5#64 u0)).1.sl (csA Z0 n0 5#64 u0).sl) = false from nar_sl NR.out.1)
 have G3 := hid (show (BitVec.slt (csA Z0 n0 5#64 u0).sh (settleF (csA Z0 n0 5#64 u0)).1.sh) = false from nar_sh NR.out.1)
 have G4 := hid (show (((settleF (csA Z0 n0 5#64 u0)).1.b.m &&& ~~~(csA Z0 n0 5#64 u0).b.m) != 0#64) = false from NR.out.1.mask NR.out.2.1)
 go_enter Try.func6, Try.ntmps6
 go_upto_region 1 with (first
  | (refine wpl_box rfl 30 (.tmp 0) rfl 6 _ rfl (N) hN ?_; intro w1 hN1 hb1 hh1)
  | fail)
 have lo0 : Below N w w1 := hb1
 have k1 := hh1
 clear hh1 hb1
 go_upto_region 1 with fail
 refine wp_region_lit ?_
 try simp only [pA]
 change wpList _ _ _ ((_ :: _ :: _ :: _ :: _ :: _ :: _ :: []) ++ (_ :: _ :: _ :: _ :: _ :: _ :: [])) _ _
 refine wpList_prefix (C := fun w' => ∃ x : Later (N + 1) w1, w' = x.w') _ _ _ _ ⟨⟨_, Below.refl _ _⟩, rfl⟩ ?_
 refine later_row hN1 30 (.tmp 2) rfl (N) rfl 30 6 _ k1 undCs szCs (by rfl) ?_; simp only [pA]
 go_big_quiet_step ((go_at_call 24; exact later_ofB hN1 _ (fun K hK hbB => Ranges_any Z0 Z1 p0 p1 n0 c0 n1 c1 z0 z1 u0 u1 hc0 hc1 _ K hK ((hw0.below hN lo0).below hN1 hbB) ((hw1.below hN lo0).below hN1 hbB))))
 iterate 5 (go_big_quiet_step (fail))
 refine wpQuiet_nil (laterE hN1 ?_)
 intro xw2 M3 hbxw2 hM3 lM3
 have k4 := k1.below hbxw2 (by omega)
 have lo5 := lo0.trans (hbxw2.mono (by omega))
 clear k1 lo0 hbxw2
 obtain ⟨b_xw6, eb_xw6⟩ : ∃ b_xw6, b_xw6 = M3 := ⟨_, rfl⟩
 have hzb_xw6 : Sz xw2 b_xw6 := by rw [eb_xw6]; exact hM3
 have lob_xw6 : M3 ≤ b_xw6 := by omega
 have upb_xw6 : b_xw6 ≤ M3 := by omega
 clear eb_xw6
 refine wpl_alloc rfl 34 rfl 6 (rC zeroR) zeRU b_xw6 hzb_xw6 ?_
 intro xw6 hMxw6 hbxw6 hhxw6; simp only [pA]
 have k7 := k4.below hbxw6 (by omega)
 have lo8 := lo5.trans (hbxw6.mono (by omega))
 clear k4 lo5 hbxw6 hzb_xw6
 obtain ⟨M9, eM9⟩ : ∃ M9, M9 = b_xw6 + 1 := ⟨_, rfl⟩
 rw [← eM9] at hMxw6
 have loM9 : b_xw6 + 1 ≤ M9 := by omega
 have upM9 : M9 ≤ b_xw6 + 1 := by omega
 clear eM9
 obtain ⟨b_xw10, eb_xw10⟩ : ∃ b_xw10, b_xw10 = M9 := ⟨_, rfl⟩
 have hzb_xw10 : Sz xw6 b_xw10 := by rw [eb_xw10]; exact hMxw6
 have lob_xw10 : M9 ≤ b_xw10 := by omega
 have upb_xw10 : b_xw10 ≤ M9 := by omega
 clear eb_xw10
 refine wpl_alloc rfl 34 rfl 6 (rC zeroR) zeRU b_xw10 hzb_xw10 ?_
 intro xw10 hMxw10 hbxw10 hhxw10; simp only [pA]
 have k11 := k7.below hbxw10 (by omega)
 have k12 := hhxw6.below hbxw10 (by omega)
 have lo13 := lo8.trans (hbxw10.mono (by omega))
 clear k7 hhxw6 lo8 hbxw10 hzb_xw10
 obtain ⟨M14, eM14⟩ : ∃ M14, M14 = b_xw10 + 1 := ⟨_, rfl⟩
 rw [← eM14] at hMxw10
 have loM14 : b_xw10 + 1 ≤ M14 := by omega
 have upM14 : M14 ≤ b_xw10 + 1 := by omega
 clear eM14
 refine wpl_store rfl 34 (.tmp 5) (.tmp 16) rfl b_xw6 6 (rC (csA Z0 n0 5#64 u0)) rfl rfl 34 _ k12 szRU (fun j _ => rC_one _ j) ?_
 intro xw15 t16 k17; try simp only [pA]
 have k18 := k11.touch t16 (by omega)
 have k19 := hhxw10.touch t16 (by omega)
 have lo20 := t16.below lo13 (by omega)
 have h21 := t16.sz hMxw10
 clear k12 k11 hhxw10 lo13 hMxw10 t16
 refine wpl_store rfl 34 (.tmp 6) (.tmp 17) rfl b_xw10 6 (rC (csA Z1 n1 3#64 u1)) rfl rfl 34 _ k19 szRU (fun j _ => rC_one _ j) ?_
 intro xw22 t23 k24; try simp only [pA]
 have k25 := k18.touch t23 (by omega)
 have k26 := k17.touch t23 (by omega)
 have lo27 := t23.below lo20 (by omega)
 have h28 := t23.sz h21
 clear k19 k18 k17 lo20 h21 t23
 refine wpl_run rfl (Q (csX Z0 n0 5#64 z0)) _ (run_as (x := (.tmp 18)) rfl _ rfl) ?_; simp only [pA]
 refine wpl_run rfl (Q (csX Z1 n1 3#64 z1)) _ (run_as (x := (.tmp 19)) rfl _ rfl) ?_; simp only [pA]
 obtain ⟨M29, hM29⟩ := sz_some xw22
 have lt_30 := k25.ltN hM29
 have lt_31 := k26.ltN hM29
 have lt_32 := k24.ltN hM29
 go_upto_region 2 with fail
 refine wp_region_any (by kernel_rfl) ?_
 replace k25 : Has xw22.drew N 30 6 (caC ⟨p0, n0, c0, p1, n1, c1, z0, z1, u0, u1⟩) := k25
 replace k26 : Has xw22.drew b_xw6 34 6 (rC (csA Z0 n0 5#64 u0)) := k26
 replace k24 : Has xw22.drew b_xw10 34 6 (rC (csA Z1 n1 3#64 u1)) := k24
 replace hM29 : Sz xw22.drew M29 := hM29
 replace lo27 : Below N w xw22.drew := lo27.drew
 change wpAny _ _ _ _ _ _ _ (World.drew _)
 generalize xw22.drew = xw33 at *
 refine wpAny_pot (rem := [0, 1, 2, 3, 4, 5]) (FG M29 (fun j => if j = 0 then some (Value.agg (cellsOf (rC (csA Z0 n0 5#64 u0)) 6)) else if j = 1 then some (Value.agg (cellsOf (rC (csA Z0 n0 5#64 u0)) 6)) else if j = 2 then some (Value.agg (cellsOf (rC (csA Z1 n1 3#64 u1)) 6)) else if j = 3 then some (Value.agg (cellsOf (rC (csA Z1 n1 3#64 u1)) 6)) else if j = 4 then some (Value.agg (cellsOf (rC (joinR (csA Z0 n0 5#64 u0) (csA Z1 n1 3#64 u1))) 6)) else none) (fun j => (41, 6, rC zeroR))) (TwoN (fun j => if j = 0 then some (Value.agg (cellsOf (rC (csA Z0 n0 5#64 u0)) 6)) else if j = 1 then some (Value.agg (cellsOf (rC (csA Z0 n0 5#64 u0)) 6)) else if j = 2 then some (Value.agg (cellsOf (rC (csA Z1 n1 3#64 u1)) 6)) else if j = 3 then some (Value.agg (cellsOf (rC (csA Z1 n1 3#64 u1)) 6)) else if j = 4 then some (Value.agg (cellsOf (rC (joinR (csA Z0 n0 5#64 u0) (csA Z1 n1 3#64 u1))) 6)) else none)) (Below M29 xw33) _ _ _ _ (by kernel_rfl) (size_dstG (by kernel_rfl)) (Below.refl _ _) ?_ ?_
 ·intro i hi ac wa hI ha hv
  simp only [List.mem_cons, List.not_mem_nil, or_false] at hi
  rcases hi with rfl | rfl | rfl | rfl | rfl | rfl
  ·exact potg_run rfl rfl (Value.agg (cellsOf (rC (csA Z0 n0 5#64 u0)) 6)) rfl (run_rw 34 (.tmp 5) rfl b_xw6 (ha 5 (not_dstG (by kernel_rfl))) 34 6 _ (Has.below k26 hI (Has.ltN k26 hM29)) undRU szRU) hM29 hI
  ·obtain ⟨v0, hv0a, hv0b⟩ := hv 0 (by simp) (by kernel_rfl)
   have ev0 := hv0b.val rfl
   subst ev0
   exact potg_cl rfl rfl 26 _ _ rfl #[(Value.agg (cellsOf (rC (csA Z0 n0 5#64 u0)) 6))] (by simp only [List.map_toArray, List.map_cons, List.map_nil, (show ac.eval (.tmp 20) = (Value.agg (cellsOf (rC (csA Z0 n0 5#64 u0)) 6)) from (hv0a 20 rfl))] <;> rfl) (by kernel_rfl) (Value.agg (cellsOf (rC (csA Z0 n0 5#64 u0)) 6)) (fun K hK => To14_any (csA Z0 n0 5#64 u0) wa K hK) rfl hM29 hI
  ·exact potg_run rfl rfl (Value.agg (cellsOf (rC (csA Z1 n1 3#64 u1)) 6)) rfl (run_rw 34 (.tmp 6) rfl b_xw10 (ha 6 (not_dstG (by kernel_rfl))) 34 6 _ (Has.below k24 hI (Has.ltN k24 hM29)) undRU szRU) hM29 hI
  ·obtain ⟨v2, hv2a, hv2b⟩ := hv 2 (by simp) (by kernel_rfl)
   have ev2 := hv2b.val rfl
   subst ev2
   exact potg_cl rfl rfl 26 _ _ rfl #[(Value.agg (cellsOf (rC (csA Z1 n1 3#64 u1)) 6))] (by simp only [List.map_toArray, List.map_cons, List.map_nil, (show ac.eval (.tmp 22) = (Value.agg (cellsOf (rC (csA Z1 n1 3#64 u1)) 6)) from (hv2a 22 rfl))] <;> rfl) (by kernel_rfl) (Value.agg (cellsOf (rC (csA Z1 n1 3#64 u1)) 6)) (fun K hK => To14_any (csA Z1 n1 3#64 u1) wa K hK) rfl hM29 hI
  ·obtain ⟨v1, hv1a, hv1b⟩ := hv 1 (by simp) (by kernel_rfl)
   have ev1 := hv1b.val rfl
   subst ev1
   obtain ⟨v3, hv3a, hv3b⟩ := hv 3 (by simp) (by kernel_rfl)
   have ev3 := hv3b.val rfl
   subst ev3
   exact potg_cl rfl rfl 29 _ _ rfl #[(Value.agg (cellsOf (rC (csA Z0 n0 5#64 u0)) 6)), (Value.agg (cellsOf (rC (csA Z1 n1 3#64 u1)) 6))] (by simp only [List.map_toArray, List.map_cons, List.map_nil, (show ac.eval (.tmp 21) = (Value.agg (cellsOf (rC (csA Z0 n0 5#64 u0)) 6)) from (hv1a 21 rfl)), (show ac.eval (.tmp 23) = (Value.agg (cellsOf (rC (csA Z1 n1 3#64 u1)) 6)) from (hv3a 23 rfl))] <;> rfl) (by kernel_rfl) (Value.agg (cellsOf (rC (joinR (csA Z0 n0 5#64 u0) (csA Z1 n1 3#64 u1))) 6)) (fun K hK => SJoin_any (csA Z0 n0 5#64 u0) (csA Z1 n1 3#64 u1) wa K hK) rfl hM29 hI
  ·exact potg_al rfl rfl rfl zeR rfl rfl hM29 hI
 ·intro vals w5_34_ hb5_34_ hF hG
  have e_34_0 := (hF 0 (by simp)).val rfl
  have e_34_1 := (hF 1 (by simp)).val rfl
  have e_34_2 := (hF 2 (by simp)).val rfl
  have e_34_3 := (hF 3 (by simp)).val rfl
  have e_34_4 := (hF 4 (by simp)).val rfl
  obtain ⟨b_34_5, l_34_5, e_34_5, h_34_5⟩ := (hF 5 (by simp)).al rfl rfl
  clear hF hG
  simp only [List.foldl_cons, List.foldl_nil, dstOf, List.getElem?_toArray, List.getElem?_cons_succ, List.getElem?_cons_zero, Option.bind_some, Act.put, List.setIfInBounds_toArray, List.set_cons_succ, List.set_cons_zero, e_34_0, e_34_1, e_34_2, e_34_3, e_34_4, e_34_5]
  clear e_34_0 e_34_1 e_34_2 e_34_3 e_34_4 e_34_5
  refine wpAny_chain [6] _ _ _ _ (by kernel_rfl) (by decide) ?_
  simp only [List.filterMap_cons, List.filterMap_nil, List.getElem?_toArray, List.getElem?_cons_succ, List.getElem?_cons_zero]
  have k35 := k25.below hb5_34_ (by omega)
  have k36 := k26.below hb5_34_ (by omega)
  have k37 := k24.below hb5_34_ (by omega)
  have lo38 := lo27.trans (hb5_34_.mono (by omega))
  clear k25 k26 k24 lo27 hb5_34_
  refine wpl_store rfl 41 (.tmp 9) (.tmp 24) rfl b_34_5 6 (rC (joinR (csA Z0 n0 5#64 u0) (csA Z1 n1 3#64 u1))) rfl rfl 41 _ h_34_5 szR (fun j _ => rC_one _ j) ?_
  intro xw39 t40 k41
  have k42 := k35.touch t40 (by omega)
  have k43 := k36.touch t40 (by omega)
  have k44 := k37.touch t40 (by omega)
  have lo45 := t40.below lo38 (by omega)
  clear h_34_5 k35 k36 k37 lo38 t40
  obtain ⟨M46, hM46⟩ := sz_some xw39
  have lt_47 := k42.ltN hM46
  have lt_48 := k43.ltN hM46
  have lt_49 := k44.ltN hM46
  have lt_50 := k41.ltN hM46
  have CS51 := fun w N hN => Settle_any (csA Z0 n0 5#64 u0) w N hN
  rw [F2.out] at CS51
  go_upto_region 3 with fail
  refine wp_region_lit ?_
  try simp only [pA]
  change wpList _ _ _ ((_ :: _ :: _ :: _ :: _ :: _ :: []) ++ (_ :: _ :: _ :: [])) _ _
  refine wpList_prefix (C := fun w' => ∃ x : Later M46 xw39, w' = x.w') _ _ _ _ ⟨⟨_, Below.refl _ _⟩, rfl⟩ ?_
  refine later_row hM46 34 (.tmp 5) rfl (b_xw6) rfl 34 6 _ k43 undRU szRU (by rfl) ?_; simp only [pA]
  go_big_quiet_step ((go_at_call 26; exact later_of hM46 _ (fun K hK hKN => To14_any (csA Z0 n0 5#64 u0) _ K hK)))
  go_big_quiet_step ((go_at_call 30; exact later_of hM46 _ (fun K hK hKN => CS51 _ K hK)))
  iterate 3 (go_big_quiet_step (fail))
  refine wpQuiet_nil (laterE hM46 ?_)
  intro xw52 M53 hbxw52 hM53 lM53
  have k54 := k42.below hbxw52 (by omega)
  have k55 := k43.below hbxw52 (by omega)
  have k56 := k44.below hbxw52 (by omega)
  have k57 := k41.below hbxw52 (by omega)
  have lo58 := lo45.trans (hbxw52.mono (by omega))
  clear k42 k43 k44 k41 lo45 hbxw52
  obtain ⟨b_xw59, eb_xw59⟩ : ∃ b_xw59, b_xw59 = M53 := ⟨_, rfl⟩
  have hzb_xw59 : Sz xw52 b_xw59 := by rw [eb_xw59]; exact hM53
  have lob_xw59 : M53 ≤ b_xw59 := by omega
  have upb_xw59 : b_xw59 ≤ M53 := by omega
  clear eb_xw59
  refine wpl_alloc rfl 41 rfl 6 (rC zeroR) zeR b_xw59 hzb_xw59 ?_
  intro xw59 hMxw59 hbxw59 hhxw59; simp only [pA]
  have k60 := k54.below hbxw59 (by omega)
  have k61 := k55.below hbxw59 (by omega)
  have k62 := k56.below hbxw59 (by omega)
  have k63 := k57.below hbxw59 (by omega)
  have lo64 := lo58.trans (hbxw59.mono (by omega))
  clear k54 k55 k56 k57 lo58 hbxw59 hzb_xw59
  obtain ⟨M65, eM65⟩ : ∃ M65, M65 = b_xw59 + 1 := ⟨_, rfl⟩
  rw [← eM65] at hMxw59
  have loM65 : b_xw59 + 1 ≤ M65 := by omega
  have upM65 : M65 ≤ b_xw59 + 1 := by omega
  clear eM65
  refine wpl_store rfl 41 (.tmp 10) (.tmp 29) rfl b_xw59 6 (rC (settleF (csA Z0 n0 5#64 u0)).1) rfl rfl 41 _ hhxw59 szR (fun j _ => rC_one _ j) ?_
  intro xw66 t67 k68; try simp only [pA]
  have k69 := k60.touch t67 (by omega)
  have k70 := k61.touch t67 (by omega)
  have k71 := k62.touch t67 (by omega)
  have k72 := k63.touch t67 (by omega)
  have lo73 := t67.below lo64 (by omega)
  have h74 := t67.sz hMxw59
  clear hhxw59 k60 k61 k62 k63 lo64 hMxw59 t67
  refine wpl_run rfl (Value.bool true) _ (run_as (x := (.tmp 30)) rfl _ rfl) ?_; simp only [pA]
  obtain ⟨M75, hM75⟩ := sz_some xw66
  have lt_76 := k69.ltN hM75
  have lt_77 := k70.ltN hM75
  have lt_78 := k71.ltN hM75
  have lt_79 := k72.ltN hM75
  have lt_80 := k68.ltN hM75
  go_upto_region 4 with fail
  refine wp_region_later1 (M75) ?_
  try simp only [pA]
  iterate 2 (go_big_quiet_step (fail))
  refine wpQuiet_nil (laterE hM75 ?_)
  intro xw81 M82 hbxw81 hM82 lM82
  have k83 := k69.below hbxw81 (by omega)
  have k84 := k70.below hbxw81 (by omega)
  have k85 := k71.below hbxw81 (by omega)
  have k86 := k72.below hbxw81 (by omega)
  have k87 := k68.below hbxw81 (by omega)
  have lo88 := lo73.trans (hbxw81.mono (by omega))
  clear k69 k70 k71 k72 k68 lo73 hbxw81
  go_upto_region 5 with fail
  refine wp_region_later1 (M82) ?_
  try simp only [pA]
  iterate 10 (go_big_quiet_step (fail))
  refine wpQuiet_nil (laterE hM82 ?_)
  intro xw89 M90 hbxw89 hM90 lM90
  have k91 := k83.below hbxw89 (by omega)
  have k92 := k84.below hbxw89 (by omega)
  have k93 := k85.below hbxw89 (by omega)
  have k94 := k86.below hbxw89 (by omega)
  have k95 := k87.below hbxw89 (by omega)
  have lo96 := lo88.trans (hbxw89.mono (by omega))
  clear k83 k84 k85 k86 k87 lo88 hbxw89
  go_upto_region 6 with fail
  refine wp_region_later1 (M90) ?_
  try simp only [pA]
  iterate 2 (go_big_quiet_step (fail))
  refine later_val (fun q => run_mulL (x := (.const (.int .i64 8))) (y := (.tmp 43)) rfl rfl rfl (show IntKind.i64.wrap (8 * 4) = 32 by decide) q.w') (by rfl) ?_; simp only [pA]
  refine later_b (x := (.const (.int .u64 1))) (y := (.tmp 44)) rfl (bin_shl _ 1#64 32) rfl rfl (by rfl) ?_; simp only [pA]
  refine later_b (x := (.tmp 42)) (y := (.tmp 45)) rfl (bin_rem _ (csX Z0 n0 5#64 z0) (1#64 <<< 32) (by decide)) rfl rfl (by rfl) ?_; simp only [pA]
  go_big_quiet_step (fail)
  refine wpQuiet_nil (laterE hM90 ?_)
  intro xw97 M98 hbxw97 hM98 lM98
  have k99 := k91.below hbxw97 (by omega)
  have k100 := k92.below hbxw97 (by omega)
  have k101 := k93.below hbxw97 (by omega)
  have k102 := k94.below hbxw97 (by omega)
  have k103 := k95.below hbxw97 (by omega)
  have lo104 := lo96.trans (hbxw97.mono (by omega))
  clear k91 k92 k93 k94 k95 lo96 hbxw97
  go_upto_region 7 with fail
  refine wp_region_later1 (M98) ?_
  try simp only [pA]
  go_big_quiet_step ((go_at_call 21; exact later_of hM98 _ (fun K hK hKN => evals_any _ K hK)))
  iterate 2 (go_big_quiet_step (fail))
  refine later_row hM98 41 (.tmp 9) rfl (b_34_5) rfl 41 6 _ k102 undR szR (by rfl) ?_; simp only [pA]
  go_big_quiet_step (fail)
  go_big_quiet_step ((go_at_call 25; exact later_of hM98 _ (fun K hK hKN => ret_is F0.out (SHas_any (joinR (csA Z0 n0 5#64 u0) (csA Z1 n1 3#64 u1)) (csX Z0 n0 5#64 z0)) _ K hK)))
  iterate 3 (go_big_quiet_step (fail))
  refine later_row hM98 41 (.tmp 9) rfl (b_34_5) rfl 41 6 _ k102 undR szR (by rfl) ?_; simp only [pA]
  go_big_quiet_step (fail)
  go_big_quiet_step ((go_at_call 25; exact later_of hM98 _ (fun K hK hKN => ret_is F1.out (SHas_any (joinR (csA Z0 n0 5#64 u0) (csA Z1 n1 3#64 u1)) (csX Z1 n1 3#64 z1)) _ K hK)))
  iterate 7 (go_big_quiet_step (fail))
  refine later_row hM98 41 (.tmp 10) rfl (b_xw59) rfl 41 6 _ k103 undR szR (by rfl) ?_; simp only [pA]
  go_big_quiet_step (fail)
  go_big_quiet_step ((go_at_call 25; exact later_of hM98 _ (fun K hK hKN => ret_is F3.out (SHas_any (settleF (csA Z0 n0 5#64 u0)).1 (csX Z0 n0 5#64 z0)) _ K hK)))
  iterate 3 (go_big_quiet_step (fail))
  refine later_row hM98 34 (.tmp 5) rfl (b_xw6) rfl 34 6 _ k100 undRU szRU (by rfl) ?_; simp only [pA]
  go_big_quiet_step ((go_at_call 26; exact later_of hM98 _ (fun K hK hKN => To14_any (csA Z0 n0 5#64 u0) _ K hK)))
  go_big_quiet_step (fail)
  go_big_quiet_step ((go_at_call 31; exact later_of hM98 _ (fun K hK hKN => SLow_4 (csA Z0 n0 5#64 u0) _ K hK)))
  go_big_quiet_step (fail)
  go_big_quiet_step ((go_at_call 25; exact later_of hM98 _ (fun K hK hKN => ret_is F6.out (SHas_any (lowR4 (csA Z0 n0 5#64 u0)) ((csX Z0 n0 5#64 z0) % (1#64 <<< 32))) _ K hK)))
  iterate 2 (go_big_quiet_step (fail))
  refine wpQuiet_nil (laterE hM98 ?_)
  intro xw105 M106 hbxw105 hM106 lM106
  have k107 := k99.below hbxw105 (by omega)
  have k108 := k100.below hbxw105 (by omega)
  have k109 := k101.below hbxw105 (by omega)
  have k110 := k102.below hbxw105 (by omega)
  have k111 := k103.below hbxw105 (by omega)
  have lo112 := lo104.trans (hbxw105.mono (by omega))
  clear k99 k100 k101 k102 k103 lo104 hbxw105
  go_upto_region 9 with fail
  obtain ⟨c113, c114, c115, c116, c117, c118⟩ := r_cells k111
  obtain ⟨c119, c120, c121, c122, c123, c124⟩ := r_cells k108
  refine wp_region_later1 (M106) ?_
  try simp only [pA]
  go_big_quiet_step (fail)
  refine later_c1 hM106 22 (.tmp 80) rfl rfl und64 rfl c115 (by rfl) ?_; simp only [pA]
  go_big_quiet_step (fail)
  refine later_c1 hM106 22 (.tmp 82) rfl rfl und64 rfl c121 (by rfl) ?_; simp only [pA]
  refine later_b (x := (.tmp 81)) (y := (.tmp 83)) rfl (BinRun.is G0.out (bin_lss _ (settleF (csA Z0 n0 5#64 u0)).1.lo (csA Z0 n0 5#64 u0).lo)) rfl rfl (by rfl) ?_; simp only [pA]
  iterate 2 (go_big_quiet_step (fail))
  refine later_c1 hM106 22 (.tmp 86) rfl rfl und64 rfl c116 (by rfl) ?_; simp only [pA]
  go_big_quiet_step (fail)
  refine later_c1 hM106 22 (.tmp 88) rfl rfl und64 rfl c122 (by rfl) ?_; simp only [pA]
  refine later_b (x := (.tmp 87)) (y := (.tmp 89)) rfl (BinRun.is G1.out (bin_gtr _ (settleF (csA Z0 n0 5#64 u0)).1.hi (csA Z0 n0 5#64 u0).hi)) rfl rfl (by rfl) ?_; simp only [pA]
  iterate 3 (go_big_quiet_step (fail))
  refine later_c1 hM106 2 (.tmp 93) rfl rfl undI64 rfl c117 (by rfl) ?_; simp only [pA]
  go_big_quiet_step (fail)
  refine later_c1 hM106 2 (.tmp 95) rfl rfl undI64 rfl c123 (by rfl) ?_; simp only [pA]
  refine later_b (x := (.tmp 94)) (y := (.tmp 96)) rfl (BinRun.is G2.out (bin_slss _ (settleF (csA Z0 n0 5#64 u0)).1.sl (csA Z0 n0 5#64 u0).sl)) rfl rfl (by rfl) ?_; simp only [pA]
  iterate 3 (go_big_quiet_step (fail))
  refine later_c1 hM106 2 (.tmp 100) rfl rfl undI64 rfl c118 (by rfl) ?_; simp only [pA]
  go_big_quiet_step (fail)
  refine later_c1 hM106 2 (.tmp 102) rfl rfl undI64 rfl c124 (by rfl) ?_; simp only [pA]
  refine later_b (x := (.tmp 101)) (y := (.tmp 103)) rfl (BinRun.is G3.out (bin_sgtr _ (settleF (csA Z0 n0 5#64 u0)).1.sh (csA Z0 n0 5#64 u0).sh)) rfl rfl (by rfl) ?_; simp only [pA]
  iterate 4 (go_big_quiet_step (fail))
  refine later_c1 hM106 22 (.tmp 108) rfl rfl und64 rfl c114 (by rfl) ?_; simp only [pA]
  iterate 2 (go_big_quiet_step (fail))
  refine later_c1 hM106 22 (.tmp 111) rfl rfl und64 rfl c120 (by rfl) ?_; simp only [pA]
  refine later_b (x := (.tmp 109)) (y := (.tmp 112)) rfl (bin_andn _ (settleF (csA Z0 n0 5#64 u0)).1.b.m (csA Z0 n0 5#64 u0).b.m) rfl rfl (by rfl) ?_; simp only [pA]
  refine later_b (x := (.tmp 113)) (y := (.const (.int .u64 0))) rfl (BinRun.is G4.out (bin_neq _ ((settleF (csA Z0 n0 5#64 u0)).1.b.m &&& ~~~(csA Z0 n0 5#64 u0).b.m) 0#64)) rfl rfl (by rfl) ?_; simp only [pA]
  go_big_quiet_step (fail)
  refine wpQuiet_nil (laterE hM106 ?_)
  intro xw125 M126 hbxw125 hM126 lM126
  have k127 := k107.below hbxw125 (by omega)
  have k128 := k108.below hbxw125 (by omega)
  have k129 := k109.below hbxw125 (by omega)
  have k130 := k110.below hbxw125 (by omega)
  have k131 := k111.below hbxw125 (by omega)
  have lo132 := lo112.trans (hbxw125.mono (by omega))
  clear k107 k108 c119 c120 c121 c122 c123 c124 k109 k110 k111 c113 c114 c115 c116 c117 c118 lo112 hbxw125
  go_upto_region 11 with fail
  refine wp_region_later (M126) (by kernel_rfl) (by kernel_rfl) ?_
  try simp only [pA]
  refine later_row hM126 34 (.tmp 5) rfl (b_xw6) rfl 34 6 _ k128 undRU szRU (by rfl) ?_; simp only [pA]
  go_big_quiet_step ((go_at_call 26; exact later_of hM126 _ (fun K hK hKN => To14_any (csA Z0 n0 5#64 u0) _ K hK)))
  refine later_row hM126 34 (.tmp 6) rfl (b_xw10) rfl 34 6 _ k129 undRU szRU (by rfl) ?_; simp only [pA]
  go_big_quiet_step ((go_at_call 26; exact later_of hM126 _ (fun K hK hKN => To14_any (csA Z1 n1 3#64 u1) _ K hK)))
  go_big_quiet_step ((go_at_call 32; exact later_of hM126 _ (fun K hK hKN => ret_is HW.out (SWithin_any (csA Z0 n0 5#64 u0) (csA Z1 n1 3#64 u1)) _ K hK)))
  go_big_quiet_step (fail)
  refine later_row hM126 34 (.tmp 6) rfl (b_xw10) rfl 34 6 _ k129 undRU szRU (by rfl) ?_; simp only [pA]
  go_big_quiet_step ((go_at_call 26; exact later_of hM126 _ (fun K hK hKN => To14_any (csA Z1 n1 3#64 u1) _ K hK)))
  go_big_quiet_step (fail)
  go_big_quiet_step ((go_at_call 25; exact later_of hM126 _ (fun K hK hKN => ret_is F7.out (SHas_any (csA Z1 n1 3#64 u1) (csX Z0 n0 5#64 z0)) _ K hK)))
  iterate 2 (go_big_quiet_step (fail))
  refine wpQuiet_nil (laterE hM126 ?_)
  intro xw133 M134 hbxw133 hM134 lM134
  have k135 := k127.below hbxw133 (by omega)
  have k136 := k128.below hbxw133 (by omega)
  have k137 := k129.below hbxw133 (by omega)
  have k138 := k130.below hbxw133 (by omega)
  have k139 := k131.below hbxw133 (by omega)
  have lo140 := lo132.trans (hbxw133.mono (by omega))
  clear k127 k128 k129 k130 k131 lo132 hbxw133
  go_upto_region 13 with fail
  refine wp_region_later (M134) (by kernel_rfl) (by kernel_rfl) ?_
  try simp only [pA]
  refine later_row hM134 34 (.tmp 5) rfl (b_xw6) rfl 34 6 _ k136 undRU szRU (by rfl) ?_; simp only [pA]
  go_big_quiet_step ((go_at_call 26; exact later_of hM134 _ (fun K hK hKN => To14_any (csA Z0 n0 5#64 u0) _ K hK)))
  refine later_row hM134 34 (.tmp 5) rfl (b_xw6) rfl 34 6 _ k136 undRU szRU (by rfl) ?_; simp only [pA]
  go_big_quiet_step ((go_at_call 26; exact later_of hM134 _ (fun K hK hKN => To14_any (csA Z0 n0 5#64 u0) _ K hK)))
  go_big_quiet_step ((go_at_call 32; exact later_of hM134 _ (fun K hK hKN => ret_is F4.out (SWithin_any (csA Z0 n0 5#64 u0) (csA Z0 n0 5#64 u0)) _ K hK)))
  go_big_quiet_step (fail)
  refine later_row hM134 34 (.tmp 5) rfl (b_xw6) rfl 34 6 _ k136 undRU szRU (by rfl) ?_; simp only [pA]
  go_big_quiet_step ((go_at_call 26; exact later_of hM134 _ (fun K hK hKN => To14_any (csA Z0 n0 5#64 u0) _ K hK)))
  go_big_quiet_step ((go_at_call 33; exact later_of hM134 _ (fun K hK hKN => SAny_any  _ K hK)))
  go_big_quiet_step ((go_at_call 32; exact later_of hM134 _ (fun K hK hKN => ret_is F5.out (SWithin_any (csA Z0 n0 5#64 u0) (obR tAny)) _ K hK)))
  iterate 2 (go_big_quiet_step (fail))
  refine wpQuiet_nil (laterE hM134 ?_)
  intro xw141 M142 hbxw141 hM142 lM142
  have k143 := k135.below hbxw141 (by omega)
  have k144 := k136.below hbxw141 (by omega)
  have k145 := k137.below hbxw141 (by omega)
  have k146 := k138.below hbxw141 (by omega)
  have k147 := k139.below hbxw141 (by omega)
  have lo148 := lo140.trans (hbxw141.mono (by omega))
  clear k135 k136 k137 k138 k139 lo140 hbxw141
  go_wp2_with fail
  go_ret
  exact ⟨rfl, lo148⟩
set_option maxRecDepth 100000 in
set_option maxHeartbeats 8000000 in
theorem law_sjoins_4f (Z0 Z1 : Nat → W) (p0 p1 : Option Addr) (n0 c0 n1 c1 : Nat) (z0 z1 : Int) (u0 u1 : W) (w : World) (N : Nat) (hN : Sz w N) (hc0 : n0 ≤ c0) (hc1 : n1 ≤ c1) (hw0 : Ats w p0 n0 (fun j => Q (Z0 j))) (hw1 : Ats w p1 n1 (fun j => Q (Z1 j))) (HW : Hid (sWithin (csA Z0 n0 5#64 u0) (csA Z1 n1 3#64 u1) = false)) : Calls Try.prog 6 #[(Value.agg (cellsOf (caC ⟨p0, n0, c0, p1, n1, c1, z0, z1, u0, u1⟩) 6)), (Value.int .i64 4)] w fun e w' => e = .returned (.bool true) ∧ Below N w w' := by
 have NR := hid (settle_nar (settle_in (cs_in Z0 n0 5#64 u0 z0)).1)
 have F0 := hid (show (sHas (joinR (csA Z0 n0 5#64 u0) (csA Z1 n1 3#64 u1)) (csX Z0 n0 5#64 z0)) = true from (join_in_l (cs_in Z0 n0 5#64 u0 z0) (cs_rgt Z1 n1 3#64 u1)).has)
 have F1 := hid (show (sHas (joinR (csA Z0 n0 5#64 u0) (csA Z1 n1 3#64 u1)) (csX Z1 n1 3#64 z1)) = true from (join_in_r (cs_in Z1 n1 3#64 u1 z1) (cs_rgt Z0 n0 5#64 u0)).has)
 have F2 := hid (show (settleF (csA Z0 n0 5#64 u0)).2 = true from (settle_in (cs_in Z0 n0 5#64 u0 z0)).1)
 have F3 := hid (show (sHas (settleF (csA Z0 n0 5#64 u0)).1 (csX Z0 n0 5#64 z0)) = true from (settle_in (cs_in Z0 n0 5#64 u0 z0)).2.has)
 have F4 := hid (show (sWithin (csA Z0 n0 5#64 u0) (csA Z0 n0 5#64 u0)) = true from sWithin_self (cs_rgt Z0 n0 5#64 u0))
 have F5 := hid (show (sWithin (csA Z0 n0 5#64 u0) (obR tAny)) = true from sWithin_any _)
 have F6 := hid (show (sHas (lowR4 (csA Z0 n0 5#64 u0)) ((csX Z0 n0 5#64 z0) % (1#64 <<< 32))) = true from low_4 (cs_in Z0 n0 5#64 u0 z0))
 have G0 := hid (show (BitVec.ult (settleF (csA Z0 n0 5#64 u0)).1.lo (csA Z0 n0 5#64 u0).lo) = false from nar_lo NR.out.1)
 have G1 := hid (show (BitVec.ult (csA Z0 n0 5#64 u0).hi (settleF (csA Z0 n0 5#64 u0)).1.hi) = false from nar_hi NR.out.1)
 have G2 := hid (show (BitVec.slt (settleF (csA Z0 n0 5#64 u0)).1.sl (csA Z0 n0 5#64 u0).sl) = false from nar_sl NR.out.1)
 have G3 := hid (show (BitVec.slt (csA Z0 n0 5#64 u0).sh (settleF (csA Z0 n0 5#64 u0)).1.sh) = false from nar_sh NR.out.1)
 have G4 := hid (show (((settleF (csA Z0 n0 5#64 u0)).1.b.m &&& ~~~(csA Z0 n0 5#64 u0).b.m) != 0#64) = false from NR.out.1.mask NR.out.2.1)
 go_enter Try.func6, Try.ntmps6
 go_upto_region 1 with (first
  | (refine wpl_box rfl 30 (.tmp 0) rfl 6 _ rfl (N) hN ?_; intro w1 hN1 hb1 hh1)
  | fail)
 have lo0 : Below N w w1 := hb1
 have k1 := hh1
 clear hh1 hb1
 go_upto_region 1 with fail
 refine wp_region_lit ?_
 try simp only [pA]
 change wpList _ _ _ ((_ :: _ :: _ :: _ :: _ :: _ :: _ :: []) ++ (_ :: _ :: _ :: _ :: _ :: _ :: [])) _ _
 refine wpList_prefix (C := fun w' => ∃ x : Later (N + 1) w1, w' = x.w') _ _ _ _ ⟨⟨_, Below.refl _ _⟩, rfl⟩ ?_
 refine later_row hN1 30 (.tmp 2) rfl (N) rfl 30 6 _ k1 undCs szCs (by rfl) ?_; simp only [pA]
 go_big_quiet_step ((go_at_call 24; exact later_ofB hN1 _ (fun K hK hbB => Ranges_any Z0 Z1 p0 p1 n0 c0 n1 c1 z0 z1 u0 u1 hc0 hc1 _ K hK ((hw0.below hN lo0).below hN1 hbB) ((hw1.below hN lo0).below hN1 hbB))))
 iterate 5 (go_big_quiet_step (fail))
 refine wpQuiet_nil (laterE hN1 ?_)
 intro xw2 M3 hbxw2 hM3 lM3
 have k4 := k1.below hbxw2 (by omega)
 have lo5 := lo0.trans (hbxw2.mono (by omega))
 clear k1 lo0 hbxw2
 obtain ⟨b_xw6, eb_xw6⟩ : ∃ b_xw6, b_xw6 = M3 := ⟨_, rfl⟩
 have hzb_xw6 : Sz xw2 b_xw6 := by rw [eb_xw6]; exact hM3
 have lob_xw6 : M3 ≤ b_xw6 := by omega
 have upb_xw6 : b_xw6 ≤ M3 := by omega
 clear eb_xw6
 refine wpl_alloc rfl 34 rfl 6 (rC zeroR) zeRU b_xw6 hzb_xw6 ?_
 intro xw6 hMxw6 hbxw6 hhxw6; simp only [pA]
 have k7 := k4.below hbxw6 (by omega)
 have lo8 := lo5.trans (hbxw6.mono (by omega))
 clear k4 lo5 hbxw6 hzb_xw6
 obtain ⟨M9, eM9⟩ : ∃ M9, M9 = b_xw6 + 1 := ⟨_, rfl⟩
 rw [← eM9] at hMxw6
 have loM9 : b_xw6 + 1 ≤ M9 := by omega
 have upM9 : M9 ≤ b_xw6 + 1 := by omega
 clear eM9
 obtain ⟨b_xw10, eb_xw10⟩ : ∃ b_xw10, b_xw10 = M9 := ⟨_, rfl⟩
 have hzb_xw10 : Sz xw6 b_xw10 := by rw [eb_xw10]; exact hMxw6
 have lob_xw10 : M9 ≤ b_xw10 := by omega
 have upb_xw10 : b_xw10 ≤ M9 := by omega
 clear eb_xw10
 refine wpl_alloc rfl 34 rfl 6 (rC zeroR) zeRU b_xw10 hzb_xw10 ?_
 intro xw10 hMxw10 hbxw10 hhxw10; simp only [pA]
 have k11 := k7.below hbxw10 (by omega)
 have k12 := hhxw6.below hbxw10 (by omega)
 have lo13 := lo8.trans (hbxw10.mono (by omega))
 clear k7 hhxw6 lo8 hbxw10 hzb_xw10
 obtain ⟨M14, eM14⟩ : ∃ M14, M14 = b_xw10 + 1 := ⟨_, rfl⟩
 rw [← eM14] at hMxw10
 have loM14 : b_xw10 + 1 ≤ M14 := by omega
 have upM14 : M14 ≤ b_xw10 + 1 := by omega
 clear eM14
 refine wpl_store rfl 34 (.tmp 5) (.tmp 16) rfl b_xw6 6 (rC (csA Z0 n0 5#64 u0)) rfl rfl 34 _ k12 szRU (fun j _ => rC_one _ j) ?_
 intro xw15 t16 k17; try simp only [pA]
 have k18 := k11.touch t16 (by omega)
 have k19 := hhxw10.touch t16 (by omega)
 have lo20 := t16.below lo13 (by omega)
 have h21 := t16.sz hMxw10
 clear k12 k11 hhxw10 lo13 hMxw10 t16
 refine wpl_store rfl 34 (.tmp 6) (.tmp 17) rfl b_xw10 6 (rC (csA Z1 n1 3#64 u1)) rfl rfl 34 _ k19 szRU (fun j _ => rC_one _ j) ?_
 intro xw22 t23 k24; try simp only [pA]
 have k25 := k18.touch t23 (by omega)
 have k26 := k17.touch t23 (by omega)
 have lo27 := t23.below lo20 (by omega)
 have h28 := t23.sz h21
 clear k19 k18 k17 lo20 h21 t23
 refine wpl_run rfl (Q (csX Z0 n0 5#64 z0)) _ (run_as (x := (.tmp 18)) rfl _ rfl) ?_; simp only [pA]
 refine wpl_run rfl (Q (csX Z1 n1 3#64 z1)) _ (run_as (x := (.tmp 19)) rfl _ rfl) ?_; simp only [pA]
 obtain ⟨M29, hM29⟩ := sz_some xw22
 have lt_30 := k25.ltN hM29
 have lt_31 := k26.ltN hM29
 have lt_32 := k24.ltN hM29
 go_upto_region 2 with fail
 refine wp_region_any (by kernel_rfl) ?_
 replace k25 : Has xw22.drew N 30 6 (caC ⟨p0, n0, c0, p1, n1, c1, z0, z1, u0, u1⟩) := k25
 replace k26 : Has xw22.drew b_xw6 34 6 (rC (csA Z0 n0 5#64 u0)) := k26
 replace k24 : Has xw22.drew b_xw10 34 6 (rC (csA Z1 n1 3#64 u1)) := k24
 replace hM29 : Sz xw22.drew M29 := hM29
 replace lo27 : Below N w xw22.drew := lo27.drew
 change wpAny _ _ _ _ _ _ _ (World.drew _)
 generalize xw22.drew = xw33 at *
 refine wpAny_pot (rem := [0, 1, 2, 3, 4, 5]) (FG M29 (fun j => if j = 0 then some (Value.agg (cellsOf (rC (csA Z0 n0 5#64 u0)) 6)) else if j = 1 then some (Value.agg (cellsOf (rC (csA Z0 n0 5#64 u0)) 6)) else if j = 2 then some (Value.agg (cellsOf (rC (csA Z1 n1 3#64 u1)) 6)) else if j = 3 then some (Value.agg (cellsOf (rC (csA Z1 n1 3#64 u1)) 6)) else if j = 4 then some (Value.agg (cellsOf (rC (joinR (csA Z0 n0 5#64 u0) (csA Z1 n1 3#64 u1))) 6)) else none) (fun j => (41, 6, rC zeroR))) (TwoN (fun j => if j = 0 then some (Value.agg (cellsOf (rC (csA Z0 n0 5#64 u0)) 6)) else if j = 1 then some (Value.agg (cellsOf (rC (csA Z0 n0 5#64 u0)) 6)) else if j = 2 then some (Value.agg (cellsOf (rC (csA Z1 n1 3#64 u1)) 6)) else if j = 3 then some (Value.agg (cellsOf (rC (csA Z1 n1 3#64 u1)) 6)) else if j = 4 then some (Value.agg (cellsOf (rC (joinR (csA Z0 n0 5#64 u0) (csA Z1 n1 3#64 u1))) 6)) else none)) (Below M29 xw33) _ _ _ _ (by kernel_rfl) (size_dstG (by kernel_rfl)) (Below.refl _ _) ?_ ?_
 ·intro i hi ac wa hI ha hv
  simp only [List.mem_cons, List.not_mem_nil, or_false] at hi
  rcases hi with rfl | rfl | rfl | rfl | rfl | rfl
  ·exact potg_run rfl rfl (Value.agg (cellsOf (rC (csA Z0 n0 5#64 u0)) 6)) rfl (run_rw 34 (.tmp 5) rfl b_xw6 (ha 5 (not_dstG (by kernel_rfl))) 34 6 _ (Has.below k26 hI (Has.ltN k26 hM29)) undRU szRU) hM29 hI
  ·obtain ⟨v0, hv0a, hv0b⟩ := hv 0 (by simp) (by kernel_rfl)
   have ev0 := hv0b.val rfl
   subst ev0
   exact potg_cl rfl rfl 26 _ _ rfl #[(Value.agg (cellsOf (rC (csA Z0 n0 5#64 u0)) 6))] (by simp only [List.map_toArray, List.map_cons, List.map_nil, (show ac.eval (.tmp 20) = (Value.agg (cellsOf (rC (csA Z0 n0 5#64 u0)) 6)) from (hv0a 20 rfl))] <;> rfl) (by kernel_rfl) (Value.agg (cellsOf (rC (csA Z0 n0 5#64 u0)) 6)) (fun K hK => To14_any (csA Z0 n0 5#64 u0) wa K hK) rfl hM29 hI
  ·exact potg_run rfl rfl (Value.agg (cellsOf (rC (csA Z1 n1 3#64 u1)) 6)) rfl (run_rw 34 (.tmp 6) rfl b_xw10 (ha 6 (not_dstG (by kernel_rfl))) 34 6 _ (Has.below k24 hI (Has.ltN k24 hM29)) undRU szRU) hM29 hI
  ·obtain ⟨v2, hv2a, hv2b⟩ := hv 2 (by simp) (by kernel_rfl)
   have ev2 := hv2b.val rfl
   subst ev2
   exact potg_cl rfl rfl 26 _ _ rfl #[(Value.agg (cellsOf (rC (csA Z1 n1 3#64 u1)) 6))] (by simp only [List.map_toArray, List.map_cons, List.map_nil, (show ac.eval (.tmp 22) = (Value.agg (cellsOf (rC (csA Z1 n1 3#64 u1)) 6)) from (hv2a 22 rfl))] <;> rfl) (by kernel_rfl) (Value.agg (cellsOf (rC (csA Z1 n1 3#64 u1)) 6)) (fun K hK => To14_any (csA Z1 n1 3#64 u1) wa K hK) rfl hM29 hI
  ·obtain ⟨v1, hv1a, hv1b⟩ := hv 1 (by simp) (by kernel_rfl)
   have ev1 := hv1b.val rfl
   subst ev1
   obtain ⟨v3, hv3a, hv3b⟩ := hv 3 (by simp) (by kernel_rfl)
   have ev3 := hv3b.val rfl
   subst ev3
   exact potg_cl rfl rfl 29 _ _ rfl #[(Value.agg (cellsOf (rC (csA Z0 n0 5#64 u0)) 6)), (Value.agg (cellsOf (rC (csA Z1 n1 3#64 u1)) 6))] (by simp only [List.map_toArray, List.map_cons, List.map_nil, (show ac.eval (.tmp 21) = (Value.agg (cellsOf (rC (csA Z0 n0 5#64 u0)) 6)) from (hv1a 21 rfl)), (show ac.eval (.tmp 23) = (Value.agg (cellsOf (rC (csA Z1 n1 3#64 u1)) 6)) from (hv3a 23 rfl))] <;> rfl) (by kernel_rfl) (Value.agg (cellsOf (rC (joinR (csA Z0 n0 5#64 u0) (csA Z1 n1 3#64 u1))) 6)) (fun K hK => SJoin_any (csA Z0 n0 5#64 u0) (csA Z1 n1 3#64 u1) wa K hK) rfl hM29 hI
  ·exact potg_al rfl rfl rfl zeR rfl rfl hM29 hI
 ·intro vals w5_34_ hb5_34_ hF hG
  have e_34_0 := (hF 0 (by simp)).val rfl
  have e_34_1 := (hF 1 (by simp)).val rfl
  have e_34_2 := (hF 2 (by simp)).val rfl
  have e_34_3 := (hF 3 (by simp)).val rfl
  have e_34_4 := (hF 4 (by simp)).val rfl
  obtain ⟨b_34_5, l_34_5, e_34_5, h_34_5⟩ := (hF 5 (by simp)).al rfl rfl
  clear hF hG
  simp only [List.foldl_cons, List.foldl_nil, dstOf, List.getElem?_toArray, List.getElem?_cons_succ, List.getElem?_cons_zero, Option.bind_some, Act.put, List.setIfInBounds_toArray, List.set_cons_succ, List.set_cons_zero, e_34_0, e_34_1, e_34_2, e_34_3, e_34_4, e_34_5]
  clear e_34_0 e_34_1 e_34_2 e_34_3 e_34_4 e_34_5
  refine wpAny_chain [6] _ _ _ _ (by kernel_rfl) (by decide) ?_
  simp only [List.filterMap_cons, List.filterMap_nil, List.getElem?_toArray, List.getElem?_cons_succ, List.getElem?_cons_zero]
  have k35 := k25.below hb5_34_ (by omega)
  have k36 := k26.below hb5_34_ (by omega)
  have k37 := k24.below hb5_34_ (by omega)
  have lo38 := lo27.trans (hb5_34_.mono (by omega))
  clear k25 k26 k24 lo27 hb5_34_
  refine wpl_store rfl 41 (.tmp 9) (.tmp 24) rfl b_34_5 6 (rC (joinR (csA Z0 n0 5#64 u0) (csA Z1 n1 3#64 u1))) rfl rfl 41 _ h_34_5 szR (fun j _ => rC_one _ j) ?_
  intro xw39 t40 k41
  have k42 := k35.touch t40 (by omega)
  have k43 := k36.touch t40 (by omega)
  have k44 := k37.touch t40 (by omega)
  have lo45 := t40.below lo38 (by omega)
  clear h_34_5 k35 k36 k37 lo38 t40
  obtain ⟨M46, hM46⟩ := sz_some xw39
  have lt_47 := k42.ltN hM46
  have lt_48 := k43.ltN hM46
  have lt_49 := k44.ltN hM46
  have lt_50 := k41.ltN hM46
  have CS51 := fun w N hN => Settle_any (csA Z0 n0 5#64 u0) w N hN
  rw [F2.out] at CS51
  go_upto_region 3 with fail
  refine wp_region_lit ?_
  try simp only [pA]
  change wpList _ _ _ ((_ :: _ :: _ :: _ :: _ :: _ :: []) ++ (_ :: _ :: _ :: [])) _ _
  refine wpList_prefix (C := fun w' => ∃ x : Later M46 xw39, w' = x.w') _ _ _ _ ⟨⟨_, Below.refl _ _⟩, rfl⟩ ?_
  refine later_row hM46 34 (.tmp 5) rfl (b_xw6) rfl 34 6 _ k43 undRU szRU (by rfl) ?_; simp only [pA]
  go_big_quiet_step ((go_at_call 26; exact later_of hM46 _ (fun K hK hKN => To14_any (csA Z0 n0 5#64 u0) _ K hK)))
  go_big_quiet_step ((go_at_call 30; exact later_of hM46 _ (fun K hK hKN => CS51 _ K hK)))
  iterate 3 (go_big_quiet_step (fail))
  refine wpQuiet_nil (laterE hM46 ?_)
  intro xw52 M53 hbxw52 hM53 lM53
  have k54 := k42.below hbxw52 (by omega)
  have k55 := k43.below hbxw52 (by omega)
  have k56 := k44.below hbxw52 (by omega)
  have k57 := k41.below hbxw52 (by omega)
  have lo58 := lo45.trans (hbxw52.mono (by omega))
  clear k42 k43 k44 k41 lo45 hbxw52
  obtain ⟨b_xw59, eb_xw59⟩ : ∃ b_xw59, b_xw59 = M53 := ⟨_, rfl⟩
  have hzb_xw59 : Sz xw52 b_xw59 := by rw [eb_xw59]; exact hM53
  have lob_xw59 : M53 ≤ b_xw59 := by omega
  have upb_xw59 : b_xw59 ≤ M53 := by omega
  clear eb_xw59
  refine wpl_alloc rfl 41 rfl 6 (rC zeroR) zeR b_xw59 hzb_xw59 ?_
  intro xw59 hMxw59 hbxw59 hhxw59; simp only [pA]
  have k60 := k54.below hbxw59 (by omega)
  have k61 := k55.below hbxw59 (by omega)
  have k62 := k56.below hbxw59 (by omega)
  have k63 := k57.below hbxw59 (by omega)
  have lo64 := lo58.trans (hbxw59.mono (by omega))
  clear k54 k55 k56 k57 lo58 hbxw59 hzb_xw59
  obtain ⟨M65, eM65⟩ : ∃ M65, M65 = b_xw59 + 1 := ⟨_, rfl⟩
  rw [← eM65] at hMxw59
  have loM65 : b_xw59 + 1 ≤ M65 := by omega
  have upM65 : M65 ≤ b_xw59 + 1 := by omega
  clear eM65
  refine wpl_store rfl 41 (.tmp 10) (.tmp 29) rfl b_xw59 6 (rC (settleF (csA Z0 n0 5#64 u0)).1) rfl rfl 41 _ hhxw59 szR (fun j _ => rC_one _ j) ?_
  intro xw66 t67 k68; try simp only [pA]
  have k69 := k60.touch t67 (by omega)
  have k70 := k61.touch t67 (by omega)
  have k71 := k62.touch t67 (by omega)
  have k72 := k63.touch t67 (by omega)
  have lo73 := t67.below lo64 (by omega)
  have h74 := t67.sz hMxw59
  clear hhxw59 k60 k61 k62 k63 lo64 hMxw59 t67
  refine wpl_run rfl (Value.bool true) _ (run_as (x := (.tmp 30)) rfl _ rfl) ?_; simp only [pA]
  obtain ⟨M75, hM75⟩ := sz_some xw66
  have lt_76 := k69.ltN hM75
  have lt_77 := k70.ltN hM75
  have lt_78 := k71.ltN hM75
  have lt_79 := k72.ltN hM75
  have lt_80 := k68.ltN hM75
  go_upto_region 4 with fail
  refine wp_region_later1 (M75) ?_
  try simp only [pA]
  iterate 2 (go_big_quiet_step (fail))
  refine wpQuiet_nil (laterE hM75 ?_)
  intro xw81 M82 hbxw81 hM82 lM82
  have k83 := k69.below hbxw81 (by omega)
  have k84 := k70.below hbxw81 (by omega)
  have k85 := k71.below hbxw81 (by omega)
  have k86 := k72.below hbxw81 (by omega)
  have k87 := k68.below hbxw81 (by omega)
  have lo88 := lo73.trans (hbxw81.mono (by omega))
  clear k69 k70 k71 k72 k68 lo73 hbxw81
  go_upto_region 5 with fail
  refine wp_region_later1 (M82) ?_
  try simp only [pA]
  iterate 10 (go_big_quiet_step (fail))
  refine wpQuiet_nil (laterE hM82 ?_)
  intro xw89 M90 hbxw89 hM90 lM90
  have k91 := k83.below hbxw89 (by omega)
  have k92 := k84.below hbxw89 (by omega)
  have k93 := k85.below hbxw89 (by omega)
  have k94 := k86.below hbxw89 (by omega)
  have k95 := k87.below hbxw89 (by omega)
  have lo96 := lo88.trans (hbxw89.mono (by omega))
  clear k83 k84 k85 k86 k87 lo88 hbxw89
  go_upto_region 6 with fail
  refine wp_region_later1 (M90) ?_
  try simp only [pA]
  iterate 2 (go_big_quiet_step (fail))
  refine later_val (fun q => run_mulL (x := (.const (.int .i64 8))) (y := (.tmp 43)) rfl rfl rfl (show IntKind.i64.wrap (8 * 4) = 32 by decide) q.w') (by rfl) ?_; simp only [pA]
  refine later_b (x := (.const (.int .u64 1))) (y := (.tmp 44)) rfl (bin_shl _ 1#64 32) rfl rfl (by rfl) ?_; simp only [pA]
  refine later_b (x := (.tmp 42)) (y := (.tmp 45)) rfl (bin_rem _ (csX Z0 n0 5#64 z0) (1#64 <<< 32) (by decide)) rfl rfl (by rfl) ?_; simp only [pA]
  go_big_quiet_step (fail)
  refine wpQuiet_nil (laterE hM90 ?_)
  intro xw97 M98 hbxw97 hM98 lM98
  have k99 := k91.below hbxw97 (by omega)
  have k100 := k92.below hbxw97 (by omega)
  have k101 := k93.below hbxw97 (by omega)
  have k102 := k94.below hbxw97 (by omega)
  have k103 := k95.below hbxw97 (by omega)
  have lo104 := lo96.trans (hbxw97.mono (by omega))
  clear k91 k92 k93 k94 k95 lo96 hbxw97
  go_upto_region 7 with fail
  refine wp_region_later1 (M98) ?_
  try simp only [pA]
  go_big_quiet_step ((go_at_call 21; exact later_of hM98 _ (fun K hK hKN => evals_any _ K hK)))
  iterate 2 (go_big_quiet_step (fail))
  refine later_row hM98 41 (.tmp 9) rfl (b_34_5) rfl 41 6 _ k102 undR szR (by rfl) ?_; simp only [pA]
  go_big_quiet_step (fail)
  go_big_quiet_step ((go_at_call 25; exact later_of hM98 _ (fun K hK hKN => ret_is F0.out (SHas_any (joinR (csA Z0 n0 5#64 u0) (csA Z1 n1 3#64 u1)) (csX Z0 n0 5#64 z0)) _ K hK)))
  iterate 3 (go_big_quiet_step (fail))
  refine later_row hM98 41 (.tmp 9) rfl (b_34_5) rfl 41 6 _ k102 undR szR (by rfl) ?_; simp only [pA]
  go_big_quiet_step (fail)
  go_big_quiet_step ((go_at_call 25; exact later_of hM98 _ (fun K hK hKN => ret_is F1.out (SHas_any (joinR (csA Z0 n0 5#64 u0) (csA Z1 n1 3#64 u1)) (csX Z1 n1 3#64 z1)) _ K hK)))
  iterate 7 (go_big_quiet_step (fail))
  refine later_row hM98 41 (.tmp 10) rfl (b_xw59) rfl 41 6 _ k103 undR szR (by rfl) ?_; simp only [pA]
  go_big_quiet_step (fail)
  go_big_quiet_step ((go_at_call 25; exact later_of hM98 _ (fun K hK hKN => ret_is F3.out (SHas_any (settleF (csA Z0 n0 5#64 u0)).1 (csX Z0 n0 5#64 z0)) _ K hK)))
  iterate 3 (go_big_quiet_step (fail))
  refine later_row hM98 34 (.tmp 5) rfl (b_xw6) rfl 34 6 _ k100 undRU szRU (by rfl) ?_; simp only [pA]
  go_big_quiet_step ((go_at_call 26; exact later_of hM98 _ (fun K hK hKN => To14_any (csA Z0 n0 5#64 u0) _ K hK)))
  go_big_quiet_step (fail)
  go_big_quiet_step ((go_at_call 31; exact later_of hM98 _ (fun K hK hKN => SLow_4 (csA Z0 n0 5#64 u0) _ K hK)))
  go_big_quiet_step (fail)
  go_big_quiet_step ((go_at_call 25; exact later_of hM98 _ (fun K hK hKN => ret_is F6.out (SHas_any (lowR4 (csA Z0 n0 5#64 u0)) ((csX Z0 n0 5#64 z0) % (1#64 <<< 32))) _ K hK)))
  iterate 2 (go_big_quiet_step (fail))
  refine wpQuiet_nil (laterE hM98 ?_)
  intro xw105 M106 hbxw105 hM106 lM106
  have k107 := k99.below hbxw105 (by omega)
  have k108 := k100.below hbxw105 (by omega)
  have k109 := k101.below hbxw105 (by omega)
  have k110 := k102.below hbxw105 (by omega)
  have k111 := k103.below hbxw105 (by omega)
  have lo112 := lo104.trans (hbxw105.mono (by omega))
  clear k99 k100 k101 k102 k103 lo104 hbxw105
  go_upto_region 9 with fail
  obtain ⟨c113, c114, c115, c116, c117, c118⟩ := r_cells k111
  obtain ⟨c119, c120, c121, c122, c123, c124⟩ := r_cells k108
  refine wp_region_later1 (M106) ?_
  try simp only [pA]
  go_big_quiet_step (fail)
  refine later_c1 hM106 22 (.tmp 80) rfl rfl und64 rfl c115 (by rfl) ?_; simp only [pA]
  go_big_quiet_step (fail)
  refine later_c1 hM106 22 (.tmp 82) rfl rfl und64 rfl c121 (by rfl) ?_; simp only [pA]
  refine later_b (x := (.tmp 81)) (y := (.tmp 83)) rfl (BinRun.is G0.out (bin_lss _ (settleF (csA Z0 n0 5#64 u0)).1.lo (csA Z0 n0 5#64 u0).lo)) rfl rfl (by rfl) ?_; simp only [pA]
  iterate 2 (go_big_quiet_step (fail))
  refine later_c1 hM106 22 (.tmp 86) rfl rfl und64 rfl c116 (by rfl) ?_; simp only [pA]
  go_big_quiet_step (fail)
  refine later_c1 hM106 22 (.tmp 88) rfl rfl und64 rfl c122 (by rfl) ?_; simp only [pA]
  refine later_b (x := (.tmp 87)) (y := (.tmp 89)) rfl (BinRun.is G1.out (bin_gtr _ (settleF (csA Z0 n0 5#64 u0)).1.hi (csA Z0 n0 5#64 u0).hi)) rfl rfl (by rfl) ?_; simp only [pA]
  iterate 3 (go_big_quiet_step (fail))
  refine later_c1 hM106 2 (.tmp 93) rfl rfl undI64 rfl c117 (by rfl) ?_; simp only [pA]
  go_big_quiet_step (fail)
  refine later_c1 hM106 2 (.tmp 95) rfl rfl undI64 rfl c123 (by rfl) ?_; simp only [pA]
  refine later_b (x := (.tmp 94)) (y := (.tmp 96)) rfl (BinRun.is G2.out (bin_slss _ (settleF (csA Z0 n0 5#64 u0)).1.sl (csA Z0 n0 5#64 u0).sl)) rfl rfl (by rfl) ?_; simp only [pA]
  iterate 3 (go_big_quiet_step (fail))
  refine later_c1 hM106 2 (.tmp 100) rfl rfl undI64 rfl c118 (by rfl) ?_; simp only [pA]
  go_big_quiet_step (fail)
  refine later_c1 hM106 2 (.tmp 102) rfl rfl undI64 rfl c124 (by rfl) ?_; simp only [pA]
  refine later_b (x := (.tmp 101)) (y := (.tmp 103)) rfl (BinRun.is G3.out (bin_sgtr _ (settleF (csA Z0 n0 5#64 u0)).1.sh (csA Z0 n0 5#64 u0).sh)) rfl rfl (by rfl) ?_; simp only [pA]
  iterate 4 (go_big_quiet_step (fail))
  refine later_c1 hM106 22 (.tmp 108) rfl rfl und64 rfl c114 (by rfl) ?_; simp only [pA]
  iterate 2 (go_big_quiet_step (fail))
  refine later_c1 hM106 22 (.tmp 111) rfl rfl und64 rfl c120 (by rfl) ?_; simp only [pA]
  refine later_b (x := (.tmp 109)) (y := (.tmp 112)) rfl (bin_andn _ (settleF (csA Z0 n0 5#64 u0)).1.b.m (csA Z0 n0 5#64 u0).b.m) rfl rfl (by rfl) ?_; simp only [pA]
  refine later_b (x := (.tmp 113)) (y := (.const (.int .u64 0))) rfl (BinRun.is G4.out (bin_neq _ ((settleF (csA Z0 n0 5#64 u0)).1.b.m &&& ~~~(csA Z0 n0 5#64 u0).b.m) 0#64)) rfl rfl (by rfl) ?_; simp only [pA]
  go_big_quiet_step (fail)
  refine wpQuiet_nil (laterE hM106 ?_)
  intro xw125 M126 hbxw125 hM126 lM126
  have k127 := k107.below hbxw125 (by omega)
  have k128 := k108.below hbxw125 (by omega)
  have k129 := k109.below hbxw125 (by omega)
  have k130 := k110.below hbxw125 (by omega)
  have k131 := k111.below hbxw125 (by omega)
  have lo132 := lo112.trans (hbxw125.mono (by omega))
  clear k107 k108 c119 c120 c121 c122 c123 c124 k109 k110 k111 c113 c114 c115 c116 c117 c118 lo112 hbxw125
  go_upto_region 11 with fail
  refine wp_region_later (M126) (by kernel_rfl) (by kernel_rfl) ?_
  try simp only [pA]
  refine later_row hM126 34 (.tmp 5) rfl (b_xw6) rfl 34 6 _ k128 undRU szRU (by rfl) ?_; simp only [pA]
  go_big_quiet_step ((go_at_call 26; exact later_of hM126 _ (fun K hK hKN => To14_any (csA Z0 n0 5#64 u0) _ K hK)))
  refine later_row hM126 34 (.tmp 6) rfl (b_xw10) rfl 34 6 _ k129 undRU szRU (by rfl) ?_; simp only [pA]
  go_big_quiet_step ((go_at_call 26; exact later_of hM126 _ (fun K hK hKN => To14_any (csA Z1 n1 3#64 u1) _ K hK)))
  go_big_quiet_step ((go_at_call 32; exact later_of hM126 _ (fun K hK hKN => ret_is HW.out (SWithin_any (csA Z0 n0 5#64 u0) (csA Z1 n1 3#64 u1)) _ K hK)))
  iterate 7 (go_big_quiet_step (fail))
  refine wpQuiet_nil (laterE hM126 ?_)
  intro xw133 M134 hbxw133 hM134 lM134
  have k135 := k127.below hbxw133 (by omega)
  have k136 := k128.below hbxw133 (by omega)
  have k137 := k129.below hbxw133 (by omega)
  have k138 := k130.below hbxw133 (by omega)
  have k139 := k131.below hbxw133 (by omega)
  have lo140 := lo132.trans (hbxw133.mono (by omega))
  clear k127 k128 k129 k130 k131 lo132 hbxw133
  go_upto_region 13 with fail
  refine wp_region_later (M134) (by kernel_rfl) (by kernel_rfl) ?_
  try simp only [pA]
  refine later_row hM134 34 (.tmp 5) rfl (b_xw6) rfl 34 6 _ k136 undRU szRU (by rfl) ?_; simp only [pA]
  go_big_quiet_step ((go_at_call 26; exact later_of hM134 _ (fun K hK hKN => To14_any (csA Z0 n0 5#64 u0) _ K hK)))
  refine later_row hM134 34 (.tmp 5) rfl (b_xw6) rfl 34 6 _ k136 undRU szRU (by rfl) ?_; simp only [pA]
  go_big_quiet_step ((go_at_call 26; exact later_of hM134 _ (fun K hK hKN => To14_any (csA Z0 n0 5#64 u0) _ K hK)))
  go_big_quiet_step ((go_at_call 32; exact later_of hM134 _ (fun K hK hKN => ret_is F4.out (SWithin_any (csA Z0 n0 5#64 u0) (csA Z0 n0 5#64 u0)) _ K hK)))
  go_big_quiet_step (fail)
  refine later_row hM134 34 (.tmp 5) rfl (b_xw6) rfl 34 6 _ k136 undRU szRU (by rfl) ?_; simp only [pA]
  go_big_quiet_step ((go_at_call 26; exact later_of hM134 _ (fun K hK hKN => To14_any (csA Z0 n0 5#64 u0) _ K hK)))
  go_big_quiet_step ((go_at_call 33; exact later_of hM134 _ (fun K hK hKN => SAny_any  _ K hK)))
  go_big_quiet_step ((go_at_call 32; exact later_of hM134 _ (fun K hK hKN => ret_is F5.out (SWithin_any (csA Z0 n0 5#64 u0) (obR tAny)) _ K hK)))
  iterate 2 (go_big_quiet_step (fail))
  refine wpQuiet_nil (laterE hM134 ?_)
  intro xw141 M142 hbxw141 hM142 lM142
  have k143 := k135.below hbxw141 (by omega)
  have k144 := k136.below hbxw141 (by omega)
  have k145 := k137.below hbxw141 (by omega)
  have k146 := k138.below hbxw141 (by omega)
  have k147 := k139.below hbxw141 (by omega)
  have lo148 := lo140.trans (hbxw141.mono (by omega))
  clear k135 k136 k137 k138 k139 lo140 hbxw141
  go_wp2_with fail
  go_ret
  exact ⟨rfl, lo148⟩
set_option maxRecDepth 100000 in
set_option maxHeartbeats 8000000 in
theorem law_sjoins_zt (Z0 Z1 : Nat → W) (p0 p1 : Option Addr) (n0 c0 n1 c1 : Nat) (z0 z1 : Int) (u0 u1 : W) (z : Int) (w : World) (N : Nat) (hN : Sz w N) (hc0 : n0 ≤ c0) (hc1 : n1 ≤ c1) (hw0 : Ats w p0 n0 (fun j => Q (Z0 j))) (hw1 : Ats w p1 n1 (fun j => Q (Z1 j))) (HW : Hid (sWithin (csA Z0 n0 5#64 u0) (csA Z1 n1 3#64 u1) = true)) (H1 : Hid ((z == 1) = false)) (H2 : Hid ((z == 2) = false)) (H4 : Hid ((z == 4) = false)) : Calls Try.prog 6 #[(Value.agg (cellsOf (caC ⟨p0, n0, c0, p1, n1, c1, z0, z1, u0, u1⟩) 6)), (Value.int .i64 z)] w fun e w' => e = .returned (.bool true) ∧ Below N w w' := by
 have NR := hid (settle_nar (settle_in (cs_in Z0 n0 5#64 u0 z0)).1)
 have h1 := H1.out
 have h2 := H2.out
 have h4 := H4.out
 have F0 := hid (show (sHas (joinR (csA Z0 n0 5#64 u0) (csA Z1 n1 3#64 u1)) (csX Z0 n0 5#64 z0)) = true from (join_in_l (cs_in Z0 n0 5#64 u0 z0) (cs_rgt Z1 n1 3#64 u1)).has)
 have F1 := hid (show (sHas (joinR (csA Z0 n0 5#64 u0) (csA Z1 n1 3#64 u1)) (csX Z1 n1 3#64 z1)) = true from (join_in_r (cs_in Z1 n1 3#64 u1 z1) (cs_rgt Z0 n0 5#64 u0)).has)
 have F2 := hid (show (settleF (csA Z0 n0 5#64 u0)).2 = true from (settle_in (cs_in Z0 n0 5#64 u0 z0)).1)
 have F3 := hid (show (sHas (settleF (csA Z0 n0 5#64 u0)).1 (csX Z0 n0 5#64 z0)) = true from (settle_in (cs_in Z0 n0 5#64 u0 z0)).2.has)
 have F4 := hid (show (sWithin (csA Z0 n0 5#64 u0) (csA Z0 n0 5#64 u0)) = true from sWithin_self (cs_rgt Z0 n0 5#64 u0))
 have F5 := hid (show (sWithin (csA Z0 n0 5#64 u0) (obR tAny)) = true from sWithin_any _)
 have F6 := hid (show (sHas (lowRo (csA Z0 n0 5#64 u0) z) (csX Z0 n0 5#64 z0)) = true from (cs_in Z0 n0 5#64 u0 z0).has)
 have F7 := hid (show (sHas (csA Z1 n1 3#64 u1) (csX Z0 n0 5#64 z0)) = true from (within_in HW.out (cs_in Z0 n0 5#64 u0 z0) (cs_rgt Z1 n1 3#64 u1)).has)
 have G0 := hid (show (BitVec.ult (settleF (csA Z0 n0 5#64 u0)).1.lo (csA Z0 n0 5#64 u0).lo) = false from nar_lo NR.out.1)
 have G1 := hid (show (BitVec.ult (csA Z0 n0 5#64 u0).hi (settleF (csA Z0 n0 5#64 u0)).1.hi) = false from nar_hi NR.out.1)
 have G2 := hid (show (BitVec.slt (settleF (csA Z0 n0 5#64 u0)).1.sl (csA Z0 n0 5#64 u0).sl) = false from nar_sl NR.out.1)
 have G3 := hid (show (BitVec.slt (csA Z0 n0 5#64 u0).sh (settleF (csA Z0 n0 5#64 u0)).1.sh) = false from nar_sh NR.out.1)
 have G4 := hid (show (((settleF (csA Z0 n0 5#64 u0)).1.b.m &&& ~~~(csA Z0 n0 5#64 u0).b.m) != 0#64) = false from NR.out.1.mask NR.out.2.1)
 go_enter Try.func6, Try.ntmps6
 go_upto_region 1 with (first
  | (refine wpl_box rfl 30 (.tmp 0) rfl 6 _ rfl (N) hN ?_; intro w1 hN1 hb1 hh1)
  | fail)
 have lo0 : Below N w w1 := hb1
 have k1 := hh1
 clear hh1 hb1
 go_upto_region 1 with fail
 refine wp_region_lit ?_
 try simp only [pA]
 change wpList _ _ _ ((_ :: _ :: _ :: _ :: _ :: _ :: _ :: []) ++ (_ :: _ :: _ :: _ :: _ :: _ :: [])) _ _
 refine wpList_prefix (C := fun w' => ∃ x : Later (N + 1) w1, w' = x.w') _ _ _ _ ⟨⟨_, Below.refl _ _⟩, rfl⟩ ?_
 refine later_row hN1 30 (.tmp 2) rfl (N) rfl 30 6 _ k1 undCs szCs (by rfl) ?_; simp only [pA]
 go_big_quiet_step ((go_at_call 24; exact later_ofB hN1 _ (fun K hK hbB => Ranges_any Z0 Z1 p0 p1 n0 c0 n1 c1 z0 z1 u0 u1 hc0 hc1 _ K hK ((hw0.below hN lo0).below hN1 hbB) ((hw1.below hN lo0).below hN1 hbB))))
 iterate 5 (go_big_quiet_step (fail))
 refine wpQuiet_nil (laterE hN1 ?_)
 intro xw2 M3 hbxw2 hM3 lM3
 have k4 := k1.below hbxw2 (by omega)
 have lo5 := lo0.trans (hbxw2.mono (by omega))
 clear k1 lo0 hbxw2
 obtain ⟨b_xw6, eb_xw6⟩ : ∃ b_xw6, b_xw6 = M3 := ⟨_, rfl⟩
 have hzb_xw6 : Sz xw2 b_xw6 := by rw [eb_xw6]; exact hM3
 have lob_xw6 : M3 ≤ b_xw6 := by omega
 have upb_xw6 : b_xw6 ≤ M3 := by omega
 clear eb_xw6
 refine wpl_alloc rfl 34 rfl 6 (rC zeroR) zeRU b_xw6 hzb_xw6 ?_
 intro xw6 hMxw6 hbxw6 hhxw6; simp only [pA]
 have k7 := k4.below hbxw6 (by omega)
 have lo8 := lo5.trans (hbxw6.mono (by omega))
 clear k4 lo5 hbxw6 hzb_xw6
 obtain ⟨M9, eM9⟩ : ∃ M9, M9 = b_xw6 + 1 := ⟨_, rfl⟩
 rw [← eM9] at hMxw6
 have loM9 : b_xw6 + 1 ≤ M9 := by omega
 have upM9 : M9 ≤ b_xw6 + 1 := by omega
 clear eM9
 obtain ⟨b_xw10, eb_xw10⟩ : ∃ b_xw10, b_xw10 = M9 := ⟨_, rfl⟩
 have hzb_xw10 : Sz xw6 b_xw10 := by rw [eb_xw10]; exact hMxw6
 have lob_xw10 : M9 ≤ b_xw10 := by omega
 have upb_xw10 : b_xw10 ≤ M9 := by omega
 clear eb_xw10
 refine wpl_alloc rfl 34 rfl 6 (rC zeroR) zeRU b_xw10 hzb_xw10 ?_
 intro xw10 hMxw10 hbxw10 hhxw10; simp only [pA]
 have k11 := k7.below hbxw10 (by omega)
 have k12 := hhxw6.below hbxw10 (by omega)
 have lo13 := lo8.trans (hbxw10.mono (by omega))
 clear k7 hhxw6 lo8 hbxw10 hzb_xw10
 obtain ⟨M14, eM14⟩ : ∃ M14, M14 = b_xw10 + 1 := ⟨_, rfl⟩
 rw [← eM14] at hMxw10
 have loM14 : b_xw10 + 1 ≤ M14 := by omega
 have upM14 : M14 ≤ b_xw10 + 1 := by omega
 clear eM14
 refine wpl_store rfl 34 (.tmp 5) (.tmp 16) rfl b_xw6 6 (rC (csA Z0 n0 5#64 u0)) rfl rfl 34 _ k12 szRU (fun j _ => rC_one _ j) ?_
 intro xw15 t16 k17; try simp only [pA]
 have k18 := k11.touch t16 (by omega)
 have k19 := hhxw10.touch t16 (by omega)
 have lo20 := t16.below lo13 (by omega)
 have h21 := t16.sz hMxw10
 clear k12 k11 hhxw10 lo13 hMxw10 t16
 refine wpl_store rfl 34 (.tmp 6) (.tmp 17) rfl b_xw10 6 (rC (csA Z1 n1 3#64 u1)) rfl rfl 34 _ k19 szRU (fun j _ => rC_one _ j) ?_
 intro xw22 t23 k24; try simp only [pA]
 have k25 := k18.touch t23 (by omega)
 have k26 := k17.touch t23 (by omega)
 have lo27 := t23.below lo20 (by omega)
 have h28 := t23.sz h21
 clear k19 k18 k17 lo20 h21 t23
 refine wpl_run rfl (Q (csX Z0 n0 5#64 z0)) _ (run_as (x := (.tmp 18)) rfl _ rfl) ?_; simp only [pA]
 refine wpl_run rfl (Q (csX Z1 n1 3#64 z1)) _ (run_as (x := (.tmp 19)) rfl _ rfl) ?_; simp only [pA]
 obtain ⟨M29, hM29⟩ := sz_some xw22
 have lt_30 := k25.ltN hM29
 have lt_31 := k26.ltN hM29
 have lt_32 := k24.ltN hM29
 go_upto_region 2 with fail
 refine wp_region_any (by kernel_rfl) ?_
 replace k25 : Has xw22.drew N 30 6 (caC ⟨p0, n0, c0, p1, n1, c1, z0, z1, u0, u1⟩) := k25
 replace k26 : Has xw22.drew b_xw6 34 6 (rC (csA Z0 n0 5#64 u0)) := k26
 replace k24 : Has xw22.drew b_xw10 34 6 (rC (csA Z1 n1 3#64 u1)) := k24
 replace hM29 : Sz xw22.drew M29 := hM29
 replace lo27 : Below N w xw22.drew := lo27.drew
 change wpAny _ _ _ _ _ _ _ (World.drew _)
 generalize xw22.drew = xw33 at *
 refine wpAny_pot (rem := [0, 1, 2, 3, 4, 5]) (FG M29 (fun j => if j = 0 then some (Value.agg (cellsOf (rC (csA Z0 n0 5#64 u0)) 6)) else if j = 1 then some (Value.agg (cellsOf (rC (csA Z0 n0 5#64 u0)) 6)) else if j = 2 then some (Value.agg (cellsOf (rC (csA Z1 n1 3#64 u1)) 6)) else if j = 3 then some (Value.agg (cellsOf (rC (csA Z1 n1 3#64 u1)) 6)) else if j = 4 then some (Value.agg (cellsOf (rC (joinR (csA Z0 n0 5#64 u0) (csA Z1 n1 3#64 u1))) 6)) else none) (fun j => (41, 6, rC zeroR))) (TwoN (fun j => if j = 0 then some (Value.agg (cellsOf (rC (csA Z0 n0 5#64 u0)) 6)) else if j = 1 then some (Value.agg (cellsOf (rC (csA Z0 n0 5#64 u0)) 6)) else if j = 2 then some (Value.agg (cellsOf (rC (csA Z1 n1 3#64 u1)) 6)) else if j = 3 then some (Value.agg (cellsOf (rC (csA Z1 n1 3#64 u1)) 6)) else if j = 4 then some (Value.agg (cellsOf (rC (joinR (csA Z0 n0 5#64 u0) (csA Z1 n1 3#64 u1))) 6)) else none)) (Below M29 xw33) _ _ _ _ (by kernel_rfl) (size_dstG (by kernel_rfl)) (Below.refl _ _) ?_ ?_
 ·intro i hi ac wa hI ha hv
  simp only [List.mem_cons, List.not_mem_nil, or_false] at hi
  rcases hi with rfl | rfl | rfl | rfl | rfl | rfl
  ·exact potg_run rfl rfl (Value.agg (cellsOf (rC (csA Z0 n0 5#64 u0)) 6)) rfl (run_rw 34 (.tmp 5) rfl b_xw6 (ha 5 (not_dstG (by kernel_rfl))) 34 6 _ (Has.below k26 hI (Has.ltN k26 hM29)) undRU szRU) hM29 hI
  ·obtain ⟨v0, hv0a, hv0b⟩ := hv 0 (by simp) (by kernel_rfl)
   have ev0 := hv0b.val rfl
   subst ev0
   exact potg_cl rfl rfl 26 _ _ rfl #[(Value.agg (cellsOf (rC (csA Z0 n0 5#64 u0)) 6))] (by simp only [List.map_toArray, List.map_cons, List.map_nil, (show ac.eval (.tmp 20) = (Value.agg (cellsOf (rC (csA Z0 n0 5#64 u0)) 6)) from (hv0a 20 rfl))] <;> rfl) (by kernel_rfl) (Value.agg (cellsOf (rC (csA Z0 n0 5#64 u0)) 6)) (fun K hK => To14_any (csA Z0 n0 5#64 u0) wa K hK) rfl hM29 hI
  ·exact potg_run rfl rfl (Value.agg (cellsOf (rC (csA Z1 n1 3#64 u1)) 6)) rfl (run_rw 34 (.tmp 6) rfl b_xw10 (ha 6 (not_dstG (by kernel_rfl))) 34 6 _ (Has.below k24 hI (Has.ltN k24 hM29)) undRU szRU) hM29 hI
  ·obtain ⟨v2, hv2a, hv2b⟩ := hv 2 (by simp) (by kernel_rfl)
   have ev2 := hv2b.val rfl
   subst ev2
   exact potg_cl rfl rfl 26 _ _ rfl #[(Value.agg (cellsOf (rC (csA Z1 n1 3#64 u1)) 6))] (by simp only [List.map_toArray, List.map_cons, List.map_nil, (show ac.eval (.tmp 22) = (Value.agg (cellsOf (rC (csA Z1 n1 3#64 u1)) 6)) from (hv2a 22 rfl))] <;> rfl) (by kernel_rfl) (Value.agg (cellsOf (rC (csA Z1 n1 3#64 u1)) 6)) (fun K hK => To14_any (csA Z1 n1 3#64 u1) wa K hK) rfl hM29 hI
  ·obtain ⟨v1, hv1a, hv1b⟩ := hv 1 (by simp) (by kernel_rfl)
   have ev1 := hv1b.val rfl
   subst ev1
   obtain ⟨v3, hv3a, hv3b⟩ := hv 3 (by simp) (by kernel_rfl)
   have ev3 := hv3b.val rfl
   subst ev3
   exact potg_cl rfl rfl 29 _ _ rfl #[(Value.agg (cellsOf (rC (csA Z0 n0 5#64 u0)) 6)), (Value.agg (cellsOf (rC (csA Z1 n1 3#64 u1)) 6))] (by simp only [List.map_toArray, List.map_cons, List.map_nil, (show ac.eval (.tmp 21) = (Value.agg (cellsOf (rC (csA Z0 n0 5#64 u0)) 6)) from (hv1a 21 rfl)), (show ac.eval (.tmp 23) = (Value.agg (cellsOf (rC (csA Z1 n1 3#64 u1)) 6)) from (hv3a 23 rfl))] <;> rfl) (by kernel_rfl) (Value.agg (cellsOf (rC (joinR (csA Z0 n0 5#64 u0) (csA Z1 n1 3#64 u1))) 6)) (fun K hK => SJoin_any (csA Z0 n0 5#64 u0) (csA Z1 n1 3#64 u1) wa K hK) rfl hM29 hI
  ·exact potg_al rfl rfl rfl zeR rfl rfl hM29 hI
 ·intro vals w5_34_ hb5_34_ hF hG
  have e_34_0 := (hF 0 (by simp)).val rfl
  have e_34_1 := (hF 1 (by simp)).val rfl
  have e_34_2 := (hF 2 (by simp)).val rfl
  have e_34_3 := (hF 3 (by simp)).val rfl
  have e_34_4 := (hF 4 (by simp)).val rfl
  obtain ⟨b_34_5, l_34_5, e_34_5, h_34_5⟩ := (hF 5 (by simp)).al rfl rfl
  clear hF hG
  simp only [List.foldl_cons, List.foldl_nil, dstOf, List.getElem?_toArray, List.getElem?_cons_succ, List.getElem?_cons_zero, Option.bind_some, Act.put, List.setIfInBounds_toArray, List.set_cons_succ, List.set_cons_zero, e_34_0, e_34_1, e_34_2, e_34_3, e_34_4, e_34_5]
  clear e_34_0 e_34_1 e_34_2 e_34_3 e_34_4 e_34_5
  refine wpAny_chain [6] _ _ _ _ (by kernel_rfl) (by decide) ?_
  simp only [List.filterMap_cons, List.filterMap_nil, List.getElem?_toArray, List.getElem?_cons_succ, List.getElem?_cons_zero]
  have k35 := k25.below hb5_34_ (by omega)
  have k36 := k26.below hb5_34_ (by omega)
  have k37 := k24.below hb5_34_ (by omega)
  have lo38 := lo27.trans (hb5_34_.mono (by omega))
  clear k25 k26 k24 lo27 hb5_34_
  refine wpl_store rfl 41 (.tmp 9) (.tmp 24) rfl b_34_5 6 (rC (joinR (csA Z0 n0 5#64 u0) (csA Z1 n1 3#64 u1))) rfl rfl 41 _ h_34_5 szR (fun j _ => rC_one _ j) ?_
  intro xw39 t40 k41
  have k42 := k35.touch t40 (by omega)
  have k43 := k36.touch t40 (by omega)
  have k44 := k37.touch t40 (by omega)
  have lo45 := t40.below lo38 (by omega)
  clear h_34_5 k35 k36 k37 lo38 t40
  obtain ⟨M46, hM46⟩ := sz_some xw39
  have lt_47 := k42.ltN hM46
  have lt_48 := k43.ltN hM46
  have lt_49 := k44.ltN hM46
  have lt_50 := k41.ltN hM46
  have CS51 := fun w N hN => Settle_any (csA Z0 n0 5#64 u0) w N hN
  rw [F2.out] at CS51
  go_upto_region 3 with fail
  refine wp_region_lit ?_
  try simp only [pA]
  change wpList _ _ _ ((_ :: _ :: _ :: _ :: _ :: _ :: []) ++ (_ :: _ :: _ :: [])) _ _
  refine wpList_prefix (C := fun w' => ∃ x : Later M46 xw39, w' = x.w') _ _ _ _ ⟨⟨_, Below.refl _ _⟩, rfl⟩ ?_
  refine later_row hM46 34 (.tmp 5) rfl (b_xw6) rfl 34 6 _ k43 undRU szRU (by rfl) ?_; simp only [pA]
  go_big_quiet_step ((go_at_call 26; exact later_of hM46 _ (fun K hK hKN => To14_any (csA Z0 n0 5#64 u0) _ K hK)))
  go_big_quiet_step ((go_at_call 30; exact later_of hM46 _ (fun K hK hKN => CS51 _ K hK)))
  iterate 3 (go_big_quiet_step (fail))
  refine wpQuiet_nil (laterE hM46 ?_)
  intro xw52 M53 hbxw52 hM53 lM53
  have k54 := k42.below hbxw52 (by omega)
  have k55 := k43.below hbxw52 (by omega)
  have k56 := k44.below hbxw52 (by omega)
  have k57 := k41.below hbxw52 (by omega)
  have lo58 := lo45.trans (hbxw52.mono (by omega))
  clear k42 k43 k44 k41 lo45 hbxw52
  obtain ⟨b_xw59, eb_xw59⟩ : ∃ b_xw59, b_xw59 = M53 := ⟨_, rfl⟩
  have hzb_xw59 : Sz xw52 b_xw59 := by rw [eb_xw59]; exact hM53
  have lob_xw59 : M53 ≤ b_xw59 := by omega
  have upb_xw59 : b_xw59 ≤ M53 := by omega
  clear eb_xw59
  refine wpl_alloc rfl 41 rfl 6 (rC zeroR) zeR b_xw59 hzb_xw59 ?_
  intro xw59 hMxw59 hbxw59 hhxw59; simp only [pA]
  have k60 := k54.below hbxw59 (by omega)
  have k61 := k55.below hbxw59 (by omega)
  have k62 := k56.below hbxw59 (by omega)
  have k63 := k57.below hbxw59 (by omega)
  have lo64 := lo58.trans (hbxw59.mono (by omega))
  clear k54 k55 k56 k57 lo58 hbxw59 hzb_xw59
  obtain ⟨M65, eM65⟩ : ∃ M65, M65 = b_xw59 + 1 := ⟨_, rfl⟩
  rw [← eM65] at hMxw59
  have loM65 : b_xw59 + 1 ≤ M65 := by omega
  have upM65 : M65 ≤ b_xw59 + 1 := by omega
  clear eM65
  refine wpl_store rfl 41 (.tmp 10) (.tmp 29) rfl b_xw59 6 (rC (settleF (csA Z0 n0 5#64 u0)).1) rfl rfl 41 _ hhxw59 szR (fun j _ => rC_one _ j) ?_
  intro xw66 t67 k68; try simp only [pA]
  have k69 := k60.touch t67 (by omega)
  have k70 := k61.touch t67 (by omega)
  have k71 := k62.touch t67 (by omega)
  have k72 := k63.touch t67 (by omega)
  have lo73 := t67.below lo64 (by omega)
  have h74 := t67.sz hMxw59
  clear hhxw59 k60 k61 k62 k63 lo64 hMxw59 t67
  refine wpl_run rfl (Value.bool true) _ (run_as (x := (.tmp 30)) rfl _ rfl) ?_; simp only [pA]
  obtain ⟨M75, hM75⟩ := sz_some xw66
  have lt_76 := k69.ltN hM75
  have lt_77 := k70.ltN hM75
  have lt_78 := k71.ltN hM75
  have lt_79 := k72.ltN hM75
  have lt_80 := k68.ltN hM75
  go_upto_region 4 with fail
  refine wp_region_later1 (M75) ?_
  try simp only [pA]
  iterate 2 (go_big_quiet_step (fail))
  refine wpQuiet_nil (laterE hM75 ?_)
  intro xw81 M82 hbxw81 hM82 lM82
  have k83 := k69.below hbxw81 (by omega)
  have k84 := k70.below hbxw81 (by omega)
  have k85 := k71.below hbxw81 (by omega)
  have k86 := k72.below hbxw81 (by omega)
  have k87 := k68.below hbxw81 (by omega)
  have lo88 := lo73.trans (hbxw81.mono (by omega))
  clear k69 k70 k71 k72 k68 lo73 hbxw81
  go_upto_region 5 with fail
  refine wp_region_later1 (M82) ?_
  try simp only [pA]
  iterate 10 (go_big_quiet_step (fail))
  refine wpQuiet_nil (laterE hM82 ?_)
  intro xw89 M90 hbxw89 hM90 lM90
  have k91 := k83.below hbxw89 (by omega)
  have k92 := k84.below hbxw89 (by omega)
  have k93 := k85.below hbxw89 (by omega)
  have k94 := k86.below hbxw89 (by omega)
  have k95 := k87.below hbxw89 (by omega)
  have lo96 := lo88.trans (hbxw89.mono (by omega))
  clear k83 k84 k85 k86 k87 lo88 hbxw89
  go_upto_region 7 with fail
  refine wp_region_later1 (M90) ?_
  try simp only [pA]
  go_big_quiet_step ((go_at_call 21; exact later_of hM90 _ (fun K hK hKN => evals_any _ K hK)))
  iterate 2 (go_big_quiet_step (fail))
  refine later_row hM90 41 (.tmp 9) rfl (b_34_5) rfl 41 6 _ k94 undR szR (by rfl) ?_; simp only [pA]
  go_big_quiet_step (fail)
  go_big_quiet_step ((go_at_call 25; exact later_of hM90 _ (fun K hK hKN => ret_is F0.out (SHas_any (joinR (csA Z0 n0 5#64 u0) (csA Z1 n1 3#64 u1)) (csX Z0 n0 5#64 z0)) _ K hK)))
  iterate 3 (go_big_quiet_step (fail))
  refine later_row hM90 41 (.tmp 9) rfl (b_34_5) rfl 41 6 _ k94 undR szR (by rfl) ?_; simp only [pA]
  go_big_quiet_step (fail)
  go_big_quiet_step ((go_at_call 25; exact later_of hM90 _ (fun K hK hKN => ret_is F1.out (SHas_any (joinR (csA Z0 n0 5#64 u0) (csA Z1 n1 3#64 u1)) (csX Z1 n1 3#64 z1)) _ K hK)))
  iterate 7 (go_big_quiet_step (fail))
  refine later_row hM90 41 (.tmp 10) rfl (b_xw59) rfl 41 6 _ k95 undR szR (by rfl) ?_; simp only [pA]
  go_big_quiet_step (fail)
  go_big_quiet_step ((go_at_call 25; exact later_of hM90 _ (fun K hK hKN => ret_is F3.out (SHas_any (settleF (csA Z0 n0 5#64 u0)).1 (csX Z0 n0 5#64 z0)) _ K hK)))
  iterate 3 (go_big_quiet_step (fail))
  refine later_row hM90 34 (.tmp 5) rfl (b_xw6) rfl 34 6 _ k92 undRU szRU (by rfl) ?_; simp only [pA]
  go_big_quiet_step ((go_at_call 26; exact later_of hM90 _ (fun K hK hKN => To14_any (csA Z0 n0 5#64 u0) _ K hK)))
  go_big_quiet_step (fail)
  go_big_quiet_step ((go_at_call 31; exact later_of hM90 _ (fun K hK hKN => SLow_o (csA Z0 n0 5#64 u0) z _ K hK H1.out H2.out H4.out)))
  go_big_quiet_step (fail)
  go_big_quiet_step ((go_at_call 25; exact later_of hM90 _ (fun K hK hKN => ret_is F6.out (SHas_any (lowRo (csA Z0 n0 5#64 u0) z) (csX Z0 n0 5#64 z0)) _ K hK)))
  iterate 2 (go_big_quiet_step (fail))
  refine wpQuiet_nil (laterE hM90 ?_)
  intro xw97 M98 hbxw97 hM98 lM98
  have k99 := k91.below hbxw97 (by omega)
  have k100 := k92.below hbxw97 (by omega)
  have k101 := k93.below hbxw97 (by omega)
  have k102 := k94.below hbxw97 (by omega)
  have k103 := k95.below hbxw97 (by omega)
  have lo104 := lo96.trans (hbxw97.mono (by omega))
  clear k91 k92 k93 k94 k95 lo96 hbxw97
  go_upto_region 9 with fail
  obtain ⟨c105, c106, c107, c108, c109, c110⟩ := r_cells k103
  obtain ⟨c111, c112, c113, c114, c115, c116⟩ := r_cells k100
  refine wp_region_later1 (M98) ?_
  try simp only [pA]
  go_big_quiet_step (fail)
  refine later_c1 hM98 22 (.tmp 80) rfl rfl und64 rfl c107 (by rfl) ?_; simp only [pA]
  go_big_quiet_step (fail)
  refine later_c1 hM98 22 (.tmp 82) rfl rfl und64 rfl c113 (by rfl) ?_; simp only [pA]
  refine later_b (x := (.tmp 81)) (y := (.tmp 83)) rfl (BinRun.is G0.out (bin_lss _ (settleF (csA Z0 n0 5#64 u0)).1.lo (csA Z0 n0 5#64 u0).lo)) rfl rfl (by rfl) ?_; simp only [pA]
  iterate 2 (go_big_quiet_step (fail))
  refine later_c1 hM98 22 (.tmp 86) rfl rfl und64 rfl c108 (by rfl) ?_; simp only [pA]
  go_big_quiet_step (fail)
  refine later_c1 hM98 22 (.tmp 88) rfl rfl und64 rfl c114 (by rfl) ?_; simp only [pA]
  refine later_b (x := (.tmp 87)) (y := (.tmp 89)) rfl (BinRun.is G1.out (bin_gtr _ (settleF (csA Z0 n0 5#64 u0)).1.hi (csA Z0 n0 5#64 u0).hi)) rfl rfl (by rfl) ?_; simp only [pA]
  iterate 3 (go_big_quiet_step (fail))
  refine later_c1 hM98 2 (.tmp 93) rfl rfl undI64 rfl c109 (by rfl) ?_; simp only [pA]
  go_big_quiet_step (fail)
  refine later_c1 hM98 2 (.tmp 95) rfl rfl undI64 rfl c115 (by rfl) ?_; simp only [pA]
  refine later_b (x := (.tmp 94)) (y := (.tmp 96)) rfl (BinRun.is G2.out (bin_slss _ (settleF (csA Z0 n0 5#64 u0)).1.sl (csA Z0 n0 5#64 u0).sl)) rfl rfl (by rfl) ?_; simp only [pA]
  iterate 3 (go_big_quiet_step (fail))
  refine later_c1 hM98 2 (.tmp 100) rfl rfl undI64 rfl c110 (by rfl) ?_; simp only [pA]
  go_big_quiet_step (fail)
  refine later_c1 hM98 2 (.tmp 102) rfl rfl undI64 rfl c116 (by rfl) ?_; simp only [pA]
  refine later_b (x := (.tmp 101)) (y := (.tmp 103)) rfl (BinRun.is G3.out (bin_sgtr _ (settleF (csA Z0 n0 5#64 u0)).1.sh (csA Z0 n0 5#64 u0).sh)) rfl rfl (by rfl) ?_; simp only [pA]
  iterate 4 (go_big_quiet_step (fail))
  refine later_c1 hM98 22 (.tmp 108) rfl rfl und64 rfl c106 (by rfl) ?_; simp only [pA]
  iterate 2 (go_big_quiet_step (fail))
  refine later_c1 hM98 22 (.tmp 111) rfl rfl und64 rfl c112 (by rfl) ?_; simp only [pA]
  refine later_b (x := (.tmp 109)) (y := (.tmp 112)) rfl (bin_andn _ (settleF (csA Z0 n0 5#64 u0)).1.b.m (csA Z0 n0 5#64 u0).b.m) rfl rfl (by rfl) ?_; simp only [pA]
  refine later_b (x := (.tmp 113)) (y := (.const (.int .u64 0))) rfl (BinRun.is G4.out (bin_neq _ ((settleF (csA Z0 n0 5#64 u0)).1.b.m &&& ~~~(csA Z0 n0 5#64 u0).b.m) 0#64)) rfl rfl (by rfl) ?_; simp only [pA]
  go_big_quiet_step (fail)
  refine wpQuiet_nil (laterE hM98 ?_)
  intro xw117 M118 hbxw117 hM118 lM118
  have k119 := k99.below hbxw117 (by omega)
  have k120 := k100.below hbxw117 (by omega)
  have k121 := k101.below hbxw117 (by omega)
  have k122 := k102.below hbxw117 (by omega)
  have k123 := k103.below hbxw117 (by omega)
  have lo124 := lo104.trans (hbxw117.mono (by omega))
  clear k99 k100 c111 c112 c113 c114 c115 c116 k101 k102 k103 c105 c106 c107 c108 c109 c110 lo104 hbxw117
  go_upto_region 11 with fail
  refine wp_region_later (M118) (by kernel_rfl) (by kernel_rfl) ?_
  try simp only [pA]
  refine later_row hM118 34 (.tmp 5) rfl (b_xw6) rfl 34 6 _ k120 undRU szRU (by rfl) ?_; simp only [pA]
  go_big_quiet_step ((go_at_call 26; exact later_of hM118 _ (fun K hK hKN => To14_any (csA Z0 n0 5#64 u0) _ K hK)))
  refine later_row hM118 34 (.tmp 6) rfl (b_xw10) rfl 34 6 _ k121 undRU szRU (by rfl) ?_; simp only [pA]
  go_big_quiet_step ((go_at_call 26; exact later_of hM118 _ (fun K hK hKN => To14_any (csA Z1 n1 3#64 u1) _ K hK)))
  go_big_quiet_step ((go_at_call 32; exact later_of hM118 _ (fun K hK hKN => ret_is HW.out (SWithin_any (csA Z0 n0 5#64 u0) (csA Z1 n1 3#64 u1)) _ K hK)))
  go_big_quiet_step (fail)
  refine later_row hM118 34 (.tmp 6) rfl (b_xw10) rfl 34 6 _ k121 undRU szRU (by rfl) ?_; simp only [pA]
  go_big_quiet_step ((go_at_call 26; exact later_of hM118 _ (fun K hK hKN => To14_any (csA Z1 n1 3#64 u1) _ K hK)))
  go_big_quiet_step (fail)
  go_big_quiet_step ((go_at_call 25; exact later_of hM118 _ (fun K hK hKN => ret_is F7.out (SHas_any (csA Z1 n1 3#64 u1) (csX Z0 n0 5#64 z0)) _ K hK)))
  iterate 2 (go_big_quiet_step (fail))
  refine wpQuiet_nil (laterE hM118 ?_)
  intro xw125 M126 hbxw125 hM126 lM126
  have k127 := k119.below hbxw125 (by omega)
  have k128 := k120.below hbxw125 (by omega)
  have k129 := k121.below hbxw125 (by omega)
  have k130 := k122.below hbxw125 (by omega)
  have k131 := k123.below hbxw125 (by omega)
  have lo132 := lo124.trans (hbxw125.mono (by omega))
  clear k119 k120 k121 k122 k123 lo124 hbxw125
  go_upto_region 13 with fail
  refine wp_region_later (M126) (by kernel_rfl) (by kernel_rfl) ?_
  try simp only [pA]
  refine later_row hM126 34 (.tmp 5) rfl (b_xw6) rfl 34 6 _ k128 undRU szRU (by rfl) ?_; simp only [pA]
  go_big_quiet_step ((go_at_call 26; exact later_of hM126 _ (fun K hK hKN => To14_any (csA Z0 n0 5#64 u0) _ K hK)))
  refine later_row hM126 34 (.tmp 5) rfl (b_xw6) rfl 34 6 _ k128 undRU szRU (by rfl) ?_; simp only [pA]
  go_big_quiet_step ((go_at_call 26; exact later_of hM126 _ (fun K hK hKN => To14_any (csA Z0 n0 5#64 u0) _ K hK)))
  go_big_quiet_step ((go_at_call 32; exact later_of hM126 _ (fun K hK hKN => ret_is F4.out (SWithin_any (csA Z0 n0 5#64 u0) (csA Z0 n0 5#64 u0)) _ K hK)))
  go_big_quiet_step (fail)
  refine later_row hM126 34 (.tmp 5) rfl (b_xw6) rfl 34 6 _ k128 undRU szRU (by rfl) ?_; simp only [pA]
  go_big_quiet_step ((go_at_call 26; exact later_of hM126 _ (fun K hK hKN => To14_any (csA Z0 n0 5#64 u0) _ K hK)))
  go_big_quiet_step ((go_at_call 33; exact later_of hM126 _ (fun K hK hKN => SAny_any  _ K hK)))
  go_big_quiet_step ((go_at_call 32; exact later_of hM126 _ (fun K hK hKN => ret_is F5.out (SWithin_any (csA Z0 n0 5#64 u0) (obR tAny)) _ K hK)))
  iterate 2 (go_big_quiet_step (fail))
  refine wpQuiet_nil (laterE hM126 ?_)
  intro xw133 M134 hbxw133 hM134 lM134
  have k135 := k127.below hbxw133 (by omega)
  have k136 := k128.below hbxw133 (by omega)
  have k137 := k129.below hbxw133 (by omega)
  have k138 := k130.below hbxw133 (by omega)
  have k139 := k131.below hbxw133 (by omega)
  have lo140 := lo132.trans (hbxw133.mono (by omega))
  clear k127 k128 k129 k130 k131 lo132 hbxw133
  go_wp2_with fail
  go_ret
  exact ⟨rfl, lo140⟩
set_option maxRecDepth 100000 in
set_option maxHeartbeats 8000000 in
theorem law_sjoins_zf (Z0 Z1 : Nat → W) (p0 p1 : Option Addr) (n0 c0 n1 c1 : Nat) (z0 z1 : Int) (u0 u1 : W) (z : Int) (w : World) (N : Nat) (hN : Sz w N) (hc0 : n0 ≤ c0) (hc1 : n1 ≤ c1) (hw0 : Ats w p0 n0 (fun j => Q (Z0 j))) (hw1 : Ats w p1 n1 (fun j => Q (Z1 j))) (HW : Hid (sWithin (csA Z0 n0 5#64 u0) (csA Z1 n1 3#64 u1) = false)) (H1 : Hid ((z == 1) = false)) (H2 : Hid ((z == 2) = false)) (H4 : Hid ((z == 4) = false)) : Calls Try.prog 6 #[(Value.agg (cellsOf (caC ⟨p0, n0, c0, p1, n1, c1, z0, z1, u0, u1⟩) 6)), (Value.int .i64 z)] w fun e w' => e = .returned (.bool true) ∧ Below N w w' := by
 have NR := hid (settle_nar (settle_in (cs_in Z0 n0 5#64 u0 z0)).1)
 have h1 := H1.out
 have h2 := H2.out
 have h4 := H4.out
 have F0 := hid (show (sHas (joinR (csA Z0 n0 5#64 u0) (csA Z1 n1 3#64 u1)) (csX Z0 n0 5#64 z0)) = true from (join_in_l (cs_in Z0 n0 5#64 u0 z0) (cs_rgt Z1 n1 3#64 u1)).has)
 have F1 := hid (show (sHas (joinR (csA Z0 n0 5#64 u0) (csA Z1 n1 3#64 u1)) (csX Z1 n1 3#64 z1)) = true from (join_in_r (cs_in Z1 n1 3#64 u1 z1) (cs_rgt Z0 n0 5#64 u0)).has)
 have F2 := hid (show (settleF (csA Z0 n0 5#64 u0)).2 = true from (settle_in (cs_in Z0 n0 5#64 u0 z0)).1)
 have F3 := hid (show (sHas (settleF (csA Z0 n0 5#64 u0)).1 (csX Z0 n0 5#64 z0)) = true from (settle_in (cs_in Z0 n0 5#64 u0 z0)).2.has)
 have F4 := hid (show (sWithin (csA Z0 n0 5#64 u0) (csA Z0 n0 5#64 u0)) = true from sWithin_self (cs_rgt Z0 n0 5#64 u0))
 have F5 := hid (show (sWithin (csA Z0 n0 5#64 u0) (obR tAny)) = true from sWithin_any _)
 have F6 := hid (show (sHas (lowRo (csA Z0 n0 5#64 u0) z) (csX Z0 n0 5#64 z0)) = true from (cs_in Z0 n0 5#64 u0 z0).has)
 have G0 := hid (show (BitVec.ult (settleF (csA Z0 n0 5#64 u0)).1.lo (csA Z0 n0 5#64 u0).lo) = false from nar_lo NR.out.1)
 have G1 := hid (show (BitVec.ult (csA Z0 n0 5#64 u0).hi (settleF (csA Z0 n0 5#64 u0)).1.hi) = false from nar_hi NR.out.1)
 have G2 := hid (show (BitVec.slt (settleF (csA Z0 n0 5#64 u0)).1.sl (csA Z0 n0 5#64 u0).sl) = false from nar_sl NR.out.1)
 have G3 := hid (show (BitVec.slt (csA Z0 n0 5#64 u0).sh (settleF (csA Z0 n0 5#64 u0)).1.sh) = false from nar_sh NR.out.1)
 have G4 := hid (show (((settleF (csA Z0 n0 5#64 u0)).1.b.m &&& ~~~(csA Z0 n0 5#64 u0).b.m) != 0#64) = false from NR.out.1.mask NR.out.2.1)
 go_enter Try.func6, Try.ntmps6
 go_upto_region 1 with (first
  | (refine wpl_box rfl 30 (.tmp 0) rfl 6 _ rfl (N) hN ?_; intro w1 hN1 hb1 hh1)
  | fail)
 have lo0 : Below N w w1 := hb1
 have k1 := hh1
 clear hh1 hb1
 go_upto_region 1 with fail
 refine wp_region_lit ?_
 try simp only [pA]
 change wpList _ _ _ ((_ :: _ :: _ :: _ :: _ :: _ :: _ :: []) ++ (_ :: _ :: _ :: _ :: _ :: _ :: [])) _ _
 refine wpList_prefix (C := fun w' => ∃ x : Later (N + 1) w1, w' = x.w') _ _ _ _ ⟨⟨_, Below.refl _ _⟩, rfl⟩ ?_
 refine later_row hN1 30 (.tmp 2) rfl (N) rfl 30 6 _ k1 undCs szCs (by rfl) ?_; simp only [pA]
 go_big_quiet_step ((go_at_call 24; exact later_ofB hN1 _ (fun K hK hbB => Ranges_any Z0 Z1 p0 p1 n0 c0 n1 c1 z0 z1 u0 u1 hc0 hc1 _ K hK ((hw0.below hN lo0).below hN1 hbB) ((hw1.below hN lo0).below hN1 hbB))))
 iterate 5 (go_big_quiet_step (fail))
 refine wpQuiet_nil (laterE hN1 ?_)
 intro xw2 M3 hbxw2 hM3 lM3
 have k4 := k1.below hbxw2 (by omega)
 have lo5 := lo0.trans (hbxw2.mono (by omega))
 clear k1 lo0 hbxw2
 obtain ⟨b_xw6, eb_xw6⟩ : ∃ b_xw6, b_xw6 = M3 := ⟨_, rfl⟩
 have hzb_xw6 : Sz xw2 b_xw6 := by rw [eb_xw6]; exact hM3
 have lob_xw6 : M3 ≤ b_xw6 := by omega
 have upb_xw6 : b_xw6 ≤ M3 := by omega
 clear eb_xw6
 refine wpl_alloc rfl 34 rfl 6 (rC zeroR) zeRU b_xw6 hzb_xw6 ?_
 intro xw6 hMxw6 hbxw6 hhxw6; simp only [pA]
 have k7 := k4.below hbxw6 (by omega)
 have lo8 := lo5.trans (hbxw6.mono (by omega))
 clear k4 lo5 hbxw6 hzb_xw6
 obtain ⟨M9, eM9⟩ : ∃ M9, M9 = b_xw6 + 1 := ⟨_, rfl⟩
 rw [← eM9] at hMxw6
 have loM9 : b_xw6 + 1 ≤ M9 := by omega
 have upM9 : M9 ≤ b_xw6 + 1 := by omega
 clear eM9
 obtain ⟨b_xw10, eb_xw10⟩ : ∃ b_xw10, b_xw10 = M9 := ⟨_, rfl⟩
 have hzb_xw10 : Sz xw6 b_xw10 := by rw [eb_xw10]; exact hMxw6
 have lob_xw10 : M9 ≤ b_xw10 := by omega
 have upb_xw10 : b_xw10 ≤ M9 := by omega
 clear eb_xw10
 refine wpl_alloc rfl 34 rfl 6 (rC zeroR) zeRU b_xw10 hzb_xw10 ?_
 intro xw10 hMxw10 hbxw10 hhxw10; simp only [pA]
 have k11 := k7.below hbxw10 (by omega)
 have k12 := hhxw6.below hbxw10 (by omega)
 have lo13 := lo8.trans (hbxw10.mono (by omega))
 clear k7 hhxw6 lo8 hbxw10 hzb_xw10
 obtain ⟨M14, eM14⟩ : ∃ M14, M14 = b_xw10 + 1 := ⟨_, rfl⟩
 rw [← eM14] at hMxw10
 have loM14 : b_xw10 + 1 ≤ M14 := by omega
 have upM14 : M14 ≤ b_xw10 + 1 := by omega
 clear eM14
 refine wpl_store rfl 34 (.tmp 5) (.tmp 16) rfl b_xw6 6 (rC (csA Z0 n0 5#64 u0)) rfl rfl 34 _ k12 szRU (fun j _ => rC_one _ j) ?_
 intro xw15 t16 k17; try simp only [pA]
 have k18 := k11.touch t16 (by omega)
 have k19 := hhxw10.touch t16 (by omega)
 have lo20 := t16.below lo13 (by omega)
 have h21 := t16.sz hMxw10
 clear k12 k11 hhxw10 lo13 hMxw10 t16
 refine wpl_store rfl 34 (.tmp 6) (.tmp 17) rfl b_xw10 6 (rC (csA Z1 n1 3#64 u1)) rfl rfl 34 _ k19 szRU (fun j _ => rC_one _ j) ?_
 intro xw22 t23 k24; try simp only [pA]
 have k25 := k18.touch t23 (by omega)
 have k26 := k17.touch t23 (by omega)
 have lo27 := t23.below lo20 (by omega)
 have h28 := t23.sz h21
 clear k19 k18 k17 lo20 h21 t23
 refine wpl_run rfl (Q (csX Z0 n0 5#64 z0)) _ (run_as (x := (.tmp 18)) rfl _ rfl) ?_; simp only [pA]
 refine wpl_run rfl (Q (csX Z1 n1 3#64 z1)) _ (run_as (x := (.tmp 19)) rfl _ rfl) ?_; simp only [pA]
 obtain ⟨M29, hM29⟩ := sz_some xw22
 have lt_30 := k25.ltN hM29
 have lt_31 := k26.ltN hM29
 have lt_32 := k24.ltN hM29
 go_upto_region 2 with fail
 refine wp_region_any (by kernel_rfl) ?_
 replace k25 : Has xw22.drew N 30 6 (caC ⟨p0, n0, c0, p1, n1, c1, z0, z1, u0, u1⟩) := k25
 replace k26 : Has xw22.drew b_xw6 34 6 (rC (csA Z0 n0 5#64 u0)) := k26
 replace k24 : Has xw22.drew b_xw10 34 6 (rC (csA Z1 n1 3#64 u1)) := k24
 replace hM29 : Sz xw22.drew M29 := hM29
 replace lo27 : Below N w xw22.drew := lo27.drew
 change wpAny _ _ _ _ _ _ _ (World.drew _)
 generalize xw22.drew = xw33 at *
 refine wpAny_pot (rem := [0, 1, 2, 3, 4, 5]) (FG M29 (fun j => if j = 0 then some (Value.agg (cellsOf (rC (csA Z0 n0 5#64 u0)) 6)) else if j = 1 then some (Value.agg (cellsOf (rC (csA Z0 n0 5#64 u0)) 6)) else if j = 2 then some (Value.agg (cellsOf (rC (csA Z1 n1 3#64 u1)) 6)) else if j = 3 then some (Value.agg (cellsOf (rC (csA Z1 n1 3#64 u1)) 6)) else if j = 4 then some (Value.agg (cellsOf (rC (joinR (csA Z0 n0 5#64 u0) (csA Z1 n1 3#64 u1))) 6)) else none) (fun j => (41, 6, rC zeroR))) (TwoN (fun j => if j = 0 then some (Value.agg (cellsOf (rC (csA Z0 n0 5#64 u0)) 6)) else if j = 1 then some (Value.agg (cellsOf (rC (csA Z0 n0 5#64 u0)) 6)) else if j = 2 then some (Value.agg (cellsOf (rC (csA Z1 n1 3#64 u1)) 6)) else if j = 3 then some (Value.agg (cellsOf (rC (csA Z1 n1 3#64 u1)) 6)) else if j = 4 then some (Value.agg (cellsOf (rC (joinR (csA Z0 n0 5#64 u0) (csA Z1 n1 3#64 u1))) 6)) else none)) (Below M29 xw33) _ _ _ _ (by kernel_rfl) (size_dstG (by kernel_rfl)) (Below.refl _ _) ?_ ?_
 ·intro i hi ac wa hI ha hv
  simp only [List.mem_cons, List.not_mem_nil, or_false] at hi
  rcases hi with rfl | rfl | rfl | rfl | rfl | rfl
  ·exact potg_run rfl rfl (Value.agg (cellsOf (rC (csA Z0 n0 5#64 u0)) 6)) rfl (run_rw 34 (.tmp 5) rfl b_xw6 (ha 5 (not_dstG (by kernel_rfl))) 34 6 _ (Has.below k26 hI (Has.ltN k26 hM29)) undRU szRU) hM29 hI
  ·obtain ⟨v0, hv0a, hv0b⟩ := hv 0 (by simp) (by kernel_rfl)
   have ev0 := hv0b.val rfl
   subst ev0
   exact potg_cl rfl rfl 26 _ _ rfl #[(Value.agg (cellsOf (rC (csA Z0 n0 5#64 u0)) 6))] (by simp only [List.map_toArray, List.map_cons, List.map_nil, (show ac.eval (.tmp 20) = (Value.agg (cellsOf (rC (csA Z0 n0 5#64 u0)) 6)) from (hv0a 20 rfl))] <;> rfl) (by kernel_rfl) (Value.agg (cellsOf (rC (csA Z0 n0 5#64 u0)) 6)) (fun K hK => To14_any (csA Z0 n0 5#64 u0) wa K hK) rfl hM29 hI
  ·exact potg_run rfl rfl (Value.agg (cellsOf (rC (csA Z1 n1 3#64 u1)) 6)) rfl (run_rw 34 (.tmp 6) rfl b_xw10 (ha 6 (not_dstG (by kernel_rfl))) 34 6 _ (Has.below k24 hI (Has.ltN k24 hM29)) undRU szRU) hM29 hI
  ·obtain ⟨v2, hv2a, hv2b⟩ := hv 2 (by simp) (by kernel_rfl)
   have ev2 := hv2b.val rfl
   subst ev2
   exact potg_cl rfl rfl 26 _ _ rfl #[(Value.agg (cellsOf (rC (csA Z1 n1 3#64 u1)) 6))] (by simp only [List.map_toArray, List.map_cons, List.map_nil, (show ac.eval (.tmp 22) = (Value.agg (cellsOf (rC (csA Z1 n1 3#64 u1)) 6)) from (hv2a 22 rfl))] <;> rfl) (by kernel_rfl) (Value.agg (cellsOf (rC (csA Z1 n1 3#64 u1)) 6)) (fun K hK => To14_any (csA Z1 n1 3#64 u1) wa K hK) rfl hM29 hI
  ·obtain ⟨v1, hv1a, hv1b⟩ := hv 1 (by simp) (by kernel_rfl)
   have ev1 := hv1b.val rfl
   subst ev1
   obtain ⟨v3, hv3a, hv3b⟩ := hv 3 (by simp) (by kernel_rfl)
   have ev3 := hv3b.val rfl
   subst ev3
   exact potg_cl rfl rfl 29 _ _ rfl #[(Value.agg (cellsOf (rC (csA Z0 n0 5#64 u0)) 6)), (Value.agg (cellsOf (rC (csA Z1 n1 3#64 u1)) 6))] (by simp only [List.map_toArray, List.map_cons, List.map_nil, (show ac.eval (.tmp 21) = (Value.agg (cellsOf (rC (csA Z0 n0 5#64 u0)) 6)) from (hv1a 21 rfl)), (show ac.eval (.tmp 23) = (Value.agg (cellsOf (rC (csA Z1 n1 3#64 u1)) 6)) from (hv3a 23 rfl))] <;> rfl) (by kernel_rfl) (Value.agg (cellsOf (rC (joinR (csA Z0 n0 5#64 u0) (csA Z1 n1 3#64 u1))) 6)) (fun K hK => SJoin_any (csA Z0 n0 5#64 u0) (csA Z1 n1 3#64 u1) wa K hK) rfl hM29 hI
  ·exact potg_al rfl rfl rfl zeR rfl rfl hM29 hI
 ·intro vals w5_34_ hb5_34_ hF hG
  have e_34_0 := (hF 0 (by simp)).val rfl
  have e_34_1 := (hF 1 (by simp)).val rfl
  have e_34_2 := (hF 2 (by simp)).val rfl
  have e_34_3 := (hF 3 (by simp)).val rfl
  have e_34_4 := (hF 4 (by simp)).val rfl
  obtain ⟨b_34_5, l_34_5, e_34_5, h_34_5⟩ := (hF 5 (by simp)).al rfl rfl
  clear hF hG
  simp only [List.foldl_cons, List.foldl_nil, dstOf, List.getElem?_toArray, List.getElem?_cons_succ, List.getElem?_cons_zero, Option.bind_some, Act.put, List.setIfInBounds_toArray, List.set_cons_succ, List.set_cons_zero, e_34_0, e_34_1, e_34_2, e_34_3, e_34_4, e_34_5]
  clear e_34_0 e_34_1 e_34_2 e_34_3 e_34_4 e_34_5
  refine wpAny_chain [6] _ _ _ _ (by kernel_rfl) (by decide) ?_
  simp only [List.filterMap_cons, List.filterMap_nil, List.getElem?_toArray, List.getElem?_cons_succ, List.getElem?_cons_zero]
  have k35 := k25.below hb5_34_ (by omega)
  have k36 := k26.below hb5_34_ (by omega)
  have k37 := k24.below hb5_34_ (by omega)
  have lo38 := lo27.trans (hb5_34_.mono (by omega))
  clear k25 k26 k24 lo27 hb5_34_
  refine wpl_store rfl 41 (.tmp 9) (.tmp 24) rfl b_34_5 6 (rC (joinR (csA Z0 n0 5#64 u0) (csA Z1 n1 3#64 u1))) rfl rfl 41 _ h_34_5 szR (fun j _ => rC_one _ j) ?_
  intro xw39 t40 k41
  have k42 := k35.touch t40 (by omega)
  have k43 := k36.touch t40 (by omega)
  have k44 := k37.touch t40 (by omega)
  have lo45 := t40.below lo38 (by omega)
  clear h_34_5 k35 k36 k37 lo38 t40
  obtain ⟨M46, hM46⟩ := sz_some xw39
  have lt_47 := k42.ltN hM46
  have lt_48 := k43.ltN hM46
  have lt_49 := k44.ltN hM46
  have lt_50 := k41.ltN hM46
  have CS51 := fun w N hN => Settle_any (csA Z0 n0 5#64 u0) w N hN
  rw [F2.out] at CS51
  go_upto_region 3 with fail
  refine wp_region_lit ?_
  try simp only [pA]
  change wpList _ _ _ ((_ :: _ :: _ :: _ :: _ :: _ :: []) ++ (_ :: _ :: _ :: [])) _ _
  refine wpList_prefix (C := fun w' => ∃ x : Later M46 xw39, w' = x.w') _ _ _ _ ⟨⟨_, Below.refl _ _⟩, rfl⟩ ?_
  refine later_row hM46 34 (.tmp 5) rfl (b_xw6) rfl 34 6 _ k43 undRU szRU (by rfl) ?_; simp only [pA]
  go_big_quiet_step ((go_at_call 26; exact later_of hM46 _ (fun K hK hKN => To14_any (csA Z0 n0 5#64 u0) _ K hK)))
  go_big_quiet_step ((go_at_call 30; exact later_of hM46 _ (fun K hK hKN => CS51 _ K hK)))
  iterate 3 (go_big_quiet_step (fail))
  refine wpQuiet_nil (laterE hM46 ?_)
  intro xw52 M53 hbxw52 hM53 lM53
  have k54 := k42.below hbxw52 (by omega)
  have k55 := k43.below hbxw52 (by omega)
  have k56 := k44.below hbxw52 (by omega)
  have k57 := k41.below hbxw52 (by omega)
  have lo58 := lo45.trans (hbxw52.mono (by omega))
  clear k42 k43 k44 k41 lo45 hbxw52
  obtain ⟨b_xw59, eb_xw59⟩ : ∃ b_xw59, b_xw59 = M53 := ⟨_, rfl⟩
  have hzb_xw59 : Sz xw52 b_xw59 := by rw [eb_xw59]; exact hM53
  have lob_xw59 : M53 ≤ b_xw59 := by omega
  have upb_xw59 : b_xw59 ≤ M53 := by omega
  clear eb_xw59
  refine wpl_alloc rfl 41 rfl 6 (rC zeroR) zeR b_xw59 hzb_xw59 ?_
  intro xw59 hMxw59 hbxw59 hhxw59; simp only [pA]
  have k60 := k54.below hbxw59 (by omega)
  have k61 := k55.below hbxw59 (by omega)
  have k62 := k56.below hbxw59 (by omega)
  have k63 := k57.below hbxw59 (by omega)
  have lo64 := lo58.trans (hbxw59.mono (by omega))
  clear k54 k55 k56 k57 lo58 hbxw59 hzb_xw59
  obtain ⟨M65, eM65⟩ : ∃ M65, M65 = b_xw59 + 1 := ⟨_, rfl⟩
  rw [← eM65] at hMxw59
  have loM65 : b_xw59 + 1 ≤ M65 := by omega
  have upM65 : M65 ≤ b_xw59 + 1 := by omega
  clear eM65
  refine wpl_store rfl 41 (.tmp 10) (.tmp 29) rfl b_xw59 6 (rC (settleF (csA Z0 n0 5#64 u0)).1) rfl rfl 41 _ hhxw59 szR (fun j _ => rC_one _ j) ?_
  intro xw66 t67 k68; try simp only [pA]
  have k69 := k60.touch t67 (by omega)
  have k70 := k61.touch t67 (by omega)
  have k71 := k62.touch t67 (by omega)
  have k72 := k63.touch t67 (by omega)
  have lo73 := t67.below lo64 (by omega)
  have h74 := t67.sz hMxw59
  clear hhxw59 k60 k61 k62 k63 lo64 hMxw59 t67
  refine wpl_run rfl (Value.bool true) _ (run_as (x := (.tmp 30)) rfl _ rfl) ?_; simp only [pA]
  obtain ⟨M75, hM75⟩ := sz_some xw66
  have lt_76 := k69.ltN hM75
  have lt_77 := k70.ltN hM75
  have lt_78 := k71.ltN hM75
  have lt_79 := k72.ltN hM75
  have lt_80 := k68.ltN hM75
  go_upto_region 4 with fail
  refine wp_region_later1 (M75) ?_
  try simp only [pA]
  iterate 2 (go_big_quiet_step (fail))
  refine wpQuiet_nil (laterE hM75 ?_)
  intro xw81 M82 hbxw81 hM82 lM82
  have k83 := k69.below hbxw81 (by omega)
  have k84 := k70.below hbxw81 (by omega)
  have k85 := k71.below hbxw81 (by omega)
  have k86 := k72.below hbxw81 (by omega)
  have k87 := k68.below hbxw81 (by omega)
  have lo88 := lo73.trans (hbxw81.mono (by omega))
  clear k69 k70 k71 k72 k68 lo73 hbxw81
  go_upto_region 5 with fail
  refine wp_region_later1 (M82) ?_
  try simp only [pA]
  iterate 10 (go_big_quiet_step (fail))
  refine wpQuiet_nil (laterE hM82 ?_)
  intro xw89 M90 hbxw89 hM90 lM90
  have k91 := k83.below hbxw89 (by omega)
  have k92 := k84.below hbxw89 (by omega)
  have k93 := k85.below hbxw89 (by omega)
  have k94 := k86.below hbxw89 (by omega)
  have k95 := k87.below hbxw89 (by omega)
  have lo96 := lo88.trans (hbxw89.mono (by omega))
  clear k83 k84 k85 k86 k87 lo88 hbxw89
  go_upto_region 7 with fail
  refine wp_region_later1 (M90) ?_
  try simp only [pA]
  go_big_quiet_step ((go_at_call 21; exact later_of hM90 _ (fun K hK hKN => evals_any _ K hK)))
  iterate 2 (go_big_quiet_step (fail))
  refine later_row hM90 41 (.tmp 9) rfl (b_34_5) rfl 41 6 _ k94 undR szR (by rfl) ?_; simp only [pA]
  go_big_quiet_step (fail)
  go_big_quiet_step ((go_at_call 25; exact later_of hM90 _ (fun K hK hKN => ret_is F0.out (SHas_any (joinR (csA Z0 n0 5#64 u0) (csA Z1 n1 3#64 u1)) (csX Z0 n0 5#64 z0)) _ K hK)))
  iterate 3 (go_big_quiet_step (fail))
  refine later_row hM90 41 (.tmp 9) rfl (b_34_5) rfl 41 6 _ k94 undR szR (by rfl) ?_; simp only [pA]
  go_big_quiet_step (fail)
  go_big_quiet_step ((go_at_call 25; exact later_of hM90 _ (fun K hK hKN => ret_is F1.out (SHas_any (joinR (csA Z0 n0 5#64 u0) (csA Z1 n1 3#64 u1)) (csX Z1 n1 3#64 z1)) _ K hK)))
  iterate 7 (go_big_quiet_step (fail))
  refine later_row hM90 41 (.tmp 10) rfl (b_xw59) rfl 41 6 _ k95 undR szR (by rfl) ?_; simp only [pA]
  go_big_quiet_step (fail)
  go_big_quiet_step ((go_at_call 25; exact later_of hM90 _ (fun K hK hKN => ret_is F3.out (SHas_any (settleF (csA Z0 n0 5#64 u0)).1 (csX Z0 n0 5#64 z0)) _ K hK)))
  iterate 3 (go_big_quiet_step (fail))
  refine later_row hM90 34 (.tmp 5) rfl (b_xw6) rfl 34 6 _ k92 undRU szRU (by rfl) ?_; simp only [pA]
  go_big_quiet_step ((go_at_call 26; exact later_of hM90 _ (fun K hK hKN => To14_any (csA Z0 n0 5#64 u0) _ K hK)))
  go_big_quiet_step (fail)
  go_big_quiet_step ((go_at_call 31; exact later_of hM90 _ (fun K hK hKN => SLow_o (csA Z0 n0 5#64 u0) z _ K hK H1.out H2.out H4.out)))
  go_big_quiet_step (fail)
  go_big_quiet_step ((go_at_call 25; exact later_of hM90 _ (fun K hK hKN => ret_is F6.out (SHas_any (lowRo (csA Z0 n0 5#64 u0) z) (csX Z0 n0 5#64 z0)) _ K hK)))
  iterate 2 (go_big_quiet_step (fail))
  refine wpQuiet_nil (laterE hM90 ?_)
  intro xw97 M98 hbxw97 hM98 lM98
  have k99 := k91.below hbxw97 (by omega)
  have k100 := k92.below hbxw97 (by omega)
  have k101 := k93.below hbxw97 (by omega)
  have k102 := k94.below hbxw97 (by omega)
  have k103 := k95.below hbxw97 (by omega)
  have lo104 := lo96.trans (hbxw97.mono (by omega))
  clear k91 k92 k93 k94 k95 lo96 hbxw97
  go_upto_region 9 with fail
  obtain ⟨c105, c106, c107, c108, c109, c110⟩ := r_cells k103
  obtain ⟨c111, c112, c113, c114, c115, c116⟩ := r_cells k100
  refine wp_region_later1 (M98) ?_
  try simp only [pA]
  go_big_quiet_step (fail)
  refine later_c1 hM98 22 (.tmp 80) rfl rfl und64 rfl c107 (by rfl) ?_; simp only [pA]
  go_big_quiet_step (fail)
  refine later_c1 hM98 22 (.tmp 82) rfl rfl und64 rfl c113 (by rfl) ?_; simp only [pA]
  refine later_b (x := (.tmp 81)) (y := (.tmp 83)) rfl (BinRun.is G0.out (bin_lss _ (settleF (csA Z0 n0 5#64 u0)).1.lo (csA Z0 n0 5#64 u0).lo)) rfl rfl (by rfl) ?_; simp only [pA]
  iterate 2 (go_big_quiet_step (fail))
  refine later_c1 hM98 22 (.tmp 86) rfl rfl und64 rfl c108 (by rfl) ?_; simp only [pA]
  go_big_quiet_step (fail)
  refine later_c1 hM98 22 (.tmp 88) rfl rfl und64 rfl c114 (by rfl) ?_; simp only [pA]
  refine later_b (x := (.tmp 87)) (y := (.tmp 89)) rfl (BinRun.is G1.out (bin_gtr _ (settleF (csA Z0 n0 5#64 u0)).1.hi (csA Z0 n0 5#64 u0).hi)) rfl rfl (by rfl) ?_; simp only [pA]
  iterate 3 (go_big_quiet_step (fail))
  refine later_c1 hM98 2 (.tmp 93) rfl rfl undI64 rfl c109 (by rfl) ?_; simp only [pA]
  go_big_quiet_step (fail)
  refine later_c1 hM98 2 (.tmp 95) rfl rfl undI64 rfl c115 (by rfl) ?_; simp only [pA]
  refine later_b (x := (.tmp 94)) (y := (.tmp 96)) rfl (BinRun.is G2.out (bin_slss _ (settleF (csA Z0 n0 5#64 u0)).1.sl (csA Z0 n0 5#64 u0).sl)) rfl rfl (by rfl) ?_; simp only [pA]
  iterate 3 (go_big_quiet_step (fail))
  refine later_c1 hM98 2 (.tmp 100) rfl rfl undI64 rfl c110 (by rfl) ?_; simp only [pA]
  go_big_quiet_step (fail)
  refine later_c1 hM98 2 (.tmp 102) rfl rfl undI64 rfl c116 (by rfl) ?_; simp only [pA]
  refine later_b (x := (.tmp 101)) (y := (.tmp 103)) rfl (BinRun.is G3.out (bin_sgtr _ (settleF (csA Z0 n0 5#64 u0)).1.sh (csA Z0 n0 5#64 u0).sh)) rfl rfl (by rfl) ?_; simp only [pA]
  iterate 4 (go_big_quiet_step (fail))
  refine later_c1 hM98 22 (.tmp 108) rfl rfl und64 rfl c106 (by rfl) ?_; simp only [pA]
  iterate 2 (go_big_quiet_step (fail))
  refine later_c1 hM98 22 (.tmp 111) rfl rfl und64 rfl c112 (by rfl) ?_; simp only [pA]
  refine later_b (x := (.tmp 109)) (y := (.tmp 112)) rfl (bin_andn _ (settleF (csA Z0 n0 5#64 u0)).1.b.m (csA Z0 n0 5#64 u0).b.m) rfl rfl (by rfl) ?_; simp only [pA]
  refine later_b (x := (.tmp 113)) (y := (.const (.int .u64 0))) rfl (BinRun.is G4.out (bin_neq _ ((settleF (csA Z0 n0 5#64 u0)).1.b.m &&& ~~~(csA Z0 n0 5#64 u0).b.m) 0#64)) rfl rfl (by rfl) ?_; simp only [pA]
  go_big_quiet_step (fail)
  refine wpQuiet_nil (laterE hM98 ?_)
  intro xw117 M118 hbxw117 hM118 lM118
  have k119 := k99.below hbxw117 (by omega)
  have k120 := k100.below hbxw117 (by omega)
  have k121 := k101.below hbxw117 (by omega)
  have k122 := k102.below hbxw117 (by omega)
  have k123 := k103.below hbxw117 (by omega)
  have lo124 := lo104.trans (hbxw117.mono (by omega))
  clear k99 k100 c111 c112 c113 c114 c115 c116 k101 k102 k103 c105 c106 c107 c108 c109 c110 lo104 hbxw117
  go_upto_region 11 with fail
  refine wp_region_later (M118) (by kernel_rfl) (by kernel_rfl) ?_
  try simp only [pA]
  refine later_row hM118 34 (.tmp 5) rfl (b_xw6) rfl 34 6 _ k120 undRU szRU (by rfl) ?_; simp only [pA]
  go_big_quiet_step ((go_at_call 26; exact later_of hM118 _ (fun K hK hKN => To14_any (csA Z0 n0 5#64 u0) _ K hK)))
  refine later_row hM118 34 (.tmp 6) rfl (b_xw10) rfl 34 6 _ k121 undRU szRU (by rfl) ?_; simp only [pA]
  go_big_quiet_step ((go_at_call 26; exact later_of hM118 _ (fun K hK hKN => To14_any (csA Z1 n1 3#64 u1) _ K hK)))
  go_big_quiet_step ((go_at_call 32; exact later_of hM118 _ (fun K hK hKN => ret_is HW.out (SWithin_any (csA Z0 n0 5#64 u0) (csA Z1 n1 3#64 u1)) _ K hK)))
  iterate 7 (go_big_quiet_step (fail))
  refine wpQuiet_nil (laterE hM118 ?_)
  intro xw125 M126 hbxw125 hM126 lM126
  have k127 := k119.below hbxw125 (by omega)
  have k128 := k120.below hbxw125 (by omega)
  have k129 := k121.below hbxw125 (by omega)
  have k130 := k122.below hbxw125 (by omega)
  have k131 := k123.below hbxw125 (by omega)
  have lo132 := lo124.trans (hbxw125.mono (by omega))
  clear k119 k120 k121 k122 k123 lo124 hbxw125
  go_upto_region 13 with fail
  refine wp_region_later (M126) (by kernel_rfl) (by kernel_rfl) ?_
  try simp only [pA]
  refine later_row hM126 34 (.tmp 5) rfl (b_xw6) rfl 34 6 _ k128 undRU szRU (by rfl) ?_; simp only [pA]
  go_big_quiet_step ((go_at_call 26; exact later_of hM126 _ (fun K hK hKN => To14_any (csA Z0 n0 5#64 u0) _ K hK)))
  refine later_row hM126 34 (.tmp 5) rfl (b_xw6) rfl 34 6 _ k128 undRU szRU (by rfl) ?_; simp only [pA]
  go_big_quiet_step ((go_at_call 26; exact later_of hM126 _ (fun K hK hKN => To14_any (csA Z0 n0 5#64 u0) _ K hK)))
  go_big_quiet_step ((go_at_call 32; exact later_of hM126 _ (fun K hK hKN => ret_is F4.out (SWithin_any (csA Z0 n0 5#64 u0) (csA Z0 n0 5#64 u0)) _ K hK)))
  go_big_quiet_step (fail)
  refine later_row hM126 34 (.tmp 5) rfl (b_xw6) rfl 34 6 _ k128 undRU szRU (by rfl) ?_; simp only [pA]
  go_big_quiet_step ((go_at_call 26; exact later_of hM126 _ (fun K hK hKN => To14_any (csA Z0 n0 5#64 u0) _ K hK)))
  go_big_quiet_step ((go_at_call 33; exact later_of hM126 _ (fun K hK hKN => SAny_any  _ K hK)))
  go_big_quiet_step ((go_at_call 32; exact later_of hM126 _ (fun K hK hKN => ret_is F5.out (SWithin_any (csA Z0 n0 5#64 u0) (obR tAny)) _ K hK)))
  iterate 2 (go_big_quiet_step (fail))
  refine wpQuiet_nil (laterE hM126 ?_)
  intro xw133 M134 hbxw133 hM134 lM134
  have k135 := k127.below hbxw133 (by omega)
  have k136 := k128.below hbxw133 (by omega)
  have k137 := k129.below hbxw133 (by omega)
  have k138 := k130.below hbxw133 (by omega)
  have k139 := k131.below hbxw133 (by omega)
  have lo140 := lo132.trans (hbxw133.mono (by omega))
  clear k127 k128 k129 k130 k131 lo132 hbxw133
  go_wp2_with fail
  go_ret
  exact ⟨rfl, lo140⟩
theorem law_sjoins (Z0 Z1 : Nat → W) (p0 p1 : Option Addr) (n0 c0 n1 c1 : Nat) (z0 z1 : Int) (u0 u1 : W) (z : Int) (w : World) (N : Nat) (hN : Sz w N) (hc0 : n0 ≤ c0) (hc1 : n1 ≤ c1) (hw0 : Ats w p0 n0 (fun j => Q (Z0 j))) (hw1 : Ats w p1 n1 (fun j => Q (Z1 j))) : Calls Try.prog 6 #[caV ⟨p0, n0, c0, p1, n1, c1, z0, z1, u0, u1⟩, .int .i64 z] w fun e w' => e = .returned (.bool true) ∧ Below N w w' := by
 by_cases h1 : z = 1
 ·subst h1
  rcases Bool.eq_false_or_eq_true (sWithin (csA Z0 n0 5#64 u0) (csA Z1 n1 3#64 u1)) with h | h
  ·exact law_sjoins_1t Z0 Z1 p0 p1 n0 c0 n1 c1 z0 z1 u0 u1 w N hN hc0 hc1 hw0 hw1 (hid h)
  ·exact law_sjoins_1f Z0 Z1 p0 p1 n0 c0 n1 c1 z0 z1 u0 u1 w N hN hc0 hc1 hw0 hw1 (hid h)
 by_cases h2 : z = 2
 ·subst h2
  rcases Bool.eq_false_or_eq_true (sWithin (csA Z0 n0 5#64 u0) (csA Z1 n1 3#64 u1)) with h | h
  ·exact law_sjoins_2t Z0 Z1 p0 p1 n0 c0 n1 c1 z0 z1 u0 u1 w N hN hc0 hc1 hw0 hw1 (hid h)
  ·exact law_sjoins_2f Z0 Z1 p0 p1 n0 c0 n1 c1 z0 z1 u0 u1 w N hN hc0 hc1 hw0 hw1 (hid h)
 by_cases h4 : z = 4
 ·subst h4
  rcases Bool.eq_false_or_eq_true (sWithin (csA Z0 n0 5#64 u0) (csA Z1 n1 3#64 u1)) with h | h
  ·exact law_sjoins_4t Z0 Z1 p0 p1 n0 c0 n1 c1 z0 z1 u0 u1 w N hN hc0 hc1 hw0 hw1 (hid h)
  ·exact law_sjoins_4f Z0 Z1 p0 p1 n0 c0 n1 c1 z0 z1 u0 u1 w N hN hc0 hc1 hw0 hw1 (hid h)
 rcases Bool.eq_false_or_eq_true (sWithin (csA Z0 n0 5#64 u0) (csA Z1 n1 3#64 u1)) with h | h
 ·exact law_sjoins_zt Z0 Z1 p0 p1 n0 c0 n1 c1 z0 z1 u0 u1 z w N hN hc0 hc1 hw0 hw1 (hid h) (hid (beq_eq_false_iff_ne.2 h1)) (hid (beq_eq_false_iff_ne.2 h2)) (hid (beq_eq_false_iff_ne.2 h4))
 ·exact law_sjoins_zf Z0 Z1 p0 p1 n0 c0 n1 c1 z0 z1 u0 u1 z w N hN hc0 hc1 hw0 hw1 (hid h) (hid (beq_eq_false_iff_ne.2 h1)) (hid (beq_eq_false_iff_ne.2 h2)) (hid (beq_eq_false_iff_ne.2 h4))
end Go.Proofs.Ytmdcopmgkhjfnaa
