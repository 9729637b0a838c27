/- ScalarRaw: the walk. -/
import Derived.Test.YtafgiiimippfcaaSr0
import Derived.Test.YtafgiiimippfcaaSm3
namespace Go.Proofs.Ytafgiiimippfcaa
open Go Go.RowKit
set_option maxRecDepth 100000 in
set_option maxHeartbeats 8000000 in
theorem law_sraw_t (a : Rn) (b : Rn) (x : W) (w : World) (N : Nat) (hN : Sz w N) (hs : Hid (sHas a x = true)) : Calls Try.prog 7 #[rV a, rV b, (Q x)] w fun e w' => e = .returned (.bool true) ∧ Below N w w' := by
 have HI := settle_in (in_iff.1 hs.out)
 have H2 := hid HI.1
 have H3 := hid HI.2.has
 clear HI
 unfold rV
 go_enter Try.func7, Try.ntmps7
 go_upto_region 1 with (first
  | (refine wpl_box rfl 34 (.tmp 0) rfl 6 _ rfl (N) hN ?_; intro w1 hN1 hb1 hh1)
  | (refine wpl_box rfl 34 (.tmp 1) rfl 6 _ rfl (N + 1) hN1 ?_; intro w2 hN2 hb2 hh2)
  | fail)
 have lo0 : Below N w w2 := (hb1.trans (hb2.mono (by omega)))
 have k1 := (hh1.below hb2 (by omega))
 have k2 := hh2
 clear hh1 hb1 hh2 hb2 hN1
 go_upto_region 1 with fail
 refine wp_region_any (by kernel_rfl) ?_
 replace k1 : Has w2.drew N 34 6 (rC a) := k1
 replace k2 : Has w2.drew (N + 1) 34 6 (rC b) := k2
 replace hN2 : Sz w2.drew (N + 1 + 1) := hN2
 replace lo0 : Below N w w2.drew := lo0.drew
 change wpAny _ _ _ _ _ _ _ (World.drew _)
 generalize w2.drew = xw3 at *
 refine wpAny_pot (rem := [0, 1, 2, 3, 4, 5]) (FG (N + 1 + 1) (fun j => if j = 0 then some (Value.agg (cellsOf (rC a) 6)) else if j = 1 then some (Value.agg (cellsOf (rC a) 6)) else if j = 2 then some (Value.agg (cellsOf (rC b) 6)) else if j = 3 then some (Value.agg (cellsOf (rC b) 6)) else if j = 4 then none else none) (fun j => if j = 4 then (41, 6, rC zeroR) else (41, 6, rC zeroR))) (TwoN (fun j => if j = 0 then some (Value.agg (cellsOf (rC a) 6)) else if j = 1 then some (Value.agg (cellsOf (rC a) 6)) else if j = 2 then some (Value.agg (cellsOf (rC b) 6)) else if j = 3 then some (Value.agg (cellsOf (rC b) 6)) else if j = 4 then none else none)) (Below (N + 1 + 1) xw3) _ _ _ _ (by kernel_rfl) (size_dstG (by kernel_rfl)) (Below.refl _ _) ?_ ?_
 ·intro i hi ac wa hI ha hv
  simp only [List.mem_cons, List.not_mem_nil, or_false] at hi
  rcases hi with rfl | rfl | rfl | rfl | rfl | rfl
  ·exact potg_run rfl rfl (Value.agg (cellsOf (rC a) 6)) rfl (run_rw 34 (.tmp 3) rfl N (ha 3 (not_dstG (by kernel_rfl))) 34 6 _ (Has.below k1 hI (Has.ltN k1 hN2)) undRU szRU) hN2 hI
  ·obtain ⟨v0, hv0a, hv0b⟩ := hv 0 (by simp) (by kernel_rfl)
   have ev0 := hv0b.val rfl
   subst ev0
   exact potg_cl rfl rfl 26 _ _ rfl #[(Value.agg (cellsOf (rC a) 6))] (by simp only [List.map_toArray, List.map_cons, List.map_nil, (show ac.eval (.tmp 12) = (Value.agg (cellsOf (rC a) 6)) from (hv0a 12 rfl))] <;> rfl) (by kernel_rfl) (Value.agg (cellsOf (rC a) 6)) (fun K hK => To14_any a wa K hK) rfl hN2 hI
  ·exact potg_run rfl rfl (Value.agg (cellsOf (rC b) 6)) rfl (run_rw 34 (.tmp 4) rfl (N + 1) (ha 4 (not_dstG (by kernel_rfl))) 34 6 _ (Has.below k2 hI (Has.ltN k2 hN2)) undRU szRU) hN2 hI
  ·obtain ⟨v2, hv2a, hv2b⟩ := hv 2 (by simp) (by kernel_rfl)
   have ev2 := hv2b.val rfl
   subst ev2
   exact potg_cl rfl rfl 26 _ _ rfl #[(Value.agg (cellsOf (rC b) 6))] (by simp only [List.map_toArray, List.map_cons, List.map_nil, (show ac.eval (.tmp 14) = (Value.agg (cellsOf (rC b) 6)) from (hv2a 14 rfl))] <;> rfl) (by kernel_rfl) (Value.agg (cellsOf (rC b) 6)) (fun K hK => To14_any b wa K hK) rfl hN2 hI
  ·exact potg_al rfl rfl rfl zeR rfl rfl hN2 hI
  ·exact potg_al rfl rfl rfl zeR rfl rfl hN2 hI
 ·intro vals w5_4_ hb5_4_ hF hG
  have e_4_0 := (hF 0 (by simp)).val rfl
  have e_4_1 := (hF 1 (by simp)).val rfl
  have e_4_2 := (hF 2 (by simp)).val rfl
  have e_4_3 := (hF 3 (by simp)).val rfl
  obtain ⟨b_4_4, l_4_4, e_4_4, h_4_4⟩ := (hF 4 (by simp)).al rfl rfl
  obtain ⟨b_4_5, l_4_5, e_4_5, h_4_5⟩ := (hF 5 (by simp)).al rfl rfl
  have n_4_4_5 := hG 4 (by simp) 5 (by simp) (by omega) rfl rfl b_4_4 b_4_5 e_4_4 e_4_5
  clear hF hG
  simp only [List.foldl_cons, List.foldl_nil, dstOf, List.getElem?_toArray, List.getElem?_cons_succ, List.getElem?_cons_zero, Option.bind_some, Act.put, List.setIfInBounds_toArray, List.set_cons_succ, List.set_cons_zero, e_4_0, e_4_1, e_4_2, e_4_3, e_4_4, e_4_5]
  clear e_4_0 e_4_1 e_4_2 e_4_3 e_4_4 e_4_5
  refine wpAny_chain [6, 7] _ _ _ _ (by kernel_rfl) (by decide) ?_
  simp only [List.filterMap_cons, List.filterMap_nil, List.getElem?_toArray, List.getElem?_cons_succ, List.getElem?_cons_zero]
  have k5 := k1.below hb5_4_ (by omega)
  have k6 := k2.below hb5_4_ (by omega)
  have lo7 := lo0.trans (hb5_4_.mono (by omega))
  clear k1 k2 lo0 hb5_4_
  refine wpl_store rfl 41 (.tmp 7) (.tmp 13) rfl b_4_4 6 (rC a) rfl rfl 41 _ h_4_4 szR (fun j _ => rC_one _ j) ?_
  intro xw8 t9 k10
  have k11 := k5.touch t9 (by omega)
  have k12 := k6.touch t9 (by omega)
  have k13 := h_4_5.touch t9 (by omega)
  have lo14 := t9.below lo7 (by omega)
  clear h_4_4 k5 k6 h_4_5 lo7 t9
  refine wpl_store rfl 41 (.tmp 8) (.tmp 15) rfl b_4_5 6 (rC b) rfl rfl 41 _ k13 szR (fun j _ => rC_one _ j) ?_
  intro xw15 t16 k17
  have k18 := k11.touch t16 (by omega)
  have k19 := k12.touch t16 (by omega)
  have k20 := k10.touch t16 (by omega)
  have lo21 := t16.below lo14 (by omega)
  clear k13 k11 k12 k10 lo14 t16
  obtain ⟨M22, hM22⟩ := sz_some xw15
  have lt_23 := k18.ltN hM22
  have lt_24 := k19.ltN hM22
  have lt_25 := k20.ltN hM22
  have lt_26 := k17.ltN hM22
  go_wp2_with fail
  go_loopg [9] (14) (fun g x9 wr => ∃ k : Nat, k ≤ 14 ∧ g = 14 - k ∧ x9 = .int .i64 (k : Int) ∧ Has wr N 34 6 (rC a) ∧ Has wr (N + 1) 34 6 (rC b) ∧ Has wr b_4_4 41 6 (rC a) ∧ Has wr b_4_5 41 6 (rC b) ∧ Below N w wr)
  case atStart => exact ⟨0, by omega, rfl, rfl, k18, k19, k20, k17, lo21⟩
  case round =>
   clear k18 k19 k20 k17 lo21
   obtain ⟨k, hkk, rfl, rfl, k27, k28, k29, k30, lo31⟩ := hrel
   obtain ⟨M32, hM32⟩ := sz_some wr
   have lt_33 := k27.ltN hM32
   have lt_34 := k28.ltN hM32
   have lt_35 := k29.ltN hM32
   have lt_36 := k30.ltN hM32
   have k0 : (0 : Int) ≤ (k : Int) := by omega
   by_cases hlt : k < 14
   ·have t1 : (k : Int) < 14 := by omega
    go_upto_region 5 with fail
    refine wp_region_later1 (M32) ?_
    try simp only [pA]
    go_big_quiet_step (fail)
    refine later_row hM32 41 (.tmp 7) rfl (b_4_4) rfl 41 6 _ k29 undR szR (by rfl) ?_; simp only [pA]
    refine later_row hM32 41 (.tmp 8) rfl (b_4_5) rfl 41 6 _ k30 undR szR (by rfl) ?_; simp only [pA]
    go_big_quiet_step ((go_at_call 27; exact later_of hM32 _ (fun K hK hKN => Do_any k true a b _ K hK)))
    refine wpQuiet_nil ?_
    rintro xw37 ⟨qxw37, exw37⟩
    have hbxw37 := qxw37.b
    rw [← exw37] at hbxw37
    clear qxw37 exw37
    obtain ⟨M38, hM38⟩ := sz_some xw37
    have lM38 := below_sz hbxw37 hM32 hM38
    have k39 := k27.below hbxw37 (by omega)
    have k40 := k28.below hbxw37 (by omega)
    have k41 := k29.below hbxw37 (by omega)
    have k42 := k30.below hbxw37 (by omega)
    have lo43 := lo31.trans (hbxw37.mono (by omega))
    clear k27 k28 k29 k30 lo31 hbxw37
    go_upto_region 6 with fail
    refine wp_region_later1 (M38) ?_
    try simp only [pA]
    go_big_quiet_step (fail)
    refine later_row hM38 41 (.tmp 7) rfl (b_4_4) rfl 41 6 _ k41 undR szR (by rfl) ?_; simp only [pA]
    refine later_row hM38 41 (.tmp 8) rfl (b_4_5) rfl 41 6 _ k42 undR szR (by rfl) ?_; simp only [pA]
    go_big_quiet_step ((go_at_call 27; exact later_of hM38 _ (fun K hK hKN => Do_any k false a b _ K hK)))
    refine wpQuiet_nil ?_
    rintro xw44 ⟨qxw44, exw44⟩
    have hbxw44 := qxw44.b
    rw [← exw44] at hbxw44
    clear qxw44 exw44
    obtain ⟨M45, hM45⟩ := sz_some xw44
    have lM45 := below_sz hbxw44 hM38 hM45
    have k46 := k39.below hbxw44 (by omega)
    have k47 := k40.below hbxw44 (by omega)
    have k48 := k41.below hbxw44 (by omega)
    have k49 := k42.below hbxw44 (by omega)
    have lo50 := lo43.trans (hbxw44.mono (by omega))
    clear k39 k40 k41 k42 lo43 hbxw44
    go_wp2_with fail
    go_roundg (14 - (k + 1))
    case rel => exact ⟨k + 1, by omega, rfl, by simp, k46, k47, k48, k49, lo50⟩
    case measure => omega
   ·obtain rfl : k = 14 := by omega
    go_upto_region 7 with fail
    refine wp_region_later1 (M32) ?_
    try simp only [pA]
    refine later_row hM32 41 (.tmp 7) rfl (b_4_4) rfl 41 6 _ k29 undR szR (by rfl) ?_; simp only [pA]
    refine later_row hM32 41 (.tmp 8) rfl (b_4_5) rfl 41 6 _ k30 undR szR (by rfl) ?_; simp only [pA]
    go_big_quiet_step ((go_at_call 29; exact later_of hM32 _ (fun K hK hKN => SJoin_any a b _ K hK)))
    refine wpQuiet_nil ?_
    rintro xw37 ⟨qxw37, exw37⟩
    have hbxw37 := qxw37.b
    rw [← exw37] at hbxw37
    clear qxw37 exw37
    obtain ⟨M38, hM38⟩ := sz_some xw37
    have lM38 := below_sz hbxw37 hM32 hM38
    have k39 := k27.below hbxw37 (by omega)
    have k40 := k28.below hbxw37 (by omega)
    have k41 := k29.below hbxw37 (by omega)
    have k42 := k30.below hbxw37 (by omega)
    have lo43 := lo31.trans (hbxw37.mono (by omega))
    clear k27 k28 k29 k30 lo31 hbxw37
    go_upto_region 8 with fail
    refine wp_region_later1 (M38) ?_
    try simp only [pA]
    refine later_row hM38 41 (.tmp 7) rfl (b_4_4) rfl 41 6 _ k41 undR szR (by rfl) ?_; simp only [pA]
    refine later_row hM38 41 (.tmp 8) rfl (b_4_5) rfl 41 6 _ k42 undR szR (by rfl) ?_; simp only [pA]
    go_big_quiet_step ((go_at_call 32; exact later_of hM38 _ (fun K hK hKN => SWithin_any a b _ K hK)))
    refine wpQuiet_nil ?_
    rintro xw44 ⟨qxw44, exw44⟩
    have hbxw44 := qxw44.b
    rw [← exw44] at hbxw44
    clear qxw44 exw44
    obtain ⟨M45, hM45⟩ := sz_some xw44
    have lM45 := below_sz hbxw44 hM38 hM45
    have k46 := k39.below hbxw44 (by omega)
    have k47 := k40.below hbxw44 (by omega)
    have k48 := k41.below hbxw44 (by omega)
    have k49 := k42.below hbxw44 (by omega)
    have lo50 := lo43.trans (hbxw44.mono (by omega))
    clear k39 k40 k41 k42 lo43 hbxw44
    have CS51 := fun w N hN => Settle_any a w N hN
    rw [H2.out] at CS51
    go_upto_region 9 with fail
    refine wp_region_lit ?_
    try simp only [pA]
    change wpList _ _ _ ((_ :: _ :: _ :: _ :: _ :: []) ++ (_ :: _ :: _ :: [])) _ _
    refine wpList_prefix (C := fun w' => ∃ x : Later M45 xw44, w' = x.w') _ _ _ _ ⟨⟨_, Below.refl _ _⟩, rfl⟩ ?_
    refine later_row hM45 41 (.tmp 7) rfl (b_4_4) rfl 41 6 _ k48 undR szR (by rfl) ?_; simp only [pA]
    go_big_quiet_step ((go_at_call 30; exact later_of hM45 _ (fun K hK hKN => CS51 _ K hK)))
    go_big_quiet_step (fail)
    go_big_quiet_step (fail)
    go_big_quiet_step (fail)
    refine wpQuiet_nil ?_
    rintro xw52 ⟨qxw52, exw52⟩
    have hbxw52 := qxw52.b
    rw [← exw52] at hbxw52
    clear qxw52 exw52
    obtain ⟨M53, hM53⟩ := sz_some xw52
    have lM53 := below_sz hbxw52 hM45 hM53
    have k54 := k46.below hbxw52 (by omega)
    have k55 := k47.below hbxw52 (by omega)
    have k56 := k48.below hbxw52 (by omega)
    have k57 := k49.below hbxw52 (by omega)
    have lo58 := lo50.trans (hbxw52.mono (by omega))
    clear k46 k47 k48 k49 lo50 hbxw52
    obtain ⟨b_xw59, eb_xw59⟩ : ∃ b_xw59, b_xw59 = M53 := ⟨_, rfl⟩
    have hzb_xw59 : Sz xw52 b_xw59 := by rw [eb_xw59]; exact hM53
    have lob_xw59 : M53 ≤ b_xw59 := by omega
    have upb_xw59 : b_xw59 ≤ M53 := by omega
    clear eb_xw59
    refine wpl_alloc rfl 41 rfl 6 (rC zeroR) zeR b_xw59 hzb_xw59 ?_
    intro xw59 hMxw59 hbxw59 hhxw59; simp only [pA]
    have k60 := k54.below hbxw59 (by omega)
    have k61 := k55.below hbxw59 (by omega)
    have k62 := k56.below hbxw59 (by omega)
    have k63 := k57.below hbxw59 (by omega)
    have lo64 := lo58.trans (hbxw59.mono (by omega))
    clear k54 k55 k56 k57 lo58 hbxw59 hzb_xw59
    obtain ⟨M65, eM65⟩ : ∃ M65, M65 = b_xw59 + 1 := ⟨_, rfl⟩
    rw [← eM65] at hMxw59
    have loM65 : b_xw59 + 1 ≤ M65 := by omega
    have upM65 : M65 ≤ b_xw59 + 1 := by omega
    clear eM65
    refine wpl_store rfl 41 (.tmp 10) (.tmp 37) rfl b_xw59 6 (rC (settleF a).1) rfl rfl 41 _ hhxw59 szR (fun j _ => rC_one _ j) ?_
    intro xw66 t67 k68; try simp only [pA]
    have k69 := k60.touch t67 (by omega)
    have k70 := k61.touch t67 (by omega)
    have k71 := k62.touch t67 (by omega)
    have k72 := k63.touch t67 (by omega)
    have lo73 := t67.below lo64 (by omega)
    have h74 := t67.sz hMxw59
    clear hhxw59 k60 k61 k62 k63 lo64 hMxw59 t67
    refine wpl_run rfl (Value.bool true) _ (run_as (x := (.tmp 38)) rfl _ rfl) ?_; simp only [pA]
    obtain ⟨M75, hM75⟩ := sz_some xw66
    have lt_76 := k69.ltN hM75
    have lt_77 := k70.ltN hM75
    have lt_78 := k71.ltN hM75
    have lt_79 := k72.ltN hM75
    have lt_80 := k68.ltN hM75
    go_upto_region 10 with fail
    refine wp_region_later (M75) (by kernel_rfl) (by kernel_rfl) ?_
    try simp only [pA]
    go_big_quiet_step ((go_at_call 21; exact later_of hM75 _ (fun K hK hKN => evals_any _ K hK)))
    go_big_quiet_step (fail)
    go_big_quiet_step (fail)
    refine later_row hM75 41 (.tmp 7) rfl (b_4_4) rfl 41 6 _ k71 undR szR (by rfl) ?_; simp only [pA]
    go_big_quiet_step (fail)
    go_big_quiet_step ((go_at_call 25; exact later_of hM75 _ (fun K hK hKN => ret_is hs.out (SHas_any a x) _ K hK)))
    refine later_row hM75 34 (.tmp 3) rfl (N) rfl 34 6 _ k69 undRU szRU (by rfl) ?_; simp only [pA]
    go_big_quiet_step (fail)
    go_big_quiet_step ((go_at_call 34; exact later_of hM75 _ (fun K hK hKN => ret_is hs.out (RSHas_any a x) _ K hK)))
    go_big_quiet_step (fail)
    go_big_quiet_step (fail)
    refine wpQuiet_nil ?_
    rintro xw81 ⟨qxw81, exw81⟩
    have hbxw81 := qxw81.b
    rw [← exw81] at hbxw81
    clear qxw81 exw81
    obtain ⟨M82, hM82⟩ := sz_some xw81
    have lM82 := below_sz hbxw81 hM75 hM82
    have k83 := k69.below hbxw81 (by omega)
    have k84 := k70.below hbxw81 (by omega)
    have k85 := k71.below hbxw81 (by omega)
    have k86 := k72.below hbxw81 (by omega)
    have k87 := k68.below hbxw81 (by omega)
    have lo88 := lo73.trans (hbxw81.mono (by omega))
    clear k69 k70 k71 k72 k68 lo73 hbxw81
    go_upto_region 12 with fail
    refine wp_region_later1 (M82) ?_
    try simp only [pA]
    refine later_row hM82 34 (.tmp 3) rfl (N) rfl 34 6 _ k83 undRU szRU (by rfl) ?_; simp only [pA]
    go_big_quiet_step (fail)
    go_big_quiet_step ((go_at_call 34; exact later_of hM82 _ (fun K hK hKN => ret_is hs.out (RSHas_any a x) _ K hK)))
    go_big_quiet_step (fail)
    go_big_quiet_step (fail)
    go_big_quiet_step (fail)
    go_big_quiet_step (fail)
    refine later_row hM82 41 (.tmp 10) rfl (b_xw59) rfl 41 6 _ k87 undR szR (by rfl) ?_; simp only [pA]
    go_big_quiet_step (fail)
    go_big_quiet_step ((go_at_call 25; exact later_of hM82 _ (fun K hK hKN => ret_is H3.out (SHas_any (settleF a).1 x) _ K hK)))
    go_big_quiet_step (fail)
    go_big_quiet_step (fail)
    go_big_quiet_step (fail)
    refine wpQuiet_nil ?_
    rintro xw89 ⟨qxw89, exw89⟩
    have hbxw89 := qxw89.b
    rw [← exw89] at hbxw89
    clear qxw89 exw89
    obtain ⟨M90, hM90⟩ := sz_some xw89
    have lM90 := below_sz hbxw89 hM82 hM90
    have k91 := k83.below hbxw89 (by omega)
    have k92 := k84.below hbxw89 (by omega)
    have k93 := k85.below hbxw89 (by omega)
    have k94 := k86.below hbxw89 (by omega)
    have k95 := k87.below hbxw89 (by omega)
    have lo96 := lo88.trans (hbxw89.mono (by omega))
    clear k83 k84 k85 k86 k87 lo88 hbxw89
    go_wp2_with fail
    go_ret
    exact ⟨rfl, lo96⟩
set_option maxRecDepth 100000 in
set_option maxHeartbeats 8000000 in
theorem law_sraw_f (a : Rn) (b : Rn) (x : W) (w : World) (N : Nat) (hN : Sz w N) (hs : Hid (sHas a x = false)) : Calls Try.prog 7 #[rV a, rV b, (Q x)] w fun e w' => e = .returned (.bool true) ∧ Below N w w' := by
 unfold rV
 go_enter Try.func7, Try.ntmps7
 go_upto_region 1 with (first
  | (refine wpl_box rfl 34 (.tmp 0) rfl 6 _ rfl (N) hN ?_; intro w1 hN1 hb1 hh1)
  | (refine wpl_box rfl 34 (.tmp 1) rfl 6 _ rfl (N + 1) hN1 ?_; intro w2 hN2 hb2 hh2)
  | fail)
 have lo0 : Below N w w2 := (hb1.trans (hb2.mono (by omega)))
 have k1 := (hh1.below hb2 (by omega))
 have k2 := hh2
 clear hh1 hb1 hh2 hb2 hN1
 go_upto_region 1 with fail
 refine wp_region_any (by kernel_rfl) ?_
 replace k1 : Has w2.drew N 34 6 (rC a) := k1
 replace k2 : Has w2.drew (N + 1) 34 6 (rC b) := k2
 replace hN2 : Sz w2.drew (N + 1 + 1) := hN2
 replace lo0 : Below N w w2.drew := lo0.drew
 change wpAny _ _ _ _ _ _ _ (World.drew _)
 generalize w2.drew = xw3 at *
 refine wpAny_pot (rem := [0, 1, 2, 3, 4, 5]) (FG (N + 1 + 1) (fun j => if j = 0 then some (Value.agg (cellsOf (rC a) 6)) else if j = 1 then some (Value.agg (cellsOf (rC a) 6)) else if j = 2 then some (Value.agg (cellsOf (rC b) 6)) else if j = 3 then some (Value.agg (cellsOf (rC b) 6)) else if j = 4 then none else none) (fun j => if j = 4 then (41, 6, rC zeroR) else (41, 6, rC zeroR))) (TwoN (fun j => if j = 0 then some (Value.agg (cellsOf (rC a) 6)) else if j = 1 then some (Value.agg (cellsOf (rC a) 6)) else if j = 2 then some (Value.agg (cellsOf (rC b) 6)) else if j = 3 then some (Value.agg (cellsOf (rC b) 6)) else if j = 4 then none else none)) (Below (N + 1 + 1) xw3) _ _ _ _ (by kernel_rfl) (size_dstG (by kernel_rfl)) (Below.refl _ _) ?_ ?_
 ·intro i hi ac wa hI ha hv
  simp only [List.mem_cons, List.not_mem_nil, or_false] at hi
  rcases hi with rfl | rfl | rfl | rfl | rfl | rfl
  ·exact potg_run rfl rfl (Value.agg (cellsOf (rC a) 6)) rfl (run_rw 34 (.tmp 3) rfl N (ha 3 (not_dstG (by kernel_rfl))) 34 6 _ (Has.below k1 hI (Has.ltN k1 hN2)) undRU szRU) hN2 hI
  ·obtain ⟨v0, hv0a, hv0b⟩ := hv 0 (by simp) (by kernel_rfl)
   have ev0 := hv0b.val rfl
   subst ev0
   exact potg_cl rfl rfl 26 _ _ rfl #[(Value.agg (cellsOf (rC a) 6))] (by simp only [List.map_toArray, List.map_cons, List.map_nil, (show ac.eval (.tmp 12) = (Value.agg (cellsOf (rC a) 6)) from (hv0a 12 rfl))] <;> rfl) (by kernel_rfl) (Value.agg (cellsOf (rC a) 6)) (fun K hK => To14_any a wa K hK) rfl hN2 hI
  ·exact potg_run rfl rfl (Value.agg (cellsOf (rC b) 6)) rfl (run_rw 34 (.tmp 4) rfl (N + 1) (ha 4 (not_dstG (by kernel_rfl))) 34 6 _ (Has.below k2 hI (Has.ltN k2 hN2)) undRU szRU) hN2 hI
  ·obtain ⟨v2, hv2a, hv2b⟩ := hv 2 (by simp) (by kernel_rfl)
   have ev2 := hv2b.val rfl
   subst ev2
   exact potg_cl rfl rfl 26 _ _ rfl #[(Value.agg (cellsOf (rC b) 6))] (by simp only [List.map_toArray, List.map_cons, List.map_nil, (show ac.eval (.tmp 14) = (Value.agg (cellsOf (rC b) 6)) from (hv2a 14 rfl))] <;> rfl) (by kernel_rfl) (Value.agg (cellsOf (rC b) 6)) (fun K hK => To14_any b wa K hK) rfl hN2 hI
  ·exact potg_al rfl rfl rfl zeR rfl rfl hN2 hI
  ·exact potg_al rfl rfl rfl zeR rfl rfl hN2 hI
 ·intro vals w5_4_ hb5_4_ hF hG
  have e_4_0 := (hF 0 (by simp)).val rfl
  have e_4_1 := (hF 1 (by simp)).val rfl
  have e_4_2 := (hF 2 (by simp)).val rfl
  have e_4_3 := (hF 3 (by simp)).val rfl
  obtain ⟨b_4_4, l_4_4, e_4_4, h_4_4⟩ := (hF 4 (by simp)).al rfl rfl
  obtain ⟨b_4_5, l_4_5, e_4_5, h_4_5⟩ := (hF 5 (by simp)).al rfl rfl
  have n_4_4_5 := hG 4 (by simp) 5 (by simp) (by omega) rfl rfl b_4_4 b_4_5 e_4_4 e_4_5
  clear hF hG
  simp only [List.foldl_cons, List.foldl_nil, dstOf, List.getElem?_toArray, List.getElem?_cons_succ, List.getElem?_cons_zero, Option.bind_some, Act.put, List.setIfInBounds_toArray, List.set_cons_succ, List.set_cons_zero, e_4_0, e_4_1, e_4_2, e_4_3, e_4_4, e_4_5]
  clear e_4_0 e_4_1 e_4_2 e_4_3 e_4_4 e_4_5
  refine wpAny_chain [6, 7] _ _ _ _ (by kernel_rfl) (by decide) ?_
  simp only [List.filterMap_cons, List.filterMap_nil, List.getElem?_toArray, List.getElem?_cons_succ, List.getElem?_cons_zero]
  have k5 := k1.below hb5_4_ (by omega)
  have k6 := k2.below hb5_4_ (by omega)
  have lo7 := lo0.trans (hb5_4_.mono (by omega))
  clear k1 k2 lo0 hb5_4_
  refine wpl_store rfl 41 (.tmp 7) (.tmp 13) rfl b_4_4 6 (rC a) rfl rfl 41 _ h_4_4 szR (fun j _ => rC_one _ j) ?_
  intro xw8 t9 k10
  have k11 := k5.touch t9 (by omega)
  have k12 := k6.touch t9 (by omega)
  have k13 := h_4_5.touch t9 (by omega)
  have lo14 := t9.below lo7 (by omega)
  clear h_4_4 k5 k6 h_4_5 lo7 t9
  refine wpl_store rfl 41 (.tmp 8) (.tmp 15) rfl b_4_5 6 (rC b) rfl rfl 41 _ k13 szR (fun j _ => rC_one _ j) ?_
  intro xw15 t16 k17
  have k18 := k11.touch t16 (by omega)
  have k19 := k12.touch t16 (by omega)
  have k20 := k10.touch t16 (by omega)
  have lo21 := t16.below lo14 (by omega)
  clear k13 k11 k12 k10 lo14 t16
  obtain ⟨M22, hM22⟩ := sz_some xw15
  have lt_23 := k18.ltN hM22
  have lt_24 := k19.ltN hM22
  have lt_25 := k20.ltN hM22
  have lt_26 := k17.ltN hM22
  go_wp2_with fail
  go_loopg [9] (14) (fun g x9 wr => ∃ k : Nat, k ≤ 14 ∧ g = 14 - k ∧ x9 = .int .i64 (k : Int) ∧ Has wr N 34 6 (rC a) ∧ Has wr (N + 1) 34 6 (rC b) ∧ Has wr b_4_4 41 6 (rC a) ∧ Has wr b_4_5 41 6 (rC b) ∧ Below N w wr)
  case atStart => exact ⟨0, by omega, rfl, rfl, k18, k19, k20, k17, lo21⟩
  case round =>
   clear k18 k19 k20 k17 lo21
   obtain ⟨k, hkk, rfl, rfl, k27, k28, k29, k30, lo31⟩ := hrel
   obtain ⟨M32, hM32⟩ := sz_some wr
   have lt_33 := k27.ltN hM32
   have lt_34 := k28.ltN hM32
   have lt_35 := k29.ltN hM32
   have lt_36 := k30.ltN hM32
   have k0 : (0 : Int) ≤ (k : Int) := by omega
   by_cases hlt : k < 14
   ·have t1 : (k : Int) < 14 := by omega
    go_upto_region 5 with fail
    refine wp_region_later1 (M32) ?_
    try simp only [pA]
    go_big_quiet_step (fail)
    refine later_row hM32 41 (.tmp 7) rfl (b_4_4) rfl 41 6 _ k29 undR szR (by rfl) ?_; simp only [pA]
    refine later_row hM32 41 (.tmp 8) rfl (b_4_5) rfl 41 6 _ k30 undR szR (by rfl) ?_; simp only [pA]
    go_big_quiet_step ((go_at_call 27; exact later_of hM32 _ (fun K hK hKN => Do_any k true a b _ K hK)))
    refine wpQuiet_nil ?_
    rintro xw37 ⟨qxw37, exw37⟩
    have hbxw37 := qxw37.b
    rw [← exw37] at hbxw37
    clear qxw37 exw37
    obtain ⟨M38, hM38⟩ := sz_some xw37
    have lM38 := below_sz hbxw37 hM32 hM38
    have k39 := k27.below hbxw37 (by omega)
    have k40 := k28.below hbxw37 (by omega)
    have k41 := k29.below hbxw37 (by omega)
    have k42 := k30.below hbxw37 (by omega)
    have lo43 := lo31.trans (hbxw37.mono (by omega))
    clear k27 k28 k29 k30 lo31 hbxw37
    go_upto_region 6 with fail
    refine wp_region_later1 (M38) ?_
    try simp only [pA]
    go_big_quiet_step (fail)
    refine later_row hM38 41 (.tmp 7) rfl (b_4_4) rfl 41 6 _ k41 undR szR (by rfl) ?_; simp only [pA]
    refine later_row hM38 41 (.tmp 8) rfl (b_4_5) rfl 41 6 _ k42 undR szR (by rfl) ?_; simp only [pA]
    go_big_quiet_step ((go_at_call 27; exact later_of hM38 _ (fun K hK hKN => Do_any k false a b _ K hK)))
    refine wpQuiet_nil ?_
    rintro xw44 ⟨qxw44, exw44⟩
    have hbxw44 := qxw44.b
    rw [← exw44] at hbxw44
    clear qxw44 exw44
    obtain ⟨M45, hM45⟩ := sz_some xw44
    have lM45 := below_sz hbxw44 hM38 hM45
    have k46 := k39.below hbxw44 (by omega)
    have k47 := k40.below hbxw44 (by omega)
    have k48 := k41.below hbxw44 (by omega)
    have k49 := k42.below hbxw44 (by omega)
    have lo50 := lo43.trans (hbxw44.mono (by omega))
    clear k39 k40 k41 k42 lo43 hbxw44
    go_wp2_with fail
    go_roundg (14 - (k + 1))
    case rel => exact ⟨k + 1, by omega, rfl, by simp, k46, k47, k48, k49, lo50⟩
    case measure => omega
   ·obtain rfl : k = 14 := by omega
    go_upto_region 7 with fail
    refine wp_region_later1 (M32) ?_
    try simp only [pA]
    refine later_row hM32 41 (.tmp 7) rfl (b_4_4) rfl 41 6 _ k29 undR szR (by rfl) ?_; simp only [pA]
    refine later_row hM32 41 (.tmp 8) rfl (b_4_5) rfl 41 6 _ k30 undR szR (by rfl) ?_; simp only [pA]
    go_big_quiet_step ((go_at_call 29; exact later_of hM32 _ (fun K hK hKN => SJoin_any a b _ K hK)))
    refine wpQuiet_nil ?_
    rintro xw37 ⟨qxw37, exw37⟩
    have hbxw37 := qxw37.b
    rw [← exw37] at hbxw37
    clear qxw37 exw37
    obtain ⟨M38, hM38⟩ := sz_some xw37
    have lM38 := below_sz hbxw37 hM32 hM38
    have k39 := k27.below hbxw37 (by omega)
    have k40 := k28.below hbxw37 (by omega)
    have k41 := k29.below hbxw37 (by omega)
    have k42 := k30.below hbxw37 (by omega)
    have lo43 := lo31.trans (hbxw37.mono (by omega))
    clear k27 k28 k29 k30 lo31 hbxw37
    go_upto_region 8 with fail
    refine wp_region_later1 (M38) ?_
    try simp only [pA]
    refine later_row hM38 41 (.tmp 7) rfl (b_4_4) rfl 41 6 _ k41 undR szR (by rfl) ?_; simp only [pA]
    refine later_row hM38 41 (.tmp 8) rfl (b_4_5) rfl 41 6 _ k42 undR szR (by rfl) ?_; simp only [pA]
    go_big_quiet_step ((go_at_call 32; exact later_of hM38 _ (fun K hK hKN => SWithin_any a b _ K hK)))
    refine wpQuiet_nil ?_
    rintro xw44 ⟨qxw44, exw44⟩
    have hbxw44 := qxw44.b
    rw [← exw44] at hbxw44
    clear qxw44 exw44
    obtain ⟨M45, hM45⟩ := sz_some xw44
    have lM45 := below_sz hbxw44 hM38 hM45
    have k46 := k39.below hbxw44 (by omega)
    have k47 := k40.below hbxw44 (by omega)
    have k48 := k41.below hbxw44 (by omega)
    have k49 := k42.below hbxw44 (by omega)
    have lo50 := lo43.trans (hbxw44.mono (by omega))
    clear k39 k40 k41 k42 lo43 hbxw44
    cases h1_ : (settleF a).2
    ·have H1_ := hid h1_
     clear h1_
     have CS51 := fun w N hN => Settle_any a w N hN
     rw [H1_.out] at CS51
     go_upto_region 9 with fail
     refine wp_region_lit ?_
     try simp only [pA]
     change wpList _ _ _ ((_ :: _ :: _ :: _ :: _ :: []) ++ (_ :: _ :: _ :: [])) _ _
     refine wpList_prefix (C := fun w' => ∃ x : Later M45 xw44, w' = x.w') _ _ _ _ ⟨⟨_, Below.refl _ _⟩, rfl⟩ ?_
     refine later_row hM45 41 (.tmp 7) rfl (b_4_4) rfl 41 6 _ k48 undR szR (by rfl) ?_; simp only [pA]
     go_big_quiet_step ((go_at_call 30; exact later_of hM45 _ (fun K hK hKN => CS51 _ K hK)))
     go_big_quiet_step (fail)
     go_big_quiet_step (fail)
     go_big_quiet_step (fail)
     refine wpQuiet_nil ?_
     rintro xw52 ⟨qxw52, exw52⟩
     have hbxw52 := qxw52.b
     rw [← exw52] at hbxw52
     clear qxw52 exw52
     obtain ⟨M53, hM53⟩ := sz_some xw52
     have lM53 := below_sz hbxw52 hM45 hM53
     have k54 := k46.below hbxw52 (by omega)
     have k55 := k47.below hbxw52 (by omega)
     have k56 := k48.below hbxw52 (by omega)
     have k57 := k49.below hbxw52 (by omega)
     have lo58 := lo50.trans (hbxw52.mono (by omega))
     clear k46 k47 k48 k49 lo50 hbxw52
     obtain ⟨b_xw59, eb_xw59⟩ : ∃ b_xw59, b_xw59 = M53 := ⟨_, rfl⟩
     have hzb_xw59 : Sz xw52 b_xw59 := by rw [eb_xw59]; exact hM53
     have lob_xw59 : M53 ≤ b_xw59 := by omega
     have upb_xw59 : b_xw59 ≤ M53 := by omega
     clear eb_xw59
     refine wpl_alloc rfl 41 rfl 6 (rC zeroR) zeR b_xw59 hzb_xw59 ?_
     intro xw59 hMxw59 hbxw59 hhxw59; simp only [pA]
     have k60 := k54.below hbxw59 (by omega)
     have k61 := k55.below hbxw59 (by omega)
     have k62 := k56.below hbxw59 (by omega)
     have k63 := k57.below hbxw59 (by omega)
     have lo64 := lo58.trans (hbxw59.mono (by omega))
     clear k54 k55 k56 k57 lo58 hbxw59 hzb_xw59
     obtain ⟨M65, eM65⟩ : ∃ M65, M65 = b_xw59 + 1 := ⟨_, rfl⟩
     rw [← eM65] at hMxw59
     have loM65 : b_xw59 + 1 ≤ M65 := by omega
     have upM65 : M65 ≤ b_xw59 + 1 := by omega
     clear eM65
     refine wpl_store rfl 41 (.tmp 10) (.tmp 37) rfl b_xw59 6 (rC (settleF a).1) rfl rfl 41 _ hhxw59 szR (fun j _ => rC_one _ j) ?_
     intro xw66 t67 k68; try simp only [pA]
     have k69 := k60.touch t67 (by omega)
     have k70 := k61.touch t67 (by omega)
     have k71 := k62.touch t67 (by omega)
     have k72 := k63.touch t67 (by omega)
     have lo73 := t67.below lo64 (by omega)
     have h74 := t67.sz hMxw59
     clear hhxw59 k60 k61 k62 k63 lo64 hMxw59 t67
     refine wpl_run rfl (Value.bool false) _ (run_as (x := (.tmp 38)) rfl _ rfl) ?_; simp only [pA]
     obtain ⟨M75, hM75⟩ := sz_some xw66
     have lt_76 := k69.ltN hM75
     have lt_77 := k70.ltN hM75
     have lt_78 := k71.ltN hM75
     have lt_79 := k72.ltN hM75
     have lt_80 := k68.ltN hM75
     go_upto_region 10 with fail
     refine wp_region_later (M75) (by kernel_rfl) (by kernel_rfl) ?_
     try simp only [pA]
     go_big_quiet_step ((go_at_call 21; exact later_of hM75 _ (fun K hK hKN => evals_any _ K hK)))
     go_big_quiet_step (fail)
     go_big_quiet_step (fail)
     refine later_row hM75 41 (.tmp 7) rfl (b_4_4) rfl 41 6 _ k71 undR szR (by rfl) ?_; simp only [pA]
     go_big_quiet_step (fail)
     go_big_quiet_step ((go_at_call 25; exact later_of hM75 _ (fun K hK hKN => ret_is hs.out (SHas_any a x) _ K hK)))
     refine later_row hM75 34 (.tmp 3) rfl (N) rfl 34 6 _ k69 undRU szRU (by rfl) ?_; simp only [pA]
     go_big_quiet_step (fail)
     go_big_quiet_step ((go_at_call 34; exact later_of hM75 _ (fun K hK hKN => ret_is hs.out (RSHas_any a x) _ K hK)))
     go_big_quiet_step (fail)
     go_big_quiet_step (fail)
     refine wpQuiet_nil ?_
     rintro xw81 ⟨qxw81, exw81⟩
     have hbxw81 := qxw81.b
     rw [← exw81] at hbxw81
     clear qxw81 exw81
     obtain ⟨M82, hM82⟩ := sz_some xw81
     have lM82 := below_sz hbxw81 hM75 hM82
     have k83 := k69.below hbxw81 (by omega)
     have k84 := k70.below hbxw81 (by omega)
     have k85 := k71.below hbxw81 (by omega)
     have k86 := k72.below hbxw81 (by omega)
     have k87 := k68.below hbxw81 (by omega)
     have lo88 := lo73.trans (hbxw81.mono (by omega))
     clear k69 k70 k71 k72 k68 lo73 hbxw81
     go_upto_region 12 with fail
     refine wp_region_later1 (M82) ?_
     try simp only [pA]
     refine later_row hM82 34 (.tmp 3) rfl (N) rfl 34 6 _ k83 undRU szRU (by rfl) ?_; simp only [pA]
     go_big_quiet_step (fail)
     go_big_quiet_step ((go_at_call 34; exact later_of hM82 _ (fun K hK hKN => ret_is hs.out (RSHas_any a x) _ K hK)))
     go_big_quiet_step (fail)
     go_big_quiet_step (fail)
     go_big_quiet_step (fail)
     go_big_quiet_step (fail)
     go_big_quiet_step (fail)
     go_big_quiet_step (fail)
     go_big_quiet_step (fail)
     go_big_quiet_step (fail)
     go_big_quiet_step (fail)
     go_big_quiet_step (fail)
     refine wpQuiet_nil ?_
     rintro xw89 ⟨qxw89, exw89⟩
     have hbxw89 := qxw89.b
     rw [← exw89] at hbxw89
     clear qxw89 exw89
     obtain ⟨M90, hM90⟩ := sz_some xw89
     have lM90 := below_sz hbxw89 hM82 hM90
     have k91 := k83.below hbxw89 (by omega)
     have k92 := k84.below hbxw89 (by omega)
     have k93 := k85.below hbxw89 (by omega)
     have k94 := k86.below hbxw89 (by omega)
     have k95 := k87.below hbxw89 (by omega)
     have lo96 := lo88.trans (hbxw89.mono (by omega))
     clear k83 k84 k85 k86 k87 lo88 hbxw89
     go_wp2_with fail
     go_ret
     exact ⟨rfl, lo96⟩
    ·have H1_ := hid h1_
     clear h1_
     have CS51 := fun w N hN => Settle_any a w N hN
     rw [H1_.out] at CS51
     go_upto_region 9 with fail
     refine wp_region_lit ?_
     try simp only [pA]
     change wpList _ _ _ ((_ :: _ :: _ :: _ :: _ :: []) ++ (_ :: _ :: _ :: [])) _ _
     refine wpList_prefix (C := fun w' => ∃ x : Later M45 xw44, w' = x.w') _ _ _ _ ⟨⟨_, Below.refl _ _⟩, rfl⟩ ?_
     refine later_row hM45 41 (.tmp 7) rfl (b_4_4) rfl 41 6 _ k48 undR szR (by rfl) ?_; simp only [pA]
     go_big_quiet_step ((go_at_call 30; exact later_of hM45 _ (fun K hK hKN => CS51 _ K hK)))
     go_big_quiet_step (fail)
     go_big_quiet_step (fail)
     go_big_quiet_step (fail)
     refine wpQuiet_nil ?_
     rintro xw52 ⟨qxw52, exw52⟩
     have hbxw52 := qxw52.b
     rw [← exw52] at hbxw52
     clear qxw52 exw52
     obtain ⟨M53, hM53⟩ := sz_some xw52
     have lM53 := below_sz hbxw52 hM45 hM53
     have k54 := k46.below hbxw52 (by omega)
     have k55 := k47.below hbxw52 (by omega)
     have k56 := k48.below hbxw52 (by omega)
     have k57 := k49.below hbxw52 (by omega)
     have lo58 := lo50.trans (hbxw52.mono (by omega))
     clear k46 k47 k48 k49 lo50 hbxw52
     obtain ⟨b_xw59, eb_xw59⟩ : ∃ b_xw59, b_xw59 = M53 := ⟨_, rfl⟩
     have hzb_xw59 : Sz xw52 b_xw59 := by rw [eb_xw59]; exact hM53
     have lob_xw59 : M53 ≤ b_xw59 := by omega
     have upb_xw59 : b_xw59 ≤ M53 := by omega
     clear eb_xw59
     refine wpl_alloc rfl 41 rfl 6 (rC zeroR) zeR b_xw59 hzb_xw59 ?_
     intro xw59 hMxw59 hbxw59 hhxw59; simp only [pA]
     have k60 := k54.below hbxw59 (by omega)
     have k61 := k55.below hbxw59 (by omega)
     have k62 := k56.below hbxw59 (by omega)
     have k63 := k57.below hbxw59 (by omega)
     have lo64 := lo58.trans (hbxw59.mono (by omega))
     clear k54 k55 k56 k57 lo58 hbxw59 hzb_xw59
     obtain ⟨M65, eM65⟩ : ∃ M65, M65 = b_xw59 + 1 := ⟨_, rfl⟩
     rw [← eM65] at hMxw59
     have loM65 : b_xw59 + 1 ≤ M65 := by omega
     have upM65 : M65 ≤ b_xw59 + 1 := by omega
     clear eM65
     refine wpl_store rfl 41 (.tmp 10) (.tmp 37) rfl b_xw59 6 (rC (settleF a).1) rfl rfl 41 _ hhxw59 szR (fun j _ => rC_one _ j) ?_
     intro xw66 t67 k68; try simp only [pA]
     have k69 := k60.touch t67 (by omega)
     have k70 := k61.touch t67 (by omega)
     have k71 := k62.touch t67 (by omega)
     have k72 := k63.touch t67 (by omega)
     have lo73 := t67.below lo64 (by omega)
     have h74 := t67.sz hMxw59
     clear hhxw59 k60 k61 k62 k63 lo64 hMxw59 t67
     refine wpl_run rfl (Value.bool true) _ (run_as (x := (.tmp 38)) rfl _ rfl) ?_; simp only [pA]
     obtain ⟨M75, hM75⟩ := sz_some xw66
     have lt_76 := k69.ltN hM75
     have lt_77 := k70.ltN hM75
     have lt_78 := k71.ltN hM75
     have lt_79 := k72.ltN hM75
     have lt_80 := k68.ltN hM75
     go_upto_region 10 with fail
     refine wp_region_later (M75) (by kernel_rfl) (by kernel_rfl) ?_
     try simp only [pA]
     go_big_quiet_step ((go_at_call 21; exact later_of hM75 _ (fun K hK hKN => evals_any _ K hK)))
     go_big_quiet_step (fail)
     go_big_quiet_step (fail)
     refine later_row hM75 41 (.tmp 7) rfl (b_4_4) rfl 41 6 _ k71 undR szR (by rfl) ?_; simp only [pA]
     go_big_quiet_step (fail)
     go_big_quiet_step ((go_at_call 25; exact later_of hM75 _ (fun K hK hKN => ret_is hs.out (SHas_any a x) _ K hK)))
     refine later_row hM75 34 (.tmp 3) rfl (N) rfl 34 6 _ k69 undRU szRU (by rfl) ?_; simp only [pA]
     go_big_quiet_step (fail)
     go_big_quiet_step ((go_at_call 34; exact later_of hM75 _ (fun K hK hKN => ret_is hs.out (RSHas_any a x) _ K hK)))
     go_big_quiet_step (fail)
     go_big_quiet_step (fail)
     refine wpQuiet_nil ?_
     rintro xw81 ⟨qxw81, exw81⟩
     have hbxw81 := qxw81.b
     rw [← exw81] at hbxw81
     clear qxw81 exw81
     obtain ⟨M82, hM82⟩ := sz_some xw81
     have lM82 := below_sz hbxw81 hM75 hM82
     have k83 := k69.below hbxw81 (by omega)
     have k84 := k70.below hbxw81 (by omega)
     have k85 := k71.below hbxw81 (by omega)
     have k86 := k72.below hbxw81 (by omega)
     have k87 := k68.below hbxw81 (by omega)
     have lo88 := lo73.trans (hbxw81.mono (by omega))
     clear k69 k70 k71 k72 k68 lo73 hbxw81
     go_upto_region 12 with fail
     refine wp_region_later1 (M82) ?_
     try simp only [pA]
     refine later_row hM82 34 (.tmp 3) rfl (N) rfl 34 6 _ k83 undRU szRU (by rfl) ?_; simp only [pA]
     go_big_quiet_step (fail)
     go_big_quiet_step ((go_at_call 34; exact later_of hM82 _ (fun K hK hKN => ret_is hs.out (RSHas_any a x) _ K hK)))
     go_big_quiet_step (fail)
     go_big_quiet_step (fail)
     go_big_quiet_step (fail)
     go_big_quiet_step (fail)
     go_big_quiet_step (fail)
     go_big_quiet_step (fail)
     go_big_quiet_step (fail)
     go_big_quiet_step (fail)
     go_big_quiet_step (fail)
     go_big_quiet_step (fail)
     refine wpQuiet_nil ?_
     rintro xw89 ⟨qxw89, exw89⟩
     have hbxw89 := qxw89.b
     rw [← exw89] at hbxw89
     clear qxw89 exw89
     obtain ⟨M90, hM90⟩ := sz_some xw89
     have lM90 := below_sz hbxw89 hM82 hM90
     have k91 := k83.below hbxw89 (by omega)
     have k92 := k84.below hbxw89 (by omega)
     have k93 := k85.below hbxw89 (by omega)
     have k94 := k86.below hbxw89 (by omega)
     have k95 := k87.below hbxw89 (by omega)
     have lo96 := lo88.trans (hbxw89.mono (by omega))
     clear k83 k84 k85 k86 k87 lo88 hbxw89
     go_wp2_with fail
     go_ret
     exact ⟨rfl, lo96⟩
theorem law_sraw (a b : Rn) (x : W) (w : World) (N : Nat) (hN : Sz w N) : Calls Try.prog 7 #[rV a, rV b, Q x] w fun e w' => e = .returned (.bool true) ∧ Below N w w' := by
 rcases Bool.eq_false_or_eq_true (sHas a x) with h | h
 ·exact law_sraw_t a b x w N hN (hid h)
 ·exact law_sraw_f a b x w N hN (hid h)
end Go.Proofs.Ytafgiiimippfcaa
