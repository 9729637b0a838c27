/- Contracts of the document's bits: of both. -/
import Derived.Test.YtbeikhokkpioeaaNr3
namespace Go.Proofs.Ytbeikhokkpioeaa
open Go Go.RowKit
set_option maxRecDepth 100000 in
set_option maxHeartbeats 16000000 in
theorem RMeet_any (a b : Nm) (w : World) (N : Nat) (hN : Sz w N) : Calls Try.prog 32 #[nV a, nV b] w fun e w' => e = .returned (.tuple #[nV (rMeetN a b), .bool (rMeetB a b)]) ∧ Below N w w' := by
  obtain ⟨dU, u1, u2⟩ := undU
  obtain ⟨y, hy⟩ : ∃ y, y = rMeetY a b := ⟨_, rfl⟩
  have Hy := hid hy
  clear hy
  unfold nV
  go_enter Try.func32, Try.ntmps32
  go_upto_region 1 with (first
    | (refine wpl_box rfl 24 (.tmp 0) rfl 2 _ rfl (N) hN ?_; intro w1 hN1 hb1 hh1)
    | (refine wpl_box rfl 24 (.tmp 1) rfl 2 _ rfl (N + 1) hN1 ?_; intro w2 hN2 hb2 hh2)
    | (refine wpl_alloc rfl 24 rfl 2 (nC zeroN) zeU (N + 1 + 1) hN2 ?_; intro w3 hN3 hb3 hh3)
    | fail)
  have lo0 : Below N w w3 := ((hb1.trans (hb2.mono (by omega))).trans (hb3.mono (by omega)))
  have k1 := ((hh1.below hb2 (by omega)).below hb3 (by omega))
  have k2 := (hh2.below hb3 (by omega))
  have k3 := hh3
  clear hh1 hb1 hh2 hb2 hh3 hb3 hN1 hN2
  go_upto_region 1 with fail
  refine wp_region_lit ?_
  try simp only [Act.put, List.setIfInBounds_toArray, List.set_cons_succ, List.set_cons_zero]
  obtain ⟨b_xw4, eb_xw4⟩ : ∃ b_xw4, b_xw4 = (N + 1 + 1 + 1) := ⟨_, rfl⟩
  have hzb_xw4 : Sz w3 b_xw4 := by rw [eb_xw4]; exact hN3
  have lob_xw4 : (N + 1 + 1 + 1) ≤ b_xw4 := by omega
  have upb_xw4 : b_xw4 ≤ (N + 1 + 1 + 1) := by omega
  clear eb_xw4
  refine wpl_alloc rfl 24 rfl 2 (nC zeroN) zeU b_xw4 hzb_xw4 ?_
  intro xw4 hMxw4 hbxw4 hhxw4; simp only [Act.put, List.setIfInBounds_toArray, List.set_cons_succ, List.set_cons_zero]
  have k5 := k1.below hbxw4 (by omega)
  have k6 := k2.below hbxw4 (by omega)
  have k7 := k3.below hbxw4 (by omega)
  have lo8 := lo0.trans (hbxw4.mono (by omega))
  clear k1 k2 k3 lo0 hbxw4 hzb_xw4
  obtain ⟨M9, eM9⟩ : ∃ M9, M9 = b_xw4 + 1 := ⟨_, rfl⟩
  rw [← eM9] at hMxw4
  have loM9 : b_xw4 + 1 ≤ M9 := by omega
  have upM9 : M9 ≤ b_xw4 + 1 := by omega
  clear eM9
  go_wp2_with fail
  go_loopg [7, 8, 9, 10] (64) (fun g x7 x8 x9 x10 wr => ∃ k : Nat, k ≤ 64 ∧ g = 64 - k ∧ x7 = .int .i64 (k : Int) ∧ Hid (∀ i, i < k → rMeetY a b i ≠ (false, false)) ∧ Has wr N 24 2 (nC a) ∧ Has wr (N + 1) 24 2 (nC b) ∧ Has wr (N + 1 + 1) 24 2 (nC zeroN) ∧ Has wr b_xw4 24 2 (nC (rN y k)) ∧ Below N w wr)
  case atStart => exact ⟨0, by omega, rfl, rfl, hid (fun i hi => absurd hi (by omega)), k5, k6, k7, hhxw4, lo8⟩
  case round =>
    clear k5 k6 k7 hhxw4 lo8
    obtain ⟨k, hkk, rfl, rfl, hxk, k10, k11, k12, k13, lo14⟩ := hrel
    obtain ⟨M15, hM15⟩ := sz_some wr
    have lt_16 := k10.ltN hM15
    have lt_17 := k11.ltN hM15
    have lt_18 := k12.ltN hM15
    have lt_19 := k13.ltN hM15
    have k0 : (0 : Int) ≤ (k : Int) := by omega
    by_cases hlt : k < 64
    · have t1 : (k : Int) < 64 := by omega
      have T1 := hid hlt
      rcases bits_three a k with hxa | hxa | hxa <;> rcases bits_three b k with hxb | hxb | hxb
      · have HX := hid hxa
        have HY := hid hxb
        have EY := hid (show rMeetY a b k = (true, true) by unfold rMeetY; rw [hxa, hxb]; rfl)
        clear hxa hxb
        go_upto_region 5 with fail
        refine wp_region_any (by kernel_rfl) ?_
        replace k10 : Has wr.drew N 24 2 (nC a) := k10
        replace k11 : Has wr.drew (N + 1) 24 2 (nC b) := k11
        replace k12 : Has wr.drew (N + 1 + 1) 24 2 (nC zeroN) := k12
        replace k13 : Has wr.drew b_xw4 24 2 (nC (rN y k)) := k13
        replace hM15 : Sz wr.drew M15 := hM15
        replace lo14 : Below N w wr.drew := lo14.drew
        change wpAny _ _ _ _ _ _ _ (World.drew _)
        generalize wr.drew = xw20 at *
        refine wpAny_pot (rem := [0, 1, 2, 3, 4, 5, 6, 7]) (FG M15 (fun j => if j = 0 then some (Value.agg (cellsOf (nC a) 2)) else if j = 1 then some (Value.int .i64 (k : Int)) else if j = 2 then some (Value.agg (cellsOf (bC (true, true)) 2)) else if j = 3 then some (Value.agg (cellsOf (nC b) 2)) else if j = 4 then some (Value.int .i64 (k : Int)) else if j = 5 then some (Value.agg (cellsOf (bC (true, true)) 2)) else if j = 6 then none else none) (fun j => if j = 6 then (58, 2, bC (false, false)) else (58, 2, bC (false, false)))) (TwoN (fun j => if j = 0 then some (Value.agg (cellsOf (nC a) 2)) else if j = 1 then some (Value.int .i64 (k : Int)) else if j = 2 then some (Value.agg (cellsOf (bC (true, true)) 2)) else if j = 3 then some (Value.agg (cellsOf (nC b) 2)) else if j = 4 then some (Value.int .i64 (k : Int)) else if j = 5 then some (Value.agg (cellsOf (bC (true, true)) 2)) else if j = 6 then none else none)) (Below M15 xw20) _ _ _ _ (by kernel_rfl) (size_dstG (by kernel_rfl)) (Below.refl _ _) ?_ ?_
        · intro i hi ac wa hI ha hv
          simp only [List.mem_cons, List.not_mem_nil, or_false] at hi
          rcases hi with rfl | rfl | rfl | rfl | rfl | rfl | rfl | rfl
          · exact potg_run rfl rfl (Value.agg (cellsOf (nC a) 2)) rfl (run_rw 24 (.tmp 2) rfl N (ha 2 (not_dstG (by kernel_rfl))) 24 2 _ (Has.below k10 hI (Has.ltN k10 hM15)) undU szU) hM15 hI
          · exact potg_run rfl rfl (Value.int .i64 (k : Int)) rfl (run_mv (x := (.tmp 7)) rfl _ (ha 7 (not_dstG (by kernel_rfl)))) hM15 hI
          · obtain ⟨v0, hv0a, hv0b⟩ := hv 0 (by simp) (by kernel_rfl)
            have ev0 := hv0b.val rfl
            subst ev0
            obtain ⟨v1, hv1a, hv1b⟩ := hv 1 (by simp) (by kernel_rfl)
            have ev1 := hv1b.val rfl
            subst ev1
            exact potg_cl rfl rfl 39 _ _ rfl #[(Value.agg (cellsOf (nC a) 2)), (Value.int .i64 (k : Int))] (by simp only [List.map_toArray, List.map_cons, List.map_nil, (show ac.eval (.tmp 15) = (Value.agg (cellsOf (nC a) 2)) from (hv0a 15 rfl)), (show ac.eval (.tmp 16) = (Value.int .i64 (k : Int)) from (hv1a 16 rfl))] <;> rfl) (by kernel_rfl) (Value.agg (cellsOf (bC (true, true)) 2)) (fun K hK => Bits_is HX.out wa K hK) rfl hM15 hI
          · exact potg_run rfl rfl (Value.agg (cellsOf (nC b) 2)) rfl (run_rw 24 (.tmp 3) rfl (N + 1) (ha 3 (not_dstG (by kernel_rfl))) 24 2 _ (Has.below k11 hI (Has.ltN k11 hM15)) undU szU) hM15 hI
          · exact potg_run rfl rfl (Value.int .i64 (k : Int)) rfl (run_mv (x := (.tmp 7)) rfl _ (ha 7 (not_dstG (by kernel_rfl)))) hM15 hI
          · obtain ⟨v3, hv3a, hv3b⟩ := hv 3 (by simp) (by kernel_rfl)
            have ev3 := hv3b.val rfl
            subst ev3
            obtain ⟨v4, hv4a, hv4b⟩ := hv 4 (by simp) (by kernel_rfl)
            have ev4 := hv4b.val rfl
            subst ev4
            exact potg_cl rfl rfl 39 _ _ rfl #[(Value.agg (cellsOf (nC b) 2)), (Value.int .i64 (k : Int))] (by simp only [List.map_toArray, List.map_cons, List.map_nil, (show ac.eval (.tmp 18) = (Value.agg (cellsOf (nC b) 2)) from (hv3a 18 rfl)), (show ac.eval (.tmp 19) = (Value.int .i64 (k : Int)) from (hv4a 19 rfl))] <;> rfl) (by kernel_rfl) (Value.agg (cellsOf (bC (true, true)) 2)) (fun K hK => Bits_is HY.out wa K hK) rfl hM15 hI
          · exact potg_al rfl rfl rfl zeB rfl rfl hM15 hI
          · exact potg_al rfl rfl rfl zeB rfl rfl hM15 hI
        · intro vals w5_21_ hb5_21_ hF hG
          have e_21_0 := (hF 0 (by simp)).val rfl
          have e_21_1 := (hF 1 (by simp)).val rfl
          have e_21_2 := (hF 2 (by simp)).val rfl
          have e_21_3 := (hF 3 (by simp)).val rfl
          have e_21_4 := (hF 4 (by simp)).val rfl
          have e_21_5 := (hF 5 (by simp)).val rfl
          obtain ⟨b_21_6, l_21_6, e_21_6, h_21_6⟩ := (hF 6 (by simp)).al rfl rfl
          obtain ⟨b_21_7, l_21_7, e_21_7, h_21_7⟩ := (hF 7 (by simp)).al rfl rfl
          have n_21_6_7 := hG 6 (by simp) 7 (by simp) (by omega) rfl rfl b_21_6 b_21_7 e_21_6 e_21_7
          clear hF hG
          simp only [List.foldl_cons, List.foldl_nil, dstOf, List.getElem?_toArray, List.getElem?_cons_succ, List.getElem?_cons_zero, Option.bind_some, Act.put, List.setIfInBounds_toArray, List.set_cons_succ, List.set_cons_zero, e_21_0, e_21_1, e_21_2, e_21_3, e_21_4, e_21_5, e_21_6, e_21_7]
          clear e_21_0 e_21_1 e_21_2 e_21_3 e_21_4 e_21_5 e_21_6 e_21_7
          refine wpAny_chain [8, 9] _ _ _ _ (by kernel_rfl) (by decide) ?_
          simp only [List.filterMap_cons, List.filterMap_nil, List.getElem?_toArray, List.getElem?_cons_succ, List.getElem?_cons_zero]
          have k22 := k10.below hb5_21_ (by omega)
          have k23 := k11.below hb5_21_ (by omega)
          have k24 := k12.below hb5_21_ (by omega)
          have k25 := k13.below hb5_21_ (by omega)
          have lo26 := lo14.trans (hb5_21_.mono (by omega))
          clear k10 k11 k12 k13 lo14 hb5_21_
          refine wpl_store rfl 58 (.tmp 8) (.tmp 17) rfl b_21_6 2 (bC (true, true)) rfl rfl 58 _ h_21_6 szB (fun j _ => bC_one _ j) ?_
          intro xw27 t28 k29
          have k30 := k22.touch t28 (by omega)
          have k31 := k23.touch t28 (by omega)
          have k32 := k24.touch t28 (by omega)
          have k33 := k25.touch t28 (by omega)
          have k34 := h_21_7.touch t28 (by omega)
          have lo35 := t28.below lo26 (by omega)
          clear h_21_6 k22 k23 k24 k25 h_21_7 lo26 t28
          refine wpl_store rfl 58 (.tmp 9) (.tmp 20) rfl b_21_7 2 (bC (true, true)) rfl rfl 58 _ k34 szB (fun j _ => bC_one _ j) ?_
          intro xw36 t37 k38
          have k39 := k30.touch t37 (by omega)
          have k40 := k31.touch t37 (by omega)
          have k41 := k32.touch t37 (by omega)
          have k42 := k33.touch t37 (by omega)
          have k43 := k29.touch t37 (by omega)
          have lo44 := t37.below lo35 (by omega)
          clear k34 k30 k31 k32 k33 k29 lo35 t37
          obtain ⟨M45, hM45⟩ := sz_some xw36
          have lt_46 := k39.ltN hM45
          have lt_47 := k40.ltN hM45
          have lt_48 := k41.ltN hM45
          have lt_49 := k42.ltN hM45
          have lt_50 := k43.ltN hM45
          have lt_51 := k38.ltN hM45
          go_upto_region 6 with fail
          refine wp_region_lit ?_
          try simp only [Act.put, List.setIfInBounds_toArray, List.set_cons_succ, List.set_cons_zero]
          change wpList _ _ _ ((_ :: _ :: _ :: _ :: _ :: _ :: _ :: _ :: _ :: _ :: _ :: _ :: _ :: []) ++ (_ :: _ :: [])) _ _
          obtain ⟨c52, c53⟩ := b_cells k43
          obtain ⟨c54, c55⟩ := b_cells k38
          refine wpList_prefix (C := fun w' => ∃ x : Later M45 xw36, w' = x.w') _ _ _ _ ⟨⟨_, Below.refl _ _⟩, rfl⟩ ?_
          go_big_quiet_step (fail)
          refine later_c1 hM45 4 (.tmp 21) rfl rfl undBool rfl c52 (by rfl) ?_; simp only [Act.put, List.setIfInBounds_toArray, List.set_cons_succ, List.set_cons_zero]
          go_big_quiet_step (fail)
          go_big_quiet_step (fail)
          refine later_c1 hM45 4 (.tmp 24) rfl rfl undBool rfl c54 (by rfl) ?_; simp only [Act.put, List.setIfInBounds_toArray, List.set_cons_succ, List.set_cons_zero]
          go_big_quiet_step (fail)
          go_big_quiet_step (fail)
          refine later_c1 hM45 4 (.tmp 27) rfl rfl undBool rfl c53 (by rfl) ?_; simp only [Act.put, List.setIfInBounds_toArray, List.set_cons_succ, List.set_cons_zero]
          go_big_quiet_step (fail)
          go_big_quiet_step (fail)
          refine later_c1 hM45 4 (.tmp 30) rfl rfl undBool rfl c55 (by rfl) ?_; simp only [Act.put, List.setIfInBounds_toArray, List.set_cons_succ, List.set_cons_zero]
          go_big_quiet_step (fail)
          refine later_val (fun q => run_bd 58 _ rfl (cellsOf (bC (true, true)) 2) (by kernel_rfl) q.w') (by rfl) ?_; simp only [Act.put, List.setIfInBounds_toArray, List.set_cons_succ, List.set_cons_zero]
          refine wpQuiet_nil ?_
          rintro xw56 ⟨qxw56, exw56⟩
          have hbxw56 := qxw56.b
          rw [← exw56] at hbxw56
          clear qxw56 exw56
          obtain ⟨M57, hM57⟩ := sz_some xw56
          have lM57 := below_sz hbxw56 hM45 hM57
          have k58 := k39.below hbxw56 (by omega)
          have k59 := k40.below hbxw56 (by omega)
          have k60 := k41.below hbxw56 (by omega)
          have k61 := k42.below hbxw56 (by omega)
          have k62 := k43.below hbxw56 (by omega)
          have k63 := k38.below hbxw56 (by omega)
          have lo64 := lo44.trans (hbxw56.mono (by omega))
          clear k39 k40 k41 k42 k43 c52 c53 k38 c54 c55 lo44 hbxw56
          obtain ⟨b_xw65, eb_xw65⟩ : ∃ b_xw65, b_xw65 = M57 := ⟨_, rfl⟩
          have hzb_xw65 : Sz xw56 b_xw65 := by rw [eb_xw65]; exact hM57
          have lob_xw65 : M57 ≤ b_xw65 := by omega
          have upb_xw65 : b_xw65 ≤ M57 := by omega
          clear eb_xw65
          refine wpl_alloc rfl 58 rfl 2 (bC (false, false)) zeB b_xw65 hzb_xw65 ?_
          intro xw65 hMxw65 hbxw65 hhxw65; simp only [Act.put, List.setIfInBounds_toArray, List.set_cons_succ, List.set_cons_zero]
          have k66 := k58.below hbxw65 (by omega)
          have k67 := k59.below hbxw65 (by omega)
          have k68 := k60.below hbxw65 (by omega)
          have k69 := k61.below hbxw65 (by omega)
          have k70 := k62.below hbxw65 (by omega)
          have k71 := k63.below hbxw65 (by omega)
          have lo72 := lo64.trans (hbxw65.mono (by omega))
          clear k58 k59 k60 k61 k62 k63 lo64 hbxw65 hzb_xw65
          obtain ⟨M73, eM73⟩ : ∃ M73, M73 = b_xw65 + 1 := ⟨_, rfl⟩
          rw [← eM73] at hMxw65
          have loM73 : b_xw65 + 1 ≤ M73 := by omega
          have upM73 : M73 ≤ b_xw65 + 1 := by omega
          clear eM73
          refine wpl_store rfl 58 (.tmp 10) (.tmp 33) rfl b_xw65 2 (bC (true, true)) rfl rfl 58 _ hhxw65 szB (fun j _ => bC_one _ j) ?_
          intro xw74 t75 k76
          have k77 := k66.touch t75 (by omega)
          have k78 := k67.touch t75 (by omega)
          have k79 := k68.touch t75 (by omega)
          have k80 := k69.touch t75 (by omega)
          have k81 := k70.touch t75 (by omega)
          have k82 := k71.touch t75 (by omega)
          have lo83 := t75.below lo72 (by omega)
          clear hhxw65 k66 k67 k68 k69 k70 k71 lo72 t75
          obtain ⟨M84, hM84⟩ := sz_some xw74
          have lt_85 := k77.ltN hM84
          have lt_86 := k78.ltN hM84
          have lt_87 := k79.ltN hM84
          have lt_88 := k80.ltN hM84
          have lt_89 := k81.ltN hM84
          have lt_90 := k82.ltN hM84
          have lt_91 := k76.ltN hM84
          go_upto_region 7 with fail
          obtain ⟨c92, c93⟩ := b_cells k76
          refine wp_region_later1 (M84) ?_
          try simp only [Act.put, List.setIfInBounds_toArray, List.set_cons_succ, List.set_cons_zero]
          go_big_quiet_step (fail)
          refine later_c1 hM84 4 (.tmp 34) rfl rfl undBool rfl c92 (by rfl) ?_; simp only [Act.put, List.setIfInBounds_toArray, List.set_cons_succ, List.set_cons_zero]
          go_big_quiet_step (fail)
          go_big_quiet_step (fail)
          go_big_quiet_step (fail)
          go_big_quiet_step (fail)
          go_big_quiet_step (fail)
          go_big_quiet_step (fail)
          refine wpQuiet_nil ?_
          rintro xw94 ⟨qxw94, exw94⟩
          have hbxw94 := qxw94.b
          rw [← exw94] at hbxw94
          clear qxw94 exw94
          obtain ⟨M95, hM95⟩ := sz_some xw94
          have lM95 := below_sz hbxw94 hM84 hM95
          have k96 := k77.below hbxw94 (by omega)
          have k97 := k78.below hbxw94 (by omega)
          have k98 := k79.below hbxw94 (by omega)
          have k99 := k80.below hbxw94 (by omega)
          have k100 := k81.below hbxw94 (by omega)
          have k101 := k82.below hbxw94 (by omega)
          have k102 := k76.below hbxw94 (by omega)
          have lo103 := lo83.trans (hbxw94.mono (by omega))
          clear k77 k78 k79 k80 k81 k82 k76 c92 c93 lo83 hbxw94
          have E := hid (show rN y (k + 1) = rSet (rN y k) k (true, true) by show rSet (rN y k) k (y k) = _; rw [Hy.out, EY.out])
          have HX2 : Hid (∀ i, i < k + 1 → rMeetY a b i ≠ (false, false)) := hid (fun i hi => by
            by_cases e : i = k
            · rw [e, EY.out]; decide
            · exact hxk.out i (by omega))
          go_upto_region 9 with fail
          refine wp_region_lit ?_
          try simp only [Act.put, List.setIfInBounds_toArray, List.set_cons_succ, List.set_cons_zero]
          change wpList _ _ _ ((_ :: _ :: _ :: _ :: []) ++ (_ :: [])) _ _
          refine wpList_prefix (C := fun w' => ∃ x : Later M95 xw94, w' = x.w') _ _ _ _ ⟨⟨_, Below.refl _ _⟩, rfl⟩ ?_
          refine later_row hM95 24 (.tmp 6) rfl (b_xw4) rfl 24 2 _ k99 undU szU (by rfl) ?_; simp only [Act.put, List.setIfInBounds_toArray, List.set_cons_succ, List.set_cons_zero]
          go_big_quiet_step (fail)
          refine later_row hM95 58 (.tmp 10) rfl (b_xw65) rfl 58 2 _ k102 undB szB (by rfl) ?_; simp only [Act.put, List.setIfInBounds_toArray, List.set_cons_succ, List.set_cons_zero]
          go_big_quiet_step ((go_at_call 40; exact later_of hM95 _ (fun K hK hKN => Set_any (rN y k) k (true, true) _ K hK)))
          refine wpQuiet_nil ?_
          rintro xw104 ⟨qxw104, exw104⟩
          have hbxw104 := qxw104.b
          rw [← exw104] at hbxw104
          clear qxw104 exw104
          obtain ⟨M105, hM105⟩ := sz_some xw104
          have lM105 := below_sz hbxw104 hM95 hM105
          have k106 := k96.below hbxw104 (by omega)
          have k107 := k97.below hbxw104 (by omega)
          have k108 := k98.below hbxw104 (by omega)
          have k109 := k99.below hbxw104 (by omega)
          have k110 := k100.below hbxw104 (by omega)
          have k111 := k101.below hbxw104 (by omega)
          have k112 := k102.below hbxw104 (by omega)
          have lo113 := lo103.trans (hbxw104.mono (by omega))
          clear k96 k97 k98 k99 k100 k101 k102 lo103 hbxw104
          refine wpl_store rfl 24 (.tmp 6) (.tmp 46) rfl b_xw4 2 (nC (rSet (rN y k) k (true, true))) rfl rfl 24 _ k109 szU (fun j _ => nC_one _ j) ?_
          intro xw114 t115 k116
          have k117 := k106.touch t115 (by omega)
          have k118 := k107.touch t115 (by omega)
          have k119 := k108.touch t115 (by omega)
          have k120 := k110.touch t115 (by omega)
          have k121 := k111.touch t115 (by omega)
          have k122 := k112.touch t115 (by omega)
          have lo123 := t115.below lo113 (by omega)
          clear k109 k106 k107 k108 k110 k111 k112 lo113 t115
          go_wp2_with fail
          go_roundg (64 - (k + 1))
          case rel => exact ⟨k + 1, by omega, rfl, by simp, HX2, k117, k118, k119, by rw [E.out]; exact k116, lo123⟩
          case measure => omega
      · have HX := hid hxa
        have HY := hid hxb
        have EY := hid (show rMeetY a b k = (true, false) by unfold rMeetY; rw [hxa, hxb]; rfl)
        clear hxa hxb
        go_upto_region 5 with fail
        refine wp_region_any (by kernel_rfl) ?_
        replace k10 : Has wr.drew N 24 2 (nC a) := k10
        replace k11 : Has wr.drew (N + 1) 24 2 (nC b) := k11
        replace k12 : Has wr.drew (N + 1 + 1) 24 2 (nC zeroN) := k12
        replace k13 : Has wr.drew b_xw4 24 2 (nC (rN y k)) := k13
        replace hM15 : Sz wr.drew M15 := hM15
        replace lo14 : Below N w wr.drew := lo14.drew
        change wpAny _ _ _ _ _ _ _ (World.drew _)
        generalize wr.drew = xw20 at *
        refine wpAny_pot (rem := [0, 1, 2, 3, 4, 5, 6, 7]) (FG M15 (fun j => if j = 0 then some (Value.agg (cellsOf (nC a) 2)) else if j = 1 then some (Value.int .i64 (k : Int)) else if j = 2 then some (Value.agg (cellsOf (bC (true, true)) 2)) else if j = 3 then some (Value.agg (cellsOf (nC b) 2)) else if j = 4 then some (Value.int .i64 (k : Int)) else if j = 5 then some (Value.agg (cellsOf (bC (true, false)) 2)) else if j = 6 then none else none) (fun j => if j = 6 then (58, 2, bC (false, false)) else (58, 2, bC (false, false)))) (TwoN (fun j => if j = 0 then some (Value.agg (cellsOf (nC a) 2)) else if j = 1 then some (Value.int .i64 (k : Int)) else if j = 2 then some (Value.agg (cellsOf (bC (true, true)) 2)) else if j = 3 then some (Value.agg (cellsOf (nC b) 2)) else if j = 4 then some (Value.int .i64 (k : Int)) else if j = 5 then some (Value.agg (cellsOf (bC (true, false)) 2)) else if j = 6 then none else none)) (Below M15 xw20) _ _ _ _ (by kernel_rfl) (size_dstG (by kernel_rfl)) (Below.refl _ _) ?_ ?_
        · intro i hi ac wa hI ha hv
          simp only [List.mem_cons, List.not_mem_nil, or_false] at hi
          rcases hi with rfl | rfl | rfl | rfl | rfl | rfl | rfl | rfl
          · exact potg_run rfl rfl (Value.agg (cellsOf (nC a) 2)) rfl (run_rw 24 (.tmp 2) rfl N (ha 2 (not_dstG (by kernel_rfl))) 24 2 _ (Has.below k10 hI (Has.ltN k10 hM15)) undU szU) hM15 hI
          · exact potg_run rfl rfl (Value.int .i64 (k : Int)) rfl (run_mv (x := (.tmp 7)) rfl _ (ha 7 (not_dstG (by kernel_rfl)))) hM15 hI
          · obtain ⟨v0, hv0a, hv0b⟩ := hv 0 (by simp) (by kernel_rfl)
            have ev0 := hv0b.val rfl
            subst ev0
            obtain ⟨v1, hv1a, hv1b⟩ := hv 1 (by simp) (by kernel_rfl)
            have ev1 := hv1b.val rfl
            subst ev1
            exact potg_cl rfl rfl 39 _ _ rfl #[(Value.agg (cellsOf (nC a) 2)), (Value.int .i64 (k : Int))] (by simp only [List.map_toArray, List.map_cons, List.map_nil, (show ac.eval (.tmp 15) = (Value.agg (cellsOf (nC a) 2)) from (hv0a 15 rfl)), (show ac.eval (.tmp 16) = (Value.int .i64 (k : Int)) from (hv1a 16 rfl))] <;> rfl) (by kernel_rfl) (Value.agg (cellsOf (bC (true, true)) 2)) (fun K hK => Bits_is HX.out wa K hK) rfl hM15 hI
          · exact potg_run rfl rfl (Value.agg (cellsOf (nC b) 2)) rfl (run_rw 24 (.tmp 3) rfl (N + 1) (ha 3 (not_dstG (by kernel_rfl))) 24 2 _ (Has.below k11 hI (Has.ltN k11 hM15)) undU szU) hM15 hI
          · exact potg_run rfl rfl (Value.int .i64 (k : Int)) rfl (run_mv (x := (.tmp 7)) rfl _ (ha 7 (not_dstG (by kernel_rfl)))) hM15 hI
          · obtain ⟨v3, hv3a, hv3b⟩ := hv 3 (by simp) (by kernel_rfl)
            have ev3 := hv3b.val rfl
            subst ev3
            obtain ⟨v4, hv4a, hv4b⟩ := hv 4 (by simp) (by kernel_rfl)
            have ev4 := hv4b.val rfl
            subst ev4
            exact potg_cl rfl rfl 39 _ _ rfl #[(Value.agg (cellsOf (nC b) 2)), (Value.int .i64 (k : Int))] (by simp only [List.map_toArray, List.map_cons, List.map_nil, (show ac.eval (.tmp 18) = (Value.agg (cellsOf (nC b) 2)) from (hv3a 18 rfl)), (show ac.eval (.tmp 19) = (Value.int .i64 (k : Int)) from (hv4a 19 rfl))] <;> rfl) (by kernel_rfl) (Value.agg (cellsOf (bC (true, false)) 2)) (fun K hK => Bits_is HY.out wa K hK) rfl hM15 hI
          · exact potg_al rfl rfl rfl zeB rfl rfl hM15 hI
          · exact potg_al rfl rfl rfl zeB rfl rfl hM15 hI
        · intro vals w5_21_ hb5_21_ hF hG
          have e_21_0 := (hF 0 (by simp)).val rfl
          have e_21_1 := (hF 1 (by simp)).val rfl
          have e_21_2 := (hF 2 (by simp)).val rfl
          have e_21_3 := (hF 3 (by simp)).val rfl
          have e_21_4 := (hF 4 (by simp)).val rfl
          have e_21_5 := (hF 5 (by simp)).val rfl
          obtain ⟨b_21_6, l_21_6, e_21_6, h_21_6⟩ := (hF 6 (by simp)).al rfl rfl
          obtain ⟨b_21_7, l_21_7, e_21_7, h_21_7⟩ := (hF 7 (by simp)).al rfl rfl
          have n_21_6_7 := hG 6 (by simp) 7 (by simp) (by omega) rfl rfl b_21_6 b_21_7 e_21_6 e_21_7
          clear hF hG
          simp only [List.foldl_cons, List.foldl_nil, dstOf, List.getElem?_toArray, List.getElem?_cons_succ, List.getElem?_cons_zero, Option.bind_some, Act.put, List.setIfInBounds_toArray, List.set_cons_succ, List.set_cons_zero, e_21_0, e_21_1, e_21_2, e_21_3, e_21_4, e_21_5, e_21_6, e_21_7]
          clear e_21_0 e_21_1 e_21_2 e_21_3 e_21_4 e_21_5 e_21_6 e_21_7
          refine wpAny_chain [8, 9] _ _ _ _ (by kernel_rfl) (by decide) ?_
          simp only [List.filterMap_cons, List.filterMap_nil, List.getElem?_toArray, List.getElem?_cons_succ, List.getElem?_cons_zero]
          have k22 := k10.below hb5_21_ (by omega)
          have k23 := k11.below hb5_21_ (by omega)
          have k24 := k12.below hb5_21_ (by omega)
          have k25 := k13.below hb5_21_ (by omega)
          have lo26 := lo14.trans (hb5_21_.mono (by omega))
          clear k10 k11 k12 k13 lo14 hb5_21_
          refine wpl_store rfl 58 (.tmp 8) (.tmp 17) rfl b_21_6 2 (bC (true, true)) rfl rfl 58 _ h_21_6 szB (fun j _ => bC_one _ j) ?_
          intro xw27 t28 k29
          have k30 := k22.touch t28 (by omega)
          have k31 := k23.touch t28 (by omega)
          have k32 := k24.touch t28 (by omega)
          have k33 := k25.touch t28 (by omega)
          have k34 := h_21_7.touch t28 (by omega)
          have lo35 := t28.below lo26 (by omega)
          clear h_21_6 k22 k23 k24 k25 h_21_7 lo26 t28
          refine wpl_store rfl 58 (.tmp 9) (.tmp 20) rfl b_21_7 2 (bC (true, false)) rfl rfl 58 _ k34 szB (fun j _ => bC_one _ j) ?_
          intro xw36 t37 k38
          have k39 := k30.touch t37 (by omega)
          have k40 := k31.touch t37 (by omega)
          have k41 := k32.touch t37 (by omega)
          have k42 := k33.touch t37 (by omega)
          have k43 := k29.touch t37 (by omega)
          have lo44 := t37.below lo35 (by omega)
          clear k34 k30 k31 k32 k33 k29 lo35 t37
          obtain ⟨M45, hM45⟩ := sz_some xw36
          have lt_46 := k39.ltN hM45
          have lt_47 := k40.ltN hM45
          have lt_48 := k41.ltN hM45
          have lt_49 := k42.ltN hM45
          have lt_50 := k43.ltN hM45
          have lt_51 := k38.ltN hM45
          go_upto_region 6 with fail
          refine wp_region_lit ?_
          try simp only [Act.put, List.setIfInBounds_toArray, List.set_cons_succ, List.set_cons_zero]
          change wpList _ _ _ ((_ :: _ :: _ :: _ :: _ :: _ :: _ :: _ :: _ :: _ :: _ :: _ :: _ :: []) ++ (_ :: _ :: [])) _ _
          obtain ⟨c52, c53⟩ := b_cells k43
          obtain ⟨c54, c55⟩ := b_cells k38
          refine wpList_prefix (C := fun w' => ∃ x : Later M45 xw36, w' = x.w') _ _ _ _ ⟨⟨_, Below.refl _ _⟩, rfl⟩ ?_
          go_big_quiet_step (fail)
          refine later_c1 hM45 4 (.tmp 21) rfl rfl undBool rfl c52 (by rfl) ?_; simp only [Act.put, List.setIfInBounds_toArray, List.set_cons_succ, List.set_cons_zero]
          go_big_quiet_step (fail)
          go_big_quiet_step (fail)
          refine later_c1 hM45 4 (.tmp 24) rfl rfl undBool rfl c54 (by rfl) ?_; simp only [Act.put, List.setIfInBounds_toArray, List.set_cons_succ, List.set_cons_zero]
          go_big_quiet_step (fail)
          go_big_quiet_step (fail)
          refine later_c1 hM45 4 (.tmp 27) rfl rfl undBool rfl c53 (by rfl) ?_; simp only [Act.put, List.setIfInBounds_toArray, List.set_cons_succ, List.set_cons_zero]
          go_big_quiet_step (fail)
          go_big_quiet_step (fail)
          refine later_c1 hM45 4 (.tmp 30) rfl rfl undBool rfl c55 (by rfl) ?_; simp only [Act.put, List.setIfInBounds_toArray, List.set_cons_succ, List.set_cons_zero]
          go_big_quiet_step (fail)
          refine later_val (fun q => run_bd 58 _ rfl (cellsOf (bC (true, false)) 2) (by kernel_rfl) q.w') (by rfl) ?_; simp only [Act.put, List.setIfInBounds_toArray, List.set_cons_succ, List.set_cons_zero]
          refine wpQuiet_nil ?_
          rintro xw56 ⟨qxw56, exw56⟩
          have hbxw56 := qxw56.b
          rw [← exw56] at hbxw56
          clear qxw56 exw56
          obtain ⟨M57, hM57⟩ := sz_some xw56
          have lM57 := below_sz hbxw56 hM45 hM57
          have k58 := k39.below hbxw56 (by omega)
          have k59 := k40.below hbxw56 (by omega)
          have k60 := k41.below hbxw56 (by omega)
          have k61 := k42.below hbxw56 (by omega)
          have k62 := k43.below hbxw56 (by omega)
          have k63 := k38.below hbxw56 (by omega)
          have lo64 := lo44.trans (hbxw56.mono (by omega))
          clear k39 k40 k41 k42 k43 c52 c53 k38 c54 c55 lo44 hbxw56
          obtain ⟨b_xw65, eb_xw65⟩ : ∃ b_xw65, b_xw65 = M57 := ⟨_, rfl⟩
          have hzb_xw65 : Sz xw56 b_xw65 := by rw [eb_xw65]; exact hM57
          have lob_xw65 : M57 ≤ b_xw65 := by omega
          have upb_xw65 : b_xw65 ≤ M57 := by omega
          clear eb_xw65
          refine wpl_alloc rfl 58 rfl 2 (bC (false, false)) zeB b_xw65 hzb_xw65 ?_
          intro xw65 hMxw65 hbxw65 hhxw65; simp only [Act.put, List.setIfInBounds_toArray, List.set_cons_succ, List.set_cons_zero]
          have k66 := k58.below hbxw65 (by omega)
          have k67 := k59.below hbxw65 (by omega)
          have k68 := k60.below hbxw65 (by omega)
          have k69 := k61.below hbxw65 (by omega)
          have k70 := k62.below hbxw65 (by omega)
          have k71 := k63.below hbxw65 (by omega)
          have lo72 := lo64.trans (hbxw65.mono (by omega))
          clear k58 k59 k60 k61 k62 k63 lo64 hbxw65 hzb_xw65
          obtain ⟨M73, eM73⟩ : ∃ M73, M73 = b_xw65 + 1 := ⟨_, rfl⟩
          rw [← eM73] at hMxw65
          have loM73 : b_xw65 + 1 ≤ M73 := by omega
          have upM73 : M73 ≤ b_xw65 + 1 := by omega
          clear eM73
          refine wpl_store rfl 58 (.tmp 10) (.tmp 33) rfl b_xw65 2 (bC (true, false)) rfl rfl 58 _ hhxw65 szB (fun j _ => bC_one _ j) ?_
          intro xw74 t75 k76
          have k77 := k66.touch t75 (by omega)
          have k78 := k67.touch t75 (by omega)
          have k79 := k68.touch t75 (by omega)
          have k80 := k69.touch t75 (by omega)
          have k81 := k70.touch t75 (by omega)
          have k82 := k71.touch t75 (by omega)
          have lo83 := t75.below lo72 (by omega)
          clear hhxw65 k66 k67 k68 k69 k70 k71 lo72 t75
          obtain ⟨M84, hM84⟩ := sz_some xw74
          have lt_85 := k77.ltN hM84
          have lt_86 := k78.ltN hM84
          have lt_87 := k79.ltN hM84
          have lt_88 := k80.ltN hM84
          have lt_89 := k81.ltN hM84
          have lt_90 := k82.ltN hM84
          have lt_91 := k76.ltN hM84
          go_upto_region 7 with fail
          obtain ⟨c92, c93⟩ := b_cells k76
          refine wp_region_later1 (M84) ?_
          try simp only [Act.put, List.setIfInBounds_toArray, List.set_cons_succ, List.set_cons_zero]
          go_big_quiet_step (fail)
          refine later_c1 hM84 4 (.tmp 34) rfl rfl undBool rfl c92 (by rfl) ?_; simp only [Act.put, List.setIfInBounds_toArray, List.set_cons_succ, List.set_cons_zero]
          go_big_quiet_step (fail)
          go_big_quiet_step (fail)
          go_big_quiet_step (fail)
          go_big_quiet_step (fail)
          go_big_quiet_step (fail)
          go_big_quiet_step (fail)
          refine wpQuiet_nil ?_
          rintro xw94 ⟨qxw94, exw94⟩
          have hbxw94 := qxw94.b
          rw [← exw94] at hbxw94
          clear qxw94 exw94
          obtain ⟨M95, hM95⟩ := sz_some xw94
          have lM95 := below_sz hbxw94 hM84 hM95
          have k96 := k77.below hbxw94 (by omega)
          have k97 := k78.below hbxw94 (by omega)
          have k98 := k79.below hbxw94 (by omega)
          have k99 := k80.below hbxw94 (by omega)
          have k100 := k81.below hbxw94 (by omega)
          have k101 := k82.below hbxw94 (by omega)
          have k102 := k76.below hbxw94 (by omega)
          have lo103 := lo83.trans (hbxw94.mono (by omega))
          clear k77 k78 k79 k80 k81 k82 k76 c92 c93 lo83 hbxw94
          have E := hid (show rN y (k + 1) = rSet (rN y k) k (true, false) by show rSet (rN y k) k (y k) = _; rw [Hy.out, EY.out])
          have HX2 : Hid (∀ i, i < k + 1 → rMeetY a b i ≠ (false, false)) := hid (fun i hi => by
            by_cases e : i = k
            · rw [e, EY.out]; decide
            · exact hxk.out i (by omega))
          go_upto_region 9 with fail
          refine wp_region_lit ?_
          try simp only [Act.put, List.setIfInBounds_toArray, List.set_cons_succ, List.set_cons_zero]
          change wpList _ _ _ ((_ :: _ :: _ :: _ :: []) ++ (_ :: [])) _ _
          refine wpList_prefix (C := fun w' => ∃ x : Later M95 xw94, w' = x.w') _ _ _ _ ⟨⟨_, Below.refl _ _⟩, rfl⟩ ?_
          refine later_row hM95 24 (.tmp 6) rfl (b_xw4) rfl 24 2 _ k99 undU szU (by rfl) ?_; simp only [Act.put, List.setIfInBounds_toArray, List.set_cons_succ, List.set_cons_zero]
          go_big_quiet_step (fail)
          refine later_row hM95 58 (.tmp 10) rfl (b_xw65) rfl 58 2 _ k102 undB szB (by rfl) ?_; simp only [Act.put, List.setIfInBounds_toArray, List.set_cons_succ, List.set_cons_zero]
          go_big_quiet_step ((go_at_call 40; exact later_of hM95 _ (fun K hK hKN => Set_any (rN y k) k (true, false) _ K hK)))
          refine wpQuiet_nil ?_
          rintro xw104 ⟨qxw104, exw104⟩
          have hbxw104 := qxw104.b
          rw [← exw104] at hbxw104
          clear qxw104 exw104
          obtain ⟨M105, hM105⟩ := sz_some xw104
          have lM105 := below_sz hbxw104 hM95 hM105
          have k106 := k96.below hbxw104 (by omega)
          have k107 := k97.below hbxw104 (by omega)
          have k108 := k98.below hbxw104 (by omega)
          have k109 := k99.below hbxw104 (by omega)
          have k110 := k100.below hbxw104 (by omega)
          have k111 := k101.below hbxw104 (by omega)
          have k112 := k102.below hbxw104 (by omega)
          have lo113 := lo103.trans (hbxw104.mono (by omega))
          clear k96 k97 k98 k99 k100 k101 k102 lo103 hbxw104
          refine wpl_store rfl 24 (.tmp 6) (.tmp 46) rfl b_xw4 2 (nC (rSet (rN y k) k (true, false))) rfl rfl 24 _ k109 szU (fun j _ => nC_one _ j) ?_
          intro xw114 t115 k116
          have k117 := k106.touch t115 (by omega)
          have k118 := k107.touch t115 (by omega)
          have k119 := k108.touch t115 (by omega)
          have k120 := k110.touch t115 (by omega)
          have k121 := k111.touch t115 (by omega)
          have k122 := k112.touch t115 (by omega)
          have lo123 := t115.below lo113 (by omega)
          clear k109 k106 k107 k108 k110 k111 k112 lo113 t115
          go_wp2_with fail
          go_roundg (64 - (k + 1))
          case rel => exact ⟨k + 1, by omega, rfl, by simp, HX2, k117, k118, k119, by rw [E.out]; exact k116, lo123⟩
          case measure => omega
      · have HX := hid hxa
        have HY := hid hxb
        have EY := hid (show rMeetY a b k = (false, true) by unfold rMeetY; rw [hxa, hxb]; rfl)
        clear hxa hxb
        go_upto_region 5 with fail
        refine wp_region_any (by kernel_rfl) ?_
        replace k10 : Has wr.drew N 24 2 (nC a) := k10
        replace k11 : Has wr.drew (N + 1) 24 2 (nC b) := k11
        replace k12 : Has wr.drew (N + 1 + 1) 24 2 (nC zeroN) := k12
        replace k13 : Has wr.drew b_xw4 24 2 (nC (rN y k)) := k13
        replace hM15 : Sz wr.drew M15 := hM15
        replace lo14 : Below N w wr.drew := lo14.drew
        change wpAny _ _ _ _ _ _ _ (World.drew _)
        generalize wr.drew = xw20 at *
        refine wpAny_pot (rem := [0, 1, 2, 3, 4, 5, 6, 7]) (FG M15 (fun j => if j = 0 then some (Value.agg (cellsOf (nC a) 2)) else if j = 1 then some (Value.int .i64 (k : Int)) else if j = 2 then some (Value.agg (cellsOf (bC (true, true)) 2)) else if j = 3 then some (Value.agg (cellsOf (nC b) 2)) else if j = 4 then some (Value.int .i64 (k : Int)) else if j = 5 then some (Value.agg (cellsOf (bC (false, true)) 2)) else if j = 6 then none else none) (fun j => if j = 6 then (58, 2, bC (false, false)) else (58, 2, bC (false, false)))) (TwoN (fun j => if j = 0 then some (Value.agg (cellsOf (nC a) 2)) else if j = 1 then some (Value.int .i64 (k : Int)) else if j = 2 then some (Value.agg (cellsOf (bC (true, true)) 2)) else if j = 3 then some (Value.agg (cellsOf (nC b) 2)) else if j = 4 then some (Value.int .i64 (k : Int)) else if j = 5 then some (Value.agg (cellsOf (bC (false, true)) 2)) else if j = 6 then none else none)) (Below M15 xw20) _ _ _ _ (by kernel_rfl) (size_dstG (by kernel_rfl)) (Below.refl _ _) ?_ ?_
        · intro i hi ac wa hI ha hv
          simp only [List.mem_cons, List.not_mem_nil, or_false] at hi
          rcases hi with rfl | rfl | rfl | rfl | rfl | rfl | rfl | rfl
          · exact potg_run rfl rfl (Value.agg (cellsOf (nC a) 2)) rfl (run_rw 24 (.tmp 2) rfl N (ha 2 (not_dstG (by kernel_rfl))) 24 2 _ (Has.below k10 hI (Has.ltN k10 hM15)) undU szU) hM15 hI
          · exact potg_run rfl rfl (Value.int .i64 (k : Int)) rfl (run_mv (x := (.tmp 7)) rfl _ (ha 7 (not_dstG (by kernel_rfl)))) hM15 hI
          · obtain ⟨v0, hv0a, hv0b⟩ := hv 0 (by simp) (by kernel_rfl)
            have ev0 := hv0b.val rfl
            subst ev0
            obtain ⟨v1, hv1a, hv1b⟩ := hv 1 (by simp) (by kernel_rfl)
            have ev1 := hv1b.val rfl
            subst ev1
            exact potg_cl rfl rfl 39 _ _ rfl #[(Value.agg (cellsOf (nC a) 2)), (Value.int .i64 (k : Int))] (by simp only [List.map_toArray, List.map_cons, List.map_nil, (show ac.eval (.tmp 15) = (Value.agg (cellsOf (nC a) 2)) from (hv0a 15 rfl)), (show ac.eval (.tmp 16) = (Value.int .i64 (k : Int)) from (hv1a 16 rfl))] <;> rfl) (by kernel_rfl) (Value.agg (cellsOf (bC (true, true)) 2)) (fun K hK => Bits_is HX.out wa K hK) rfl hM15 hI
          · exact potg_run rfl rfl (Value.agg (cellsOf (nC b) 2)) rfl (run_rw 24 (.tmp 3) rfl (N + 1) (ha 3 (not_dstG (by kernel_rfl))) 24 2 _ (Has.below k11 hI (Has.ltN k11 hM15)) undU szU) hM15 hI
          · exact potg_run rfl rfl (Value.int .i64 (k : Int)) rfl (run_mv (x := (.tmp 7)) rfl _ (ha 7 (not_dstG (by kernel_rfl)))) hM15 hI
          · obtain ⟨v3, hv3a, hv3b⟩ := hv 3 (by simp) (by kernel_rfl)
            have ev3 := hv3b.val rfl
            subst ev3
            obtain ⟨v4, hv4a, hv4b⟩ := hv 4 (by simp) (by kernel_rfl)
            have ev4 := hv4b.val rfl
            subst ev4
            exact potg_cl rfl rfl 39 _ _ rfl #[(Value.agg (cellsOf (nC b) 2)), (Value.int .i64 (k : Int))] (by simp only [List.map_toArray, List.map_cons, List.map_nil, (show ac.eval (.tmp 18) = (Value.agg (cellsOf (nC b) 2)) from (hv3a 18 rfl)), (show ac.eval (.tmp 19) = (Value.int .i64 (k : Int)) from (hv4a 19 rfl))] <;> rfl) (by kernel_rfl) (Value.agg (cellsOf (bC (false, true)) 2)) (fun K hK => Bits_is HY.out wa K hK) rfl hM15 hI
          · exact potg_al rfl rfl rfl zeB rfl rfl hM15 hI
          · exact potg_al rfl rfl rfl zeB rfl rfl hM15 hI
        · intro vals w5_21_ hb5_21_ hF hG
          have e_21_0 := (hF 0 (by simp)).val rfl
          have e_21_1 := (hF 1 (by simp)).val rfl
          have e_21_2 := (hF 2 (by simp)).val rfl
          have e_21_3 := (hF 3 (by simp)).val rfl
          have e_21_4 := (hF 4 (by simp)).val rfl
          have e_21_5 := (hF 5 (by simp)).val rfl
          obtain ⟨b_21_6, l_21_6, e_21_6, h_21_6⟩ := (hF 6 (by simp)).al rfl rfl
          obtain ⟨b_21_7, l_21_7, e_21_7, h_21_7⟩ := (hF 7 (by simp)).al rfl rfl
          have n_21_6_7 := hG 6 (by simp) 7 (by simp) (by omega) rfl rfl b_21_6 b_21_7 e_21_6 e_21_7
          clear hF hG
          simp only [List.foldl_cons, List.foldl_nil, dstOf, List.getElem?_toArray, List.getElem?_cons_succ, List.getElem?_cons_zero, Option.bind_some, Act.put, List.setIfInBounds_toArray, List.set_cons_succ, List.set_cons_zero, e_21_0, e_21_1, e_21_2, e_21_3, e_21_4, e_21_5, e_21_6, e_21_7]
          clear e_21_0 e_21_1 e_21_2 e_21_3 e_21_4 e_21_5 e_21_6 e_21_7
          refine wpAny_chain [8, 9] _ _ _ _ (by kernel_rfl) (by decide) ?_
          simp only [List.filterMap_cons, List.filterMap_nil, List.getElem?_toArray, List.getElem?_cons_succ, List.getElem?_cons_zero]
          have k22 := k10.below hb5_21_ (by omega)
          have k23 := k11.below hb5_21_ (by omega)
          have k24 := k12.below hb5_21_ (by omega)
          have k25 := k13.below hb5_21_ (by omega)
          have lo26 := lo14.trans (hb5_21_.mono (by omega))
          clear k10 k11 k12 k13 lo14 hb5_21_
          refine wpl_store rfl 58 (.tmp 8) (.tmp 17) rfl b_21_6 2 (bC (true, true)) rfl rfl 58 _ h_21_6 szB (fun j _ => bC_one _ j) ?_
          intro xw27 t28 k29
          have k30 := k22.touch t28 (by omega)
          have k31 := k23.touch t28 (by omega)
          have k32 := k24.touch t28 (by omega)
          have k33 := k25.touch t28 (by omega)
          have k34 := h_21_7.touch t28 (by omega)
          have lo35 := t28.below lo26 (by omega)
          clear h_21_6 k22 k23 k24 k25 h_21_7 lo26 t28
          refine wpl_store rfl 58 (.tmp 9) (.tmp 20) rfl b_21_7 2 (bC (false, true)) rfl rfl 58 _ k34 szB (fun j _ => bC_one _ j) ?_
          intro xw36 t37 k38
          have k39 := k30.touch t37 (by omega)
          have k40 := k31.touch t37 (by omega)
          have k41 := k32.touch t37 (by omega)
          have k42 := k33.touch t37 (by omega)
          have k43 := k29.touch t37 (by omega)
          have lo44 := t37.below lo35 (by omega)
          clear k34 k30 k31 k32 k33 k29 lo35 t37
          obtain ⟨M45, hM45⟩ := sz_some xw36
          have lt_46 := k39.ltN hM45
          have lt_47 := k40.ltN hM45
          have lt_48 := k41.ltN hM45
          have lt_49 := k42.ltN hM45
          have lt_50 := k43.ltN hM45
          have lt_51 := k38.ltN hM45
          go_upto_region 6 with fail
          refine wp_region_lit ?_
          try simp only [Act.put, List.setIfInBounds_toArray, List.set_cons_succ, List.set_cons_zero]
          change wpList _ _ _ ((_ :: _ :: _ :: _ :: _ :: _ :: _ :: _ :: _ :: _ :: _ :: _ :: _ :: []) ++ (_ :: _ :: [])) _ _
          obtain ⟨c52, c53⟩ := b_cells k43
          obtain ⟨c54, c55⟩ := b_cells k38
          refine wpList_prefix (C := fun w' => ∃ x : Later M45 xw36, w' = x.w') _ _ _ _ ⟨⟨_, Below.refl _ _⟩, rfl⟩ ?_
          go_big_quiet_step (fail)
          refine later_c1 hM45 4 (.tmp 21) rfl rfl undBool rfl c52 (by rfl) ?_; simp only [Act.put, List.setIfInBounds_toArray, List.set_cons_succ, List.set_cons_zero]
          go_big_quiet_step (fail)
          go_big_quiet_step (fail)
          refine later_c1 hM45 4 (.tmp 24) rfl rfl undBool rfl c54 (by rfl) ?_; simp only [Act.put, List.setIfInBounds_toArray, List.set_cons_succ, List.set_cons_zero]
          go_big_quiet_step (fail)
          go_big_quiet_step (fail)
          refine later_c1 hM45 4 (.tmp 27) rfl rfl undBool rfl c53 (by rfl) ?_; simp only [Act.put, List.setIfInBounds_toArray, List.set_cons_succ, List.set_cons_zero]
          go_big_quiet_step (fail)
          go_big_quiet_step (fail)
          refine later_c1 hM45 4 (.tmp 30) rfl rfl undBool rfl c55 (by rfl) ?_; simp only [Act.put, List.setIfInBounds_toArray, List.set_cons_succ, List.set_cons_zero]
          go_big_quiet_step (fail)
          refine later_val (fun q => run_bd 58 _ rfl (cellsOf (bC (false, true)) 2) (by kernel_rfl) q.w') (by rfl) ?_; simp only [Act.put, List.setIfInBounds_toArray, List.set_cons_succ, List.set_cons_zero]
          refine wpQuiet_nil ?_
          rintro xw56 ⟨qxw56, exw56⟩
          have hbxw56 := qxw56.b
          rw [← exw56] at hbxw56
          clear qxw56 exw56
          obtain ⟨M57, hM57⟩ := sz_some xw56
          have lM57 := below_sz hbxw56 hM45 hM57
          have k58 := k39.below hbxw56 (by omega)
          have k59 := k40.below hbxw56 (by omega)
          have k60 := k41.below hbxw56 (by omega)
          have k61 := k42.below hbxw56 (by omega)
          have k62 := k43.below hbxw56 (by omega)
          have k63 := k38.below hbxw56 (by omega)
          have lo64 := lo44.trans (hbxw56.mono (by omega))
          clear k39 k40 k41 k42 k43 c52 c53 k38 c54 c55 lo44 hbxw56
          obtain ⟨b_xw65, eb_xw65⟩ : ∃ b_xw65, b_xw65 = M57 := ⟨_, rfl⟩
          have hzb_xw65 : Sz xw56 b_xw65 := by rw [eb_xw65]; exact hM57
          have lob_xw65 : M57 ≤ b_xw65 := by omega
          have upb_xw65 : b_xw65 ≤ M57 := by omega
          clear eb_xw65
          refine wpl_alloc rfl 58 rfl 2 (bC (false, false)) zeB b_xw65 hzb_xw65 ?_
          intro xw65 hMxw65 hbxw65 hhxw65; simp only [Act.put, List.setIfInBounds_toArray, List.set_cons_succ, List.set_cons_zero]
          have k66 := k58.below hbxw65 (by omega)
          have k67 := k59.below hbxw65 (by omega)
          have k68 := k60.below hbxw65 (by omega)
          have k69 := k61.below hbxw65 (by omega)
          have k70 := k62.below hbxw65 (by omega)
          have k71 := k63.below hbxw65 (by omega)
          have lo72 := lo64.trans (hbxw65.mono (by omega))
          clear k58 k59 k60 k61 k62 k63 lo64 hbxw65 hzb_xw65
          obtain ⟨M73, eM73⟩ : ∃ M73, M73 = b_xw65 + 1 := ⟨_, rfl⟩
          rw [← eM73] at hMxw65
          have loM73 : b_xw65 + 1 ≤ M73 := by omega
          have upM73 : M73 ≤ b_xw65 + 1 := by omega
          clear eM73
          refine wpl_store rfl 58 (.tmp 10) (.tmp 33) rfl b_xw65 2 (bC (false, true)) rfl rfl 58 _ hhxw65 szB (fun j _ => bC_one _ j) ?_
          intro xw74 t75 k76
          have k77 := k66.touch t75 (by omega)
          have k78 := k67.touch t75 (by omega)
          have k79 := k68.touch t75 (by omega)
          have k80 := k69.touch t75 (by omega)
          have k81 := k70.touch t75 (by omega)
          have k82 := k71.touch t75 (by omega)
          have lo83 := t75.below lo72 (by omega)
          clear hhxw65 k66 k67 k68 k69 k70 k71 lo72 t75
          obtain ⟨M84, hM84⟩ := sz_some xw74
          have lt_85 := k77.ltN hM84
          have lt_86 := k78.ltN hM84
          have lt_87 := k79.ltN hM84
          have lt_88 := k80.ltN hM84
          have lt_89 := k81.ltN hM84
          have lt_90 := k82.ltN hM84
          have lt_91 := k76.ltN hM84
          go_upto_region 7 with fail
          obtain ⟨c92, c93⟩ := b_cells k76
          refine wp_region_later1 (M84) ?_
          try simp only [Act.put, List.setIfInBounds_toArray, List.set_cons_succ, List.set_cons_zero]
          go_big_quiet_step (fail)
          refine later_c1 hM84 4 (.tmp 34) rfl rfl undBool rfl c92 (by rfl) ?_; simp only [Act.put, List.setIfInBounds_toArray, List.set_cons_succ, List.set_cons_zero]
          go_big_quiet_step (fail)
          go_big_quiet_step (fail)
          go_big_quiet_step (fail)
          refine later_c1 hM84 4 (.tmp 38) rfl rfl undBool rfl c93 (by rfl) ?_; simp only [Act.put, List.setIfInBounds_toArray, List.set_cons_succ, List.set_cons_zero]
          go_big_quiet_step (fail)
          go_big_quiet_step (fail)
          refine wpQuiet_nil ?_
          rintro xw94 ⟨qxw94, exw94⟩
          have hbxw94 := qxw94.b
          rw [← exw94] at hbxw94
          clear qxw94 exw94
          obtain ⟨M95, hM95⟩ := sz_some xw94
          have lM95 := below_sz hbxw94 hM84 hM95
          have k96 := k77.below hbxw94 (by omega)
          have k97 := k78.below hbxw94 (by omega)
          have k98 := k79.below hbxw94 (by omega)
          have k99 := k80.below hbxw94 (by omega)
          have k100 := k81.below hbxw94 (by omega)
          have k101 := k82.below hbxw94 (by omega)
          have k102 := k76.below hbxw94 (by omega)
          have lo103 := lo83.trans (hbxw94.mono (by omega))
          clear k77 k78 k79 k80 k81 k82 k76 c92 c93 lo83 hbxw94
          have E := hid (show rN y (k + 1) = rSet (rN y k) k (false, true) by show rSet (rN y k) k (y k) = _; rw [Hy.out, EY.out])
          have HX2 : Hid (∀ i, i < k + 1 → rMeetY a b i ≠ (false, false)) := hid (fun i hi => by
            by_cases e : i = k
            · rw [e, EY.out]; decide
            · exact hxk.out i (by omega))
          go_upto_region 9 with fail
          refine wp_region_lit ?_
          try simp only [Act.put, List.setIfInBounds_toArray, List.set_cons_succ, List.set_cons_zero]
          change wpList _ _ _ ((_ :: _ :: _ :: _ :: []) ++ (_ :: [])) _ _
          refine wpList_prefix (C := fun w' => ∃ x : Later M95 xw94, w' = x.w') _ _ _ _ ⟨⟨_, Below.refl _ _⟩, rfl⟩ ?_
          refine later_row hM95 24 (.tmp 6) rfl (b_xw4) rfl 24 2 _ k99 undU szU (by rfl) ?_; simp only [Act.put, List.setIfInBounds_toArray, List.set_cons_succ, List.set_cons_zero]
          go_big_quiet_step (fail)
          refine later_row hM95 58 (.tmp 10) rfl (b_xw65) rfl 58 2 _ k102 undB szB (by rfl) ?_; simp only [Act.put, List.setIfInBounds_toArray, List.set_cons_succ, List.set_cons_zero]
          go_big_quiet_step ((go_at_call 40; exact later_of hM95 _ (fun K hK hKN => Set_any (rN y k) k (false, true) _ K hK)))
          refine wpQuiet_nil ?_
          rintro xw104 ⟨qxw104, exw104⟩
          have hbxw104 := qxw104.b
          rw [← exw104] at hbxw104
          clear qxw104 exw104
          obtain ⟨M105, hM105⟩ := sz_some xw104
          have lM105 := below_sz hbxw104 hM95 hM105
          have k106 := k96.below hbxw104 (by omega)
          have k107 := k97.below hbxw104 (by omega)
          have k108 := k98.below hbxw104 (by omega)
          have k109 := k99.below hbxw104 (by omega)
          have k110 := k100.below hbxw104 (by omega)
          have k111 := k101.below hbxw104 (by omega)
          have k112 := k102.below hbxw104 (by omega)
          have lo113 := lo103.trans (hbxw104.mono (by omega))
          clear k96 k97 k98 k99 k100 k101 k102 lo103 hbxw104
          refine wpl_store rfl 24 (.tmp 6) (.tmp 46) rfl b_xw4 2 (nC (rSet (rN y k) k (false, true))) rfl rfl 24 _ k109 szU (fun j _ => nC_one _ j) ?_
          intro xw114 t115 k116
          have k117 := k106.touch t115 (by omega)
          have k118 := k107.touch t115 (by omega)
          have k119 := k108.touch t115 (by omega)
          have k120 := k110.touch t115 (by omega)
          have k121 := k111.touch t115 (by omega)
          have k122 := k112.touch t115 (by omega)
          have lo123 := t115.below lo113 (by omega)
          clear k109 k106 k107 k108 k110 k111 k112 lo113 t115
          go_wp2_with fail
          go_roundg (64 - (k + 1))
          case rel => exact ⟨k + 1, by omega, rfl, by simp, HX2, k117, k118, k119, by rw [E.out]; exact k116, lo123⟩
          case measure => omega
      · have HX := hid hxa
        have HY := hid hxb
        have EY := hid (show rMeetY a b k = (true, false) by unfold rMeetY; rw [hxa, hxb]; rfl)
        clear hxa hxb
        go_upto_region 5 with fail
        refine wp_region_any (by kernel_rfl) ?_
        replace k10 : Has wr.drew N 24 2 (nC a) := k10
        replace k11 : Has wr.drew (N + 1) 24 2 (nC b) := k11
        replace k12 : Has wr.drew (N + 1 + 1) 24 2 (nC zeroN) := k12
        replace k13 : Has wr.drew b_xw4 24 2 (nC (rN y k)) := k13
        replace hM15 : Sz wr.drew M15 := hM15
        replace lo14 : Below N w wr.drew := lo14.drew
        change wpAny _ _ _ _ _ _ _ (World.drew _)
        generalize wr.drew = xw20 at *
        refine wpAny_pot (rem := [0, 1, 2, 3, 4, 5, 6, 7]) (FG M15 (fun j => if j = 0 then some (Value.agg (cellsOf (nC a) 2)) else if j = 1 then some (Value.int .i64 (k : Int)) else if j = 2 then some (Value.agg (cellsOf (bC (true, false)) 2)) else if j = 3 then some (Value.agg (cellsOf (nC b) 2)) else if j = 4 then some (Value.int .i64 (k : Int)) else if j = 5 then some (Value.agg (cellsOf (bC (true, true)) 2)) else if j = 6 then none else none) (fun j => if j = 6 then (58, 2, bC (false, false)) else (58, 2, bC (false, false)))) (TwoN (fun j => if j = 0 then some (Value.agg (cellsOf (nC a) 2)) else if j = 1 then some (Value.int .i64 (k : Int)) else if j = 2 then some (Value.agg (cellsOf (bC (true, false)) 2)) else if j = 3 then some (Value.agg (cellsOf (nC b) 2)) else if j = 4 then some (Value.int .i64 (k : Int)) else if j = 5 then some (Value.agg (cellsOf (bC (true, true)) 2)) else if j = 6 then none else none)) (Below M15 xw20) _ _ _ _ (by kernel_rfl) (size_dstG (by kernel_rfl)) (Below.refl _ _) ?_ ?_
        · intro i hi ac wa hI ha hv
          simp only [List.mem_cons, List.not_mem_nil, or_false] at hi
          rcases hi with rfl | rfl | rfl | rfl | rfl | rfl | rfl | rfl
          · exact potg_run rfl rfl (Value.agg (cellsOf (nC a) 2)) rfl (run_rw 24 (.tmp 2) rfl N (ha 2 (not_dstG (by kernel_rfl))) 24 2 _ (Has.below k10 hI (Has.ltN k10 hM15)) undU szU) hM15 hI
          · exact potg_run rfl rfl (Value.int .i64 (k : Int)) rfl (run_mv (x := (.tmp 7)) rfl _ (ha 7 (not_dstG (by kernel_rfl)))) hM15 hI
          · obtain ⟨v0, hv0a, hv0b⟩ := hv 0 (by simp) (by kernel_rfl)
            have ev0 := hv0b.val rfl
            subst ev0
            obtain ⟨v1, hv1a, hv1b⟩ := hv 1 (by simp) (by kernel_rfl)
            have ev1 := hv1b.val rfl
            subst ev1
            exact potg_cl rfl rfl 39 _ _ rfl #[(Value.agg (cellsOf (nC a) 2)), (Value.int .i64 (k : Int))] (by simp only [List.map_toArray, List.map_cons, List.map_nil, (show ac.eval (.tmp 15) = (Value.agg (cellsOf (nC a) 2)) from (hv0a 15 rfl)), (show ac.eval (.tmp 16) = (Value.int .i64 (k : Int)) from (hv1a 16 rfl))] <;> rfl) (by kernel_rfl) (Value.agg (cellsOf (bC (true, false)) 2)) (fun K hK => Bits_is HX.out wa K hK) rfl hM15 hI
          · exact potg_run rfl rfl (Value.agg (cellsOf (nC b) 2)) rfl (run_rw 24 (.tmp 3) rfl (N + 1) (ha 3 (not_dstG (by kernel_rfl))) 24 2 _ (Has.below k11 hI (Has.ltN k11 hM15)) undU szU) hM15 hI
          · exact potg_run rfl rfl (Value.int .i64 (k : Int)) rfl (run_mv (x := (.tmp 7)) rfl _ (ha 7 (not_dstG (by kernel_rfl)))) hM15 hI
          · obtain ⟨v3, hv3a, hv3b⟩ := hv 3 (by simp) (by kernel_rfl)
            have ev3 := hv3b.val rfl
            subst ev3
            obtain ⟨v4, hv4a, hv4b⟩ := hv 4 (by simp) (by kernel_rfl)
            have ev4 := hv4b.val rfl
            subst ev4
            exact potg_cl rfl rfl 39 _ _ rfl #[(Value.agg (cellsOf (nC b) 2)), (Value.int .i64 (k : Int))] (by simp only [List.map_toArray, List.map_cons, List.map_nil, (show ac.eval (.tmp 18) = (Value.agg (cellsOf (nC b) 2)) from (hv3a 18 rfl)), (show ac.eval (.tmp 19) = (Value.int .i64 (k : Int)) from (hv4a 19 rfl))] <;> rfl) (by kernel_rfl) (Value.agg (cellsOf (bC (true, true)) 2)) (fun K hK => Bits_is HY.out wa K hK) rfl hM15 hI
          · exact potg_al rfl rfl rfl zeB rfl rfl hM15 hI
          · exact potg_al rfl rfl rfl zeB rfl rfl hM15 hI
        · intro vals w5_21_ hb5_21_ hF hG
          have e_21_0 := (hF 0 (by simp)).val rfl
          have e_21_1 := (hF 1 (by simp)).val rfl
          have e_21_2 := (hF 2 (by simp)).val rfl
          have e_21_3 := (hF 3 (by simp)).val rfl
          have e_21_4 := (hF 4 (by simp)).val rfl
          have e_21_5 := (hF 5 (by simp)).val rfl
          obtain ⟨b_21_6, l_21_6, e_21_6, h_21_6⟩ := (hF 6 (by simp)).al rfl rfl
          obtain ⟨b_21_7, l_21_7, e_21_7, h_21_7⟩ := (hF 7 (by simp)).al rfl rfl
          have n_21_6_7 := hG 6 (by simp) 7 (by simp) (by omega) rfl rfl b_21_6 b_21_7 e_21_6 e_21_7
          clear hF hG
          simp only [List.foldl_cons, List.foldl_nil, dstOf, List.getElem?_toArray, List.getElem?_cons_succ, List.getElem?_cons_zero, Option.bind_some, Act.put, List.setIfInBounds_toArray, List.set_cons_succ, List.set_cons_zero, e_21_0, e_21_1, e_21_2, e_21_3, e_21_4, e_21_5, e_21_6, e_21_7]
          clear e_21_0 e_21_1 e_21_2 e_21_3 e_21_4 e_21_5 e_21_6 e_21_7
          refine wpAny_chain [8, 9] _ _ _ _ (by kernel_rfl) (by decide) ?_
          simp only [List.filterMap_cons, List.filterMap_nil, List.getElem?_toArray, List.getElem?_cons_succ, List.getElem?_cons_zero]
          have k22 := k10.below hb5_21_ (by omega)
          have k23 := k11.below hb5_21_ (by omega)
          have k24 := k12.below hb5_21_ (by omega)
          have k25 := k13.below hb5_21_ (by omega)
          have lo26 := lo14.trans (hb5_21_.mono (by omega))
          clear k10 k11 k12 k13 lo14 hb5_21_
          refine wpl_store rfl 58 (.tmp 8) (.tmp 17) rfl b_21_6 2 (bC (true, false)) rfl rfl 58 _ h_21_6 szB (fun j _ => bC_one _ j) ?_
          intro xw27 t28 k29
          have k30 := k22.touch t28 (by omega)
          have k31 := k23.touch t28 (by omega)
          have k32 := k24.touch t28 (by omega)
          have k33 := k25.touch t28 (by omega)
          have k34 := h_21_7.touch t28 (by omega)
          have lo35 := t28.below lo26 (by omega)
          clear h_21_6 k22 k23 k24 k25 h_21_7 lo26 t28
          refine wpl_store rfl 58 (.tmp 9) (.tmp 20) rfl b_21_7 2 (bC (true, true)) rfl rfl 58 _ k34 szB (fun j _ => bC_one _ j) ?_
          intro xw36 t37 k38
          have k39 := k30.touch t37 (by omega)
          have k40 := k31.touch t37 (by omega)
          have k41 := k32.touch t37 (by omega)
          have k42 := k33.touch t37 (by omega)
          have k43 := k29.touch t37 (by omega)
          have lo44 := t37.below lo35 (by omega)
          clear k34 k30 k31 k32 k33 k29 lo35 t37
          obtain ⟨M45, hM45⟩ := sz_some xw36
          have lt_46 := k39.ltN hM45
          have lt_47 := k40.ltN hM45
          have lt_48 := k41.ltN hM45
          have lt_49 := k42.ltN hM45
          have lt_50 := k43.ltN hM45
          have lt_51 := k38.ltN hM45
          go_upto_region 6 with fail
          refine wp_region_lit ?_
          try simp only [Act.put, List.setIfInBounds_toArray, List.set_cons_succ, List.set_cons_zero]
          change wpList _ _ _ ((_ :: _ :: _ :: _ :: _ :: _ :: _ :: _ :: _ :: _ :: _ :: _ :: _ :: []) ++ (_ :: _ :: [])) _ _
          obtain ⟨c52, c53⟩ := b_cells k43
          obtain ⟨c54, c55⟩ := b_cells k38
          refine wpList_prefix (C := fun w' => ∃ x : Later M45 xw36, w' = x.w') _ _ _ _ ⟨⟨_, Below.refl _ _⟩, rfl⟩ ?_
          go_big_quiet_step (fail)
          refine later_c1 hM45 4 (.tmp 21) rfl rfl undBool rfl c52 (by rfl) ?_; simp only [Act.put, List.setIfInBounds_toArray, List.set_cons_succ, List.set_cons_zero]
          go_big_quiet_step (fail)
          go_big_quiet_step (fail)
          refine later_c1 hM45 4 (.tmp 24) rfl rfl undBool rfl c54 (by rfl) ?_; simp only [Act.put, List.setIfInBounds_toArray, List.set_cons_succ, List.set_cons_zero]
          go_big_quiet_step (fail)
          go_big_quiet_step (fail)
          refine later_c1 hM45 4 (.tmp 27) rfl rfl undBool rfl c53 (by rfl) ?_; simp only [Act.put, List.setIfInBounds_toArray, List.set_cons_succ, List.set_cons_zero]
          go_big_quiet_step (fail)
          go_big_quiet_step (fail)
          go_big_quiet_step (fail)
          go_big_quiet_step (fail)
          refine later_val (fun q => run_bd 58 _ rfl (cellsOf (bC (true, false)) 2) (by kernel_rfl) q.w') (by rfl) ?_; simp only [Act.put, List.setIfInBounds_toArray, List.set_cons_succ, List.set_cons_zero]
          refine wpQuiet_nil ?_
          rintro xw56 ⟨qxw56, exw56⟩
          have hbxw56 := qxw56.b
          rw [← exw56] at hbxw56
          clear qxw56 exw56
          obtain ⟨M57, hM57⟩ := sz_some xw56
          have lM57 := below_sz hbxw56 hM45 hM57
          have k58 := k39.below hbxw56 (by omega)
          have k59 := k40.below hbxw56 (by omega)
          have k60 := k41.below hbxw56 (by omega)
          have k61 := k42.below hbxw56 (by omega)
          have k62 := k43.below hbxw56 (by omega)
          have k63 := k38.below hbxw56 (by omega)
          have lo64 := lo44.trans (hbxw56.mono (by omega))
          clear k39 k40 k41 k42 k43 c52 c53 k38 c54 c55 lo44 hbxw56
          obtain ⟨b_xw65, eb_xw65⟩ : ∃ b_xw65, b_xw65 = M57 := ⟨_, rfl⟩
          have hzb_xw65 : Sz xw56 b_xw65 := by rw [eb_xw65]; exact hM57
          have lob_xw65 : M57 ≤ b_xw65 := by omega
          have upb_xw65 : b_xw65 ≤ M57 := by omega
          clear eb_xw65
          refine wpl_alloc rfl 58 rfl 2 (bC (false, false)) zeB b_xw65 hzb_xw65 ?_
          intro xw65 hMxw65 hbxw65 hhxw65; simp only [Act.put, List.setIfInBounds_toArray, List.set_cons_succ, List.set_cons_zero]
          have k66 := k58.below hbxw65 (by omega)
          have k67 := k59.below hbxw65 (by omega)
          have k68 := k60.below hbxw65 (by omega)
          have k69 := k61.below hbxw65 (by omega)
          have k70 := k62.below hbxw65 (by omega)
          have k71 := k63.below hbxw65 (by omega)
          have lo72 := lo64.trans (hbxw65.mono (by omega))
          clear k58 k59 k60 k61 k62 k63 lo64 hbxw65 hzb_xw65
          obtain ⟨M73, eM73⟩ : ∃ M73, M73 = b_xw65 + 1 := ⟨_, rfl⟩
          rw [← eM73] at hMxw65
          have loM73 : b_xw65 + 1 ≤ M73 := by omega
          have upM73 : M73 ≤ b_xw65 + 1 := by omega
          clear eM73
          refine wpl_store rfl 58 (.tmp 10) (.tmp 33) rfl b_xw65 2 (bC (true, false)) rfl rfl 58 _ hhxw65 szB (fun j _ => bC_one _ j) ?_
          intro xw74 t75 k76
          have k77 := k66.touch t75 (by omega)
          have k78 := k67.touch t75 (by omega)
          have k79 := k68.touch t75 (by omega)
          have k80 := k69.touch t75 (by omega)
          have k81 := k70.touch t75 (by omega)
          have k82 := k71.touch t75 (by omega)
          have lo83 := t75.below lo72 (by omega)
          clear hhxw65 k66 k67 k68 k69 k70 k71 lo72 t75
          obtain ⟨M84, hM84⟩ := sz_some xw74
          have lt_85 := k77.ltN hM84
          have lt_86 := k78.ltN hM84
          have lt_87 := k79.ltN hM84
          have lt_88 := k80.ltN hM84
          have lt_89 := k81.ltN hM84
          have lt_90 := k82.ltN hM84
          have lt_91 := k76.ltN hM84
          go_upto_region 7 with fail
          obtain ⟨c92, c93⟩ := b_cells k76
          refine wp_region_later1 (M84) ?_
          try simp only [Act.put, List.setIfInBounds_toArray, List.set_cons_succ, List.set_cons_zero]
          go_big_quiet_step (fail)
          refine later_c1 hM84 4 (.tmp 34) rfl rfl undBool rfl c92 (by rfl) ?_; simp only [Act.put, List.setIfInBounds_toArray, List.set_cons_succ, List.set_cons_zero]
          go_big_quiet_step (fail)
          go_big_quiet_step (fail)
          go_big_quiet_step (fail)
          go_big_quiet_step (fail)
          go_big_quiet_step (fail)
          go_big_quiet_step (fail)
          refine wpQuiet_nil ?_
          rintro xw94 ⟨qxw94, exw94⟩
          have hbxw94 := qxw94.b
          rw [← exw94] at hbxw94
          clear qxw94 exw94
          obtain ⟨M95, hM95⟩ := sz_some xw94
          have lM95 := below_sz hbxw94 hM84 hM95
          have k96 := k77.below hbxw94 (by omega)
          have k97 := k78.below hbxw94 (by omega)
          have k98 := k79.below hbxw94 (by omega)
          have k99 := k80.below hbxw94 (by omega)
          have k100 := k81.below hbxw94 (by omega)
          have k101 := k82.below hbxw94 (by omega)
          have k102 := k76.below hbxw94 (by omega)
          have lo103 := lo83.trans (hbxw94.mono (by omega))
          clear k77 k78 k79 k80 k81 k82 k76 c92 c93 lo83 hbxw94
          have E := hid (show rN y (k + 1) = rSet (rN y k) k (true, false) by show rSet (rN y k) k (y k) = _; rw [Hy.out, EY.out])
          have HX2 : Hid (∀ i, i < k + 1 → rMeetY a b i ≠ (false, false)) := hid (fun i hi => by
            by_cases e : i = k
            · rw [e, EY.out]; decide
            · exact hxk.out i (by omega))
          go_upto_region 9 with fail
          refine wp_region_lit ?_
          try simp only [Act.put, List.setIfInBounds_toArray, List.set_cons_succ, List.set_cons_zero]
          change wpList _ _ _ ((_ :: _ :: _ :: _ :: []) ++ (_ :: [])) _ _
          refine wpList_prefix (C := fun w' => ∃ x : Later M95 xw94, w' = x.w') _ _ _ _ ⟨⟨_, Below.refl _ _⟩, rfl⟩ ?_
          refine later_row hM95 24 (.tmp 6) rfl (b_xw4) rfl 24 2 _ k99 undU szU (by rfl) ?_; simp only [Act.put, List.setIfInBounds_toArray, List.set_cons_succ, List.set_cons_zero]
          go_big_quiet_step (fail)
          refine later_row hM95 58 (.tmp 10) rfl (b_xw65) rfl 58 2 _ k102 undB szB (by rfl) ?_; simp only [Act.put, List.setIfInBounds_toArray, List.set_cons_succ, List.set_cons_zero]
          go_big_quiet_step ((go_at_call 40; exact later_of hM95 _ (fun K hK hKN => Set_any (rN y k) k (true, false) _ K hK)))
          refine wpQuiet_nil ?_
          rintro xw104 ⟨qxw104, exw104⟩
          have hbxw104 := qxw104.b
          rw [← exw104] at hbxw104
          clear qxw104 exw104
          obtain ⟨M105, hM105⟩ := sz_some xw104
          have lM105 := below_sz hbxw104 hM95 hM105
          have k106 := k96.below hbxw104 (by omega)
          have k107 := k97.below hbxw104 (by omega)
          have k108 := k98.below hbxw104 (by omega)
          have k109 := k99.below hbxw104 (by omega)
          have k110 := k100.below hbxw104 (by omega)
          have k111 := k101.below hbxw104 (by omega)
          have k112 := k102.below hbxw104 (by omega)
          have lo113 := lo103.trans (hbxw104.mono (by omega))
          clear k96 k97 k98 k99 k100 k101 k102 lo103 hbxw104
          refine wpl_store rfl 24 (.tmp 6) (.tmp 46) rfl b_xw4 2 (nC (rSet (rN y k) k (true, false))) rfl rfl 24 _ k109 szU (fun j _ => nC_one _ j) ?_
          intro xw114 t115 k116
          have k117 := k106.touch t115 (by omega)
          have k118 := k107.touch t115 (by omega)
          have k119 := k108.touch t115 (by omega)
          have k120 := k110.touch t115 (by omega)
          have k121 := k111.touch t115 (by omega)
          have k122 := k112.touch t115 (by omega)
          have lo123 := t115.below lo113 (by omega)
          clear k109 k106 k107 k108 k110 k111 k112 lo113 t115
          go_wp2_with fail
          go_roundg (64 - (k + 1))
          case rel => exact ⟨k + 1, by omega, rfl, by simp, HX2, k117, k118, k119, by rw [E.out]; exact k116, lo123⟩
          case measure => omega
      · have HX := hid hxa
        have HY := hid hxb
        have EY := hid (show rMeetY a b k = (true, false) by unfold rMeetY; rw [hxa, hxb]; rfl)
        clear hxa hxb
        go_upto_region 5 with fail
        refine wp_region_any (by kernel_rfl) ?_
        replace k10 : Has wr.drew N 24 2 (nC a) := k10
        replace k11 : Has wr.drew (N + 1) 24 2 (nC b) := k11
        replace k12 : Has wr.drew (N + 1 + 1) 24 2 (nC zeroN) := k12
        replace k13 : Has wr.drew b_xw4 24 2 (nC (rN y k)) := k13
        replace hM15 : Sz wr.drew M15 := hM15
        replace lo14 : Below N w wr.drew := lo14.drew
        change wpAny _ _ _ _ _ _ _ (World.drew _)
        generalize wr.drew = xw20 at *
        refine wpAny_pot (rem := [0, 1, 2, 3, 4, 5, 6, 7]) (FG M15 (fun j => if j = 0 then some (Value.agg (cellsOf (nC a) 2)) else if j = 1 then some (Value.int .i64 (k : Int)) else if j = 2 then some (Value.agg (cellsOf (bC (true, false)) 2)) else if j = 3 then some (Value.agg (cellsOf (nC b) 2)) else if j = 4 then some (Value.int .i64 (k : Int)) else if j = 5 then some (Value.agg (cellsOf (bC (true, false)) 2)) else if j = 6 then none else none) (fun j => if j = 6 then (58, 2, bC (false, false)) else (58, 2, bC (false, false)))) (TwoN (fun j => if j = 0 then some (Value.agg (cellsOf (nC a) 2)) else if j = 1 then some (Value.int .i64 (k : Int)) else if j = 2 then some (Value.agg (cellsOf (bC (true, false)) 2)) else if j = 3 then some (Value.agg (cellsOf (nC b) 2)) else if j = 4 then some (Value.int .i64 (k : Int)) else if j = 5 then some (Value.agg (cellsOf (bC (true, false)) 2)) else if j = 6 then none else none)) (Below M15 xw20) _ _ _ _ (by kernel_rfl) (size_dstG (by kernel_rfl)) (Below.refl _ _) ?_ ?_
        · intro i hi ac wa hI ha hv
          simp only [List.mem_cons, List.not_mem_nil, or_false] at hi
          rcases hi with rfl | rfl | rfl | rfl | rfl | rfl | rfl | rfl
          · exact potg_run rfl rfl (Value.agg (cellsOf (nC a) 2)) rfl (run_rw 24 (.tmp 2) rfl N (ha 2 (not_dstG (by kernel_rfl))) 24 2 _ (Has.below k10 hI (Has.ltN k10 hM15)) undU szU) hM15 hI
          · exact potg_run rfl rfl (Value.int .i64 (k : Int)) rfl (run_mv (x := (.tmp 7)) rfl _ (ha 7 (not_dstG (by kernel_rfl)))) hM15 hI
          · obtain ⟨v0, hv0a, hv0b⟩ := hv 0 (by simp) (by kernel_rfl)
            have ev0 := hv0b.val rfl
            subst ev0
            obtain ⟨v1, hv1a, hv1b⟩ := hv 1 (by simp) (by kernel_rfl)
            have ev1 := hv1b.val rfl
            subst ev1
            exact potg_cl rfl rfl 39 _ _ rfl #[(Value.agg (cellsOf (nC a) 2)), (Value.int .i64 (k : Int))] (by simp only [List.map_toArray, List.map_cons, List.map_nil, (show ac.eval (.tmp 15) = (Value.agg (cellsOf (nC a) 2)) from (hv0a 15 rfl)), (show ac.eval (.tmp 16) = (Value.int .i64 (k : Int)) from (hv1a 16 rfl))] <;> rfl) (by kernel_rfl) (Value.agg (cellsOf (bC (true, false)) 2)) (fun K hK => Bits_is HX.out wa K hK) rfl hM15 hI
          · exact potg_run rfl rfl (Value.agg (cellsOf (nC b) 2)) rfl (run_rw 24 (.tmp 3) rfl (N + 1) (ha 3 (not_dstG (by kernel_rfl))) 24 2 _ (Has.below k11 hI (Has.ltN k11 hM15)) undU szU) hM15 hI
          · exact potg_run rfl rfl (Value.int .i64 (k : Int)) rfl (run_mv (x := (.tmp 7)) rfl _ (ha 7 (not_dstG (by kernel_rfl)))) hM15 hI
          · obtain ⟨v3, hv3a, hv3b⟩ := hv 3 (by simp) (by kernel_rfl)
            have ev3 := hv3b.val rfl
            subst ev3
            obtain ⟨v4, hv4a, hv4b⟩ := hv 4 (by simp) (by kernel_rfl)
            have ev4 := hv4b.val rfl
            subst ev4
            exact potg_cl rfl rfl 39 _ _ rfl #[(Value.agg (cellsOf (nC b) 2)), (Value.int .i64 (k : Int))] (by simp only [List.map_toArray, List.map_cons, List.map_nil, (show ac.eval (.tmp 18) = (Value.agg (cellsOf (nC b) 2)) from (hv3a 18 rfl)), (show ac.eval (.tmp 19) = (Value.int .i64 (k : Int)) from (hv4a 19 rfl))] <;> rfl) (by kernel_rfl) (Value.agg (cellsOf (bC (true, false)) 2)) (fun K hK => Bits_is HY.out wa K hK) rfl hM15 hI
          · exact potg_al rfl rfl rfl zeB rfl rfl hM15 hI
          · exact potg_al rfl rfl rfl zeB rfl rfl hM15 hI
        · intro vals w5_21_ hb5_21_ hF hG
          have e_21_0 := (hF 0 (by simp)).val rfl
          have e_21_1 := (hF 1 (by simp)).val rfl
          have e_21_2 := (hF 2 (by simp)).val rfl
          have e_21_3 := (hF 3 (by simp)).val rfl
          have e_21_4 := (hF 4 (by simp)).val rfl
          have e_21_5 := (hF 5 (by simp)).val rfl
          obtain ⟨b_21_6, l_21_6, e_21_6, h_21_6⟩ := (hF 6 (by simp)).al rfl rfl
          obtain ⟨b_21_7, l_21_7, e_21_7, h_21_7⟩ := (hF 7 (by simp)).al rfl rfl
          have n_21_6_7 := hG 6 (by simp) 7 (by simp) (by omega) rfl rfl b_21_6 b_21_7 e_21_6 e_21_7
          clear hF hG
          simp only [List.foldl_cons, List.foldl_nil, dstOf, List.getElem?_toArray, List.getElem?_cons_succ, List.getElem?_cons_zero, Option.bind_some, Act.put, List.setIfInBounds_toArray, List.set_cons_succ, List.set_cons_zero, e_21_0, e_21_1, e_21_2, e_21_3, e_21_4, e_21_5, e_21_6, e_21_7]
          clear e_21_0 e_21_1 e_21_2 e_21_3 e_21_4 e_21_5 e_21_6 e_21_7
          refine wpAny_chain [8, 9] _ _ _ _ (by kernel_rfl) (by decide) ?_
          simp only [List.filterMap_cons, List.filterMap_nil, List.getElem?_toArray, List.getElem?_cons_succ, List.getElem?_cons_zero]
          have k22 := k10.below hb5_21_ (by omega)
          have k23 := k11.below hb5_21_ (by omega)
          have k24 := k12.below hb5_21_ (by omega)
          have k25 := k13.below hb5_21_ (by omega)
          have lo26 := lo14.trans (hb5_21_.mono (by omega))
          clear k10 k11 k12 k13 lo14 hb5_21_
          refine wpl_store rfl 58 (.tmp 8) (.tmp 17) rfl b_21_6 2 (bC (true, false)) rfl rfl 58 _ h_21_6 szB (fun j _ => bC_one _ j) ?_
          intro xw27 t28 k29
          have k30 := k22.touch t28 (by omega)
          have k31 := k23.touch t28 (by omega)
          have k32 := k24.touch t28 (by omega)
          have k33 := k25.touch t28 (by omega)
          have k34 := h_21_7.touch t28 (by omega)
          have lo35 := t28.below lo26 (by omega)
          clear h_21_6 k22 k23 k24 k25 h_21_7 lo26 t28
          refine wpl_store rfl 58 (.tmp 9) (.tmp 20) rfl b_21_7 2 (bC (true, false)) rfl rfl 58 _ k34 szB (fun j _ => bC_one _ j) ?_
          intro xw36 t37 k38
          have k39 := k30.touch t37 (by omega)
          have k40 := k31.touch t37 (by omega)
          have k41 := k32.touch t37 (by omega)
          have k42 := k33.touch t37 (by omega)
          have k43 := k29.touch t37 (by omega)
          have lo44 := t37.below lo35 (by omega)
          clear k34 k30 k31 k32 k33 k29 lo35 t37
          obtain ⟨M45, hM45⟩ := sz_some xw36
          have lt_46 := k39.ltN hM45
          have lt_47 := k40.ltN hM45
          have lt_48 := k41.ltN hM45
          have lt_49 := k42.ltN hM45
          have lt_50 := k43.ltN hM45
          have lt_51 := k38.ltN hM45
          go_upto_region 6 with fail
          refine wp_region_lit ?_
          try simp only [Act.put, List.setIfInBounds_toArray, List.set_cons_succ, List.set_cons_zero]
          change wpList _ _ _ ((_ :: _ :: _ :: _ :: _ :: _ :: _ :: _ :: _ :: _ :: _ :: _ :: _ :: []) ++ (_ :: _ :: [])) _ _
          obtain ⟨c52, c53⟩ := b_cells k43
          obtain ⟨c54, c55⟩ := b_cells k38
          refine wpList_prefix (C := fun w' => ∃ x : Later M45 xw36, w' = x.w') _ _ _ _ ⟨⟨_, Below.refl _ _⟩, rfl⟩ ?_
          go_big_quiet_step (fail)
          refine later_c1 hM45 4 (.tmp 21) rfl rfl undBool rfl c52 (by rfl) ?_; simp only [Act.put, List.setIfInBounds_toArray, List.set_cons_succ, List.set_cons_zero]
          go_big_quiet_step (fail)
          go_big_quiet_step (fail)
          refine later_c1 hM45 4 (.tmp 24) rfl rfl undBool rfl c54 (by rfl) ?_; simp only [Act.put, List.setIfInBounds_toArray, List.set_cons_succ, List.set_cons_zero]
          go_big_quiet_step (fail)
          go_big_quiet_step (fail)
          refine later_c1 hM45 4 (.tmp 27) rfl rfl undBool rfl c53 (by rfl) ?_; simp only [Act.put, List.setIfInBounds_toArray, List.set_cons_succ, List.set_cons_zero]
          go_big_quiet_step (fail)
          go_big_quiet_step (fail)
          go_big_quiet_step (fail)
          go_big_quiet_step (fail)
          refine later_val (fun q => run_bd 58 _ rfl (cellsOf (bC (true, false)) 2) (by kernel_rfl) q.w') (by rfl) ?_; simp only [Act.put, List.setIfInBounds_toArray, List.set_cons_succ, List.set_cons_zero]
          refine wpQuiet_nil ?_
          rintro xw56 ⟨qxw56, exw56⟩
          have hbxw56 := qxw56.b
          rw [← exw56] at hbxw56
          clear qxw56 exw56
          obtain ⟨M57, hM57⟩ := sz_some xw56
          have lM57 := below_sz hbxw56 hM45 hM57
          have k58 := k39.below hbxw56 (by omega)
          have k59 := k40.below hbxw56 (by omega)
          have k60 := k41.below hbxw56 (by omega)
          have k61 := k42.below hbxw56 (by omega)
          have k62 := k43.below hbxw56 (by omega)
          have k63 := k38.below hbxw56 (by omega)
          have lo64 := lo44.trans (hbxw56.mono (by omega))
          clear k39 k40 k41 k42 k43 c52 c53 k38 c54 c55 lo44 hbxw56
          obtain ⟨b_xw65, eb_xw65⟩ : ∃ b_xw65, b_xw65 = M57 := ⟨_, rfl⟩
          have hzb_xw65 : Sz xw56 b_xw65 := by rw [eb_xw65]; exact hM57
          have lob_xw65 : M57 ≤ b_xw65 := by omega
          have upb_xw65 : b_xw65 ≤ M57 := by omega
          clear eb_xw65
          refine wpl_alloc rfl 58 rfl 2 (bC (false, false)) zeB b_xw65 hzb_xw65 ?_
          intro xw65 hMxw65 hbxw65 hhxw65; simp only [Act.put, List.setIfInBounds_toArray, List.set_cons_succ, List.set_cons_zero]
          have k66 := k58.below hbxw65 (by omega)
          have k67 := k59.below hbxw65 (by omega)
          have k68 := k60.below hbxw65 (by omega)
          have k69 := k61.below hbxw65 (by omega)
          have k70 := k62.below hbxw65 (by omega)
          have k71 := k63.below hbxw65 (by omega)
          have lo72 := lo64.trans (hbxw65.mono (by omega))
          clear k58 k59 k60 k61 k62 k63 lo64 hbxw65 hzb_xw65
          obtain ⟨M73, eM73⟩ : ∃ M73, M73 = b_xw65 + 1 := ⟨_, rfl⟩
          rw [← eM73] at hMxw65
          have loM73 : b_xw65 + 1 ≤ M73 := by omega
          have upM73 : M73 ≤ b_xw65 + 1 := by omega
          clear eM73
          refine wpl_store rfl 58 (.tmp 10) (.tmp 33) rfl b_xw65 2 (bC (true, false)) rfl rfl 58 _ hhxw65 szB (fun j _ => bC_one _ j) ?_
          intro xw74 t75 k76
          have k77 := k66.touch t75 (by omega)
          have k78 := k67.touch t75 (by omega)
          have k79 := k68.touch t75 (by omega)
          have k80 := k69.touch t75 (by omega)
          have k81 := k70.touch t75 (by omega)
          have k82 := k71.touch t75 (by omega)
          have lo83 := t75.below lo72 (by omega)
          clear hhxw65 k66 k67 k68 k69 k70 k71 lo72 t75
          obtain ⟨M84, hM84⟩ := sz_some xw74
          have lt_85 := k77.ltN hM84
          have lt_86 := k78.ltN hM84
          have lt_87 := k79.ltN hM84
          have lt_88 := k80.ltN hM84
          have lt_89 := k81.ltN hM84
          have lt_90 := k82.ltN hM84
          have lt_91 := k76.ltN hM84
          go_upto_region 7 with fail
          obtain ⟨c92, c93⟩ := b_cells k76
          refine wp_region_later1 (M84) ?_
          try simp only [Act.put, List.setIfInBounds_toArray, List.set_cons_succ, List.set_cons_zero]
          go_big_quiet_step (fail)
          refine later_c1 hM84 4 (.tmp 34) rfl rfl undBool rfl c92 (by rfl) ?_; simp only [Act.put, List.setIfInBounds_toArray, List.set_cons_succ, List.set_cons_zero]
          go_big_quiet_step (fail)
          go_big_quiet_step (fail)
          go_big_quiet_step (fail)
          go_big_quiet_step (fail)
          go_big_quiet_step (fail)
          go_big_quiet_step (fail)
          refine wpQuiet_nil ?_
          rintro xw94 ⟨qxw94, exw94⟩
          have hbxw94 := qxw94.b
          rw [← exw94] at hbxw94
          clear qxw94 exw94
          obtain ⟨M95, hM95⟩ := sz_some xw94
          have lM95 := below_sz hbxw94 hM84 hM95
          have k96 := k77.below hbxw94 (by omega)
          have k97 := k78.below hbxw94 (by omega)
          have k98 := k79.below hbxw94 (by omega)
          have k99 := k80.below hbxw94 (by omega)
          have k100 := k81.below hbxw94 (by omega)
          have k101 := k82.below hbxw94 (by omega)
          have k102 := k76.below hbxw94 (by omega)
          have lo103 := lo83.trans (hbxw94.mono (by omega))
          clear k77 k78 k79 k80 k81 k82 k76 c92 c93 lo83 hbxw94
          have E := hid (show rN y (k + 1) = rSet (rN y k) k (true, false) by show rSet (rN y k) k (y k) = _; rw [Hy.out, EY.out])
          have HX2 : Hid (∀ i, i < k + 1 → rMeetY a b i ≠ (false, false)) := hid (fun i hi => by
            by_cases e : i = k
            · rw [e, EY.out]; decide
            · exact hxk.out i (by omega))
          go_upto_region 9 with fail
          refine wp_region_lit ?_
          try simp only [Act.put, List.setIfInBounds_toArray, List.set_cons_succ, List.set_cons_zero]
          change wpList _ _ _ ((_ :: _ :: _ :: _ :: []) ++ (_ :: [])) _ _
          refine wpList_prefix (C := fun w' => ∃ x : Later M95 xw94, w' = x.w') _ _ _ _ ⟨⟨_, Below.refl _ _⟩, rfl⟩ ?_
          refine later_row hM95 24 (.tmp 6) rfl (b_xw4) rfl 24 2 _ k99 undU szU (by rfl) ?_; simp only [Act.put, List.setIfInBounds_toArray, List.set_cons_succ, List.set_cons_zero]
          go_big_quiet_step (fail)
          refine later_row hM95 58 (.tmp 10) rfl (b_xw65) rfl 58 2 _ k102 undB szB (by rfl) ?_; simp only [Act.put, List.setIfInBounds_toArray, List.set_cons_succ, List.set_cons_zero]
          go_big_quiet_step ((go_at_call 40; exact later_of hM95 _ (fun K hK hKN => Set_any (rN y k) k (true, false) _ K hK)))
          refine wpQuiet_nil ?_
          rintro xw104 ⟨qxw104, exw104⟩
          have hbxw104 := qxw104.b
          rw [← exw104] at hbxw104
          clear qxw104 exw104
          obtain ⟨M105, hM105⟩ := sz_some xw104
          have lM105 := below_sz hbxw104 hM95 hM105
          have k106 := k96.below hbxw104 (by omega)
          have k107 := k97.below hbxw104 (by omega)
          have k108 := k98.below hbxw104 (by omega)
          have k109 := k99.below hbxw104 (by omega)
          have k110 := k100.below hbxw104 (by omega)
          have k111 := k101.below hbxw104 (by omega)
          have k112 := k102.below hbxw104 (by omega)
          have lo113 := lo103.trans (hbxw104.mono (by omega))
          clear k96 k97 k98 k99 k100 k101 k102 lo103 hbxw104
          refine wpl_store rfl 24 (.tmp 6) (.tmp 46) rfl b_xw4 2 (nC (rSet (rN y k) k (true, false))) rfl rfl 24 _ k109 szU (fun j _ => nC_one _ j) ?_
          intro xw114 t115 k116
          have k117 := k106.touch t115 (by omega)
          have k118 := k107.touch t115 (by omega)
          have k119 := k108.touch t115 (by omega)
          have k120 := k110.touch t115 (by omega)
          have k121 := k111.touch t115 (by omega)
          have k122 := k112.touch t115 (by omega)
          have lo123 := t115.below lo113 (by omega)
          clear k109 k106 k107 k108 k110 k111 k112 lo113 t115
          go_wp2_with fail
          go_roundg (64 - (k + 1))
          case rel => exact ⟨k + 1, by omega, rfl, by simp, HX2, k117, k118, k119, by rw [E.out]; exact k116, lo123⟩
          case measure => omega
      · have HX := hid hxa
        have HY := hid hxb
        have EY := hid (show rMeetY a b k = (false, false) by unfold rMeetY; rw [hxa, hxb]; rfl)
        clear hxa hxb
        go_upto_region 5 with fail
        refine wp_region_any (by kernel_rfl) ?_
        replace k10 : Has wr.drew N 24 2 (nC a) := k10
        replace k11 : Has wr.drew (N + 1) 24 2 (nC b) := k11
        replace k12 : Has wr.drew (N + 1 + 1) 24 2 (nC zeroN) := k12
        replace k13 : Has wr.drew b_xw4 24 2 (nC (rN y k)) := k13
        replace hM15 : Sz wr.drew M15 := hM15
        replace lo14 : Below N w wr.drew := lo14.drew
        change wpAny _ _ _ _ _ _ _ (World.drew _)
        generalize wr.drew = xw20 at *
        refine wpAny_pot (rem := [0, 1, 2, 3, 4, 5, 6, 7]) (FG M15 (fun j => if j = 0 then some (Value.agg (cellsOf (nC a) 2)) else if j = 1 then some (Value.int .i64 (k : Int)) else if j = 2 then some (Value.agg (cellsOf (bC (true, false)) 2)) else if j = 3 then some (Value.agg (cellsOf (nC b) 2)) else if j = 4 then some (Value.int .i64 (k : Int)) else if j = 5 then some (Value.agg (cellsOf (bC (false, true)) 2)) else if j = 6 then none else none) (fun j => if j = 6 then (58, 2, bC (false, false)) else (58, 2, bC (false, false)))) (TwoN (fun j => if j = 0 then some (Value.agg (cellsOf (nC a) 2)) else if j = 1 then some (Value.int .i64 (k : Int)) else if j = 2 then some (Value.agg (cellsOf (bC (true, false)) 2)) else if j = 3 then some (Value.agg (cellsOf (nC b) 2)) else if j = 4 then some (Value.int .i64 (k : Int)) else if j = 5 then some (Value.agg (cellsOf (bC (false, true)) 2)) else if j = 6 then none else none)) (Below M15 xw20) _ _ _ _ (by kernel_rfl) (size_dstG (by kernel_rfl)) (Below.refl _ _) ?_ ?_
        · intro i hi ac wa hI ha hv
          simp only [List.mem_cons, List.not_mem_nil, or_false] at hi
          rcases hi with rfl | rfl | rfl | rfl | rfl | rfl | rfl | rfl
          · exact potg_run rfl rfl (Value.agg (cellsOf (nC a) 2)) rfl (run_rw 24 (.tmp 2) rfl N (ha 2 (not_dstG (by kernel_rfl))) 24 2 _ (Has.below k10 hI (Has.ltN k10 hM15)) undU szU) hM15 hI
          · exact potg_run rfl rfl (Value.int .i64 (k : Int)) rfl (run_mv (x := (.tmp 7)) rfl _ (ha 7 (not_dstG (by kernel_rfl)))) hM15 hI
          · obtain ⟨v0, hv0a, hv0b⟩ := hv 0 (by simp) (by kernel_rfl)
            have ev0 := hv0b.val rfl
            subst ev0
            obtain ⟨v1, hv1a, hv1b⟩ := hv 1 (by simp) (by kernel_rfl)
            have ev1 := hv1b.val rfl
            subst ev1
            exact potg_cl rfl rfl 39 _ _ rfl #[(Value.agg (cellsOf (nC a) 2)), (Value.int .i64 (k : Int))] (by simp only [List.map_toArray, List.map_cons, List.map_nil, (show ac.eval (.tmp 15) = (Value.agg (cellsOf (nC a) 2)) from (hv0a 15 rfl)), (show ac.eval (.tmp 16) = (Value.int .i64 (k : Int)) from (hv1a 16 rfl))] <;> rfl) (by kernel_rfl) (Value.agg (cellsOf (bC (true, false)) 2)) (fun K hK => Bits_is HX.out wa K hK) rfl hM15 hI
          · exact potg_run rfl rfl (Value.agg (cellsOf (nC b) 2)) rfl (run_rw 24 (.tmp 3) rfl (N + 1) (ha 3 (not_dstG (by kernel_rfl))) 24 2 _ (Has.below k11 hI (Has.ltN k11 hM15)) undU szU) hM15 hI
          · exact potg_run rfl rfl (Value.int .i64 (k : Int)) rfl (run_mv (x := (.tmp 7)) rfl _ (ha 7 (not_dstG (by kernel_rfl)))) hM15 hI
          · obtain ⟨v3, hv3a, hv3b⟩ := hv 3 (by simp) (by kernel_rfl)
            have ev3 := hv3b.val rfl
            subst ev3
            obtain ⟨v4, hv4a, hv4b⟩ := hv 4 (by simp) (by kernel_rfl)
            have ev4 := hv4b.val rfl
            subst ev4
            exact potg_cl rfl rfl 39 _ _ rfl #[(Value.agg (cellsOf (nC b) 2)), (Value.int .i64 (k : Int))] (by simp only [List.map_toArray, List.map_cons, List.map_nil, (show ac.eval (.tmp 18) = (Value.agg (cellsOf (nC b) 2)) from (hv3a 18 rfl)), (show ac.eval (.tmp 19) = (Value.int .i64 (k : Int)) from (hv4a 19 rfl))] <;> rfl) (by kernel_rfl) (Value.agg (cellsOf (bC (false, true)) 2)) (fun K hK => Bits_is HY.out wa K hK) rfl hM15 hI
          · exact potg_al rfl rfl rfl zeB rfl rfl hM15 hI
          · exact potg_al rfl rfl rfl zeB rfl rfl hM15 hI
        · intro vals w5_21_ hb5_21_ hF hG
          have e_21_0 := (hF 0 (by simp)).val rfl
          have e_21_1 := (hF 1 (by simp)).val rfl
          have e_21_2 := (hF 2 (by simp)).val rfl
          have e_21_3 := (hF 3 (by simp)).val rfl
          have e_21_4 := (hF 4 (by simp)).val rfl
          have e_21_5 := (hF 5 (by simp)).val rfl
          obtain ⟨b_21_6, l_21_6, e_21_6, h_21_6⟩ := (hF 6 (by simp)).al rfl rfl
          obtain ⟨b_21_7, l_21_7, e_21_7, h_21_7⟩ := (hF 7 (by simp)).al rfl rfl
          have n_21_6_7 := hG 6 (by simp) 7 (by simp) (by omega) rfl rfl b_21_6 b_21_7 e_21_6 e_21_7
          clear hF hG
          simp only [List.foldl_cons, List.foldl_nil, dstOf, List.getElem?_toArray, List.getElem?_cons_succ, List.getElem?_cons_zero, Option.bind_some, Act.put, List.setIfInBounds_toArray, List.set_cons_succ, List.set_cons_zero, e_21_0, e_21_1, e_21_2, e_21_3, e_21_4, e_21_5, e_21_6, e_21_7]
          clear e_21_0 e_21_1 e_21_2 e_21_3 e_21_4 e_21_5 e_21_6 e_21_7
          refine wpAny_chain [8, 9] _ _ _ _ (by kernel_rfl) (by decide) ?_
          simp only [List.filterMap_cons, List.filterMap_nil, List.getElem?_toArray, List.getElem?_cons_succ, List.getElem?_cons_zero]
          have k22 := k10.below hb5_21_ (by omega)
          have k23 := k11.below hb5_21_ (by omega)
          have k24 := k12.below hb5_21_ (by omega)
          have k25 := k13.below hb5_21_ (by omega)
          have lo26 := lo14.trans (hb5_21_.mono (by omega))
          clear k10 k11 k12 k13 lo14 hb5_21_
          refine wpl_store rfl 58 (.tmp 8) (.tmp 17) rfl b_21_6 2 (bC (true, false)) rfl rfl 58 _ h_21_6 szB (fun j _ => bC_one _ j) ?_
          intro xw27 t28 k29
          have k30 := k22.touch t28 (by omega)
          have k31 := k23.touch t28 (by omega)
          have k32 := k24.touch t28 (by omega)
          have k33 := k25.touch t28 (by omega)
          have k34 := h_21_7.touch t28 (by omega)
          have lo35 := t28.below lo26 (by omega)
          clear h_21_6 k22 k23 k24 k25 h_21_7 lo26 t28
          refine wpl_store rfl 58 (.tmp 9) (.tmp 20) rfl b_21_7 2 (bC (false, true)) rfl rfl 58 _ k34 szB (fun j _ => bC_one _ j) ?_
          intro xw36 t37 k38
          have k39 := k30.touch t37 (by omega)
          have k40 := k31.touch t37 (by omega)
          have k41 := k32.touch t37 (by omega)
          have k42 := k33.touch t37 (by omega)
          have k43 := k29.touch t37 (by omega)
          have lo44 := t37.below lo35 (by omega)
          clear k34 k30 k31 k32 k33 k29 lo35 t37
          obtain ⟨M45, hM45⟩ := sz_some xw36
          have lt_46 := k39.ltN hM45
          have lt_47 := k40.ltN hM45
          have lt_48 := k41.ltN hM45
          have lt_49 := k42.ltN hM45
          have lt_50 := k43.ltN hM45
          have lt_51 := k38.ltN hM45
          go_upto_region 6 with fail
          refine wp_region_lit ?_
          try simp only [Act.put, List.setIfInBounds_toArray, List.set_cons_succ, List.set_cons_zero]
          change wpList _ _ _ ((_ :: _ :: _ :: _ :: _ :: _ :: _ :: _ :: _ :: _ :: _ :: _ :: _ :: []) ++ (_ :: _ :: [])) _ _
          obtain ⟨c52, c53⟩ := b_cells k43
          obtain ⟨c54, c55⟩ := b_cells k38
          refine wpList_prefix (C := fun w' => ∃ x : Later M45 xw36, w' = x.w') _ _ _ _ ⟨⟨_, Below.refl _ _⟩, rfl⟩ ?_
          go_big_quiet_step (fail)
          refine later_c1 hM45 4 (.tmp 21) rfl rfl undBool rfl c52 (by rfl) ?_; simp only [Act.put, List.setIfInBounds_toArray, List.set_cons_succ, List.set_cons_zero]
          go_big_quiet_step (fail)
          go_big_quiet_step (fail)
          refine later_c1 hM45 4 (.tmp 24) rfl rfl undBool rfl c54 (by rfl) ?_; simp only [Act.put, List.setIfInBounds_toArray, List.set_cons_succ, List.set_cons_zero]
          go_big_quiet_step (fail)
          go_big_quiet_step (fail)
          refine later_c1 hM45 4 (.tmp 27) rfl rfl undBool rfl c53 (by rfl) ?_; simp only [Act.put, List.setIfInBounds_toArray, List.set_cons_succ, List.set_cons_zero]
          go_big_quiet_step (fail)
          go_big_quiet_step (fail)
          go_big_quiet_step (fail)
          go_big_quiet_step (fail)
          refine later_val (fun q => run_bd 58 _ rfl (cellsOf (bC (false, false)) 2) (by kernel_rfl) q.w') (by rfl) ?_; simp only [Act.put, List.setIfInBounds_toArray, List.set_cons_succ, List.set_cons_zero]
          refine wpQuiet_nil ?_
          rintro xw56 ⟨qxw56, exw56⟩
          have hbxw56 := qxw56.b
          rw [← exw56] at hbxw56
          clear qxw56 exw56
          obtain ⟨M57, hM57⟩ := sz_some xw56
          have lM57 := below_sz hbxw56 hM45 hM57
          have k58 := k39.below hbxw56 (by omega)
          have k59 := k40.below hbxw56 (by omega)
          have k60 := k41.below hbxw56 (by omega)
          have k61 := k42.below hbxw56 (by omega)
          have k62 := k43.below hbxw56 (by omega)
          have k63 := k38.below hbxw56 (by omega)
          have lo64 := lo44.trans (hbxw56.mono (by omega))
          clear k39 k40 k41 k42 k43 c52 c53 k38 c54 c55 lo44 hbxw56
          obtain ⟨b_xw65, eb_xw65⟩ : ∃ b_xw65, b_xw65 = M57 := ⟨_, rfl⟩
          have hzb_xw65 : Sz xw56 b_xw65 := by rw [eb_xw65]; exact hM57
          have lob_xw65 : M57 ≤ b_xw65 := by omega
          have upb_xw65 : b_xw65 ≤ M57 := by omega
          clear eb_xw65
          refine wpl_alloc rfl 58 rfl 2 (bC (false, false)) zeB b_xw65 hzb_xw65 ?_
          intro xw65 hMxw65 hbxw65 hhxw65; simp only [Act.put, List.setIfInBounds_toArray, List.set_cons_succ, List.set_cons_zero]
          have k66 := k58.below hbxw65 (by omega)
          have k67 := k59.below hbxw65 (by omega)
          have k68 := k60.below hbxw65 (by omega)
          have k69 := k61.below hbxw65 (by omega)
          have k70 := k62.below hbxw65 (by omega)
          have k71 := k63.below hbxw65 (by omega)
          have lo72 := lo64.trans (hbxw65.mono (by omega))
          clear k58 k59 k60 k61 k62 k63 lo64 hbxw65 hzb_xw65
          obtain ⟨M73, eM73⟩ : ∃ M73, M73 = b_xw65 + 1 := ⟨_, rfl⟩
          rw [← eM73] at hMxw65
          have loM73 : b_xw65 + 1 ≤ M73 := by omega
          have upM73 : M73 ≤ b_xw65 + 1 := by omega
          clear eM73
          refine wpl_store rfl 58 (.tmp 10) (.tmp 33) rfl b_xw65 2 (bC (false, false)) rfl rfl 58 _ hhxw65 szB (fun j _ => bC_one _ j) ?_
          intro xw74 t75 k76
          have k77 := k66.touch t75 (by omega)
          have k78 := k67.touch t75 (by omega)
          have k79 := k68.touch t75 (by omega)
          have k80 := k69.touch t75 (by omega)
          have k81 := k70.touch t75 (by omega)
          have k82 := k71.touch t75 (by omega)
          have lo83 := t75.below lo72 (by omega)
          clear hhxw65 k66 k67 k68 k69 k70 k71 lo72 t75
          obtain ⟨M84, hM84⟩ := sz_some xw74
          have lt_85 := k77.ltN hM84
          have lt_86 := k78.ltN hM84
          have lt_87 := k79.ltN hM84
          have lt_88 := k80.ltN hM84
          have lt_89 := k81.ltN hM84
          have lt_90 := k82.ltN hM84
          have lt_91 := k76.ltN hM84
          go_upto_region 7 with fail
          obtain ⟨c92, c93⟩ := b_cells k76
          refine wp_region_later1 (M84) ?_
          try simp only [Act.put, List.setIfInBounds_toArray, List.set_cons_succ, List.set_cons_zero]
          go_big_quiet_step (fail)
          refine later_c1 hM84 4 (.tmp 34) rfl rfl undBool rfl c92 (by rfl) ?_; simp only [Act.put, List.setIfInBounds_toArray, List.set_cons_succ, List.set_cons_zero]
          go_big_quiet_step (fail)
          go_big_quiet_step (fail)
          go_big_quiet_step (fail)
          refine later_c1 hM84 4 (.tmp 38) rfl rfl undBool rfl c93 (by rfl) ?_; simp only [Act.put, List.setIfInBounds_toArray, List.set_cons_succ, List.set_cons_zero]
          go_big_quiet_step (fail)
          go_big_quiet_step (fail)
          refine wpQuiet_nil ?_
          rintro xw94 ⟨qxw94, exw94⟩
          have hbxw94 := qxw94.b
          rw [← exw94] at hbxw94
          clear qxw94 exw94
          obtain ⟨M95, hM95⟩ := sz_some xw94
          have lM95 := below_sz hbxw94 hM84 hM95
          have k96 := k77.below hbxw94 (by omega)
          have k97 := k78.below hbxw94 (by omega)
          have k98 := k79.below hbxw94 (by omega)
          have k99 := k80.below hbxw94 (by omega)
          have k100 := k81.below hbxw94 (by omega)
          have k101 := k82.below hbxw94 (by omega)
          have k102 := k76.below hbxw94 (by omega)
          have lo103 := lo83.trans (hbxw94.mono (by omega))
          clear k77 k78 k79 k80 k81 k82 k76 c92 c93 lo83 hbxw94
          have E := hid (meet_none T1.out EY.out)
          go_upto_region 8 with fail
          refine wp_region_lit ?_
          try simp only [Act.put, List.setIfInBounds_toArray, List.set_cons_succ, List.set_cons_zero]
          refine wpl_run rfl (Value.agg (cellsOf (nC ⟨0#64, 0#64⟩) 2)) _ (run_bd 24 _ rfl (cellsOf (nC ⟨0#64, 0#64⟩) 2) (by kernel_rfl) _) ?_; simp only [Act.put, List.setIfInBounds_toArray, List.set_cons_succ, List.set_cons_zero]
          refine wpl_store rfl 24 (.tmp 4) (.tmp 42) rfl (N + 1 + 1) 2 (nC ⟨0#64, 0#64⟩) rfl rfl 24 _ k98 szU (fun j _ => nC_one _ j) ?_
          intro xw104 t105 k106; simp only [Act.put, List.setIfInBounds_toArray, List.set_cons_succ, List.set_cons_zero]
          have k107 := k96.touch t105 (by omega)
          have k108 := k97.touch t105 (by omega)
          have k109 := k99.touch t105 (by omega)
          have k110 := k100.touch t105 (by omega)
          have k111 := k101.touch t105 (by omega)
          have k112 := k102.touch t105 (by omega)
          have lo113 := t105.below lo103 (by omega)
          have h114 := t105.sz hM95
          clear k98 k96 k97 k99 k100 k101 k102 lo103 hM95 t105
          change wpList _ _ _ (_ :: []) _ _
          refine wpList_of_quiet (C := fun w' => ∃ x : Later M95 xw104, w' = x.w') _ _ _ ⟨⟨_, Below.refl _ _⟩, rfl⟩ ?_
          go_big_quiet_step (fail)
          refine wpQuiet_nil ?_
          rintro xw115 ⟨qxw115, exw115⟩
          have hbxw115 := qxw115.b
          rw [← exw115] at hbxw115
          clear qxw115 exw115
          obtain ⟨M116, hM116⟩ := sz_some xw115
          have lM116 := below_sz hbxw115 h114 hM116
          have k117 := k107.below hbxw115 (by omega)
          have k118 := k108.below hbxw115 (by omega)
          have k119 := k106.below hbxw115 (by omega)
          have k120 := k109.below hbxw115 (by omega)
          have k121 := k110.below hbxw115 (by omega)
          have k122 := k111.below hbxw115 (by omega)
          have k123 := k112.below hbxw115 (by omega)
          have lo124 := lo113.trans (hbxw115.mono (by omega))
          clear k107 k108 k106 k109 k110 k111 k112 lo113 hbxw115
          go_wp2_with fail
          refine post_nb rfl (N + 1 + 1) rfl k119 ⟨dU, u1, u2⟩ szU rfl rfl ?_
          exact ⟨by rw [E.out.1, E.out.2]; rfl, lo124⟩
      · have HX := hid hxa
        have HY := hid hxb
        have EY := hid (show rMeetY a b k = (false, true) by unfold rMeetY; rw [hxa, hxb]; rfl)
        clear hxa hxb
        go_upto_region 5 with fail
        refine wp_region_any (by kernel_rfl) ?_
        replace k10 : Has wr.drew N 24 2 (nC a) := k10
        replace k11 : Has wr.drew (N + 1) 24 2 (nC b) := k11
        replace k12 : Has wr.drew (N + 1 + 1) 24 2 (nC zeroN) := k12
        replace k13 : Has wr.drew b_xw4 24 2 (nC (rN y k)) := k13
        replace hM15 : Sz wr.drew M15 := hM15
        replace lo14 : Below N w wr.drew := lo14.drew
        change wpAny _ _ _ _ _ _ _ (World.drew _)
        generalize wr.drew = xw20 at *
        refine wpAny_pot (rem := [0, 1, 2, 3, 4, 5, 6, 7]) (FG M15 (fun j => if j = 0 then some (Value.agg (cellsOf (nC a) 2)) else if j = 1 then some (Value.int .i64 (k : Int)) else if j = 2 then some (Value.agg (cellsOf (bC (false, true)) 2)) else if j = 3 then some (Value.agg (cellsOf (nC b) 2)) else if j = 4 then some (Value.int .i64 (k : Int)) else if j = 5 then some (Value.agg (cellsOf (bC (true, true)) 2)) else if j = 6 then none else none) (fun j => if j = 6 then (58, 2, bC (false, false)) else (58, 2, bC (false, false)))) (TwoN (fun j => if j = 0 then some (Value.agg (cellsOf (nC a) 2)) else if j = 1 then some (Value.int .i64 (k : Int)) else if j = 2 then some (Value.agg (cellsOf (bC (false, true)) 2)) else if j = 3 then some (Value.agg (cellsOf (nC b) 2)) else if j = 4 then some (Value.int .i64 (k : Int)) else if j = 5 then some (Value.agg (cellsOf (bC (true, true)) 2)) else if j = 6 then none else none)) (Below M15 xw20) _ _ _ _ (by kernel_rfl) (size_dstG (by kernel_rfl)) (Below.refl _ _) ?_ ?_
        · intro i hi ac wa hI ha hv
          simp only [List.mem_cons, List.not_mem_nil, or_false] at hi
          rcases hi with rfl | rfl | rfl | rfl | rfl | rfl | rfl | rfl
          · exact potg_run rfl rfl (Value.agg (cellsOf (nC a) 2)) rfl (run_rw 24 (.tmp 2) rfl N (ha 2 (not_dstG (by kernel_rfl))) 24 2 _ (Has.below k10 hI (Has.ltN k10 hM15)) undU szU) hM15 hI
          · exact potg_run rfl rfl (Value.int .i64 (k : Int)) rfl (run_mv (x := (.tmp 7)) rfl _ (ha 7 (not_dstG (by kernel_rfl)))) hM15 hI
          · obtain ⟨v0, hv0a, hv0b⟩ := hv 0 (by simp) (by kernel_rfl)
            have ev0 := hv0b.val rfl
            subst ev0
            obtain ⟨v1, hv1a, hv1b⟩ := hv 1 (by simp) (by kernel_rfl)
            have ev1 := hv1b.val rfl
            subst ev1
            exact potg_cl rfl rfl 39 _ _ rfl #[(Value.agg (cellsOf (nC a) 2)), (Value.int .i64 (k : Int))] (by simp only [List.map_toArray, List.map_cons, List.map_nil, (show ac.eval (.tmp 15) = (Value.agg (cellsOf (nC a) 2)) from (hv0a 15 rfl)), (show ac.eval (.tmp 16) = (Value.int .i64 (k : Int)) from (hv1a 16 rfl))] <;> rfl) (by kernel_rfl) (Value.agg (cellsOf (bC (false, true)) 2)) (fun K hK => Bits_is HX.out wa K hK) rfl hM15 hI
          · exact potg_run rfl rfl (Value.agg (cellsOf (nC b) 2)) rfl (run_rw 24 (.tmp 3) rfl (N + 1) (ha 3 (not_dstG (by kernel_rfl))) 24 2 _ (Has.below k11 hI (Has.ltN k11 hM15)) undU szU) hM15 hI
          · exact potg_run rfl rfl (Value.int .i64 (k : Int)) rfl (run_mv (x := (.tmp 7)) rfl _ (ha 7 (not_dstG (by kernel_rfl)))) hM15 hI
          · obtain ⟨v3, hv3a, hv3b⟩ := hv 3 (by simp) (by kernel_rfl)
            have ev3 := hv3b.val rfl
            subst ev3
            obtain ⟨v4, hv4a, hv4b⟩ := hv 4 (by simp) (by kernel_rfl)
            have ev4 := hv4b.val rfl
            subst ev4
            exact potg_cl rfl rfl 39 _ _ rfl #[(Value.agg (cellsOf (nC b) 2)), (Value.int .i64 (k : Int))] (by simp only [List.map_toArray, List.map_cons, List.map_nil, (show ac.eval (.tmp 18) = (Value.agg (cellsOf (nC b) 2)) from (hv3a 18 rfl)), (show ac.eval (.tmp 19) = (Value.int .i64 (k : Int)) from (hv4a 19 rfl))] <;> rfl) (by kernel_rfl) (Value.agg (cellsOf (bC (true, true)) 2)) (fun K hK => Bits_is HY.out wa K hK) rfl hM15 hI
          · exact potg_al rfl rfl rfl zeB rfl rfl hM15 hI
          · exact potg_al rfl rfl rfl zeB rfl rfl hM15 hI
        · intro vals w5_21_ hb5_21_ hF hG
          have e_21_0 := (hF 0 (by simp)).val rfl
          have e_21_1 := (hF 1 (by simp)).val rfl
          have e_21_2 := (hF 2 (by simp)).val rfl
          have e_21_3 := (hF 3 (by simp)).val rfl
          have e_21_4 := (hF 4 (by simp)).val rfl
          have e_21_5 := (hF 5 (by simp)).val rfl
          obtain ⟨b_21_6, l_21_6, e_21_6, h_21_6⟩ := (hF 6 (by simp)).al rfl rfl
          obtain ⟨b_21_7, l_21_7, e_21_7, h_21_7⟩ := (hF 7 (by simp)).al rfl rfl
          have n_21_6_7 := hG 6 (by simp) 7 (by simp) (by omega) rfl rfl b_21_6 b_21_7 e_21_6 e_21_7
          clear hF hG
          simp only [List.foldl_cons, List.foldl_nil, dstOf, List.getElem?_toArray, List.getElem?_cons_succ, List.getElem?_cons_zero, Option.bind_some, Act.put, List.setIfInBounds_toArray, List.set_cons_succ, List.set_cons_zero, e_21_0, e_21_1, e_21_2, e_21_3, e_21_4, e_21_5, e_21_6, e_21_7]
          clear e_21_0 e_21_1 e_21_2 e_21_3 e_21_4 e_21_5 e_21_6 e_21_7
          refine wpAny_chain [8, 9] _ _ _ _ (by kernel_rfl) (by decide) ?_
          simp only [List.filterMap_cons, List.filterMap_nil, List.getElem?_toArray, List.getElem?_cons_succ, List.getElem?_cons_zero]
          have k22 := k10.below hb5_21_ (by omega)
          have k23 := k11.below hb5_21_ (by omega)
          have k24 := k12.below hb5_21_ (by omega)
          have k25 := k13.below hb5_21_ (by omega)
          have lo26 := lo14.trans (hb5_21_.mono (by omega))
          clear k10 k11 k12 k13 lo14 hb5_21_
          refine wpl_store rfl 58 (.tmp 8) (.tmp 17) rfl b_21_6 2 (bC (false, true)) rfl rfl 58 _ h_21_6 szB (fun j _ => bC_one _ j) ?_
          intro xw27 t28 k29
          have k30 := k22.touch t28 (by omega)
          have k31 := k23.touch t28 (by omega)
          have k32 := k24.touch t28 (by omega)
          have k33 := k25.touch t28 (by omega)
          have k34 := h_21_7.touch t28 (by omega)
          have lo35 := t28.below lo26 (by omega)
          clear h_21_6 k22 k23 k24 k25 h_21_7 lo26 t28
          refine wpl_store rfl 58 (.tmp 9) (.tmp 20) rfl b_21_7 2 (bC (true, true)) rfl rfl 58 _ k34 szB (fun j _ => bC_one _ j) ?_
          intro xw36 t37 k38
          have k39 := k30.touch t37 (by omega)
          have k40 := k31.touch t37 (by omega)
          have k41 := k32.touch t37 (by omega)
          have k42 := k33.touch t37 (by omega)
          have k43 := k29.touch t37 (by omega)
          have lo44 := t37.below lo35 (by omega)
          clear k34 k30 k31 k32 k33 k29 lo35 t37
          obtain ⟨M45, hM45⟩ := sz_some xw36
          have lt_46 := k39.ltN hM45
          have lt_47 := k40.ltN hM45
          have lt_48 := k41.ltN hM45
          have lt_49 := k42.ltN hM45
          have lt_50 := k43.ltN hM45
          have lt_51 := k38.ltN hM45
          go_upto_region 6 with fail
          refine wp_region_lit ?_
          try simp only [Act.put, List.setIfInBounds_toArray, List.set_cons_succ, List.set_cons_zero]
          change wpList _ _ _ ((_ :: _ :: _ :: _ :: _ :: _ :: _ :: _ :: _ :: _ :: _ :: _ :: _ :: []) ++ (_ :: _ :: [])) _ _
          obtain ⟨c52, c53⟩ := b_cells k43
          obtain ⟨c54, c55⟩ := b_cells k38
          refine wpList_prefix (C := fun w' => ∃ x : Later M45 xw36, w' = x.w') _ _ _ _ ⟨⟨_, Below.refl _ _⟩, rfl⟩ ?_
          go_big_quiet_step (fail)
          refine later_c1 hM45 4 (.tmp 21) rfl rfl undBool rfl c52 (by rfl) ?_; simp only [Act.put, List.setIfInBounds_toArray, List.set_cons_succ, List.set_cons_zero]
          go_big_quiet_step (fail)
          go_big_quiet_step (fail)
          go_big_quiet_step (fail)
          go_big_quiet_step (fail)
          go_big_quiet_step (fail)
          refine later_c1 hM45 4 (.tmp 27) rfl rfl undBool rfl c53 (by rfl) ?_; simp only [Act.put, List.setIfInBounds_toArray, List.set_cons_succ, List.set_cons_zero]
          go_big_quiet_step (fail)
          go_big_quiet_step (fail)
          refine later_c1 hM45 4 (.tmp 30) rfl rfl undBool rfl c55 (by rfl) ?_; simp only [Act.put, List.setIfInBounds_toArray, List.set_cons_succ, List.set_cons_zero]
          go_big_quiet_step (fail)
          refine later_val (fun q => run_bd 58 _ rfl (cellsOf (bC (false, true)) 2) (by kernel_rfl) q.w') (by rfl) ?_; simp only [Act.put, List.setIfInBounds_toArray, List.set_cons_succ, List.set_cons_zero]
          refine wpQuiet_nil ?_
          rintro xw56 ⟨qxw56, exw56⟩
          have hbxw56 := qxw56.b
          rw [← exw56] at hbxw56
          clear qxw56 exw56
          obtain ⟨M57, hM57⟩ := sz_some xw56
          have lM57 := below_sz hbxw56 hM45 hM57
          have k58 := k39.below hbxw56 (by omega)
          have k59 := k40.below hbxw56 (by omega)
          have k60 := k41.below hbxw56 (by omega)
          have k61 := k42.below hbxw56 (by omega)
          have k62 := k43.below hbxw56 (by omega)
          have k63 := k38.below hbxw56 (by omega)
          have lo64 := lo44.trans (hbxw56.mono (by omega))
          clear k39 k40 k41 k42 k43 c52 c53 k38 c54 c55 lo44 hbxw56
          obtain ⟨b_xw65, eb_xw65⟩ : ∃ b_xw65, b_xw65 = M57 := ⟨_, rfl⟩
          have hzb_xw65 : Sz xw56 b_xw65 := by rw [eb_xw65]; exact hM57
          have lob_xw65 : M57 ≤ b_xw65 := by omega
          have upb_xw65 : b_xw65 ≤ M57 := by omega
          clear eb_xw65
          refine wpl_alloc rfl 58 rfl 2 (bC (false, false)) zeB b_xw65 hzb_xw65 ?_
          intro xw65 hMxw65 hbxw65 hhxw65; simp only [Act.put, List.setIfInBounds_toArray, List.set_cons_succ, List.set_cons_zero]
          have k66 := k58.below hbxw65 (by omega)
          have k67 := k59.below hbxw65 (by omega)
          have k68 := k60.below hbxw65 (by omega)
          have k69 := k61.below hbxw65 (by omega)
          have k70 := k62.below hbxw65 (by omega)
          have k71 := k63.below hbxw65 (by omega)
          have lo72 := lo64.trans (hbxw65.mono (by omega))
          clear k58 k59 k60 k61 k62 k63 lo64 hbxw65 hzb_xw65
          obtain ⟨M73, eM73⟩ : ∃ M73, M73 = b_xw65 + 1 := ⟨_, rfl⟩
          rw [← eM73] at hMxw65
          have loM73 : b_xw65 + 1 ≤ M73 := by omega
          have upM73 : M73 ≤ b_xw65 + 1 := by omega
          clear eM73
          refine wpl_store rfl 58 (.tmp 10) (.tmp 33) rfl b_xw65 2 (bC (false, true)) rfl rfl 58 _ hhxw65 szB (fun j _ => bC_one _ j) ?_
          intro xw74 t75 k76
          have k77 := k66.touch t75 (by omega)
          have k78 := k67.touch t75 (by omega)
          have k79 := k68.touch t75 (by omega)
          have k80 := k69.touch t75 (by omega)
          have k81 := k70.touch t75 (by omega)
          have k82 := k71.touch t75 (by omega)
          have lo83 := t75.below lo72 (by omega)
          clear hhxw65 k66 k67 k68 k69 k70 k71 lo72 t75
          obtain ⟨M84, hM84⟩ := sz_some xw74
          have lt_85 := k77.ltN hM84
          have lt_86 := k78.ltN hM84
          have lt_87 := k79.ltN hM84
          have lt_88 := k80.ltN hM84
          have lt_89 := k81.ltN hM84
          have lt_90 := k82.ltN hM84
          have lt_91 := k76.ltN hM84
          go_upto_region 7 with fail
          obtain ⟨c92, c93⟩ := b_cells k76
          refine wp_region_later1 (M84) ?_
          try simp only [Act.put, List.setIfInBounds_toArray, List.set_cons_succ, List.set_cons_zero]
          go_big_quiet_step (fail)
          refine later_c1 hM84 4 (.tmp 34) rfl rfl undBool rfl c92 (by rfl) ?_; simp only [Act.put, List.setIfInBounds_toArray, List.set_cons_succ, List.set_cons_zero]
          go_big_quiet_step (fail)
          go_big_quiet_step (fail)
          go_big_quiet_step (fail)
          refine later_c1 hM84 4 (.tmp 38) rfl rfl undBool rfl c93 (by rfl) ?_; simp only [Act.put, List.setIfInBounds_toArray, List.set_cons_succ, List.set_cons_zero]
          go_big_quiet_step (fail)
          go_big_quiet_step (fail)
          refine wpQuiet_nil ?_
          rintro xw94 ⟨qxw94, exw94⟩
          have hbxw94 := qxw94.b
          rw [← exw94] at hbxw94
          clear qxw94 exw94
          obtain ⟨M95, hM95⟩ := sz_some xw94
          have lM95 := below_sz hbxw94 hM84 hM95
          have k96 := k77.below hbxw94 (by omega)
          have k97 := k78.below hbxw94 (by omega)
          have k98 := k79.below hbxw94 (by omega)
          have k99 := k80.below hbxw94 (by omega)
          have k100 := k81.below hbxw94 (by omega)
          have k101 := k82.below hbxw94 (by omega)
          have k102 := k76.below hbxw94 (by omega)
          have lo103 := lo83.trans (hbxw94.mono (by omega))
          clear k77 k78 k79 k80 k81 k82 k76 c92 c93 lo83 hbxw94
          have E := hid (show rN y (k + 1) = rSet (rN y k) k (false, true) by show rSet (rN y k) k (y k) = _; rw [Hy.out, EY.out])
          have HX2 : Hid (∀ i, i < k + 1 → rMeetY a b i ≠ (false, false)) := hid (fun i hi => by
            by_cases e : i = k
            · rw [e, EY.out]; decide
            · exact hxk.out i (by omega))
          go_upto_region 9 with fail
          refine wp_region_lit ?_
          try simp only [Act.put, List.setIfInBounds_toArray, List.set_cons_succ, List.set_cons_zero]
          change wpList _ _ _ ((_ :: _ :: _ :: _ :: []) ++ (_ :: [])) _ _
          refine wpList_prefix (C := fun w' => ∃ x : Later M95 xw94, w' = x.w') _ _ _ _ ⟨⟨_, Below.refl _ _⟩, rfl⟩ ?_
          refine later_row hM95 24 (.tmp 6) rfl (b_xw4) rfl 24 2 _ k99 undU szU (by rfl) ?_; simp only [Act.put, List.setIfInBounds_toArray, List.set_cons_succ, List.set_cons_zero]
          go_big_quiet_step (fail)
          refine later_row hM95 58 (.tmp 10) rfl (b_xw65) rfl 58 2 _ k102 undB szB (by rfl) ?_; simp only [Act.put, List.setIfInBounds_toArray, List.set_cons_succ, List.set_cons_zero]
          go_big_quiet_step ((go_at_call 40; exact later_of hM95 _ (fun K hK hKN => Set_any (rN y k) k (false, true) _ K hK)))
          refine wpQuiet_nil ?_
          rintro xw104 ⟨qxw104, exw104⟩
          have hbxw104 := qxw104.b
          rw [← exw104] at hbxw104
          clear qxw104 exw104
          obtain ⟨M105, hM105⟩ := sz_some xw104
          have lM105 := below_sz hbxw104 hM95 hM105
          have k106 := k96.below hbxw104 (by omega)
          have k107 := k97.below hbxw104 (by omega)
          have k108 := k98.below hbxw104 (by omega)
          have k109 := k99.below hbxw104 (by omega)
          have k110 := k100.below hbxw104 (by omega)
          have k111 := k101.below hbxw104 (by omega)
          have k112 := k102.below hbxw104 (by omega)
          have lo113 := lo103.trans (hbxw104.mono (by omega))
          clear k96 k97 k98 k99 k100 k101 k102 lo103 hbxw104
          refine wpl_store rfl 24 (.tmp 6) (.tmp 46) rfl b_xw4 2 (nC (rSet (rN y k) k (false, true))) rfl rfl 24 _ k109 szU (fun j _ => nC_one _ j) ?_
          intro xw114 t115 k116
          have k117 := k106.touch t115 (by omega)
          have k118 := k107.touch t115 (by omega)
          have k119 := k108.touch t115 (by omega)
          have k120 := k110.touch t115 (by omega)
          have k121 := k111.touch t115 (by omega)
          have k122 := k112.touch t115 (by omega)
          have lo123 := t115.below lo113 (by omega)
          clear k109 k106 k107 k108 k110 k111 k112 lo113 t115
          go_wp2_with fail
          go_roundg (64 - (k + 1))
          case rel => exact ⟨k + 1, by omega, rfl, by simp, HX2, k117, k118, k119, by rw [E.out]; exact k116, lo123⟩
          case measure => omega
      · have HX := hid hxa
        have HY := hid hxb
        have EY := hid (show rMeetY a b k = (false, false) by unfold rMeetY; rw [hxa, hxb]; rfl)
        clear hxa hxb
        go_upto_region 5 with fail
        refine wp_region_any (by kernel_rfl) ?_
        replace k10 : Has wr.drew N 24 2 (nC a) := k10
        replace k11 : Has wr.drew (N + 1) 24 2 (nC b) := k11
        replace k12 : Has wr.drew (N + 1 + 1) 24 2 (nC zeroN) := k12
        replace k13 : Has wr.drew b_xw4 24 2 (nC (rN y k)) := k13
        replace hM15 : Sz wr.drew M15 := hM15
        replace lo14 : Below N w wr.drew := lo14.drew
        change wpAny _ _ _ _ _ _ _ (World.drew _)
        generalize wr.drew = xw20 at *
        refine wpAny_pot (rem := [0, 1, 2, 3, 4, 5, 6, 7]) (FG M15 (fun j => if j = 0 then some (Value.agg (cellsOf (nC a) 2)) else if j = 1 then some (Value.int .i64 (k : Int)) else if j = 2 then some (Value.agg (cellsOf (bC (false, true)) 2)) else if j = 3 then some (Value.agg (cellsOf (nC b) 2)) else if j = 4 then some (Value.int .i64 (k : Int)) else if j = 5 then some (Value.agg (cellsOf (bC (true, false)) 2)) else if j = 6 then none else none) (fun j => if j = 6 then (58, 2, bC (false, false)) else (58, 2, bC (false, false)))) (TwoN (fun j => if j = 0 then some (Value.agg (cellsOf (nC a) 2)) else if j = 1 then some (Value.int .i64 (k : Int)) else if j = 2 then some (Value.agg (cellsOf (bC (false, true)) 2)) else if j = 3 then some (Value.agg (cellsOf (nC b) 2)) else if j = 4 then some (Value.int .i64 (k : Int)) else if j = 5 then some (Value.agg (cellsOf (bC (true, false)) 2)) else if j = 6 then none else none)) (Below M15 xw20) _ _ _ _ (by kernel_rfl) (size_dstG (by kernel_rfl)) (Below.refl _ _) ?_ ?_
        · intro i hi ac wa hI ha hv
          simp only [List.mem_cons, List.not_mem_nil, or_false] at hi
          rcases hi with rfl | rfl | rfl | rfl | rfl | rfl | rfl | rfl
          · exact potg_run rfl rfl (Value.agg (cellsOf (nC a) 2)) rfl (run_rw 24 (.tmp 2) rfl N (ha 2 (not_dstG (by kernel_rfl))) 24 2 _ (Has.below k10 hI (Has.ltN k10 hM15)) undU szU) hM15 hI
          · exact potg_run rfl rfl (Value.int .i64 (k : Int)) rfl (run_mv (x := (.tmp 7)) rfl _ (ha 7 (not_dstG (by kernel_rfl)))) hM15 hI
          · obtain ⟨v0, hv0a, hv0b⟩ := hv 0 (by simp) (by kernel_rfl)
            have ev0 := hv0b.val rfl
            subst ev0
            obtain ⟨v1, hv1a, hv1b⟩ := hv 1 (by simp) (by kernel_rfl)
            have ev1 := hv1b.val rfl
            subst ev1
            exact potg_cl rfl rfl 39 _ _ rfl #[(Value.agg (cellsOf (nC a) 2)), (Value.int .i64 (k : Int))] (by simp only [List.map_toArray, List.map_cons, List.map_nil, (show ac.eval (.tmp 15) = (Value.agg (cellsOf (nC a) 2)) from (hv0a 15 rfl)), (show ac.eval (.tmp 16) = (Value.int .i64 (k : Int)) from (hv1a 16 rfl))] <;> rfl) (by kernel_rfl) (Value.agg (cellsOf (bC (false, true)) 2)) (fun K hK => Bits_is HX.out wa K hK) rfl hM15 hI
          · exact potg_run rfl rfl (Value.agg (cellsOf (nC b) 2)) rfl (run_rw 24 (.tmp 3) rfl (N + 1) (ha 3 (not_dstG (by kernel_rfl))) 24 2 _ (Has.below k11 hI (Has.ltN k11 hM15)) undU szU) hM15 hI
          · exact potg_run rfl rfl (Value.int .i64 (k : Int)) rfl (run_mv (x := (.tmp 7)) rfl _ (ha 7 (not_dstG (by kernel_rfl)))) hM15 hI
          · obtain ⟨v3, hv3a, hv3b⟩ := hv 3 (by simp) (by kernel_rfl)
            have ev3 := hv3b.val rfl
            subst ev3
            obtain ⟨v4, hv4a, hv4b⟩ := hv 4 (by simp) (by kernel_rfl)
            have ev4 := hv4b.val rfl
            subst ev4
            exact potg_cl rfl rfl 39 _ _ rfl #[(Value.agg (cellsOf (nC b) 2)), (Value.int .i64 (k : Int))] (by simp only [List.map_toArray, List.map_cons, List.map_nil, (show ac.eval (.tmp 18) = (Value.agg (cellsOf (nC b) 2)) from (hv3a 18 rfl)), (show ac.eval (.tmp 19) = (Value.int .i64 (k : Int)) from (hv4a 19 rfl))] <;> rfl) (by kernel_rfl) (Value.agg (cellsOf (bC (true, false)) 2)) (fun K hK => Bits_is HY.out wa K hK) rfl hM15 hI
          · exact potg_al rfl rfl rfl zeB rfl rfl hM15 hI
          · exact potg_al rfl rfl rfl zeB rfl rfl hM15 hI
        · intro vals w5_21_ hb5_21_ hF hG
          have e_21_0 := (hF 0 (by simp)).val rfl
          have e_21_1 := (hF 1 (by simp)).val rfl
          have e_21_2 := (hF 2 (by simp)).val rfl
          have e_21_3 := (hF 3 (by simp)).val rfl
          have e_21_4 := (hF 4 (by simp)).val rfl
          have e_21_5 := (hF 5 (by simp)).val rfl
          obtain ⟨b_21_6, l_21_6, e_21_6, h_21_6⟩ := (hF 6 (by simp)).al rfl rfl
          obtain ⟨b_21_7, l_21_7, e_21_7, h_21_7⟩ := (hF 7 (by simp)).al rfl rfl
          have n_21_6_7 := hG 6 (by simp) 7 (by simp) (by omega) rfl rfl b_21_6 b_21_7 e_21_6 e_21_7
          clear hF hG
          simp only [List.foldl_cons, List.foldl_nil, dstOf, List.getElem?_toArray, List.getElem?_cons_succ, List.getElem?_cons_zero, Option.bind_some, Act.put, List.setIfInBounds_toArray, List.set_cons_succ, List.set_cons_zero, e_21_0, e_21_1, e_21_2, e_21_3, e_21_4, e_21_5, e_21_6, e_21_7]
          clear e_21_0 e_21_1 e_21_2 e_21_3 e_21_4 e_21_5 e_21_6 e_21_7
          refine wpAny_chain [8, 9] _ _ _ _ (by kernel_rfl) (by decide) ?_
          simp only [List.filterMap_cons, List.filterMap_nil, List.getElem?_toArray, List.getElem?_cons_succ, List.getElem?_cons_zero]
          have k22 := k10.below hb5_21_ (by omega)
          have k23 := k11.below hb5_21_ (by omega)
          have k24 := k12.below hb5_21_ (by omega)
          have k25 := k13.below hb5_21_ (by omega)
          have lo26 := lo14.trans (hb5_21_.mono (by omega))
          clear k10 k11 k12 k13 lo14 hb5_21_
          refine wpl_store rfl 58 (.tmp 8) (.tmp 17) rfl b_21_6 2 (bC (false, true)) rfl rfl 58 _ h_21_6 szB (fun j _ => bC_one _ j) ?_
          intro xw27 t28 k29
          have k30 := k22.touch t28 (by omega)
          have k31 := k23.touch t28 (by omega)
          have k32 := k24.touch t28 (by omega)
          have k33 := k25.touch t28 (by omega)
          have k34 := h_21_7.touch t28 (by omega)
          have lo35 := t28.below lo26 (by omega)
          clear h_21_6 k22 k23 k24 k25 h_21_7 lo26 t28
          refine wpl_store rfl 58 (.tmp 9) (.tmp 20) rfl b_21_7 2 (bC (true, false)) rfl rfl 58 _ k34 szB (fun j _ => bC_one _ j) ?_
          intro xw36 t37 k38
          have k39 := k30.touch t37 (by omega)
          have k40 := k31.touch t37 (by omega)
          have k41 := k32.touch t37 (by omega)
          have k42 := k33.touch t37 (by omega)
          have k43 := k29.touch t37 (by omega)
          have lo44 := t37.below lo35 (by omega)
          clear k34 k30 k31 k32 k33 k29 lo35 t37
          obtain ⟨M45, hM45⟩ := sz_some xw36
          have lt_46 := k39.ltN hM45
          have lt_47 := k40.ltN hM45
          have lt_48 := k41.ltN hM45
          have lt_49 := k42.ltN hM45
          have lt_50 := k43.ltN hM45
          have lt_51 := k38.ltN hM45
          go_upto_region 6 with fail
          refine wp_region_lit ?_
          try simp only [Act.put, List.setIfInBounds_toArray, List.set_cons_succ, List.set_cons_zero]
          change wpList _ _ _ ((_ :: _ :: _ :: _ :: _ :: _ :: _ :: _ :: _ :: _ :: _ :: _ :: _ :: []) ++ (_ :: _ :: [])) _ _
          obtain ⟨c52, c53⟩ := b_cells k43
          obtain ⟨c54, c55⟩ := b_cells k38
          refine wpList_prefix (C := fun w' => ∃ x : Later M45 xw36, w' = x.w') _ _ _ _ ⟨⟨_, Below.refl _ _⟩, rfl⟩ ?_
          go_big_quiet_step (fail)
          refine later_c1 hM45 4 (.tmp 21) rfl rfl undBool rfl c52 (by rfl) ?_; simp only [Act.put, List.setIfInBounds_toArray, List.set_cons_succ, List.set_cons_zero]
          go_big_quiet_step (fail)
          go_big_quiet_step (fail)
          go_big_quiet_step (fail)
          go_big_quiet_step (fail)
          go_big_quiet_step (fail)
          refine later_c1 hM45 4 (.tmp 27) rfl rfl undBool rfl c53 (by rfl) ?_; simp only [Act.put, List.setIfInBounds_toArray, List.set_cons_succ, List.set_cons_zero]
          go_big_quiet_step (fail)
          go_big_quiet_step (fail)
          refine later_c1 hM45 4 (.tmp 30) rfl rfl undBool rfl c55 (by rfl) ?_; simp only [Act.put, List.setIfInBounds_toArray, List.set_cons_succ, List.set_cons_zero]
          go_big_quiet_step (fail)
          refine later_val (fun q => run_bd 58 _ rfl (cellsOf (bC (false, false)) 2) (by kernel_rfl) q.w') (by rfl) ?_; simp only [Act.put, List.setIfInBounds_toArray, List.set_cons_succ, List.set_cons_zero]
          refine wpQuiet_nil ?_
          rintro xw56 ⟨qxw56, exw56⟩
          have hbxw56 := qxw56.b
          rw [← exw56] at hbxw56
          clear qxw56 exw56
          obtain ⟨M57, hM57⟩ := sz_some xw56
          have lM57 := below_sz hbxw56 hM45 hM57
          have k58 := k39.below hbxw56 (by omega)
          have k59 := k40.below hbxw56 (by omega)
          have k60 := k41.below hbxw56 (by omega)
          have k61 := k42.below hbxw56 (by omega)
          have k62 := k43.below hbxw56 (by omega)
          have k63 := k38.below hbxw56 (by omega)
          have lo64 := lo44.trans (hbxw56.mono (by omega))
          clear k39 k40 k41 k42 k43 c52 c53 k38 c54 c55 lo44 hbxw56
          obtain ⟨b_xw65, eb_xw65⟩ : ∃ b_xw65, b_xw65 = M57 := ⟨_, rfl⟩
          have hzb_xw65 : Sz xw56 b_xw65 := by rw [eb_xw65]; exact hM57
          have lob_xw65 : M57 ≤ b_xw65 := by omega
          have upb_xw65 : b_xw65 ≤ M57 := by omega
          clear eb_xw65
          refine wpl_alloc rfl 58 rfl 2 (bC (false, false)) zeB b_xw65 hzb_xw65 ?_
          intro xw65 hMxw65 hbxw65 hhxw65; simp only [Act.put, List.setIfInBounds_toArray, List.set_cons_succ, List.set_cons_zero]
          have k66 := k58.below hbxw65 (by omega)
          have k67 := k59.below hbxw65 (by omega)
          have k68 := k60.below hbxw65 (by omega)
          have k69 := k61.below hbxw65 (by omega)
          have k70 := k62.below hbxw65 (by omega)
          have k71 := k63.below hbxw65 (by omega)
          have lo72 := lo64.trans (hbxw65.mono (by omega))
          clear k58 k59 k60 k61 k62 k63 lo64 hbxw65 hzb_xw65
          obtain ⟨M73, eM73⟩ : ∃ M73, M73 = b_xw65 + 1 := ⟨_, rfl⟩
          rw [← eM73] at hMxw65
          have loM73 : b_xw65 + 1 ≤ M73 := by omega
          have upM73 : M73 ≤ b_xw65 + 1 := by omega
          clear eM73
          refine wpl_store rfl 58 (.tmp 10) (.tmp 33) rfl b_xw65 2 (bC (false, false)) rfl rfl 58 _ hhxw65 szB (fun j _ => bC_one _ j) ?_
          intro xw74 t75 k76
          have k77 := k66.touch t75 (by omega)
          have k78 := k67.touch t75 (by omega)
          have k79 := k68.touch t75 (by omega)
          have k80 := k69.touch t75 (by omega)
          have k81 := k70.touch t75 (by omega)
          have k82 := k71.touch t75 (by omega)
          have lo83 := t75.below lo72 (by omega)
          clear hhxw65 k66 k67 k68 k69 k70 k71 lo72 t75
          obtain ⟨M84, hM84⟩ := sz_some xw74
          have lt_85 := k77.ltN hM84
          have lt_86 := k78.ltN hM84
          have lt_87 := k79.ltN hM84
          have lt_88 := k80.ltN hM84
          have lt_89 := k81.ltN hM84
          have lt_90 := k82.ltN hM84
          have lt_91 := k76.ltN hM84
          go_upto_region 7 with fail
          obtain ⟨c92, c93⟩ := b_cells k76
          refine wp_region_later1 (M84) ?_
          try simp only [Act.put, List.setIfInBounds_toArray, List.set_cons_succ, List.set_cons_zero]
          go_big_quiet_step (fail)
          refine later_c1 hM84 4 (.tmp 34) rfl rfl undBool rfl c92 (by rfl) ?_; simp only [Act.put, List.setIfInBounds_toArray, List.set_cons_succ, List.set_cons_zero]
          go_big_quiet_step (fail)
          go_big_quiet_step (fail)
          go_big_quiet_step (fail)
          refine later_c1 hM84 4 (.tmp 38) rfl rfl undBool rfl c93 (by rfl) ?_; simp only [Act.put, List.setIfInBounds_toArray, List.set_cons_succ, List.set_cons_zero]
          go_big_quiet_step (fail)
          go_big_quiet_step (fail)
          refine wpQuiet_nil ?_
          rintro xw94 ⟨qxw94, exw94⟩
          have hbxw94 := qxw94.b
          rw [← exw94] at hbxw94
          clear qxw94 exw94
          obtain ⟨M95, hM95⟩ := sz_some xw94
          have lM95 := below_sz hbxw94 hM84 hM95
          have k96 := k77.below hbxw94 (by omega)
          have k97 := k78.below hbxw94 (by omega)
          have k98 := k79.below hbxw94 (by omega)
          have k99 := k80.below hbxw94 (by omega)
          have k100 := k81.below hbxw94 (by omega)
          have k101 := k82.below hbxw94 (by omega)
          have k102 := k76.below hbxw94 (by omega)
          have lo103 := lo83.trans (hbxw94.mono (by omega))
          clear k77 k78 k79 k80 k81 k82 k76 c92 c93 lo83 hbxw94
          have E := hid (meet_none T1.out EY.out)
          go_upto_region 8 with fail
          refine wp_region_lit ?_
          try simp only [Act.put, List.setIfInBounds_toArray, List.set_cons_succ, List.set_cons_zero]
          refine wpl_run rfl (Value.agg (cellsOf (nC ⟨0#64, 0#64⟩) 2)) _ (run_bd 24 _ rfl (cellsOf (nC ⟨0#64, 0#64⟩) 2) (by kernel_rfl) _) ?_; simp only [Act.put, List.setIfInBounds_toArray, List.set_cons_succ, List.set_cons_zero]
          refine wpl_store rfl 24 (.tmp 4) (.tmp 42) rfl (N + 1 + 1) 2 (nC ⟨0#64, 0#64⟩) rfl rfl 24 _ k98 szU (fun j _ => nC_one _ j) ?_
          intro xw104 t105 k106; simp only [Act.put, List.setIfInBounds_toArray, List.set_cons_succ, List.set_cons_zero]
          have k107 := k96.touch t105 (by omega)
          have k108 := k97.touch t105 (by omega)
          have k109 := k99.touch t105 (by omega)
          have k110 := k100.touch t105 (by omega)
          have k111 := k101.touch t105 (by omega)
          have k112 := k102.touch t105 (by omega)
          have lo113 := t105.below lo103 (by omega)
          have h114 := t105.sz hM95
          clear k98 k96 k97 k99 k100 k101 k102 lo103 hM95 t105
          change wpList _ _ _ (_ :: []) _ _
          refine wpList_of_quiet (C := fun w' => ∃ x : Later M95 xw104, w' = x.w') _ _ _ ⟨⟨_, Below.refl _ _⟩, rfl⟩ ?_
          go_big_quiet_step (fail)
          refine wpQuiet_nil ?_
          rintro xw115 ⟨qxw115, exw115⟩
          have hbxw115 := qxw115.b
          rw [← exw115] at hbxw115
          clear qxw115 exw115
          obtain ⟨M116, hM116⟩ := sz_some xw115
          have lM116 := below_sz hbxw115 h114 hM116
          have k117 := k107.below hbxw115 (by omega)
          have k118 := k108.below hbxw115 (by omega)
          have k119 := k106.below hbxw115 (by omega)
          have k120 := k109.below hbxw115 (by omega)
          have k121 := k110.below hbxw115 (by omega)
          have k122 := k111.below hbxw115 (by omega)
          have k123 := k112.below hbxw115 (by omega)
          have lo124 := lo113.trans (hbxw115.mono (by omega))
          clear k107 k108 k106 k109 k110 k111 k112 lo113 hbxw115
          go_wp2_with fail
          refine post_nb rfl (N + 1 + 1) rfl k119 ⟨dU, u1, u2⟩ szU rfl rfl ?_
          exact ⟨by rw [E.out.1, E.out.2]; rfl, lo124⟩
      · have HX := hid hxa
        have HY := hid hxb
        have EY := hid (show rMeetY a b k = (false, true) by unfold rMeetY; rw [hxa, hxb]; rfl)
        clear hxa hxb
        go_upto_region 5 with fail
        refine wp_region_any (by kernel_rfl) ?_
        replace k10 : Has wr.drew N 24 2 (nC a) := k10
        replace k11 : Has wr.drew (N + 1) 24 2 (nC b) := k11
        replace k12 : Has wr.drew (N + 1 + 1) 24 2 (nC zeroN) := k12
        replace k13 : Has wr.drew b_xw4 24 2 (nC (rN y k)) := k13
        replace hM15 : Sz wr.drew M15 := hM15
        replace lo14 : Below N w wr.drew := lo14.drew
        change wpAny _ _ _ _ _ _ _ (World.drew _)
        generalize wr.drew = xw20 at *
        refine wpAny_pot (rem := [0, 1, 2, 3, 4, 5, 6, 7]) (FG M15 (fun j => if j = 0 then some (Value.agg (cellsOf (nC a) 2)) else if j = 1 then some (Value.int .i64 (k : Int)) else if j = 2 then some (Value.agg (cellsOf (bC (false, true)) 2)) else if j = 3 then some (Value.agg (cellsOf (nC b) 2)) else if j = 4 then some (Value.int .i64 (k : Int)) else if j = 5 then some (Value.agg (cellsOf (bC (false, true)) 2)) else if j = 6 then none else none) (fun j => if j = 6 then (58, 2, bC (false, false)) else (58, 2, bC (false, false)))) (TwoN (fun j => if j = 0 then some (Value.agg (cellsOf (nC a) 2)) else if j = 1 then some (Value.int .i64 (k : Int)) else if j = 2 then some (Value.agg (cellsOf (bC (false, true)) 2)) else if j = 3 then some (Value.agg (cellsOf (nC b) 2)) else if j = 4 then some (Value.int .i64 (k : Int)) else if j = 5 then some (Value.agg (cellsOf (bC (false, true)) 2)) else if j = 6 then none else none)) (Below M15 xw20) _ _ _ _ (by kernel_rfl) (size_dstG (by kernel_rfl)) (Below.refl _ _) ?_ ?_
        · intro i hi ac wa hI ha hv
          simp only [List.mem_cons, List.not_mem_nil, or_false] at hi
          rcases hi with rfl | rfl | rfl | rfl | rfl | rfl | rfl | rfl
          · exact potg_run rfl rfl (Value.agg (cellsOf (nC a) 2)) rfl (run_rw 24 (.tmp 2) rfl N (ha 2 (not_dstG (by kernel_rfl))) 24 2 _ (Has.below k10 hI (Has.ltN k10 hM15)) undU szU) hM15 hI
          · exact potg_run rfl rfl (Value.int .i64 (k : Int)) rfl (run_mv (x := (.tmp 7)) rfl _ (ha 7 (not_dstG (by kernel_rfl)))) hM15 hI
          · obtain ⟨v0, hv0a, hv0b⟩ := hv 0 (by simp) (by kernel_rfl)
            have ev0 := hv0b.val rfl
            subst ev0
            obtain ⟨v1, hv1a, hv1b⟩ := hv 1 (by simp) (by kernel_rfl)
            have ev1 := hv1b.val rfl
            subst ev1
            exact potg_cl rfl rfl 39 _ _ rfl #[(Value.agg (cellsOf (nC a) 2)), (Value.int .i64 (k : Int))] (by simp only [List.map_toArray, List.map_cons, List.map_nil, (show ac.eval (.tmp 15) = (Value.agg (cellsOf (nC a) 2)) from (hv0a 15 rfl)), (show ac.eval (.tmp 16) = (Value.int .i64 (k : Int)) from (hv1a 16 rfl))] <;> rfl) (by kernel_rfl) (Value.agg (cellsOf (bC (false, true)) 2)) (fun K hK => Bits_is HX.out wa K hK) rfl hM15 hI
          · exact potg_run rfl rfl (Value.agg (cellsOf (nC b) 2)) rfl (run_rw 24 (.tmp 3) rfl (N + 1) (ha 3 (not_dstG (by kernel_rfl))) 24 2 _ (Has.below k11 hI (Has.ltN k11 hM15)) undU szU) hM15 hI
          · exact potg_run rfl rfl (Value.int .i64 (k : Int)) rfl (run_mv (x := (.tmp 7)) rfl _ (ha 7 (not_dstG (by kernel_rfl)))) hM15 hI
          · obtain ⟨v3, hv3a, hv3b⟩ := hv 3 (by simp) (by kernel_rfl)
            have ev3 := hv3b.val rfl
            subst ev3
            obtain ⟨v4, hv4a, hv4b⟩ := hv 4 (by simp) (by kernel_rfl)
            have ev4 := hv4b.val rfl
            subst ev4
            exact potg_cl rfl rfl 39 _ _ rfl #[(Value.agg (cellsOf (nC b) 2)), (Value.int .i64 (k : Int))] (by simp only [List.map_toArray, List.map_cons, List.map_nil, (show ac.eval (.tmp 18) = (Value.agg (cellsOf (nC b) 2)) from (hv3a 18 rfl)), (show ac.eval (.tmp 19) = (Value.int .i64 (k : Int)) from (hv4a 19 rfl))] <;> rfl) (by kernel_rfl) (Value.agg (cellsOf (bC (false, true)) 2)) (fun K hK => Bits_is HY.out wa K hK) rfl hM15 hI
          · exact potg_al rfl rfl rfl zeB rfl rfl hM15 hI
          · exact potg_al rfl rfl rfl zeB rfl rfl hM15 hI
        · intro vals w5_21_ hb5_21_ hF hG
          have e_21_0 := (hF 0 (by simp)).val rfl
          have e_21_1 := (hF 1 (by simp)).val rfl
          have e_21_2 := (hF 2 (by simp)).val rfl
          have e_21_3 := (hF 3 (by simp)).val rfl
          have e_21_4 := (hF 4 (by simp)).val rfl
          have e_21_5 := (hF 5 (by simp)).val rfl
          obtain ⟨b_21_6, l_21_6, e_21_6, h_21_6⟩ := (hF 6 (by simp)).al rfl rfl
          obtain ⟨b_21_7, l_21_7, e_21_7, h_21_7⟩ := (hF 7 (by simp)).al rfl rfl
          have n_21_6_7 := hG 6 (by simp) 7 (by simp) (by omega) rfl rfl b_21_6 b_21_7 e_21_6 e_21_7
          clear hF hG
          simp only [List.foldl_cons, List.foldl_nil, dstOf, List.getElem?_toArray, List.getElem?_cons_succ, List.getElem?_cons_zero, Option.bind_some, Act.put, List.setIfInBounds_toArray, List.set_cons_succ, List.set_cons_zero, e_21_0, e_21_1, e_21_2, e_21_3, e_21_4, e_21_5, e_21_6, e_21_7]
          clear e_21_0 e_21_1 e_21_2 e_21_3 e_21_4 e_21_5 e_21_6 e_21_7
          refine wpAny_chain [8, 9] _ _ _ _ (by kernel_rfl) (by decide) ?_
          simp only [List.filterMap_cons, List.filterMap_nil, List.getElem?_toArray, List.getElem?_cons_succ, List.getElem?_cons_zero]
          have k22 := k10.below hb5_21_ (by omega)
          have k23 := k11.below hb5_21_ (by omega)
          have k24 := k12.below hb5_21_ (by omega)
          have k25 := k13.below hb5_21_ (by omega)
          have lo26 := lo14.trans (hb5_21_.mono (by omega))
          clear k10 k11 k12 k13 lo14 hb5_21_
          refine wpl_store rfl 58 (.tmp 8) (.tmp 17) rfl b_21_6 2 (bC (false, true)) rfl rfl 58 _ h_21_6 szB (fun j _ => bC_one _ j) ?_
          intro xw27 t28 k29
          have k30 := k22.touch t28 (by omega)
          have k31 := k23.touch t28 (by omega)
          have k32 := k24.touch t28 (by omega)
          have k33 := k25.touch t28 (by omega)
          have k34 := h_21_7.touch t28 (by omega)
          have lo35 := t28.below lo26 (by omega)
          clear h_21_6 k22 k23 k24 k25 h_21_7 lo26 t28
          refine wpl_store rfl 58 (.tmp 9) (.tmp 20) rfl b_21_7 2 (bC (false, true)) rfl rfl 58 _ k34 szB (fun j _ => bC_one _ j) ?_
          intro xw36 t37 k38
          have k39 := k30.touch t37 (by omega)
          have k40 := k31.touch t37 (by omega)
          have k41 := k32.touch t37 (by omega)
          have k42 := k33.touch t37 (by omega)
          have k43 := k29.touch t37 (by omega)
          have lo44 := t37.below lo35 (by omega)
          clear k34 k30 k31 k32 k33 k29 lo35 t37
          obtain ⟨M45, hM45⟩ := sz_some xw36
          have lt_46 := k39.ltN hM45
          have lt_47 := k40.ltN hM45
          have lt_48 := k41.ltN hM45
          have lt_49 := k42.ltN hM45
          have lt_50 := k43.ltN hM45
          have lt_51 := k38.ltN hM45
          go_upto_region 6 with fail
          refine wp_region_lit ?_
          try simp only [Act.put, List.setIfInBounds_toArray, List.set_cons_succ, List.set_cons_zero]
          change wpList _ _ _ ((_ :: _ :: _ :: _ :: _ :: _ :: _ :: _ :: _ :: _ :: _ :: _ :: _ :: []) ++ (_ :: _ :: [])) _ _
          obtain ⟨c52, c53⟩ := b_cells k43
          obtain ⟨c54, c55⟩ := b_cells k38
          refine wpList_prefix (C := fun w' => ∃ x : Later M45 xw36, w' = x.w') _ _ _ _ ⟨⟨_, Below.refl _ _⟩, rfl⟩ ?_
          go_big_quiet_step (fail)
          refine later_c1 hM45 4 (.tmp 21) rfl rfl undBool rfl c52 (by rfl) ?_; simp only [Act.put, List.setIfInBounds_toArray, List.set_cons_succ, List.set_cons_zero]
          go_big_quiet_step (fail)
          go_big_quiet_step (fail)
          go_big_quiet_step (fail)
          go_big_quiet_step (fail)
          go_big_quiet_step (fail)
          refine later_c1 hM45 4 (.tmp 27) rfl rfl undBool rfl c53 (by rfl) ?_; simp only [Act.put, List.setIfInBounds_toArray, List.set_cons_succ, List.set_cons_zero]
          go_big_quiet_step (fail)
          go_big_quiet_step (fail)
          refine later_c1 hM45 4 (.tmp 30) rfl rfl undBool rfl c55 (by rfl) ?_; simp only [Act.put, List.setIfInBounds_toArray, List.set_cons_succ, List.set_cons_zero]
          go_big_quiet_step (fail)
          refine later_val (fun q => run_bd 58 _ rfl (cellsOf (bC (false, true)) 2) (by kernel_rfl) q.w') (by rfl) ?_; simp only [Act.put, List.setIfInBounds_toArray, List.set_cons_succ, List.set_cons_zero]
          refine wpQuiet_nil ?_
          rintro xw56 ⟨qxw56, exw56⟩
          have hbxw56 := qxw56.b
          rw [← exw56] at hbxw56
          clear qxw56 exw56
          obtain ⟨M57, hM57⟩ := sz_some xw56
          have lM57 := below_sz hbxw56 hM45 hM57
          have k58 := k39.below hbxw56 (by omega)
          have k59 := k40.below hbxw56 (by omega)
          have k60 := k41.below hbxw56 (by omega)
          have k61 := k42.below hbxw56 (by omega)
          have k62 := k43.below hbxw56 (by omega)
          have k63 := k38.below hbxw56 (by omega)
          have lo64 := lo44.trans (hbxw56.mono (by omega))
          clear k39 k40 k41 k42 k43 c52 c53 k38 c54 c55 lo44 hbxw56
          obtain ⟨b_xw65, eb_xw65⟩ : ∃ b_xw65, b_xw65 = M57 := ⟨_, rfl⟩
          have hzb_xw65 : Sz xw56 b_xw65 := by rw [eb_xw65]; exact hM57
          have lob_xw65 : M57 ≤ b_xw65 := by omega
          have upb_xw65 : b_xw65 ≤ M57 := by omega
          clear eb_xw65
          refine wpl_alloc rfl 58 rfl 2 (bC (false, false)) zeB b_xw65 hzb_xw65 ?_
          intro xw65 hMxw65 hbxw65 hhxw65; simp only [Act.put, List.setIfInBounds_toArray, List.set_cons_succ, List.set_cons_zero]
          have k66 := k58.below hbxw65 (by omega)
          have k67 := k59.below hbxw65 (by omega)
          have k68 := k60.below hbxw65 (by omega)
          have k69 := k61.below hbxw65 (by omega)
          have k70 := k62.below hbxw65 (by omega)
          have k71 := k63.below hbxw65 (by omega)
          have lo72 := lo64.trans (hbxw65.mono (by omega))
          clear k58 k59 k60 k61 k62 k63 lo64 hbxw65 hzb_xw65
          obtain ⟨M73, eM73⟩ : ∃ M73, M73 = b_xw65 + 1 := ⟨_, rfl⟩
          rw [← eM73] at hMxw65
          have loM73 : b_xw65 + 1 ≤ M73 := by omega
          have upM73 : M73 ≤ b_xw65 + 1 := by omega
          clear eM73
          refine wpl_store rfl 58 (.tmp 10) (.tmp 33) rfl b_xw65 2 (bC (false, true)) rfl rfl 58 _ hhxw65 szB (fun j _ => bC_one _ j) ?_
          intro xw74 t75 k76
          have k77 := k66.touch t75 (by omega)
          have k78 := k67.touch t75 (by omega)
          have k79 := k68.touch t75 (by omega)
          have k80 := k69.touch t75 (by omega)
          have k81 := k70.touch t75 (by omega)
          have k82 := k71.touch t75 (by omega)
          have lo83 := t75.below lo72 (by omega)
          clear hhxw65 k66 k67 k68 k69 k70 k71 lo72 t75
          obtain ⟨M84, hM84⟩ := sz_some xw74
          have lt_85 := k77.ltN hM84
          have lt_86 := k78.ltN hM84
          have lt_87 := k79.ltN hM84
          have lt_88 := k80.ltN hM84
          have lt_89 := k81.ltN hM84
          have lt_90 := k82.ltN hM84
          have lt_91 := k76.ltN hM84
          go_upto_region 7 with fail
          obtain ⟨c92, c93⟩ := b_cells k76
          refine wp_region_later1 (M84) ?_
          try simp only [Act.put, List.setIfInBounds_toArray, List.set_cons_succ, List.set_cons_zero]
          go_big_quiet_step (fail)
          refine later_c1 hM84 4 (.tmp 34) rfl rfl undBool rfl c92 (by rfl) ?_; simp only [Act.put, List.setIfInBounds_toArray, List.set_cons_succ, List.set_cons_zero]
          go_big_quiet_step (fail)
          go_big_quiet_step (fail)
          go_big_quiet_step (fail)
          refine later_c1 hM84 4 (.tmp 38) rfl rfl undBool rfl c93 (by rfl) ?_; simp only [Act.put, List.setIfInBounds_toArray, List.set_cons_succ, List.set_cons_zero]
          go_big_quiet_step (fail)
          go_big_quiet_step (fail)
          refine wpQuiet_nil ?_
          rintro xw94 ⟨qxw94, exw94⟩
          have hbxw94 := qxw94.b
          rw [← exw94] at hbxw94
          clear qxw94 exw94
          obtain ⟨M95, hM95⟩ := sz_some xw94
          have lM95 := below_sz hbxw94 hM84 hM95
          have k96 := k77.below hbxw94 (by omega)
          have k97 := k78.below hbxw94 (by omega)
          have k98 := k79.below hbxw94 (by omega)
          have k99 := k80.below hbxw94 (by omega)
          have k100 := k81.below hbxw94 (by omega)
          have k101 := k82.below hbxw94 (by omega)
          have k102 := k76.below hbxw94 (by omega)
          have lo103 := lo83.trans (hbxw94.mono (by omega))
          clear k77 k78 k79 k80 k81 k82 k76 c92 c93 lo83 hbxw94
          have E := hid (show rN y (k + 1) = rSet (rN y k) k (false, true) by show rSet (rN y k) k (y k) = _; rw [Hy.out, EY.out])
          have HX2 : Hid (∀ i, i < k + 1 → rMeetY a b i ≠ (false, false)) := hid (fun i hi => by
            by_cases e : i = k
            · rw [e, EY.out]; decide
            · exact hxk.out i (by omega))
          go_upto_region 9 with fail
          refine wp_region_lit ?_
          try simp only [Act.put, List.setIfInBounds_toArray, List.set_cons_succ, List.set_cons_zero]
          change wpList _ _ _ ((_ :: _ :: _ :: _ :: []) ++ (_ :: [])) _ _
          refine wpList_prefix (C := fun w' => ∃ x : Later M95 xw94, w' = x.w') _ _ _ _ ⟨⟨_, Below.refl _ _⟩, rfl⟩ ?_
          refine later_row hM95 24 (.tmp 6) rfl (b_xw4) rfl 24 2 _ k99 undU szU (by rfl) ?_; simp only [Act.put, List.setIfInBounds_toArray, List.set_cons_succ, List.set_cons_zero]
          go_big_quiet_step (fail)
          refine later_row hM95 58 (.tmp 10) rfl (b_xw65) rfl 58 2 _ k102 undB szB (by rfl) ?_; simp only [Act.put, List.setIfInBounds_toArray, List.set_cons_succ, List.set_cons_zero]
          go_big_quiet_step ((go_at_call 40; exact later_of hM95 _ (fun K hK hKN => Set_any (rN y k) k (false, true) _ K hK)))
          refine wpQuiet_nil ?_
          rintro xw104 ⟨qxw104, exw104⟩
          have hbxw104 := qxw104.b
          rw [← exw104] at hbxw104
          clear qxw104 exw104
          obtain ⟨M105, hM105⟩ := sz_some xw104
          have lM105 := below_sz hbxw104 hM95 hM105
          have k106 := k96.below hbxw104 (by omega)
          have k107 := k97.below hbxw104 (by omega)
          have k108 := k98.below hbxw104 (by omega)
          have k109 := k99.below hbxw104 (by omega)
          have k110 := k100.below hbxw104 (by omega)
          have k111 := k101.below hbxw104 (by omega)
          have k112 := k102.below hbxw104 (by omega)
          have lo113 := lo103.trans (hbxw104.mono (by omega))
          clear k96 k97 k98 k99 k100 k101 k102 lo103 hbxw104
          refine wpl_store rfl 24 (.tmp 6) (.tmp 46) rfl b_xw4 2 (nC (rSet (rN y k) k (false, true))) rfl rfl 24 _ k109 szU (fun j _ => nC_one _ j) ?_
          intro xw114 t115 k116
          have k117 := k106.touch t115 (by omega)
          have k118 := k107.touch t115 (by omega)
          have k119 := k108.touch t115 (by omega)
          have k120 := k110.touch t115 (by omega)
          have k121 := k111.touch t115 (by omega)
          have k122 := k112.touch t115 (by omega)
          have lo123 := t115.below lo113 (by omega)
          clear k109 k106 k107 k108 k110 k111 k112 lo113 t115
          go_wp2_with fail
          go_roundg (64 - (k + 1))
          case rel => exact ⟨k + 1, by omega, rfl, by simp, HX2, k117, k118, k119, by rw [E.out]; exact k116, lo123⟩
          case measure => omega
    · have ek : k = 64 := by omega
      subst ek
      have E := hid (meet_all hxk.out)
      go_upto_region 10 with fail
      refine wp_region_lit ?_
      try simp only [Act.put, List.setIfInBounds_toArray, List.set_cons_succ, List.set_cons_zero]
      refine wpl_run rfl (Value.agg (cellsOf (nC (rN y 64)) 2)) _ (run_rw 24 (.tmp 6) rfl b_xw4 rfl 24 2 _ k13 undU szU) ?_; simp only [Act.put, List.setIfInBounds_toArray, List.set_cons_succ, List.set_cons_zero]
      refine wpl_store rfl 24 (.tmp 4) (.tmp 47) rfl (N + 1 + 1) 2 (nC (rN y 64)) rfl rfl 24 _ k12 szU (fun j _ => nC_one _ j) ?_
      intro xw20 t21 k22; simp only [Act.put, List.setIfInBounds_toArray, List.set_cons_succ, List.set_cons_zero]
      have k23 := k10.touch t21 (by omega)
      have k24 := k11.touch t21 (by omega)
      have k25 := k13.touch t21 (by omega)
      have lo26 := t21.below lo14 (by omega)
      have h27 := t21.sz hM15
      clear k12 k10 k11 k13 lo14 hM15 t21
      change wpList _ _ _ (_ :: []) _ _
      refine wpList_of_quiet (C := fun w' => ∃ x : Later M15 xw20, w' = x.w') _ _ _ ⟨⟨_, Below.refl _ _⟩, rfl⟩ ?_
      go_big_quiet_step (fail)
      refine wpQuiet_nil ?_
      rintro xw28 ⟨qxw28, exw28⟩
      have hbxw28 := qxw28.b
      rw [← exw28] at hbxw28
      clear qxw28 exw28
      obtain ⟨M29, hM29⟩ := sz_some xw28
      have lM29 := below_sz hbxw28 h27 hM29
      have k30 := k23.below hbxw28 (by omega)
      have k31 := k24.below hbxw28 (by omega)
      have k32 := k22.below hbxw28 (by omega)
      have k33 := k25.below hbxw28 (by omega)
      have lo34 := lo26.trans (hbxw28.mono (by omega))
      clear k23 k24 k22 k25 lo26 hbxw28
      go_wp2_with fail
      refine post_nb rfl (N + 1 + 1) rfl k32 ⟨dU, u1, u2⟩ szU rfl rfl ?_
      exact ⟨by rw [E.out.1, E.out.2, ← Hy.out]; rfl, lo34⟩
end Go.Proofs.Ytbeikhokkpioeaa
