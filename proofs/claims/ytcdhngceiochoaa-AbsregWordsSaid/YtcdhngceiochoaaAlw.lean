/- AbsregWords: its walk. -/
import Derived.Test.YtcdhngceiochoaaAwm
namespace Go.Proofs.Ytcdhngceiochoaa
open Go Go.RowKit
set_option maxRecDepth 100000 in
set_option maxHeartbeats 8000000 in
theorem law_awords (z0 : Int) (z1 : Int) (z2 : Int) (w : World) (N : Nat) (hN : Sz w N) : Calls Try.prog 19 #[(Value.int .i64 z0), (Value.int .i64 z1), (Value.int .i64 z2)] w fun e w' => e = .returned (.bool true) ∧ Below N w w' := by
  obtain ⟨k, ek⟩ : ∃ k, rm z0 8 = k := ⟨_, rfl⟩
  have hk : k < 8 := by rw [← ek]; exact rm_lt _ _ (by omega)
  obtain ⟨b, eb⟩ : ∃ b, rm z1 64 = b := ⟨_, rfl⟩
  have hb : b < 64 := by rw [← eb]; exact rm_lt _ _ (by omega)
  obtain ⟨n, en⟩ : ∃ n, sz4 (rm z2 4) = n := ⟨_, rfl⟩
  have hn : n = 1 ∨ n = 2 ∨ n = 4 ∨ n = 8 := by
    rw [← en]; unfold sz4
    split
    · exact .inl rfl
    split
    · exact .inr (.inl rfl)
    split
    · exact .inr (.inr (.inl rfl))
    · exact .inr (.inr (.inr rfl))
  obtain ⟨S2, ok2, e2⟩ : ∃ S o, saveF (wS k) (wrap64 (((b : Nat) : Int) - 64)) n (numA (cR 1#64)) = (S, o) := pair_ex _
  obtain ⟨RL, th, e3⟩ : ∃ r o, loadF S2 (wrap64 ((wrap64 (8 * ((k : Nat) : Int))) - 64)) 8 = (r, o) := pair_ex _
  have WA := words_all hk hb hn e2 e3
  have cs1 := cs_save (place_lt (a := (wrap64 ((wrap64 (8 * ((k : Nat) : Int))) - 64))) rfl) (words1 hk)
  have cs2 := cs_save (place_lt (a := (wrap64 (((b : Nat) : Int) - 64))) rfl) e2
  have cs3 := cs_load (place_lt (a := (wrap64 ((wrap64 (8 * ((k : Nat) : Int))) - 64))) rfl) e3
  have Ek := hid ek
  have Eb := hid eb
  have En := hid en
  have HK := hid hk
  have HB := hid hb
  have HN := hid hn
  clear ek eb en e2 e3 hk hb hn
  go_enter Try.func19, Try.ntmps19
  have lo0 : Below N w w := Below.refl N w
  go_upto_region 1 with fail
  refine wp_region_later1 (N) ?_
  try simp only [pA]
  go_big_quiet_step (fail)
  refine later_val (fun q => run_iu (x := (.tmp 18)) rfl undInt und64 rfl q.w') (by rfl) ?_; simp only [pA]
  refine later_b (x := (.tmp 19)) (y := (.const (.int .u64 8))) rfl (bin_rem _ (BitVec.ofInt 64 z0) 8#64 (by decide)) rfl rfl (by rfl) ?_; simp only [pA]
  refine later_val (fun q => run_rm (x := (.tmp 20)) rfl und64 undInt (z := z0) (m := 8) (by omega) rfl q.w') (by rfl) ?_; simp only [pA]
  go_big_quiet_step (fail)
  refine later_val (fun q => run_iu (x := (.tmp 22)) rfl undInt und64 rfl q.w') (by rfl) ?_; simp only [pA]
  refine later_b (x := (.tmp 23)) (y := (.const (.int .u64 64))) rfl (bin_rem _ (BitVec.ofInt 64 z1) 64#64 (by decide)) rfl rfl (by rfl) ?_; simp only [pA]
  refine later_val (fun q => run_rm (x := (.tmp 24)) rfl und64 undI64 (z := z1) (m := 64) (by omega) rfl q.w') (by rfl) ?_; simp only [pA]
  iterate 2 (go_big_quiet_step (fail))
  refine wpQuiet_nil (laterE hN ?_)
  intro xw1 M2 hbxw1 hM2 lM2
  have lo3 := lo0.trans (hbxw1.mono (by omega))
  clear lo0 hbxw1
  rw [Ek.out, Eb.out]
  go_upto_region 2 with fail
  refine wp_region_lit ?_
  try simp only [pA]
  refine wpl_bsn4 rfl rfl M2 hM2 ?_
  intro wb hMb hbb hhb; simp only [pA]
  have cn : wb.cell? ⟨M2, 0 + rm z2 4, none⟩ = some (.int .i64 n) := by (have h := hhb.cell (j := rm z2 4) (rm_lt _ _ (by omega)); unfold iC at h; rw [En.out] at h; rw [Nat.zero_add]; exact h)
  change wpList _ _ _ (_ :: _ :: _ :: _ :: _ :: _ :: _ :: []) _ _
  refine wpList_of_quiet (C := fun w' => ∃ x : Later (M2 + 1) wb, w' = x.w') _ _ _ ⟨⟨_, Below.refl _ _⟩, rfl⟩ ?_
  go_big_quiet_step (fail)
  refine later_val (fun q => run_iu (x := (.tmp 27)) rfl undInt und64 rfl q.w') (by rfl) ?_; simp only [pA]
  refine later_b (x := (.tmp 28)) (y := (.const (.int .u64 4))) rfl (bin_rem _ (BitVec.ofInt 64 z2) 4#64 (by decide)) rfl rfl (by rfl) ?_; simp only [pA]
  refine later_val (fun q => run_rm (x := (.tmp 29)) rfl und64 undInt (z := z2) (m := 4) (by omega) rfl q.w') (by rfl) ?_; simp only [pA]
  refine later_val (fun q => run_ixL 60 3 undIs szI1 (.tmp 26) (.tmp 30) rfl rfl rfl (k := rm z2 4) (rm_lt _ _ (by omega)) q.w') (by rfl) ?_; simp only [pA]
  refine later_c1 hMb 3 (.tmp 31) rfl rfl undInt rfl cn (by rfl) ?_; simp only [pA]
  go_big_quiet_step (fail)
  refine wpQuiet_nil (laterE hMb ?_)
  intro wbb MB hbbb hMB lMB
  replace hbb := hbb.trans (hbbb.mono (by omega))
  have lo4 := lo3.trans (hbb.mono (by omega))
  clear lo3 hbb hhb cn hM2 hbbb hMb
  go_upto_region 3 with fail
  refine wp_region_lit ?_
  try simp only [pA]
  change wpList _ _ _ ((_ :: []) ++ (_ :: _ :: [])) _ _
  refine wpList_prefix (C := fun w' => ∃ x : Later MB wbb, w' = x.w') _ _ _ _ ⟨⟨_, Below.refl _ _⟩, rfl⟩ ?_
  refine later_val (fun q => run_bd 71 _ rfl (cellsOf (arC vW) 11) (by kernel_rfl) q.w') (by rfl) ?_; simp only [pA]
  refine wpQuiet_nil (laterE hMB ?_)
  intro xw5 M6 hbxw5 hM6 lM6
  have lo7 := lo4.trans (hbxw5.mono (by omega))
  clear lo4 hbxw5
  obtain ⟨b_xw8, eb_xw8⟩ : ∃ b_xw8, b_xw8 = M6 := ⟨_, rfl⟩
  have hzb_xw8 : Sz xw5 b_xw8 := by rw [eb_xw8]; exact hM6
  have lob_xw8 : M6 ≤ b_xw8 := by omega
  have upb_xw8 : b_xw8 ≤ M6 := by omega
  clear eb_xw8
  refine wpl_alloc rfl 71 rfl 11 (arC zeroA) zeAr b_xw8 hzb_xw8 ?_
  intro xw8 hMxw8 hbxw8 hhxw8; simp only [pA]
  have lo9 := lo7.trans (hbxw8.mono (by omega))
  clear lo7 hbxw8 hzb_xw8
  obtain ⟨M10, eM10⟩ : ∃ M10, M10 = b_xw8 + 1 := ⟨_, rfl⟩
  rw [← eM10] at hMxw8
  have loM10 : b_xw8 + 1 ≤ M10 := by omega
  have upM10 : M10 ≤ b_xw8 + 1 := by omega
  clear eM10
  refine wpl_store rfl 71 (.tmp 10) (.tmp 33) rfl b_xw8 11 (arC vW) rfl rfl 71 _ hhxw8 szAr (fun j _ => arC_one _ j) ?_
  intro xw11 t12 k13; try simp only [pA]
  have lo14 := t12.below lo9 (by omega)
  have h15 := t12.sz hMxw8
  clear hhxw8 lo9 hMxw8 t12
  obtain ⟨M16, hM16⟩ := sz_some xw11
  have lt_17 := k13.ltN hM16
  go_upto_region 4 with fail
  refine wp_mid (fun ac (zb : Nat) => (((((((((((ac.put (some 35) (Value.agg (cellsOf (stC startS) 273))).put (some 36) (Value.int .i64 (k : Int))).put (some 37) (Value.int .i64 (wrap64 (8 * ((k : Nat) : Int))))).put (some 38) (Value.int .i64 (wrap64 ((wrap64 (8 * ((k : Nat) : Int))) - 64)))).put (some 39) (Value.agg (cellsOf (arC vW) 11))).put (some 40) (Value.tuple #[(Value.agg (cellsOf (stC (wS k)) 273)), (Value.bool true)])).put (some 34) (Value.tuple #[(Value.agg (cellsOf (stC (wS k)) 273)), (Value.bool true)])).put (some 41) (Value.agg (cellsOf (stC (wS k)) 273))).put (some 42) (Value.bool true)).put (some 11) (.pointer (some ⟨zb, 0, none⟩))).put (some 12) (Value.bool true))) (fun zb w' => Has w' zb 76 273 (stC (wS k)) ∧ M16 ≤ zb ∧ Has w' b_xw8 71 11 (arC vW) ∧ Below N w w') ?_ ?_
  · refine wp_region_any (by kernel_rfl) ?_
    replace k13 : Has xw11.drew b_xw8 71 11 (arC vW) := k13
    replace hM16 : Sz xw11.drew M16 := hM16
    replace lo14 : Below N w xw11.drew := lo14.drew
    change wpAny _ _ _ _ _ _ _ (World.drew _)
    generalize xw11.drew = xw19 at *
    refine wpAny_potL (lt := [8]) (rem := [0, 1, 2, 3, 4, 5, 6, 7, 8, 9]) (FG M16 (fun j => if j = 0 then some (Value.agg (cellsOf (stC startS) 273)) else if j = 1 then some (Value.int .i64 (k : Int)) else if j = 2 then some (Value.int .i64 (wrap64 (8 * ((k : Nat) : Int)))) else if j = 3 then some (Value.int .i64 (wrap64 ((wrap64 (8 * ((k : Nat) : Int))) - 64))) else if j = 4 then some (Value.agg (cellsOf (arC vW) 11)) else if j = 5 then some (Value.tuple #[(Value.agg (cellsOf (stC (wS k)) 273)), (Value.bool true)]) else if j = 6 then some (Value.tuple #[(Value.agg (cellsOf (stC (wS k)) 273)), (Value.bool true)]) else if j = 7 then some (Value.agg (cellsOf (stC (wS k)) 273)) else if j = 8 then some (Value.bool true) else none) (fun j => (76, 273, stC zeroS))) (TwoN (fun j => if j = 0 then some (Value.agg (cellsOf (stC startS) 273)) else if j = 1 then some (Value.int .i64 (k : Int)) else if j = 2 then some (Value.int .i64 (wrap64 (8 * ((k : Nat) : Int)))) else if j = 3 then some (Value.int .i64 (wrap64 ((wrap64 (8 * ((k : Nat) : Int))) - 64))) else if j = 4 then some (Value.agg (cellsOf (arC vW) 11)) else if j = 5 then some (Value.tuple #[(Value.agg (cellsOf (stC (wS k)) 273)), (Value.bool true)]) else if j = 6 then some (Value.tuple #[(Value.agg (cellsOf (stC (wS k)) 273)), (Value.bool true)]) else if j = 7 then some (Value.agg (cellsOf (stC (wS k)) 273)) else if j = 8 then some (Value.bool true) else none)) (Below M16 xw19) _ _ _ _ (by kernel_rfl) (size_dstG (by kernel_rfl)) (Below.refl _ _) ?_ ?_
    · intro i hi ac wa hI ha hv
      simp only [List.mem_cons, List.not_mem_nil, or_false] at hi
      rcases hi with rfl | rfl | rfl | rfl | rfl | rfl | rfl | rfl | rfl | rfl
      · exact potg_cl rfl rfl 42 _ _ rfl #[] (by kernel_rfl) (by kernel_rfl) (Value.agg (cellsOf (stC startS) 273)) (fun K hK => Start_any  wa K hK) rfl hM16 hI
      · exact potg_run rfl rfl (Value.int .i64 (k : Int)) rfl (run_mv (x := (.tmp 7)) rfl _ (ha 7 (not_dstG (by kernel_rfl)))) hM16 hI
      · obtain ⟨v1, hv1a, hv1b⟩ := hv 1 (by simp) (by kernel_rfl)
        have ev1 := hv1b.val rfl
        subst ev1
        exact potg_run rfl rfl (Value.int .i64 (wrap64 (8 * ((k : Nat) : Int)))) rfl (run_mulI (x := (.const (.int .i64 8))) (y := (.tmp 36)) rfl rfl (hv1a 36 rfl) (p := 8) (q := ((k : Nat) : Int)) wa) hM16 hI
      · obtain ⟨v2, hv2a, hv2b⟩ := hv 2 (by simp) (by kernel_rfl)
        have ev2 := hv2b.val rfl
        subst ev2
        exact potg_run rfl rfl (Value.int .i64 (wrap64 ((wrap64 (8 * ((k : Nat) : Int))) - 64))) rfl (run_subI (x := (.tmp 37)) (y := (.const (.int .i64 64))) rfl (hv2a 37 rfl) rfl (p := (wrap64 (8 * ((k : Nat) : Int)))) (q := 64) wa) hM16 hI
      · exact potg_run rfl rfl (Value.agg (cellsOf (arC vW) 11)) rfl (run_rw 71 (.tmp 10) rfl b_xw8 (ha 10 (not_dstG (by kernel_rfl))) 71 11 _ (Has.below k13 hI (Has.ltN k13 hM16)) undAr szAr) hM16 hI
      · obtain ⟨v0, hv0a, hv0b⟩ := hv 0 (by simp) (by kernel_rfl)
        have ev0 := hv0b.val rfl
        subst ev0
        obtain ⟨v3, hv3a, hv3b⟩ := hv 3 (by simp) (by kernel_rfl)
        have ev3 := hv3b.val rfl
        subst ev3
        obtain ⟨v4, hv4a, hv4b⟩ := hv 4 (by simp) (by kernel_rfl)
        have ev4 := hv4b.val rfl
        subst ev4
        exact potg_cl rfl rfl 45 _ _ rfl #[(Value.agg (cellsOf (stC startS) 273)), (Value.int .i64 (wrap64 ((wrap64 (8 * ((k : Nat) : Int))) - 64))), (Value.int .i64 8), (Value.agg (cellsOf (arC vW) 11))] (by simp only [List.map_toArray, List.map_cons, List.map_nil, (show ac.eval (.tmp 35) = (Value.agg (cellsOf (stC startS) 273)) from (hv0a 35 rfl)), (show ac.eval (.tmp 38) = (Value.int .i64 (wrap64 ((wrap64 (8 * ((k : Nat) : Int))) - 64))) from (hv3a 38 rfl)), (show ac.eval (.tmp 39) = (Value.agg (cellsOf (arC vW) 11)) from (hv4a 39 rfl))] <;> rfl) (by kernel_rfl) (Value.tuple #[(Value.agg (cellsOf (stC (wS k)) 273)), (Value.bool true)]) (fun K hK => cs1 wa K hK) rfl hM16 hI
      · obtain ⟨v5, hv5a, hv5b⟩ := hv 5 (by simp) (by kernel_rfl)
        have ev5 := hv5b.val rfl
        subst ev5
        exact potg_run rfl rfl (Value.tuple #[(Value.agg (cellsOf (stC (wS k)) 273)), (Value.bool true)]) rfl (run_mv (x := (.tmp 40)) rfl _ (hv5a 40 rfl)) hM16 hI
      · obtain ⟨v6, hv6a, hv6b⟩ := hv 6 (by simp) (by kernel_rfl)
        have ev6 := hv6b.val rfl
        subst ev6
        exact potg_run rfl rfl (Value.agg (cellsOf (stC (wS k)) 273)) rfl (run_ex (x := (.tmp 34)) rfl _ (hv6a 34 rfl) rfl) hM16 hI
      · obtain ⟨v6, hv6a, hv6b⟩ := hv 6 (by simp) (by kernel_rfl)
        have ev6 := hv6b.val rfl
        subst ev6
        exact potg_run rfl rfl (Value.bool true) rfl (run_ex (x := (.tmp 34)) rfl _ (hv6a 34 rfl) rfl) hM16 hI
      · exact potg_al rfl rfl rfl zeSt rfl rfl hM16 hI
    · intro L vals w5_18_ hb5_18_ hF hG hL
      have l0 := hL 0 (by simp) rfl
      have l1 := hL 1 (by simp) rfl
      have l2 := hL 2 (by simp) rfl
      have l3 := hL 3 (by simp) rfl
      have l4 := hL 4 (by simp) rfl
      have l5 := hL 5 (by simp) rfl
      have l6 := hL 6 (by simp) rfl
      have l7 := hL 7 (by simp) rfl
      have l9 := hL 9 (by simp) rfl
      clear hL
      cases c8 : L 8
      · have e_18_0 := (hF 0 (by simp) l0).val rfl
        have e_18_1 := (hF 1 (by simp) l1).val rfl
        have e_18_2 := (hF 2 (by simp) l2).val rfl
        have e_18_3 := (hF 3 (by simp) l3).val rfl
        have e_18_4 := (hF 4 (by simp) l4).val rfl
        have e_18_5 := (hF 5 (by simp) l5).val rfl
        have e_18_6 := (hF 6 (by simp) l6).val rfl
        have e_18_7 := (hF 7 (by simp) l7).val rfl
        obtain ⟨b_18_9, bl_18_9, e_18_9, h_18_9⟩ := (hF 9 (by simp) l9).al rfl rfl
        clear hF hG
        rw [show left L [0, 1, 2, 3, 4, 5, 6, 7, 8, 9] = 1 from by simp [left, l0, l1, l2, l3, l4, l5, l6, l7, l9, c8]]
        refine wpAny_fuel (n := 3) (by kernel_rfl) ?_
        simp only [marks, puts, l0, l1, l2, l3, l4, l5, l6, l7, l9, c8, if_true, if_false, Bool.false_eq_true, dstOf, List.getElem?_toArray, List.getElem?_cons_succ, List.getElem?_cons_zero, Option.bind_some, Act.put, List.setIfInBounds_toArray, List.set_cons_succ, List.set_cons_zero, e_18_0, e_18_1, e_18_2, e_18_3, e_18_4, e_18_5, e_18_6, e_18_7, e_18_9]
        clear e_18_0 e_18_1 e_18_2 e_18_3 e_18_4 e_18_5 e_18_6 e_18_7 e_18_9 l0 l1 l2 l3 l4 l5 l6 l7 l9 c8
        have k20 := k13.below hb5_18_ (by omega)
        have lo21 := lo14.trans (hb5_18_.mono (by omega))
        obtain ⟨M5, hM5⟩ := sz_some w5_18_
        have lM5 := below_sz hb5_18_ hM16 hM5
        clear k13 lo14 hb5_18_
        refine wpAny_of_held (S := fun _ => True) _ _ _ _ ?_
        refine held_take (i := 8) (v := (Value.bool true)) (d := some 42) rfl (by kernel_rfl) (by kernel_rfl) (by kernel_rfl) (by kernel_rfl) (fun _ _ _ h => by cases h.1) (Or.inl ⟨by rfl, fun wq _ => run_ex (x := (.tmp 34)) rfl wq rfl rfl⟩) trivial ?_; simp only [pA]
        refine wpAnyH_all (rs := [10]) (by kernel_rfl) (by simp) ?_
        intro iq hiq; simp only [List.mem_singleton] at hiq; subst hiq
        refine opg_list rfl ?_
        refine wpl_storeN (by rfl) (by kernel_rfl) 76 (.tmp 11) (.tmp 41) rfl b_18_9 273 (stC (wS k)) rfl rfl 76 _ h_18_9 szSt (fun j _ => stC_one _ j) ?_
        intro xw22 t23 k24; try simp only [pA]
        have k25 := k20.touch t23 (by omega)
        have lo26 := t23.below lo21 (by omega)
        have h27 := t23.sz hM5
        clear h_18_9 k20 lo21 hM5 t23
        refine ⟨trivial, ?_⟩
        refine wpAnyH_all (rs := [11]) (by kernel_rfl) (by simp) ?_
        intro iq hiq; simp only [List.mem_singleton] at hiq; subst hiq
        refine opg_list rfl ?_
        refine wpl_runD rfl (d := some 12) rfl (Value.bool true) (run_as (x := (.tmp 42)) rfl _ rfl) ?_; simp only [pA]
        refine ⟨trivial, ?_⟩
        refine wpAnyH_done (by kernel_rfl) ?_ _
        refine ⟨rfl, b_18_9, (by simp only [pA]), k24, bl_18_9, k25, lo26⟩
      · have e_18_0 := (hF 0 (by simp) l0).val rfl
        have e_18_1 := (hF 1 (by simp) l1).val rfl
        have e_18_2 := (hF 2 (by simp) l2).val rfl
        have e_18_3 := (hF 3 (by simp) l3).val rfl
        have e_18_4 := (hF 4 (by simp) l4).val rfl
        have e_18_5 := (hF 5 (by simp) l5).val rfl
        have e_18_6 := (hF 6 (by simp) l6).val rfl
        have e_18_7 := (hF 7 (by simp) l7).val rfl
        have e_18_8 := (hF 8 (by simp) c8).val rfl
        obtain ⟨b_18_9, bl_18_9, e_18_9, h_18_9⟩ := (hF 9 (by simp) l9).al rfl rfl
        clear hF hG
        rw [show left L [0, 1, 2, 3, 4, 5, 6, 7, 8, 9] = 0 from by simp [left, l0, l1, l2, l3, l4, l5, l6, l7, l9, c8]]
        refine wpAny_fuel (n := 2) (by kernel_rfl) ?_
        simp only [marks, puts, l0, l1, l2, l3, l4, l5, l6, l7, l9, c8, if_true, if_false, Bool.false_eq_true, dstOf, List.getElem?_toArray, List.getElem?_cons_succ, List.getElem?_cons_zero, Option.bind_some, Act.put, List.setIfInBounds_toArray, List.set_cons_succ, List.set_cons_zero, e_18_0, e_18_1, e_18_2, e_18_3, e_18_4, e_18_5, e_18_6, e_18_7, e_18_8, e_18_9]
        clear e_18_0 e_18_1 e_18_2 e_18_3 e_18_4 e_18_5 e_18_6 e_18_7 e_18_8 e_18_9 l0 l1 l2 l3 l4 l5 l6 l7 l9 c8
        have k20 := k13.below hb5_18_ (by omega)
        have lo21 := lo14.trans (hb5_18_.mono (by omega))
        obtain ⟨M5, hM5⟩ := sz_some w5_18_
        have lM5 := below_sz hb5_18_ hM16 hM5
        clear k13 lo14 hb5_18_
        refine wpAny_of_held (S := fun _ => True) _ _ _ _ ?_
        refine wpAnyH_all (rs := [10]) (by kernel_rfl) (by simp) ?_
        intro iq hiq; simp only [List.mem_singleton] at hiq; subst hiq
        refine opg_list rfl ?_
        refine wpl_storeN (by rfl) (by kernel_rfl) 76 (.tmp 11) (.tmp 41) rfl b_18_9 273 (stC (wS k)) rfl rfl 76 _ h_18_9 szSt (fun j _ => stC_one _ j) ?_
        intro xw22 t23 k24; try simp only [pA]
        have k25 := k20.touch t23 (by omega)
        have lo26 := t23.below lo21 (by omega)
        have h27 := t23.sz hM5
        clear h_18_9 k20 lo21 hM5 t23
        refine ⟨trivial, ?_⟩
        refine wpAnyH_all (rs := [11]) (by kernel_rfl) (by simp) ?_
        intro iq hiq; simp only [List.mem_singleton] at hiq; subst hiq
        refine opg_list rfl ?_
        refine wpl_runD rfl (d := some 12) rfl (Value.bool true) (run_as (x := (.tmp 42)) rfl _ rfl) ?_; simp only [pA]
        refine ⟨trivial, ?_⟩
        refine wpAnyH_done (by kernel_rfl) ?_ _
        refine ⟨rfl, b_18_9, (by simp only [pA]), k24, bl_18_9, k25, lo26⟩
  · clear k13 lo14
    rintro b_18_x0 xw22 ⟨k19, lb_18_x0, k20, lo21⟩
    try dsimp only at *
    try simp only [pA]
    obtain ⟨M23, hM23⟩ := sz_some xw22
    have lt_24 := k20.ltN hM23
    have lt_25 := k19.ltN hM23
    go_upto_region 5 with fail
    refine wp_mid (fun ac (zb : Nat) => (((((((((((ac.put (some 44) (Value.agg (cellsOf (stC (wS k)) 273))).put (some 45) (Value.int .i64 (b : Int))).put (some 46) (Value.int .i64 (wrap64 (((b : Nat) : Int) - 64)))).put (some 47) (Value.int .i64 n)).put (some 48) (Value.agg (cellsOf (arC (numA (cR 1#64))) 11))).put (some 49) (Value.tuple #[(Value.agg (cellsOf (stC S2) 273)), (Value.bool ok2)])).put (some 43) (Value.tuple #[(Value.agg (cellsOf (stC S2) 273)), (Value.bool ok2)])).put (some 50) (Value.agg (cellsOf (stC S2) 273))).put (some 51) (Value.bool ok2)).put (some 13) (.pointer (some ⟨zb, 0, none⟩))).put (some 14) (Value.bool ok2))) (fun zb w' => Has w' zb 76 273 (stC S2) ∧ M23 ≤ zb ∧ Has w' b_xw8 71 11 (arC vW) ∧ Has w' b_18_x0 76 273 (stC (wS k)) ∧ Below N w w') ?_ ?_
    · refine wp_region_any (by kernel_rfl) ?_
      replace k20 : Has xw22.drew b_xw8 71 11 (arC vW) := k20
      replace k19 : Has xw22.drew b_18_x0 76 273 (stC (wS k)) := k19
      replace hM23 : Sz xw22.drew M23 := hM23
      replace lo21 : Below N w xw22.drew := lo21.drew
      change wpAny _ _ _ _ _ _ _ (World.drew _)
      generalize xw22.drew = xw27 at *
      refine wpAny_potL (lt := [8]) (rem := [0, 1, 2, 3, 4, 5, 6, 7, 8, 9]) (FG M23 (fun j => if j = 0 then some (Value.agg (cellsOf (stC (wS k)) 273)) else if j = 1 then some (Value.int .i64 (b : Int)) else if j = 2 then some (Value.int .i64 (wrap64 (((b : Nat) : Int) - 64))) else if j = 3 then some (Value.int .i64 n) else if j = 4 then some (Value.agg (cellsOf (arC (numA (cR 1#64))) 11)) else if j = 5 then some (Value.tuple #[(Value.agg (cellsOf (stC S2) 273)), (Value.bool ok2)]) else if j = 6 then some (Value.tuple #[(Value.agg (cellsOf (stC S2) 273)), (Value.bool ok2)]) else if j = 7 then some (Value.agg (cellsOf (stC S2) 273)) else if j = 8 then some (Value.bool ok2) else none) (fun j => (76, 273, stC zeroS))) (TwoN (fun j => if j = 0 then some (Value.agg (cellsOf (stC (wS k)) 273)) else if j = 1 then some (Value.int .i64 (b : Int)) else if j = 2 then some (Value.int .i64 (wrap64 (((b : Nat) : Int) - 64))) else if j = 3 then some (Value.int .i64 n) else if j = 4 then some (Value.agg (cellsOf (arC (numA (cR 1#64))) 11)) else if j = 5 then some (Value.tuple #[(Value.agg (cellsOf (stC S2) 273)), (Value.bool ok2)]) else if j = 6 then some (Value.tuple #[(Value.agg (cellsOf (stC S2) 273)), (Value.bool ok2)]) else if j = 7 then some (Value.agg (cellsOf (stC S2) 273)) else if j = 8 then some (Value.bool ok2) else none)) (Below M23 xw27) _ _ _ _ (by kernel_rfl) (size_dstG (by kernel_rfl)) (Below.refl _ _) ?_ ?_
      · intro i hi ac wa hI ha hv
        simp only [List.mem_cons, List.not_mem_nil, or_false] at hi
        rcases hi with rfl | rfl | rfl | rfl | rfl | rfl | rfl | rfl | rfl | rfl
        · exact potg_run rfl rfl (Value.agg (cellsOf (stC (wS k)) 273)) rfl (run_rw 76 (.tmp 11) rfl b_18_x0 (ha 11 (not_dstG (by kernel_rfl))) 76 273 _ (Has.below k19 hI (Has.ltN k19 hM23)) undSt szSt) hM23 hI
        · exact potg_run rfl rfl (Value.int .i64 (b : Int)) rfl (run_mv (x := (.tmp 8)) rfl _ (ha 8 (not_dstG (by kernel_rfl)))) hM23 hI
        · obtain ⟨v1, hv1a, hv1b⟩ := hv 1 (by simp) (by kernel_rfl)
          have ev1 := hv1b.val rfl
          subst ev1
          exact potg_run rfl rfl (Value.int .i64 (wrap64 (((b : Nat) : Int) - 64))) rfl (run_subI (x := (.tmp 45)) (y := (.const (.int .i64 64))) rfl (hv1a 45 rfl) rfl (p := ((b : Nat) : Int)) (q := 64) wa) hM23 hI
        · exact potg_run rfl rfl (Value.int .i64 n) rfl (run_mv (x := (.tmp 9)) rfl _ (ha 9 (not_dstG (by kernel_rfl)))) hM23 hI
        · exact potg_cl rfl rfl 44 _ _ rfl #[(Q 1#64)] (by kernel_rfl) (by kernel_rfl) (Value.agg (cellsOf (arC (numA (cR 1#64))) 11)) (fun K hK => Number_any 1#64 wa K hK) rfl hM23 hI
        · obtain ⟨v0, hv0a, hv0b⟩ := hv 0 (by simp) (by kernel_rfl)
          have ev0 := hv0b.val rfl
          subst ev0
          obtain ⟨v2, hv2a, hv2b⟩ := hv 2 (by simp) (by kernel_rfl)
          have ev2 := hv2b.val rfl
          subst ev2
          obtain ⟨v3, hv3a, hv3b⟩ := hv 3 (by simp) (by kernel_rfl)
          have ev3 := hv3b.val rfl
          subst ev3
          obtain ⟨v4, hv4a, hv4b⟩ := hv 4 (by simp) (by kernel_rfl)
          have ev4 := hv4b.val rfl
          subst ev4
          exact potg_cl rfl rfl 45 _ _ rfl #[(Value.agg (cellsOf (stC (wS k)) 273)), (Value.int .i64 (wrap64 (((b : Nat) : Int) - 64))), (Value.int .i64 n), (Value.agg (cellsOf (arC (numA (cR 1#64))) 11))] (by simp only [List.map_toArray, List.map_cons, List.map_nil, (show ac.eval (.tmp 44) = (Value.agg (cellsOf (stC (wS k)) 273)) from (hv0a 44 rfl)), (show ac.eval (.tmp 46) = (Value.int .i64 (wrap64 (((b : Nat) : Int) - 64))) from (hv2a 46 rfl)), (show ac.eval (.tmp 47) = (Value.int .i64 n) from (hv3a 47 rfl)), (show ac.eval (.tmp 48) = (Value.agg (cellsOf (arC (numA (cR 1#64))) 11)) from (hv4a 48 rfl))] <;> rfl) (by kernel_rfl) (Value.tuple #[(Value.agg (cellsOf (stC S2) 273)), (Value.bool ok2)]) (fun K hK => cs2 wa K hK) rfl hM23 hI
        · obtain ⟨v5, hv5a, hv5b⟩ := hv 5 (by simp) (by kernel_rfl)
          have ev5 := hv5b.val rfl
          subst ev5
          exact potg_run rfl rfl (Value.tuple #[(Value.agg (cellsOf (stC S2) 273)), (Value.bool ok2)]) rfl (run_mv (x := (.tmp 49)) rfl _ (hv5a 49 rfl)) hM23 hI
        · obtain ⟨v6, hv6a, hv6b⟩ := hv 6 (by simp) (by kernel_rfl)
          have ev6 := hv6b.val rfl
          subst ev6
          exact potg_run rfl rfl (Value.agg (cellsOf (stC S2) 273)) rfl (run_ex (x := (.tmp 43)) rfl _ (hv6a 43 rfl) rfl) hM23 hI
        · obtain ⟨v6, hv6a, hv6b⟩ := hv 6 (by simp) (by kernel_rfl)
          have ev6 := hv6b.val rfl
          subst ev6
          exact potg_run rfl rfl (Value.bool ok2) rfl (run_ex (x := (.tmp 43)) rfl _ (hv6a 43 rfl) rfl) hM23 hI
        · exact potg_al rfl rfl rfl zeSt rfl rfl hM23 hI
      · intro L vals w5_26_ hb5_26_ hF hG hL
        have l0 := hL 0 (by simp) rfl
        have l1 := hL 1 (by simp) rfl
        have l2 := hL 2 (by simp) rfl
        have l3 := hL 3 (by simp) rfl
        have l4 := hL 4 (by simp) rfl
        have l5 := hL 5 (by simp) rfl
        have l6 := hL 6 (by simp) rfl
        have l7 := hL 7 (by simp) rfl
        have l9 := hL 9 (by simp) rfl
        clear hL
        cases c8 : L 8
        · have e_26_0 := (hF 0 (by simp) l0).val rfl
          have e_26_1 := (hF 1 (by simp) l1).val rfl
          have e_26_2 := (hF 2 (by simp) l2).val rfl
          have e_26_3 := (hF 3 (by simp) l3).val rfl
          have e_26_4 := (hF 4 (by simp) l4).val rfl
          have e_26_5 := (hF 5 (by simp) l5).val rfl
          have e_26_6 := (hF 6 (by simp) l6).val rfl
          have e_26_7 := (hF 7 (by simp) l7).val rfl
          obtain ⟨b_26_9, bl_26_9, e_26_9, h_26_9⟩ := (hF 9 (by simp) l9).al rfl rfl
          clear hF hG
          rw [show left L [0, 1, 2, 3, 4, 5, 6, 7, 8, 9] = 1 from by simp [left, l0, l1, l2, l3, l4, l5, l6, l7, l9, c8]]
          refine wpAny_fuel (n := 3) (by kernel_rfl) ?_
          simp only [marks, puts, l0, l1, l2, l3, l4, l5, l6, l7, l9, c8, if_true, if_false, Bool.false_eq_true, dstOf, List.getElem?_toArray, List.getElem?_cons_succ, List.getElem?_cons_zero, Option.bind_some, Act.put, List.setIfInBounds_toArray, List.set_cons_succ, List.set_cons_zero, e_26_0, e_26_1, e_26_2, e_26_3, e_26_4, e_26_5, e_26_6, e_26_7, e_26_9]
          clear e_26_0 e_26_1 e_26_2 e_26_3 e_26_4 e_26_5 e_26_6 e_26_7 e_26_9 l0 l1 l2 l3 l4 l5 l6 l7 l9 c8
          have k28 := k20.below hb5_26_ (by omega)
          have k29 := k19.below hb5_26_ (by omega)
          have lo30 := lo21.trans (hb5_26_.mono (by omega))
          obtain ⟨M5, hM5⟩ := sz_some w5_26_
          have lM5 := below_sz hb5_26_ hM23 hM5
          clear k20 k19 lo21 hb5_26_
          refine wpAny_of_held (S := fun _ => True) _ _ _ _ ?_
          refine held_take (i := 8) (v := (Value.bool ok2)) (d := some 51) rfl (by kernel_rfl) (by kernel_rfl) (by kernel_rfl) (by kernel_rfl) (fun _ _ _ h => by cases h.1) (Or.inl ⟨by rfl, fun wq _ => run_ex (x := (.tmp 43)) rfl wq rfl rfl⟩) trivial ?_; simp only [pA]
          refine wpAnyH_all (rs := [10]) (by kernel_rfl) (by simp) ?_
          intro iq hiq; simp only [List.mem_singleton] at hiq; subst hiq
          refine opg_list rfl ?_
          refine wpl_storeN (by rfl) (by kernel_rfl) 76 (.tmp 13) (.tmp 50) rfl b_26_9 273 (stC S2) rfl rfl 76 _ h_26_9 szSt (fun j _ => stC_one _ j) ?_
          intro xw31 t32 k33; try simp only [pA]
          have k34 := k28.touch t32 (by omega)
          have k35 := k29.touch t32 (by omega)
          have lo36 := t32.below lo30 (by omega)
          have h37 := t32.sz hM5
          clear h_26_9 k28 k29 lo30 hM5 t32
          refine ⟨trivial, ?_⟩
          refine wpAnyH_all (rs := [11]) (by kernel_rfl) (by simp) ?_
          intro iq hiq; simp only [List.mem_singleton] at hiq; subst hiq
          refine opg_list rfl ?_
          refine wpl_runD rfl (d := some 14) rfl (Value.bool ok2) (run_as (x := (.tmp 51)) rfl _ rfl) ?_; simp only [pA]
          refine ⟨trivial, ?_⟩
          refine wpAnyH_done (by kernel_rfl) ?_ _
          refine ⟨rfl, b_26_9, (by simp only [pA]), k33, bl_26_9, k34, k35, lo36⟩
        · have e_26_0 := (hF 0 (by simp) l0).val rfl
          have e_26_1 := (hF 1 (by simp) l1).val rfl
          have e_26_2 := (hF 2 (by simp) l2).val rfl
          have e_26_3 := (hF 3 (by simp) l3).val rfl
          have e_26_4 := (hF 4 (by simp) l4).val rfl
          have e_26_5 := (hF 5 (by simp) l5).val rfl
          have e_26_6 := (hF 6 (by simp) l6).val rfl
          have e_26_7 := (hF 7 (by simp) l7).val rfl
          have e_26_8 := (hF 8 (by simp) c8).val rfl
          obtain ⟨b_26_9, bl_26_9, e_26_9, h_26_9⟩ := (hF 9 (by simp) l9).al rfl rfl
          clear hF hG
          rw [show left L [0, 1, 2, 3, 4, 5, 6, 7, 8, 9] = 0 from by simp [left, l0, l1, l2, l3, l4, l5, l6, l7, l9, c8]]
          refine wpAny_fuel (n := 2) (by kernel_rfl) ?_
          simp only [marks, puts, l0, l1, l2, l3, l4, l5, l6, l7, l9, c8, if_true, if_false, Bool.false_eq_true, dstOf, List.getElem?_toArray, List.getElem?_cons_succ, List.getElem?_cons_zero, Option.bind_some, Act.put, List.setIfInBounds_toArray, List.set_cons_succ, List.set_cons_zero, e_26_0, e_26_1, e_26_2, e_26_3, e_26_4, e_26_5, e_26_6, e_26_7, e_26_8, e_26_9]
          clear e_26_0 e_26_1 e_26_2 e_26_3 e_26_4 e_26_5 e_26_6 e_26_7 e_26_8 e_26_9 l0 l1 l2 l3 l4 l5 l6 l7 l9 c8
          have k28 := k20.below hb5_26_ (by omega)
          have k29 := k19.below hb5_26_ (by omega)
          have lo30 := lo21.trans (hb5_26_.mono (by omega))
          obtain ⟨M5, hM5⟩ := sz_some w5_26_
          have lM5 := below_sz hb5_26_ hM23 hM5
          clear k20 k19 lo21 hb5_26_
          refine wpAny_of_held (S := fun _ => True) _ _ _ _ ?_
          refine wpAnyH_all (rs := [10]) (by kernel_rfl) (by simp) ?_
          intro iq hiq; simp only [List.mem_singleton] at hiq; subst hiq
          refine opg_list rfl ?_
          refine wpl_storeN (by rfl) (by kernel_rfl) 76 (.tmp 13) (.tmp 50) rfl b_26_9 273 (stC S2) rfl rfl 76 _ h_26_9 szSt (fun j _ => stC_one _ j) ?_
          intro xw31 t32 k33; try simp only [pA]
          have k34 := k28.touch t32 (by omega)
          have k35 := k29.touch t32 (by omega)
          have lo36 := t32.below lo30 (by omega)
          have h37 := t32.sz hM5
          clear h_26_9 k28 k29 lo30 hM5 t32
          refine ⟨trivial, ?_⟩
          refine wpAnyH_all (rs := [11]) (by kernel_rfl) (by simp) ?_
          intro iq hiq; simp only [List.mem_singleton] at hiq; subst hiq
          refine opg_list rfl ?_
          refine wpl_runD rfl (d := some 14) rfl (Value.bool ok2) (run_as (x := (.tmp 51)) rfl _ rfl) ?_; simp only [pA]
          refine ⟨trivial, ?_⟩
          refine wpAnyH_done (by kernel_rfl) ?_ _
          refine ⟨rfl, b_26_9, (by simp only [pA]), k33, bl_26_9, k34, k35, lo36⟩
    · clear k20 k19 lo21
      rintro b_26_x0 xw31 ⟨k27, lb_26_x0, k28, k29, lo30⟩
      try dsimp only at *
      try simp only [pA]
      obtain ⟨M32, hM32⟩ := sz_some xw31
      have lt_33 := k28.ltN hM32
      have lt_34 := k29.ltN hM32
      have lt_35 := k27.ltN hM32
      rcases WA with ⟨rfl, rfl, rfl, c1⟩ | ⟨rfl, rfl, rfl, c1, c2⟩ | ⟨rfl, rfl, rfl, c1, c2, c3⟩ | ⟨rfl, K1, rfl, c1, c2, c3⟩ | ⟨rfl, rfl, c1, c2, c3, c4, c5⟩ | ⟨rfl, rfl, c1, c2, c3, c4⟩
      · have hb := HB.out
        have hk := HK.out
        have hn : 1 ≤ n ∧ n ≤ 8 := by have := HN.out; omega
        have e1 : (wrap64 (8 * ((k : Nat) : Int))) = 8 * ((k : Nat) : Int) := wrap_id (by omega) (by omega)
        have e2 : wrap64 (8 * ((k : Nat) : Int) + 8) = 8 * ((k : Nat) : Int) + 8 := wrap_id (by omega) (by omega)
        have e3 : wrap64 (((b : Nat) : Int) + n) = ((b : Nat) : Int) + n := wrap_id (by omega) (by omega)
        have D0 : Hid ((decide ((wrap64 (((b : Nat) : Int) + n)) ≤ 64)) = false) := hid (by rw [e3]; exact decide_eq_false (by omega))
        clear hb hk hn e1 e2 e3 c1
        go_upto_region 6 with fail
        refine wp_region_later1 (M32) ?_
        try simp only [pA]
        go_big_quiet_step ((go_at_call 43; exact later_of hM32 _ (fun K hK hKN => saves_any  _ K hK)))
        iterate 9 (go_big_quiet_step (fail))
        refine later_val (fun q => run_addI (x := (.tmp 60)) (y := (.tmp 61)) rfl rfl rfl (p := ((b : Nat) : Int)) (q := n) q.w') (by rfl) ?_; simp only [pA]
        refine later_val (fun q => run_leqI (x := (.tmp 62)) (y := (.const (.int .i64 64))) rfl rfl rfl (p := (wrap64 (((b : Nat) : Int) + n))) (q := 64) (r := false) D0.out q.w') (by rfl) ?_; simp only [pA]
        iterate 2 (go_big_quiet_step (fail))
        refine wpQuiet_nil (laterE hM32 ?_)
        intro xw36 M37 hbxw36 hM37 lM37
        have k38 := k28.below hbxw36 (by omega)
        have k39 := k29.below hbxw36 (by omega)
        have k40 := k27.below hbxw36 (by omega)
        have lo41 := lo30.trans (hbxw36.mono (by omega))
        clear k28 k29 k27 lo30 hbxw36
        go_upto_region 8 with fail
        refine wp_region_lit ?_
        try simp only [pA]
        change wpList _ _ _ ((_ :: _ :: _ :: _ :: _ :: _ :: _ :: _ :: []) ++ (_ :: _ :: _ :: [])) _ _
        refine wpList_prefix (C := fun w' => ∃ x : Later M37 xw36, w' = x.w') _ _ _ _ ⟨⟨_, Below.refl _ _⟩, rfl⟩ ?_
        refine later_row hM37 76 (.tmp 13) rfl (b_26_x0) rfl 76 273 _ k40 undSt szSt (by rfl) ?_; simp only [pA]
        go_big_quiet_step (fail)
        refine later_val (fun q => run_mulI (x := (.const (.int .i64 8))) (y := (.tmp 68)) rfl rfl rfl (p := 8) (q := ((k : Nat) : Int)) q.w') (by rfl) ?_; simp only [pA]
        refine later_val (fun q => run_subI (x := (.tmp 69)) (y := (.const (.int .i64 64))) rfl rfl rfl (p := (wrap64 (8 * ((k : Nat) : Int)))) (q := 64) q.w') (by rfl) ?_; simp only [pA]
        go_big_quiet_step ((go_at_call 47; exact later_of hM37 _ (fun K hK hKN => cs3 _ K hK)))
        iterate 3 (go_big_quiet_step (fail))
        refine wpQuiet_nil (laterE hM37 ?_)
        intro xw42 M43 hbxw42 hM43 lM43
        have k44 := k38.below hbxw42 (by omega)
        have k45 := k39.below hbxw42 (by omega)
        have k46 := k40.below hbxw42 (by omega)
        have lo47 := lo41.trans (hbxw42.mono (by omega))
        clear k38 k39 k40 lo41 hbxw42
        obtain ⟨b_xw48, eb_xw48⟩ : ∃ b_xw48, b_xw48 = M43 := ⟨_, rfl⟩
        have hzb_xw48 : Sz xw42 b_xw48 := by rw [eb_xw48]; exact hM43
        have lob_xw48 : M43 ≤ b_xw48 := by omega
        have upb_xw48 : b_xw48 ≤ M43 := by omega
        clear eb_xw48
        refine wpl_alloc rfl 71 rfl 11 (arC zeroA) zeAr b_xw48 hzb_xw48 ?_
        intro xw48 hMxw48 hbxw48 hhxw48; simp only [pA]
        have k49 := k44.below hbxw48 (by omega)
        have k50 := k45.below hbxw48 (by omega)
        have k51 := k46.below hbxw48 (by omega)
        have lo52 := lo47.trans (hbxw48.mono (by omega))
        clear k44 k45 k46 lo47 hbxw48 hzb_xw48
        obtain ⟨M53, eM53⟩ : ∃ M53, M53 = b_xw48 + 1 := ⟨_, rfl⟩
        rw [← eM53] at hMxw48
        have loM53 : b_xw48 + 1 ≤ M53 := by omega
        have upM53 : M53 ≤ b_xw48 + 1 := by omega
        clear eM53
        refine wpl_store rfl 71 (.tmp 15) (.tmp 72) rfl b_xw48 11 (arC vW) rfl rfl 71 _ hhxw48 szAr (fun j _ => arC_one _ j) ?_
        intro xw54 t55 k56; try simp only [pA]
        have k57 := k49.touch t55 (by omega)
        have k58 := k50.touch t55 (by omega)
        have k59 := k51.touch t55 (by omega)
        have lo60 := t55.below lo52 (by omega)
        have h61 := t55.sz hMxw48
        clear hhxw48 k49 k50 k51 lo52 hMxw48 t55
        refine wpl_run rfl (Value.bool true) _ (run_as (x := (.tmp 73)) rfl _ rfl) ?_; simp only [pA]
        obtain ⟨M62, hM62⟩ := sz_some xw54
        have lt_63 := k57.ltN hM62
        have lt_64 := k58.ltN hM62
        have lt_65 := k59.ltN hM62
        have lt_66 := k56.ltN hM62
        go_upto_region 9 with fail
        refine wp_region_later1 (M62) ?_
        try simp only [pA]
        iterate 17 (go_big_quiet_step (fail))
        refine wpQuiet_nil (laterE hM62 ?_)
        intro xw67 M68 hbxw67 hM68 lM68
        have k69 := k57.below hbxw67 (by omega)
        have k70 := k58.below hbxw67 (by omega)
        have k71 := k59.below hbxw67 (by omega)
        have k72 := k56.below hbxw67 (by omega)
        have lo73 := lo60.trans (hbxw67.mono (by omega))
        clear k57 k58 k59 k56 lo60 hbxw67
        go_upto_region 10 with fail
        refine wp_region_later1 (M68) ?_
        try simp only [pA]
        iterate 2 (go_big_quiet_step (fail))
        refine wpQuiet_nil (laterE hM68 ?_)
        intro xw74 M75 hbxw74 hM75 lM75
        have k76 := k69.below hbxw74 (by omega)
        have k77 := k70.below hbxw74 (by omega)
        have k78 := k71.below hbxw74 (by omega)
        have k79 := k72.below hbxw74 (by omega)
        have lo80 := lo73.trans (hbxw74.mono (by omega))
        clear k69 k70 k71 k72 lo73 hbxw74
        go_upto_region 11 with fail
        refine wp_region_later1 (M75) ?_
        try simp only [pA]
        iterate 2 (go_big_quiet_step (fail))
        refine later_row hM75 71 (.tmp 15) rfl (b_xw48) rfl 71 11 _ k79 undAr szAr (by rfl) ?_; simp only [pA]
        refine later_row hM75 71 (.tmp 10) rfl (b_xw8) rfl 71 11 _ k76 undAr szAr (by rfl) ?_; simp only [pA]
        refine later_val (fun q => run_eql_op 71 71 (.tmp 94) (.tmp 95) rfl _ _ rfl rfl true (by kernel_rfl) ((run_eqA_t (by unfold okA vW; decide) rfl) q.w')) (by rfl) ?_; simp only [pA]
        iterate 2 (go_big_quiet_step (fail))
        refine wpQuiet_nil (laterE hM75 ?_)
        intro xw81 M82 hbxw81 hM82 lM82
        have k83 := k76.below hbxw81 (by omega)
        have k84 := k77.below hbxw81 (by omega)
        have k85 := k78.below hbxw81 (by omega)
        have k86 := k79.below hbxw81 (by omega)
        have lo87 := lo80.trans (hbxw81.mono (by omega))
        clear k76 k77 k78 k79 lo80 hbxw81
        go_wp2_with fail
        go_ret
        exact ⟨rfl, lo87⟩
      · have hb := HB.out
        have hk := HK.out
        have hn : 1 ≤ n ∧ n ≤ 8 := by have := HN.out; omega
        have e1 : (wrap64 (8 * ((k : Nat) : Int))) = 8 * ((k : Nat) : Int) := wrap_id (by omega) (by omega)
        have e2 : wrap64 (8 * ((k : Nat) : Int) + 8) = 8 * ((k : Nat) : Int) + 8 := wrap_id (by omega) (by omega)
        have e3 : wrap64 (((b : Nat) : Int) + n) = ((b : Nat) : Int) + n := wrap_id (by omega) (by omega)
        have D0 : Hid ((decide ((wrap64 (((b : Nat) : Int) + n)) ≤ 64)) = true) := hid (by rw [e3]; exact decide_eq_true (by omega))
        have D1 : Hid ((decide (((b : Nat) : Int) < (wrap64 ((wrap64 (8 * ((k : Nat) : Int))) + 8)))) = false) := hid (by rw [e1, e2]; exact decide_eq_false (by omega))
        clear hb hk hn e1 e2 e3 c1 c2
        go_upto_region 6 with fail
        refine wp_region_later1 (M32) ?_
        try simp only [pA]
        go_big_quiet_step ((go_at_call 43; exact later_of hM32 _ (fun K hK hKN => saves_any  _ K hK)))
        iterate 9 (go_big_quiet_step (fail))
        refine later_val (fun q => run_addI (x := (.tmp 60)) (y := (.tmp 61)) rfl rfl rfl (p := ((b : Nat) : Int)) (q := n) q.w') (by rfl) ?_; simp only [pA]
        refine later_val (fun q => run_leqI (x := (.tmp 62)) (y := (.const (.int .i64 64))) rfl rfl rfl (p := (wrap64 (((b : Nat) : Int) + n))) (q := 64) (r := true) D0.out q.w') (by rfl) ?_; simp only [pA]
        iterate 2 (go_big_quiet_step (fail))
        refine wpQuiet_nil (laterE hM32 ?_)
        intro xw36 M37 hbxw36 hM37 lM37
        have k38 := k28.below hbxw36 (by omega)
        have k39 := k29.below hbxw36 (by omega)
        have k40 := k27.below hbxw36 (by omega)
        have lo41 := lo30.trans (hbxw36.mono (by omega))
        clear k28 k29 k27 lo30 hbxw36
        go_upto_region 8 with fail
        refine wp_region_lit ?_
        try simp only [pA]
        change wpList _ _ _ ((_ :: _ :: _ :: _ :: _ :: _ :: _ :: _ :: []) ++ (_ :: _ :: _ :: [])) _ _
        refine wpList_prefix (C := fun w' => ∃ x : Later M37 xw36, w' = x.w') _ _ _ _ ⟨⟨_, Below.refl _ _⟩, rfl⟩ ?_
        refine later_row hM37 76 (.tmp 13) rfl (b_26_x0) rfl 76 273 _ k40 undSt szSt (by rfl) ?_; simp only [pA]
        go_big_quiet_step (fail)
        refine later_val (fun q => run_mulI (x := (.const (.int .i64 8))) (y := (.tmp 68)) rfl rfl rfl (p := 8) (q := ((k : Nat) : Int)) q.w') (by rfl) ?_; simp only [pA]
        refine later_val (fun q => run_subI (x := (.tmp 69)) (y := (.const (.int .i64 64))) rfl rfl rfl (p := (wrap64 (8 * ((k : Nat) : Int)))) (q := 64) q.w') (by rfl) ?_; simp only [pA]
        go_big_quiet_step ((go_at_call 47; exact later_of hM37 _ (fun K hK hKN => cs3 _ K hK)))
        iterate 3 (go_big_quiet_step (fail))
        refine wpQuiet_nil (laterE hM37 ?_)
        intro xw42 M43 hbxw42 hM43 lM43
        have k44 := k38.below hbxw42 (by omega)
        have k45 := k39.below hbxw42 (by omega)
        have k46 := k40.below hbxw42 (by omega)
        have lo47 := lo41.trans (hbxw42.mono (by omega))
        clear k38 k39 k40 lo41 hbxw42
        obtain ⟨b_xw48, eb_xw48⟩ : ∃ b_xw48, b_xw48 = M43 := ⟨_, rfl⟩
        have hzb_xw48 : Sz xw42 b_xw48 := by rw [eb_xw48]; exact hM43
        have lob_xw48 : M43 ≤ b_xw48 := by omega
        have upb_xw48 : b_xw48 ≤ M43 := by omega
        clear eb_xw48
        refine wpl_alloc rfl 71 rfl 11 (arC zeroA) zeAr b_xw48 hzb_xw48 ?_
        intro xw48 hMxw48 hbxw48 hhxw48; simp only [pA]
        have k49 := k44.below hbxw48 (by omega)
        have k50 := k45.below hbxw48 (by omega)
        have k51 := k46.below hbxw48 (by omega)
        have lo52 := lo47.trans (hbxw48.mono (by omega))
        clear k44 k45 k46 lo47 hbxw48 hzb_xw48
        obtain ⟨M53, eM53⟩ : ∃ M53, M53 = b_xw48 + 1 := ⟨_, rfl⟩
        rw [← eM53] at hMxw48
        have loM53 : b_xw48 + 1 ≤ M53 := by omega
        have upM53 : M53 ≤ b_xw48 + 1 := by omega
        clear eM53
        refine wpl_store rfl 71 (.tmp 15) (.tmp 72) rfl b_xw48 11 (arC vW) rfl rfl 71 _ hhxw48 szAr (fun j _ => arC_one _ j) ?_
        intro xw54 t55 k56; try simp only [pA]
        have k57 := k49.touch t55 (by omega)
        have k58 := k50.touch t55 (by omega)
        have k59 := k51.touch t55 (by omega)
        have lo60 := t55.below lo52 (by omega)
        have h61 := t55.sz hMxw48
        clear hhxw48 k49 k50 k51 lo52 hMxw48 t55
        refine wpl_run rfl (Value.bool true) _ (run_as (x := (.tmp 73)) rfl _ rfl) ?_; simp only [pA]
        obtain ⟨M62, hM62⟩ := sz_some xw54
        have lt_63 := k57.ltN hM62
        have lt_64 := k58.ltN hM62
        have lt_65 := k59.ltN hM62
        have lt_66 := k56.ltN hM62
        go_upto_region 9 with fail
        refine wp_region_later1 (M62) ?_
        try simp only [pA]
        iterate 4 (go_big_quiet_step (fail))
        refine later_val (fun q => run_mulI (x := (.const (.int .i64 8))) (y := (.tmp 77)) rfl rfl rfl (p := 8) (q := ((k : Nat) : Int)) q.w') (by rfl) ?_; simp only [pA]
        refine later_val (fun q => run_addI (x := (.tmp 78)) (y := (.const (.int .i64 8))) rfl rfl rfl (p := (wrap64 (8 * ((k : Nat) : Int)))) (q := 8) q.w') (by rfl) ?_; simp only [pA]
        refine later_val (fun q => run_lssI (x := (.tmp 76)) (y := (.tmp 79)) rfl rfl rfl (p := ((b : Nat) : Int)) (q := (wrap64 ((wrap64 (8 * ((k : Nat) : Int))) + 8))) (r := false) D1.out q.w') (by rfl) ?_; simp only [pA]
        iterate 10 (go_big_quiet_step (fail))
        refine wpQuiet_nil (laterE hM62 ?_)
        intro xw67 M68 hbxw67 hM68 lM68
        have k69 := k57.below hbxw67 (by omega)
        have k70 := k58.below hbxw67 (by omega)
        have k71 := k59.below hbxw67 (by omega)
        have k72 := k56.below hbxw67 (by omega)
        have lo73 := lo60.trans (hbxw67.mono (by omega))
        clear k57 k58 k59 k56 lo60 hbxw67
        go_upto_region 10 with fail
        refine wp_region_later1 (M68) ?_
        try simp only [pA]
        iterate 2 (go_big_quiet_step (fail))
        refine wpQuiet_nil (laterE hM68 ?_)
        intro xw74 M75 hbxw74 hM75 lM75
        have k76 := k69.below hbxw74 (by omega)
        have k77 := k70.below hbxw74 (by omega)
        have k78 := k71.below hbxw74 (by omega)
        have k79 := k72.below hbxw74 (by omega)
        have lo80 := lo73.trans (hbxw74.mono (by omega))
        clear k69 k70 k71 k72 lo73 hbxw74
        go_upto_region 11 with fail
        refine wp_region_later1 (M75) ?_
        try simp only [pA]
        iterate 2 (go_big_quiet_step (fail))
        refine later_row hM75 71 (.tmp 15) rfl (b_xw48) rfl 71 11 _ k79 undAr szAr (by rfl) ?_; simp only [pA]
        refine later_row hM75 71 (.tmp 10) rfl (b_xw8) rfl 71 11 _ k76 undAr szAr (by rfl) ?_; simp only [pA]
        refine later_val (fun q => run_eql_op 71 71 (.tmp 94) (.tmp 95) rfl _ _ rfl rfl true (by kernel_rfl) ((run_eqA_t (by unfold okA vW; decide) rfl) q.w')) (by rfl) ?_; simp only [pA]
        iterate 2 (go_big_quiet_step (fail))
        refine wpQuiet_nil (laterE hM75 ?_)
        intro xw81 M82 hbxw81 hM82 lM82
        have k83 := k76.below hbxw81 (by omega)
        have k84 := k77.below hbxw81 (by omega)
        have k85 := k78.below hbxw81 (by omega)
        have k86 := k79.below hbxw81 (by omega)
        have lo87 := lo80.trans (hbxw81.mono (by omega))
        clear k76 k77 k78 k79 lo80 hbxw81
        go_wp2_with fail
        go_ret
        exact ⟨rfl, lo87⟩
      · have hb := HB.out
        have hk := HK.out
        have hn : 1 ≤ n ∧ n ≤ 8 := by have := HN.out; omega
        have e1 : (wrap64 (8 * ((k : Nat) : Int))) = 8 * ((k : Nat) : Int) := wrap_id (by omega) (by omega)
        have e2 : wrap64 (8 * ((k : Nat) : Int) + 8) = 8 * ((k : Nat) : Int) + 8 := wrap_id (by omega) (by omega)
        have e3 : wrap64 (((b : Nat) : Int) + n) = ((b : Nat) : Int) + n := wrap_id (by omega) (by omega)
        have D0 : Hid ((decide ((wrap64 (((b : Nat) : Int) + n)) ≤ 64)) = true) := hid (by rw [e3]; exact decide_eq_true (by omega))
        have D1 : Hid ((decide (((b : Nat) : Int) < (wrap64 ((wrap64 (8 * ((k : Nat) : Int))) + 8)))) = true) := hid (by rw [e1, e2]; exact decide_eq_true (by omega))
        have D2 : Hid ((decide ((wrap64 (8 * ((k : Nat) : Int))) < (wrap64 (((b : Nat) : Int) + n)))) = false) := hid (by rw [e3, e1]; exact decide_eq_false (by omega))
        clear hb hk hn e1 e2 e3 c1 c2 c3
        go_upto_region 6 with fail
        refine wp_region_later1 (M32) ?_
        try simp only [pA]
        go_big_quiet_step ((go_at_call 43; exact later_of hM32 _ (fun K hK hKN => saves_any  _ K hK)))
        iterate 9 (go_big_quiet_step (fail))
        refine later_val (fun q => run_addI (x := (.tmp 60)) (y := (.tmp 61)) rfl rfl rfl (p := ((b : Nat) : Int)) (q := n) q.w') (by rfl) ?_; simp only [pA]
        refine later_val (fun q => run_leqI (x := (.tmp 62)) (y := (.const (.int .i64 64))) rfl rfl rfl (p := (wrap64 (((b : Nat) : Int) + n))) (q := 64) (r := true) D0.out q.w') (by rfl) ?_; simp only [pA]
        iterate 2 (go_big_quiet_step (fail))
        refine wpQuiet_nil (laterE hM32 ?_)
        intro xw36 M37 hbxw36 hM37 lM37
        have k38 := k28.below hbxw36 (by omega)
        have k39 := k29.below hbxw36 (by omega)
        have k40 := k27.below hbxw36 (by omega)
        have lo41 := lo30.trans (hbxw36.mono (by omega))
        clear k28 k29 k27 lo30 hbxw36
        go_upto_region 8 with fail
        refine wp_region_lit ?_
        try simp only [pA]
        change wpList _ _ _ ((_ :: _ :: _ :: _ :: _ :: _ :: _ :: _ :: []) ++ (_ :: _ :: _ :: [])) _ _
        refine wpList_prefix (C := fun w' => ∃ x : Later M37 xw36, w' = x.w') _ _ _ _ ⟨⟨_, Below.refl _ _⟩, rfl⟩ ?_
        refine later_row hM37 76 (.tmp 13) rfl (b_26_x0) rfl 76 273 _ k40 undSt szSt (by rfl) ?_; simp only [pA]
        go_big_quiet_step (fail)
        refine later_val (fun q => run_mulI (x := (.const (.int .i64 8))) (y := (.tmp 68)) rfl rfl rfl (p := 8) (q := ((k : Nat) : Int)) q.w') (by rfl) ?_; simp only [pA]
        refine later_val (fun q => run_subI (x := (.tmp 69)) (y := (.const (.int .i64 64))) rfl rfl rfl (p := (wrap64 (8 * ((k : Nat) : Int)))) (q := 64) q.w') (by rfl) ?_; simp only [pA]
        go_big_quiet_step ((go_at_call 47; exact later_of hM37 _ (fun K hK hKN => cs3 _ K hK)))
        iterate 3 (go_big_quiet_step (fail))
        refine wpQuiet_nil (laterE hM37 ?_)
        intro xw42 M43 hbxw42 hM43 lM43
        have k44 := k38.below hbxw42 (by omega)
        have k45 := k39.below hbxw42 (by omega)
        have k46 := k40.below hbxw42 (by omega)
        have lo47 := lo41.trans (hbxw42.mono (by omega))
        clear k38 k39 k40 lo41 hbxw42
        obtain ⟨b_xw48, eb_xw48⟩ : ∃ b_xw48, b_xw48 = M43 := ⟨_, rfl⟩
        have hzb_xw48 : Sz xw42 b_xw48 := by rw [eb_xw48]; exact hM43
        have lob_xw48 : M43 ≤ b_xw48 := by omega
        have upb_xw48 : b_xw48 ≤ M43 := by omega
        clear eb_xw48
        refine wpl_alloc rfl 71 rfl 11 (arC zeroA) zeAr b_xw48 hzb_xw48 ?_
        intro xw48 hMxw48 hbxw48 hhxw48; simp only [pA]
        have k49 := k44.below hbxw48 (by omega)
        have k50 := k45.below hbxw48 (by omega)
        have k51 := k46.below hbxw48 (by omega)
        have lo52 := lo47.trans (hbxw48.mono (by omega))
        clear k44 k45 k46 lo47 hbxw48 hzb_xw48
        obtain ⟨M53, eM53⟩ : ∃ M53, M53 = b_xw48 + 1 := ⟨_, rfl⟩
        rw [← eM53] at hMxw48
        have loM53 : b_xw48 + 1 ≤ M53 := by omega
        have upM53 : M53 ≤ b_xw48 + 1 := by omega
        clear eM53
        refine wpl_store rfl 71 (.tmp 15) (.tmp 72) rfl b_xw48 11 (arC vW) rfl rfl 71 _ hhxw48 szAr (fun j _ => arC_one _ j) ?_
        intro xw54 t55 k56; try simp only [pA]
        have k57 := k49.touch t55 (by omega)
        have k58 := k50.touch t55 (by omega)
        have k59 := k51.touch t55 (by omega)
        have lo60 := t55.below lo52 (by omega)
        have h61 := t55.sz hMxw48
        clear hhxw48 k49 k50 k51 lo52 hMxw48 t55
        refine wpl_run rfl (Value.bool true) _ (run_as (x := (.tmp 73)) rfl _ rfl) ?_; simp only [pA]
        obtain ⟨M62, hM62⟩ := sz_some xw54
        have lt_63 := k57.ltN hM62
        have lt_64 := k58.ltN hM62
        have lt_65 := k59.ltN hM62
        have lt_66 := k56.ltN hM62
        go_upto_region 9 with fail
        refine wp_region_later1 (M62) ?_
        try simp only [pA]
        iterate 4 (go_big_quiet_step (fail))
        refine later_val (fun q => run_mulI (x := (.const (.int .i64 8))) (y := (.tmp 77)) rfl rfl rfl (p := 8) (q := ((k : Nat) : Int)) q.w') (by rfl) ?_; simp only [pA]
        refine later_val (fun q => run_addI (x := (.tmp 78)) (y := (.const (.int .i64 8))) rfl rfl rfl (p := (wrap64 (8 * ((k : Nat) : Int)))) (q := 8) q.w') (by rfl) ?_; simp only [pA]
        refine later_val (fun q => run_lssI (x := (.tmp 76)) (y := (.tmp 79)) rfl rfl rfl (p := ((b : Nat) : Int)) (q := (wrap64 ((wrap64 (8 * ((k : Nat) : Int))) + 8))) (r := true) D1.out q.w') (by rfl) ?_; simp only [pA]
        iterate 4 (go_big_quiet_step (fail))
        refine later_val (fun q => run_addI (x := (.tmp 83)) (y := (.tmp 84)) rfl rfl rfl (p := ((b : Nat) : Int)) (q := n) q.w') (by rfl) ?_; simp only [pA]
        go_big_quiet_step (fail)
        refine later_val (fun q => run_mulI (x := (.const (.int .i64 8))) (y := (.tmp 86)) rfl rfl rfl (p := 8) (q := ((k : Nat) : Int)) q.w') (by rfl) ?_; simp only [pA]
        refine later_val (fun q => run_gtrI (x := (.tmp 85)) (y := (.tmp 87)) rfl rfl rfl (p := (wrap64 (((b : Nat) : Int) + n))) (q := (wrap64 (8 * ((k : Nat) : Int)))) (r := false) D2.out q.w') (by rfl) ?_; simp only [pA]
        iterate 2 (go_big_quiet_step (fail))
        refine wpQuiet_nil (laterE hM62 ?_)
        intro xw67 M68 hbxw67 hM68 lM68
        have k69 := k57.below hbxw67 (by omega)
        have k70 := k58.below hbxw67 (by omega)
        have k71 := k59.below hbxw67 (by omega)
        have k72 := k56.below hbxw67 (by omega)
        have lo73 := lo60.trans (hbxw67.mono (by omega))
        clear k57 k58 k59 k56 lo60 hbxw67
        go_upto_region 10 with fail
        refine wp_region_later1 (M68) ?_
        try simp only [pA]
        iterate 2 (go_big_quiet_step (fail))
        refine wpQuiet_nil (laterE hM68 ?_)
        intro xw74 M75 hbxw74 hM75 lM75
        have k76 := k69.below hbxw74 (by omega)
        have k77 := k70.below hbxw74 (by omega)
        have k78 := k71.below hbxw74 (by omega)
        have k79 := k72.below hbxw74 (by omega)
        have lo80 := lo73.trans (hbxw74.mono (by omega))
        clear k69 k70 k71 k72 lo73 hbxw74
        go_upto_region 11 with fail
        refine wp_region_later1 (M75) ?_
        try simp only [pA]
        iterate 2 (go_big_quiet_step (fail))
        refine later_row hM75 71 (.tmp 15) rfl (b_xw48) rfl 71 11 _ k79 undAr szAr (by rfl) ?_; simp only [pA]
        refine later_row hM75 71 (.tmp 10) rfl (b_xw8) rfl 71 11 _ k76 undAr szAr (by rfl) ?_; simp only [pA]
        refine later_val (fun q => run_eql_op 71 71 (.tmp 94) (.tmp 95) rfl _ _ rfl rfl true (by kernel_rfl) ((run_eqA_t (by unfold okA vW; decide) rfl) q.w')) (by rfl) ?_; simp only [pA]
        iterate 2 (go_big_quiet_step (fail))
        refine wpQuiet_nil (laterE hM75 ?_)
        intro xw81 M82 hbxw81 hM82 lM82
        have k83 := k76.below hbxw81 (by omega)
        have k84 := k77.below hbxw81 (by omega)
        have k85 := k78.below hbxw81 (by omega)
        have k86 := k79.below hbxw81 (by omega)
        have lo87 := lo80.trans (hbxw81.mono (by omega))
        clear k76 k77 k78 k79 lo80 hbxw81
        go_wp2_with fail
        go_ret
        exact ⟨rfl, lo87⟩
      · have hb := HB.out
        have hk := HK.out
        have hn : 1 ≤ n ∧ n ≤ 8 := by have := HN.out; omega
        have e1 : (wrap64 (8 * ((k : Nat) : Int))) = 8 * ((k : Nat) : Int) := wrap_id (by omega) (by omega)
        have e2 : wrap64 (8 * ((k : Nat) : Int) + 8) = 8 * ((k : Nat) : Int) + 8 := wrap_id (by omega) (by omega)
        have e3 : wrap64 (((b : Nat) : Int) + n) = ((b : Nat) : Int) + n := wrap_id (by omega) (by omega)
        have D0 : Hid ((decide ((wrap64 (((b : Nat) : Int) + n)) ≤ 64)) = true) := hid (by rw [e3]; exact decide_eq_true (by omega))
        have D1 : Hid ((decide (((b : Nat) : Int) < (wrap64 ((wrap64 (8 * ((k : Nat) : Int))) + 8)))) = true) := hid (by rw [e1, e2]; exact decide_eq_true (by omega))
        have D2 : Hid ((decide ((wrap64 (8 * ((k : Nat) : Int))) < (wrap64 (((b : Nat) : Int) + n)))) = true) := hid (by rw [e3, e1]; exact decide_eq_true (by omega))
        have D3 : Hid ((n == 8) = true) := hid (by exact beq_iff_eq.2 (by first | assumption | omega))
        have D4 : Hid ((((b : Nat) : Int) == (wrap64 (8 * ((k : Nat) : Int)))) = true) := hid (by rw [e1]; exact beq_iff_eq.2 (by first | assumption | omega))
        have DK : Hid ((RL.k == 1) = true) := hid (beq_iff_eq.2 K1)
        clear hb hk hn e1 e2 e3 c1 c2 c3 K1
        go_upto_region 6 with fail
        refine wp_region_later1 (M32) ?_
        try simp only [pA]
        go_big_quiet_step ((go_at_call 43; exact later_of hM32 _ (fun K hK hKN => saves_any  _ K hK)))
        iterate 9 (go_big_quiet_step (fail))
        refine later_val (fun q => run_addI (x := (.tmp 60)) (y := (.tmp 61)) rfl rfl rfl (p := ((b : Nat) : Int)) (q := n) q.w') (by rfl) ?_; simp only [pA]
        refine later_val (fun q => run_leqI (x := (.tmp 62)) (y := (.const (.int .i64 64))) rfl rfl rfl (p := (wrap64 (((b : Nat) : Int) + n))) (q := 64) (r := true) D0.out q.w') (by rfl) ?_; simp only [pA]
        iterate 2 (go_big_quiet_step (fail))
        refine wpQuiet_nil (laterE hM32 ?_)
        intro xw36 M37 hbxw36 hM37 lM37
        have k38 := k28.below hbxw36 (by omega)
        have k39 := k29.below hbxw36 (by omega)
        have k40 := k27.below hbxw36 (by omega)
        have lo41 := lo30.trans (hbxw36.mono (by omega))
        clear k28 k29 k27 lo30 hbxw36
        go_upto_region 8 with fail
        refine wp_region_lit ?_
        try simp only [pA]
        change wpList _ _ _ ((_ :: _ :: _ :: _ :: _ :: _ :: _ :: _ :: []) ++ (_ :: _ :: _ :: [])) _ _
        refine wpList_prefix (C := fun w' => ∃ x : Later M37 xw36, w' = x.w') _ _ _ _ ⟨⟨_, Below.refl _ _⟩, rfl⟩ ?_
        refine later_row hM37 76 (.tmp 13) rfl (b_26_x0) rfl 76 273 _ k40 undSt szSt (by rfl) ?_; simp only [pA]
        go_big_quiet_step (fail)
        refine later_val (fun q => run_mulI (x := (.const (.int .i64 8))) (y := (.tmp 68)) rfl rfl rfl (p := 8) (q := ((k : Nat) : Int)) q.w') (by rfl) ?_; simp only [pA]
        refine later_val (fun q => run_subI (x := (.tmp 69)) (y := (.const (.int .i64 64))) rfl rfl rfl (p := (wrap64 (8 * ((k : Nat) : Int)))) (q := 64) q.w') (by rfl) ?_; simp only [pA]
        go_big_quiet_step ((go_at_call 47; exact later_of hM37 _ (fun K hK hKN => cs3 _ K hK)))
        iterate 3 (go_big_quiet_step (fail))
        refine wpQuiet_nil (laterE hM37 ?_)
        intro xw42 M43 hbxw42 hM43 lM43
        have k44 := k38.below hbxw42 (by omega)
        have k45 := k39.below hbxw42 (by omega)
        have k46 := k40.below hbxw42 (by omega)
        have lo47 := lo41.trans (hbxw42.mono (by omega))
        clear k38 k39 k40 lo41 hbxw42
        obtain ⟨b_xw48, eb_xw48⟩ : ∃ b_xw48, b_xw48 = M43 := ⟨_, rfl⟩
        have hzb_xw48 : Sz xw42 b_xw48 := by rw [eb_xw48]; exact hM43
        have lob_xw48 : M43 ≤ b_xw48 := by omega
        have upb_xw48 : b_xw48 ≤ M43 := by omega
        clear eb_xw48
        refine wpl_alloc rfl 71 rfl 11 (arC zeroA) zeAr b_xw48 hzb_xw48 ?_
        intro xw48 hMxw48 hbxw48 hhxw48; simp only [pA]
        have k49 := k44.below hbxw48 (by omega)
        have k50 := k45.below hbxw48 (by omega)
        have k51 := k46.below hbxw48 (by omega)
        have lo52 := lo47.trans (hbxw48.mono (by omega))
        clear k44 k45 k46 lo47 hbxw48 hzb_xw48
        obtain ⟨M53, eM53⟩ : ∃ M53, M53 = b_xw48 + 1 := ⟨_, rfl⟩
        rw [← eM53] at hMxw48
        have loM53 : b_xw48 + 1 ≤ M53 := by omega
        have upM53 : M53 ≤ b_xw48 + 1 := by omega
        clear eM53
        refine wpl_store rfl 71 (.tmp 15) (.tmp 72) rfl b_xw48 11 (arC RL) rfl rfl 71 _ hhxw48 szAr (fun j _ => arC_one _ j) ?_
        intro xw54 t55 k56; try simp only [pA]
        have k57 := k49.touch t55 (by omega)
        have k58 := k50.touch t55 (by omega)
        have k59 := k51.touch t55 (by omega)
        have lo60 := t55.below lo52 (by omega)
        have h61 := t55.sz hMxw48
        clear hhxw48 k49 k50 k51 lo52 hMxw48 t55
        refine wpl_run rfl (Value.bool true) _ (run_as (x := (.tmp 73)) rfl _ rfl) ?_; simp only [pA]
        obtain ⟨M62, hM62⟩ := sz_some xw54
        have lt_63 := k57.ltN hM62
        have lt_64 := k58.ltN hM62
        have lt_65 := k59.ltN hM62
        have lt_66 := k56.ltN hM62
        go_upto_region 9 with fail
        refine wp_region_later1 (M62) ?_
        try simp only [pA]
        iterate 4 (go_big_quiet_step (fail))
        refine later_val (fun q => run_mulI (x := (.const (.int .i64 8))) (y := (.tmp 77)) rfl rfl rfl (p := 8) (q := ((k : Nat) : Int)) q.w') (by rfl) ?_; simp only [pA]
        refine later_val (fun q => run_addI (x := (.tmp 78)) (y := (.const (.int .i64 8))) rfl rfl rfl (p := (wrap64 (8 * ((k : Nat) : Int)))) (q := 8) q.w') (by rfl) ?_; simp only [pA]
        refine later_val (fun q => run_lssI (x := (.tmp 76)) (y := (.tmp 79)) rfl rfl rfl (p := ((b : Nat) : Int)) (q := (wrap64 ((wrap64 (8 * ((k : Nat) : Int))) + 8))) (r := true) D1.out q.w') (by rfl) ?_; simp only [pA]
        iterate 4 (go_big_quiet_step (fail))
        refine later_val (fun q => run_addI (x := (.tmp 83)) (y := (.tmp 84)) rfl rfl rfl (p := ((b : Nat) : Int)) (q := n) q.w') (by rfl) ?_; simp only [pA]
        go_big_quiet_step (fail)
        refine later_val (fun q => run_mulI (x := (.const (.int .i64 8))) (y := (.tmp 86)) rfl rfl rfl (p := 8) (q := ((k : Nat) : Int)) q.w') (by rfl) ?_; simp only [pA]
        refine later_val (fun q => run_gtrI (x := (.tmp 85)) (y := (.tmp 87)) rfl rfl rfl (p := (wrap64 (((b : Nat) : Int) + n))) (q := (wrap64 (8 * ((k : Nat) : Int)))) (r := true) D2.out q.w') (by rfl) ?_; simp only [pA]
        iterate 2 (go_big_quiet_step (fail))
        refine wpQuiet_nil (laterE hM62 ?_)
        intro xw67 M68 hbxw67 hM68 lM68
        have k69 := k57.below hbxw67 (by omega)
        have k70 := k58.below hbxw67 (by omega)
        have k71 := k59.below hbxw67 (by omega)
        have k72 := k56.below hbxw67 (by omega)
        have lo73 := lo60.trans (hbxw67.mono (by omega))
        clear k57 k58 k59 k56 lo60 hbxw67
        go_upto_region 10 with fail
        refine wp_region_later1 (M68) ?_
        try simp only [pA]
        iterate 2 (go_big_quiet_step (fail))
        refine wpQuiet_nil (laterE hM68 ?_)
        intro xw74 M75 hbxw74 hM75 lM75
        have k76 := k69.below hbxw74 (by omega)
        have k77 := k70.below hbxw74 (by omega)
        have k78 := k71.below hbxw74 (by omega)
        have k79 := k72.below hbxw74 (by omega)
        have lo80 := lo73.trans (hbxw74.mono (by omega))
        clear k69 k70 k71 k72 lo73 hbxw74
        go_upto_region 12 with fail
        obtain ⟨c81, c82, c83, c84, c85, c86, c87, c88, c89, c90, c91⟩ := ar_cells k79
        refine wp_region_later1 (M75) ?_
        try simp only [pA]
        iterate 2 (go_big_quiet_step (fail))
        refine later_val (fun q => run_eqlI (x := (.tmp 99)) (y := (.const (.int .i64 8))) rfl rfl rfl (p := n) (q := 8) (r := true) D3.out q.w') (by rfl) ?_; simp only [pA]
        iterate 3 (go_big_quiet_step (fail))
        refine later_val (fun q => run_mulI (x := (.const (.int .i64 8))) (y := (.tmp 103)) rfl rfl rfl (p := 8) (q := ((k : Nat) : Int)) q.w') (by rfl) ?_; simp only [pA]
        refine later_val (fun q => run_eqlI (x := (.tmp 102)) (y := (.tmp 104)) rfl rfl rfl (p := ((b : Nat) : Int)) (q := (wrap64 (8 * ((k : Nat) : Int)))) (r := true) D4.out q.w') (by rfl) ?_; simp only [pA]
        iterate 7 (go_big_quiet_step (fail))
        refine later_c1 hM75 3 (.tmp 112) rfl rfl undInt rfl c81 (by rfl) ?_; simp only [pA]
        refine later_val (fun q => run_eqlI (x := (.tmp 113)) (y := (.const (.int .i64 1))) rfl rfl rfl (p := RL.k) (q := 1) (r := true) DK.out q.w') (by rfl) ?_; simp only [pA]
        iterate 3 (go_big_quiet_step (fail))
        refine wpQuiet_nil (laterE hM75 ?_)
        intro xw92 M93 hbxw92 hM93 lM93
        have k94 := k76.below hbxw92 (by omega)
        have k95 := k77.below hbxw92 (by omega)
        have k96 := k78.below hbxw92 (by omega)
        have k97 := k79.below hbxw92 (by omega)
        have lo98 := lo80.trans (hbxw92.mono (by omega))
        clear k76 k77 k78 k79 c81 c82 c83 c84 c85 c86 c87 c88 c89 c90 c91 lo80 hbxw92
        go_wp2_with fail
        go_ret
        exact ⟨rfl, lo98⟩
      · have hb := HB.out
        have hk := HK.out
        have hn : 1 ≤ n ∧ n ≤ 8 := by have := HN.out; omega
        have e1 : (wrap64 (8 * ((k : Nat) : Int))) = 8 * ((k : Nat) : Int) := wrap_id (by omega) (by omega)
        have e2 : wrap64 (8 * ((k : Nat) : Int) + 8) = 8 * ((k : Nat) : Int) + 8 := wrap_id (by omega) (by omega)
        have e3 : wrap64 (((b : Nat) : Int) + n) = ((b : Nat) : Int) + n := wrap_id (by omega) (by omega)
        have D0 : Hid ((decide ((wrap64 (((b : Nat) : Int) + n)) ≤ 64)) = true) := hid (by rw [e3]; exact decide_eq_true (by omega))
        have D1 : Hid ((decide (((b : Nat) : Int) < (wrap64 ((wrap64 (8 * ((k : Nat) : Int))) + 8)))) = true) := hid (by rw [e1, e2]; exact decide_eq_true (by omega))
        have D2 : Hid ((decide ((wrap64 (8 * ((k : Nat) : Int))) < (wrap64 (((b : Nat) : Int) + n)))) = true) := hid (by rw [e3, e1]; exact decide_eq_true (by omega))
        have D3 : Hid ((n == 8) = true) := hid (by exact beq_iff_eq.2 (by first | assumption | omega))
        have D4 : Hid ((((b : Nat) : Int) == (wrap64 (8 * ((k : Nat) : Int)))) = false) := hid (by rw [e1]; exact beq_false_of_ne (by first | assumption | omega))
        clear hb hk hn e1 e2 e3 c1 c2 c3 c4 c5
        go_upto_region 6 with fail
        refine wp_region_later1 (M32) ?_
        try simp only [pA]
        go_big_quiet_step ((go_at_call 43; exact later_of hM32 _ (fun K hK hKN => saves_any  _ K hK)))
        iterate 9 (go_big_quiet_step (fail))
        refine later_val (fun q => run_addI (x := (.tmp 60)) (y := (.tmp 61)) rfl rfl rfl (p := ((b : Nat) : Int)) (q := n) q.w') (by rfl) ?_; simp only [pA]
        refine later_val (fun q => run_leqI (x := (.tmp 62)) (y := (.const (.int .i64 64))) rfl rfl rfl (p := (wrap64 (((b : Nat) : Int) + n))) (q := 64) (r := true) D0.out q.w') (by rfl) ?_; simp only [pA]
        iterate 2 (go_big_quiet_step (fail))
        refine wpQuiet_nil (laterE hM32 ?_)
        intro xw36 M37 hbxw36 hM37 lM37
        have k38 := k28.below hbxw36 (by omega)
        have k39 := k29.below hbxw36 (by omega)
        have k40 := k27.below hbxw36 (by omega)
        have lo41 := lo30.trans (hbxw36.mono (by omega))
        clear k28 k29 k27 lo30 hbxw36
        go_upto_region 8 with fail
        refine wp_region_lit ?_
        try simp only [pA]
        change wpList _ _ _ ((_ :: _ :: _ :: _ :: _ :: _ :: _ :: _ :: []) ++ (_ :: _ :: _ :: [])) _ _
        refine wpList_prefix (C := fun w' => ∃ x : Later M37 xw36, w' = x.w') _ _ _ _ ⟨⟨_, Below.refl _ _⟩, rfl⟩ ?_
        refine later_row hM37 76 (.tmp 13) rfl (b_26_x0) rfl 76 273 _ k40 undSt szSt (by rfl) ?_; simp only [pA]
        go_big_quiet_step (fail)
        refine later_val (fun q => run_mulI (x := (.const (.int .i64 8))) (y := (.tmp 68)) rfl rfl rfl (p := 8) (q := ((k : Nat) : Int)) q.w') (by rfl) ?_; simp only [pA]
        refine later_val (fun q => run_subI (x := (.tmp 69)) (y := (.const (.int .i64 64))) rfl rfl rfl (p := (wrap64 (8 * ((k : Nat) : Int)))) (q := 64) q.w') (by rfl) ?_; simp only [pA]
        go_big_quiet_step ((go_at_call 47; exact later_of hM37 _ (fun K hK hKN => cs3 _ K hK)))
        iterate 3 (go_big_quiet_step (fail))
        refine wpQuiet_nil (laterE hM37 ?_)
        intro xw42 M43 hbxw42 hM43 lM43
        have k44 := k38.below hbxw42 (by omega)
        have k45 := k39.below hbxw42 (by omega)
        have k46 := k40.below hbxw42 (by omega)
        have lo47 := lo41.trans (hbxw42.mono (by omega))
        clear k38 k39 k40 lo41 hbxw42
        obtain ⟨b_xw48, eb_xw48⟩ : ∃ b_xw48, b_xw48 = M43 := ⟨_, rfl⟩
        have hzb_xw48 : Sz xw42 b_xw48 := by rw [eb_xw48]; exact hM43
        have lob_xw48 : M43 ≤ b_xw48 := by omega
        have upb_xw48 : b_xw48 ≤ M43 := by omega
        clear eb_xw48
        refine wpl_alloc rfl 71 rfl 11 (arC zeroA) zeAr b_xw48 hzb_xw48 ?_
        intro xw48 hMxw48 hbxw48 hhxw48; simp only [pA]
        have k49 := k44.below hbxw48 (by omega)
        have k50 := k45.below hbxw48 (by omega)
        have k51 := k46.below hbxw48 (by omega)
        have lo52 := lo47.trans (hbxw48.mono (by omega))
        clear k44 k45 k46 lo47 hbxw48 hzb_xw48
        obtain ⟨M53, eM53⟩ : ∃ M53, M53 = b_xw48 + 1 := ⟨_, rfl⟩
        rw [← eM53] at hMxw48
        have loM53 : b_xw48 + 1 ≤ M53 := by omega
        have upM53 : M53 ≤ b_xw48 + 1 := by omega
        clear eM53
        refine wpl_store rfl 71 (.tmp 15) (.tmp 72) rfl b_xw48 11 (arC RL) rfl rfl 71 _ hhxw48 szAr (fun j _ => arC_one _ j) ?_
        intro xw54 t55 k56; try simp only [pA]
        have k57 := k49.touch t55 (by omega)
        have k58 := k50.touch t55 (by omega)
        have k59 := k51.touch t55 (by omega)
        have lo60 := t55.below lo52 (by omega)
        have h61 := t55.sz hMxw48
        clear hhxw48 k49 k50 k51 lo52 hMxw48 t55
        refine wpl_run rfl (Value.bool false) _ (run_as (x := (.tmp 73)) rfl _ rfl) ?_; simp only [pA]
        obtain ⟨M62, hM62⟩ := sz_some xw54
        have lt_63 := k57.ltN hM62
        have lt_64 := k58.ltN hM62
        have lt_65 := k59.ltN hM62
        have lt_66 := k56.ltN hM62
        go_upto_region 9 with fail
        refine wp_region_later1 (M62) ?_
        try simp only [pA]
        iterate 4 (go_big_quiet_step (fail))
        refine later_val (fun q => run_mulI (x := (.const (.int .i64 8))) (y := (.tmp 77)) rfl rfl rfl (p := 8) (q := ((k : Nat) : Int)) q.w') (by rfl) ?_; simp only [pA]
        refine later_val (fun q => run_addI (x := (.tmp 78)) (y := (.const (.int .i64 8))) rfl rfl rfl (p := (wrap64 (8 * ((k : Nat) : Int)))) (q := 8) q.w') (by rfl) ?_; simp only [pA]
        refine later_val (fun q => run_lssI (x := (.tmp 76)) (y := (.tmp 79)) rfl rfl rfl (p := ((b : Nat) : Int)) (q := (wrap64 ((wrap64 (8 * ((k : Nat) : Int))) + 8))) (r := true) D1.out q.w') (by rfl) ?_; simp only [pA]
        iterate 4 (go_big_quiet_step (fail))
        refine later_val (fun q => run_addI (x := (.tmp 83)) (y := (.tmp 84)) rfl rfl rfl (p := ((b : Nat) : Int)) (q := n) q.w') (by rfl) ?_; simp only [pA]
        go_big_quiet_step (fail)
        refine later_val (fun q => run_mulI (x := (.const (.int .i64 8))) (y := (.tmp 86)) rfl rfl rfl (p := 8) (q := ((k : Nat) : Int)) q.w') (by rfl) ?_; simp only [pA]
        refine later_val (fun q => run_gtrI (x := (.tmp 85)) (y := (.tmp 87)) rfl rfl rfl (p := (wrap64 (((b : Nat) : Int) + n))) (q := (wrap64 (8 * ((k : Nat) : Int)))) (r := true) D2.out q.w') (by rfl) ?_; simp only [pA]
        iterate 2 (go_big_quiet_step (fail))
        refine wpQuiet_nil (laterE hM62 ?_)
        intro xw67 M68 hbxw67 hM68 lM68
        have k69 := k57.below hbxw67 (by omega)
        have k70 := k58.below hbxw67 (by omega)
        have k71 := k59.below hbxw67 (by omega)
        have k72 := k56.below hbxw67 (by omega)
        have lo73 := lo60.trans (hbxw67.mono (by omega))
        clear k57 k58 k59 k56 lo60 hbxw67
        go_upto_region 10 with fail
        refine wp_region_later1 (M68) ?_
        try simp only [pA]
        iterate 2 (go_big_quiet_step (fail))
        refine wpQuiet_nil (laterE hM68 ?_)
        intro xw74 M75 hbxw74 hM75 lM75
        have k76 := k69.below hbxw74 (by omega)
        have k77 := k70.below hbxw74 (by omega)
        have k78 := k71.below hbxw74 (by omega)
        have k79 := k72.below hbxw74 (by omega)
        have lo80 := lo73.trans (hbxw74.mono (by omega))
        clear k69 k70 k71 k72 lo73 hbxw74
        go_upto_region 12 with fail
        obtain ⟨c81, c82, c83, c84, c85, c86, c87, c88, c89, c90, c91⟩ := ar_cells k79
        refine wp_region_later1 (M75) ?_
        try simp only [pA]
        iterate 2 (go_big_quiet_step (fail))
        refine later_val (fun q => run_eqlI (x := (.tmp 99)) (y := (.const (.int .i64 8))) rfl rfl rfl (p := n) (q := 8) (r := true) D3.out q.w') (by rfl) ?_; simp only [pA]
        iterate 3 (go_big_quiet_step (fail))
        refine later_val (fun q => run_mulI (x := (.const (.int .i64 8))) (y := (.tmp 103)) rfl rfl rfl (p := 8) (q := ((k : Nat) : Int)) q.w') (by rfl) ?_; simp only [pA]
        refine later_val (fun q => run_eqlI (x := (.tmp 102)) (y := (.tmp 104)) rfl rfl rfl (p := ((b : Nat) : Int)) (q := (wrap64 (8 * ((k : Nat) : Int)))) (r := false) D4.out q.w') (by rfl) ?_; simp only [pA]
        iterate 12 (go_big_quiet_step (fail))
        refine wpQuiet_nil (laterE hM75 ?_)
        intro xw92 M93 hbxw92 hM93 lM93
        have k94 := k76.below hbxw92 (by omega)
        have k95 := k77.below hbxw92 (by omega)
        have k96 := k78.below hbxw92 (by omega)
        have k97 := k79.below hbxw92 (by omega)
        have lo98 := lo80.trans (hbxw92.mono (by omega))
        clear k76 k77 k78 k79 c81 c82 c83 c84 c85 c86 c87 c88 c89 c90 c91 lo80 hbxw92
        go_wp2_with fail
        go_ret
        exact ⟨rfl, lo98⟩
      · have hb := HB.out
        have hk := HK.out
        have hn : 1 ≤ n ∧ n ≤ 8 := by have := HN.out; omega
        have e1 : (wrap64 (8 * ((k : Nat) : Int))) = 8 * ((k : Nat) : Int) := wrap_id (by omega) (by omega)
        have e2 : wrap64 (8 * ((k : Nat) : Int) + 8) = 8 * ((k : Nat) : Int) + 8 := wrap_id (by omega) (by omega)
        have e3 : wrap64 (((b : Nat) : Int) + n) = ((b : Nat) : Int) + n := wrap_id (by omega) (by omega)
        have D0 : Hid ((decide ((wrap64 (((b : Nat) : Int) + n)) ≤ 64)) = true) := hid (by rw [e3]; exact decide_eq_true (by omega))
        have D1 : Hid ((decide (((b : Nat) : Int) < (wrap64 ((wrap64 (8 * ((k : Nat) : Int))) + 8)))) = true) := hid (by rw [e1, e2]; exact decide_eq_true (by omega))
        have D2 : Hid ((decide ((wrap64 (8 * ((k : Nat) : Int))) < (wrap64 (((b : Nat) : Int) + n)))) = true) := hid (by rw [e3, e1]; exact decide_eq_true (by omega))
        have D3 : Hid ((n == 8) = false) := hid (by exact beq_false_of_ne (by first | assumption | omega))
        clear hb hk hn e1 e2 e3 c1 c2 c3 c4
        go_upto_region 6 with fail
        refine wp_region_later1 (M32) ?_
        try simp only [pA]
        go_big_quiet_step ((go_at_call 43; exact later_of hM32 _ (fun K hK hKN => saves_any  _ K hK)))
        iterate 9 (go_big_quiet_step (fail))
        refine later_val (fun q => run_addI (x := (.tmp 60)) (y := (.tmp 61)) rfl rfl rfl (p := ((b : Nat) : Int)) (q := n) q.w') (by rfl) ?_; simp only [pA]
        refine later_val (fun q => run_leqI (x := (.tmp 62)) (y := (.const (.int .i64 64))) rfl rfl rfl (p := (wrap64 (((b : Nat) : Int) + n))) (q := 64) (r := true) D0.out q.w') (by rfl) ?_; simp only [pA]
        iterate 2 (go_big_quiet_step (fail))
        refine wpQuiet_nil (laterE hM32 ?_)
        intro xw36 M37 hbxw36 hM37 lM37
        have k38 := k28.below hbxw36 (by omega)
        have k39 := k29.below hbxw36 (by omega)
        have k40 := k27.below hbxw36 (by omega)
        have lo41 := lo30.trans (hbxw36.mono (by omega))
        clear k28 k29 k27 lo30 hbxw36
        go_upto_region 8 with fail
        refine wp_region_lit ?_
        try simp only [pA]
        change wpList _ _ _ ((_ :: _ :: _ :: _ :: _ :: _ :: _ :: _ :: []) ++ (_ :: _ :: _ :: [])) _ _
        refine wpList_prefix (C := fun w' => ∃ x : Later M37 xw36, w' = x.w') _ _ _ _ ⟨⟨_, Below.refl _ _⟩, rfl⟩ ?_
        refine later_row hM37 76 (.tmp 13) rfl (b_26_x0) rfl 76 273 _ k40 undSt szSt (by rfl) ?_; simp only [pA]
        go_big_quiet_step (fail)
        refine later_val (fun q => run_mulI (x := (.const (.int .i64 8))) (y := (.tmp 68)) rfl rfl rfl (p := 8) (q := ((k : Nat) : Int)) q.w') (by rfl) ?_; simp only [pA]
        refine later_val (fun q => run_subI (x := (.tmp 69)) (y := (.const (.int .i64 64))) rfl rfl rfl (p := (wrap64 (8 * ((k : Nat) : Int)))) (q := 64) q.w') (by rfl) ?_; simp only [pA]
        go_big_quiet_step ((go_at_call 47; exact later_of hM37 _ (fun K hK hKN => cs3 _ K hK)))
        iterate 3 (go_big_quiet_step (fail))
        refine wpQuiet_nil (laterE hM37 ?_)
        intro xw42 M43 hbxw42 hM43 lM43
        have k44 := k38.below hbxw42 (by omega)
        have k45 := k39.below hbxw42 (by omega)
        have k46 := k40.below hbxw42 (by omega)
        have lo47 := lo41.trans (hbxw42.mono (by omega))
        clear k38 k39 k40 lo41 hbxw42
        obtain ⟨b_xw48, eb_xw48⟩ : ∃ b_xw48, b_xw48 = M43 := ⟨_, rfl⟩
        have hzb_xw48 : Sz xw42 b_xw48 := by rw [eb_xw48]; exact hM43
        have lob_xw48 : M43 ≤ b_xw48 := by omega
        have upb_xw48 : b_xw48 ≤ M43 := by omega
        clear eb_xw48
        refine wpl_alloc rfl 71 rfl 11 (arC zeroA) zeAr b_xw48 hzb_xw48 ?_
        intro xw48 hMxw48 hbxw48 hhxw48; simp only [pA]
        have k49 := k44.below hbxw48 (by omega)
        have k50 := k45.below hbxw48 (by omega)
        have k51 := k46.below hbxw48 (by omega)
        have lo52 := lo47.trans (hbxw48.mono (by omega))
        clear k44 k45 k46 lo47 hbxw48 hzb_xw48
        obtain ⟨M53, eM53⟩ : ∃ M53, M53 = b_xw48 + 1 := ⟨_, rfl⟩
        rw [← eM53] at hMxw48
        have loM53 : b_xw48 + 1 ≤ M53 := by omega
        have upM53 : M53 ≤ b_xw48 + 1 := by omega
        clear eM53
        refine wpl_store rfl 71 (.tmp 15) (.tmp 72) rfl b_xw48 11 (arC RL) rfl rfl 71 _ hhxw48 szAr (fun j _ => arC_one _ j) ?_
        intro xw54 t55 k56; try simp only [pA]
        have k57 := k49.touch t55 (by omega)
        have k58 := k50.touch t55 (by omega)
        have k59 := k51.touch t55 (by omega)
        have lo60 := t55.below lo52 (by omega)
        have h61 := t55.sz hMxw48
        clear hhxw48 k49 k50 k51 lo52 hMxw48 t55
        refine wpl_run rfl (Value.bool false) _ (run_as (x := (.tmp 73)) rfl _ rfl) ?_; simp only [pA]
        obtain ⟨M62, hM62⟩ := sz_some xw54
        have lt_63 := k57.ltN hM62
        have lt_64 := k58.ltN hM62
        have lt_65 := k59.ltN hM62
        have lt_66 := k56.ltN hM62
        go_upto_region 9 with fail
        refine wp_region_later1 (M62) ?_
        try simp only [pA]
        iterate 4 (go_big_quiet_step (fail))
        refine later_val (fun q => run_mulI (x := (.const (.int .i64 8))) (y := (.tmp 77)) rfl rfl rfl (p := 8) (q := ((k : Nat) : Int)) q.w') (by rfl) ?_; simp only [pA]
        refine later_val (fun q => run_addI (x := (.tmp 78)) (y := (.const (.int .i64 8))) rfl rfl rfl (p := (wrap64 (8 * ((k : Nat) : Int)))) (q := 8) q.w') (by rfl) ?_; simp only [pA]
        refine later_val (fun q => run_lssI (x := (.tmp 76)) (y := (.tmp 79)) rfl rfl rfl (p := ((b : Nat) : Int)) (q := (wrap64 ((wrap64 (8 * ((k : Nat) : Int))) + 8))) (r := true) D1.out q.w') (by rfl) ?_; simp only [pA]
        iterate 4 (go_big_quiet_step (fail))
        refine later_val (fun q => run_addI (x := (.tmp 83)) (y := (.tmp 84)) rfl rfl rfl (p := ((b : Nat) : Int)) (q := n) q.w') (by rfl) ?_; simp only [pA]
        go_big_quiet_step (fail)
        refine later_val (fun q => run_mulI (x := (.const (.int .i64 8))) (y := (.tmp 86)) rfl rfl rfl (p := 8) (q := ((k : Nat) : Int)) q.w') (by rfl) ?_; simp only [pA]
        refine later_val (fun q => run_gtrI (x := (.tmp 85)) (y := (.tmp 87)) rfl rfl rfl (p := (wrap64 (((b : Nat) : Int) + n))) (q := (wrap64 (8 * ((k : Nat) : Int)))) (r := true) D2.out q.w') (by rfl) ?_; simp only [pA]
        iterate 2 (go_big_quiet_step (fail))
        refine wpQuiet_nil (laterE hM62 ?_)
        intro xw67 M68 hbxw67 hM68 lM68
        have k69 := k57.below hbxw67 (by omega)
        have k70 := k58.below hbxw67 (by omega)
        have k71 := k59.below hbxw67 (by omega)
        have k72 := k56.below hbxw67 (by omega)
        have lo73 := lo60.trans (hbxw67.mono (by omega))
        clear k57 k58 k59 k56 lo60 hbxw67
        go_upto_region 10 with fail
        refine wp_region_later1 (M68) ?_
        try simp only [pA]
        iterate 2 (go_big_quiet_step (fail))
        refine wpQuiet_nil (laterE hM68 ?_)
        intro xw74 M75 hbxw74 hM75 lM75
        have k76 := k69.below hbxw74 (by omega)
        have k77 := k70.below hbxw74 (by omega)
        have k78 := k71.below hbxw74 (by omega)
        have k79 := k72.below hbxw74 (by omega)
        have lo80 := lo73.trans (hbxw74.mono (by omega))
        clear k69 k70 k71 k72 lo73 hbxw74
        go_upto_region 12 with fail
        obtain ⟨c81, c82, c83, c84, c85, c86, c87, c88, c89, c90, c91⟩ := ar_cells k79
        refine wp_region_later1 (M75) ?_
        try simp only [pA]
        iterate 2 (go_big_quiet_step (fail))
        refine later_val (fun q => run_eqlI (x := (.tmp 99)) (y := (.const (.int .i64 8))) rfl rfl rfl (p := n) (q := 8) (r := false) D3.out q.w') (by rfl) ?_; simp only [pA]
        iterate 17 (go_big_quiet_step (fail))
        refine wpQuiet_nil (laterE hM75 ?_)
        intro xw92 M93 hbxw92 hM93 lM93
        have k94 := k76.below hbxw92 (by omega)
        have k95 := k77.below hbxw92 (by omega)
        have k96 := k78.below hbxw92 (by omega)
        have k97 := k79.below hbxw92 (by omega)
        have lo98 := lo80.trans (hbxw92.mono (by omega))
        clear k76 k77 k78 k79 c81 c82 c83 c84 c85 c86 c87 c88 c89 c90 c91 lo80 hbxw92
        go_wp2_with fail
        go_ret
        exact ⟨rfl, lo98⟩
end Go.Proofs.Ytcdhngceiochoaa
