/- Contracts of the document's bits: sums. -/
import Derived.Test.YtbeikhokkpioeaaNr7
namespace Go.Proofs.Ytbeikhokkpioeaa
open Go Go.RowKit
set_option maxRecDepth 100000 in
set_option maxHeartbeats 32000000 in
theorem RSum_false (a b : Nm) (w : World) (N : Nat) (hN : Sz w N) : Calls Try.prog 14 #[nV a, nV b, .bool false] w fun e w' => e = .returned (nV (rSum a b false)) ∧ Below N w w' := by
  obtain ⟨dU, u1, u2⟩ := undU
  unfold rSum
  obtain ⟨y, hy⟩ : ∃ y, y = (fun i => (sumN false (rBits a i) (rBits b i) (carN false a b i) 8).1) := ⟨_, rfl⟩
  rw [← hy]
  have Hy := hid hy
  clear hy
  obtain ⟨cr, hcr⟩ : ∃ cr, cr = carN false a b := ⟨_, rfl⟩
  have Hc := hid hcr
  have c0 := hid (show cr 0 = (true, false) by rw [hcr]; rfl)
  clear hcr
  unfold nV
  go_enter Try.func14, Try.ntmps14
  go_upto_region 1 with (first
    | (refine wpl_box rfl 24 (.tmp 0) rfl 2 _ rfl (N) hN ?_; intro w1 hN1 hb1 hh1)
    | (refine wpl_box rfl 24 (.tmp 1) rfl 2 _ rfl (N + 1) hN1 ?_; intro w2 hN2 hb2 hh2)
    | (refine wpl_alloc rfl 24 rfl 2 (nC zeroN) zeU (N + 1 + 1) hN2 ?_; intro w3 hN3 hb3 hh3)
    | fail)
  have lo0 : Below N w w3 := ((hb1.trans (hb2.mono (by omega))).trans (hb3.mono (by omega)))
  have k1 := ((hh1.below hb2 (by omega)).below hb3 (by omega))
  have k2 := (hh2.below hb3 (by omega))
  have k3 := hh3
  clear hh1 hb1 hh2 hb2 hh3 hb3 hN1 hN2
  go_upto_region 1 with fail
  refine wp_region_lit ?_
  try simp only [Act.put, List.setIfInBounds_toArray, List.set_cons_succ, List.set_cons_zero]
  obtain ⟨b_xw4, eb_xw4⟩ : ∃ b_xw4, b_xw4 = (N + 1 + 1 + 1) := ⟨_, rfl⟩
  have hzb_xw4 : Sz w3 b_xw4 := by rw [eb_xw4]; exact hN3
  have lob_xw4 : (N + 1 + 1 + 1) ≤ b_xw4 := by omega
  have upb_xw4 : b_xw4 ≤ (N + 1 + 1 + 1) := by omega
  clear eb_xw4
  refine wpl_alloc rfl 24 rfl 2 (nC zeroN) zeU b_xw4 hzb_xw4 ?_
  intro xw4 hMxw4 hbxw4 hhxw4; simp only [Act.put, List.setIfInBounds_toArray, List.set_cons_succ, List.set_cons_zero]
  have k5 := k1.below hbxw4 (by omega)
  have k6 := k2.below hbxw4 (by omega)
  have k7 := k3.below hbxw4 (by omega)
  have lo8 := lo0.trans (hbxw4.mono (by omega))
  clear k1 k2 k3 lo0 hbxw4 hzb_xw4
  obtain ⟨M9, eM9⟩ : ∃ M9, M9 = b_xw4 + 1 := ⟨_, rfl⟩
  rw [← eM9] at hMxw4
  have loM9 : b_xw4 + 1 ≤ M9 := by omega
  have upM9 : M9 ≤ b_xw4 + 1 := by omega
  clear eM9
  go_upto_region 2 with fail
  refine wp_region_lit ?_
  try simp only [Act.put, List.setIfInBounds_toArray, List.set_cons_succ, List.set_cons_zero]
  refine wpl_run rfl (Value.agg (cellsOf (bC (true, false)) 2)) _ (run_bd 58 _ rfl (cellsOf (bC (true, false)) 2) (by kernel_rfl) _) ?_; simp only [Act.put, List.setIfInBounds_toArray, List.set_cons_succ, List.set_cons_zero]
  obtain ⟨b_xw10, eb_xw10⟩ : ∃ b_xw10, b_xw10 = M9 := ⟨_, rfl⟩
  have hzb_xw10 : Sz xw4 b_xw10 := by rw [eb_xw10]; exact hMxw4
  have lob_xw10 : M9 ≤ b_xw10 := by omega
  have upb_xw10 : b_xw10 ≤ M9 := by omega
  clear eb_xw10
  refine wpl_alloc rfl 58 rfl 2 (bC (false, false)) zeB b_xw10 hzb_xw10 ?_
  intro xw10 hMxw10 hbxw10 hhxw10; simp only [Act.put, List.setIfInBounds_toArray, List.set_cons_succ, List.set_cons_zero]
  have k11 := k5.below hbxw10 (by omega)
  have k12 := k6.below hbxw10 (by omega)
  have k13 := k7.below hbxw10 (by omega)
  have k14 := hhxw4.below hbxw10 (by omega)
  have lo15 := lo8.trans (hbxw10.mono (by omega))
  clear k5 k6 k7 hhxw4 lo8 hbxw10 hzb_xw10
  obtain ⟨M16, eM16⟩ : ∃ M16, M16 = b_xw10 + 1 := ⟨_, rfl⟩
  rw [← eM16] at hMxw10
  have loM16 : b_xw10 + 1 ≤ M16 := by omega
  have upM16 : M16 ≤ b_xw10 + 1 := by omega
  clear eM16
  refine wpl_store rfl 58 (.tmp 8) (.tmp 18) rfl b_xw10 2 (bC (true, false)) rfl rfl 58 _ hhxw10 szB (fun j _ => bC_one _ j) ?_
  intro xw17 t18 k19; simp only [Act.put, List.setIfInBounds_toArray, List.set_cons_succ, List.set_cons_zero]
  have k20 := k11.touch t18 (by omega)
  have k21 := k12.touch t18 (by omega)
  have k22 := k13.touch t18 (by omega)
  have k23 := k14.touch t18 (by omega)
  have lo24 := t18.below lo15 (by omega)
  have h25 := t18.sz hMxw10
  clear hhxw10 k11 k12 k13 k14 lo15 hMxw10 t18
  go_wp2_with fail
  have k26 : Has xw17 b_xw10 58 2 (bC (cr 0)) := by rw [c0.out]; exact k19
  clear k19
  go_loopg [9, 10, 11, 12, 13, 14, 15, 16, 17] (64) (fun g x9 x10 x11 x12 x13 x14 x15 x16 x17 wr => ∃ k : Nat, k ≤ 64 ∧ g = 64 - k ∧ x9 = .int .i64 (k : Int) ∧ Has wr N 24 2 (nC a) ∧ Has wr (N + 1) 24 2 (nC b) ∧ Has wr (N + 1 + 1) 24 2 (nC zeroN) ∧ Has wr b_xw4 24 2 (nC (rN y k)) ∧ Has wr b_xw10 58 2 (bC (cr k)) ∧ Below N w wr)
  case atStart => exact ⟨0, by omega, rfl, rfl, k20, k21, k22, k23, k26, lo24⟩
  case round =>
    clear k20 k21 k22 k23 k26 lo24
    obtain ⟨k, hkk, rfl, rfl, k27, k28, k29, k30, k31, lo32⟩ := hrel
    obtain ⟨M33, hM33⟩ := sz_some wr
    have lt_34 := k27.ltN hM33
    have lt_35 := k28.ltN hM33
    have lt_36 := k29.ltN hM33
    have lt_37 := k30.ltN hM33
    have lt_38 := k31.ltN hM33
    have k0 : (0 : Int) ≤ (k : Int) := by omega
    by_cases hlt : k < 64
    · have t1 : (k : Int) < 64 := by omega
      obtain ⟨X, hX⟩ : ∃ X, rBits a k = X := ⟨_, rfl⟩
      obtain ⟨Z, hZ⟩ : ∃ Z, rBits b k = Z := ⟨_, rfl⟩
      have HX := hid hX
      have HY := hid hZ
      obtain ⟨C, hC⟩ : ∃ C, cr k = C := ⟨_, rfl⟩
      have E := hid (show rN y (k + 1) = rSet (rN y k) k (sumN false X Z C 8).1 by show rSet (rN y k) k (y k) = _; rw [Hy.out]; show rSet _ k (sumN false (rBits a k) (rBits b k) (carN false a b k) 8).1 = _; rw [← Hc.out, hX, hZ, hC])
      have EC := hid (show cr (k + 1) = (sumN false X Z C 8).2 by rw [Hc.out, carN_next, ← Hc.out, hX, hZ, hC])
      rw [hC] at k31
      clear hX hZ hC
      go_upto_region 6 with fail
      refine wp_region_lit ?_
      try simp only [Act.put, List.setIfInBounds_toArray, List.set_cons_succ, List.set_cons_zero]
      obtain ⟨b_xw39, eb_xw39⟩ : ∃ b_xw39, b_xw39 = M33 := ⟨_, rfl⟩
      have hzb_xw39 : Sz wr b_xw39 := by rw [eb_xw39]; exact hM33
      have lob_xw39 : M33 ≤ b_xw39 := by omega
      have upb_xw39 : b_xw39 ≤ M33 := by omega
      clear eb_xw39
      refine wpl_alloc rfl 58 rfl 2 (bC (false, false)) zeB b_xw39 hzb_xw39 ?_
      intro xw39 hMxw39 hbxw39 hhxw39; simp only [Act.put, List.setIfInBounds_toArray, List.set_cons_succ, List.set_cons_zero]
      have k40 := k27.below hbxw39 (by omega)
      have k41 := k28.below hbxw39 (by omega)
      have k42 := k29.below hbxw39 (by omega)
      have k43 := k30.below hbxw39 (by omega)
      have k44 := k31.below hbxw39 (by omega)
      have lo45 := lo32.trans (hbxw39.mono (by omega))
      clear k27 k28 k29 k30 k31 lo32 hbxw39 hzb_xw39
      obtain ⟨M46, eM46⟩ : ∃ M46, M46 = b_xw39 + 1 := ⟨_, rfl⟩
      rw [← eM46] at hMxw39
      have loM46 : b_xw39 + 1 ≤ M46 := by omega
      have upM46 : M46 ≤ b_xw39 + 1 := by omega
      clear eM46
      obtain ⟨b_xw47, eb_xw47⟩ : ∃ b_xw47, b_xw47 = M46 := ⟨_, rfl⟩
      have hzb_xw47 : Sz xw39 b_xw47 := by rw [eb_xw47]; exact hMxw39
      have lob_xw47 : M46 ≤ b_xw47 := by omega
      have upb_xw47 : b_xw47 ≤ M46 := by omega
      clear eb_xw47
      refine wpl_alloc rfl 58 rfl 2 (bC (false, false)) zeB b_xw47 hzb_xw47 ?_
      intro xw47 hMxw47 hbxw47 hhxw47; simp only [Act.put, List.setIfInBounds_toArray, List.set_cons_succ, List.set_cons_zero]
      have k48 := k40.below hbxw47 (by omega)
      have k49 := k41.below hbxw47 (by omega)
      have k50 := k42.below hbxw47 (by omega)
      have k51 := k43.below hbxw47 (by omega)
      have k52 := k44.below hbxw47 (by omega)
      have k53 := hhxw39.below hbxw47 (by omega)
      have lo54 := lo45.trans (hbxw47.mono (by omega))
      clear k40 k41 k42 k43 k44 hhxw39 lo45 hbxw47 hzb_xw47
      obtain ⟨M55, eM55⟩ : ∃ M55, M55 = b_xw47 + 1 := ⟨_, rfl⟩
      rw [← eM55] at hMxw47
      have loM55 : b_xw47 + 1 ≤ M55 := by omega
      have upM55 : M55 ≤ b_xw47 + 1 := by omega
      clear eM55
      go_upto_region 7 with fail
      refine wp_region_any (by kernel_rfl) ?_
      replace k48 : Has xw47.drew N 24 2 (nC a) := k48
      replace k49 : Has xw47.drew (N + 1) 24 2 (nC b) := k49
      replace k50 : Has xw47.drew (N + 1 + 1) 24 2 (nC zeroN) := k50
      replace k51 : Has xw47.drew b_xw4 24 2 (nC (rN y k)) := k51
      replace k52 : Has xw47.drew b_xw10 58 2 (bC C) := k52
      replace k53 : Has xw47.drew b_xw39 58 2 (bC (false, false)) := k53
      replace hhxw47 : Has xw47.drew b_xw47 58 2 (bC (false, false)) := hhxw47
      replace hMxw47 : Sz xw47.drew M55 := hMxw47
      replace lo54 : Below N w xw47.drew := lo54.drew
      change wpAny _ _ _ _ _ _ _ (World.drew _)
      generalize xw47.drew = xw56 at *
      refine wpAny_pot (rem := [0, 1, 2, 3, 4, 5, 6, 7]) (FG M55 (fun j => if j = 0 then some (Value.agg (cellsOf (nC a) 2)) else if j = 1 then some (Value.int .i64 (k : Int)) else if j = 2 then some (Value.agg (cellsOf (bC X) 2)) else if j = 3 then some (Value.agg (cellsOf (nC b) 2)) else if j = 4 then some (Value.int .i64 (k : Int)) else if j = 5 then some (Value.agg (cellsOf (bC Z) 2)) else if j = 6 then none else none) (fun j => if j = 6 then (58, 2, bC (false, false)) else (58, 2, bC (false, false)))) (TwoN (fun j => if j = 0 then some (Value.agg (cellsOf (nC a) 2)) else if j = 1 then some (Value.int .i64 (k : Int)) else if j = 2 then some (Value.agg (cellsOf (bC X) 2)) else if j = 3 then some (Value.agg (cellsOf (nC b) 2)) else if j = 4 then some (Value.int .i64 (k : Int)) else if j = 5 then some (Value.agg (cellsOf (bC Z) 2)) else if j = 6 then none else none)) (Below M55 xw56) _ _ _ _ (by kernel_rfl) (size_dstG (by kernel_rfl)) (Below.refl _ _) ?_ ?_
      · intro i hi ac wa hI ha hv
        simp only [List.mem_cons, List.not_mem_nil, or_false] at hi
        rcases hi with rfl | rfl | rfl | rfl | rfl | rfl | rfl | rfl
        · exact potg_run rfl rfl (Value.agg (cellsOf (nC a) 2)) rfl (run_rw 24 (.tmp 3) rfl N (ha 3 (not_dstG (by kernel_rfl))) 24 2 _ (Has.below k48 hI (Has.ltN k48 hMxw47)) undU szU) hMxw47 hI
        · exact potg_run rfl rfl (Value.int .i64 (k : Int)) rfl (run_mv (x := (.tmp 9)) rfl _ (ha 9 (not_dstG (by kernel_rfl)))) hMxw47 hI
        · obtain ⟨v0, hv0a, hv0b⟩ := hv 0 (by simp) (by kernel_rfl)
          have ev0 := hv0b.val rfl
          subst ev0
          obtain ⟨v1, hv1a, hv1b⟩ := hv 1 (by simp) (by kernel_rfl)
          have ev1 := hv1b.val rfl
          subst ev1
          exact potg_cl rfl rfl 39 _ _ rfl #[(Value.agg (cellsOf (nC a) 2)), (Value.int .i64 (k : Int))] (by simp only [List.map_toArray, List.map_cons, List.map_nil, (show ac.eval (.tmp 23) = (Value.agg (cellsOf (nC a) 2)) from (hv0a 23 rfl)), (show ac.eval (.tmp 24) = (Value.int .i64 (k : Int)) from (hv1a 24 rfl))] <;> rfl) (by kernel_rfl) (Value.agg (cellsOf (bC X) 2)) (fun K hK => Bits_is HX.out wa K hK) rfl hMxw47 hI
        · exact potg_run rfl rfl (Value.agg (cellsOf (nC b) 2)) rfl (run_rw 24 (.tmp 4) rfl (N + 1) (ha 4 (not_dstG (by kernel_rfl))) 24 2 _ (Has.below k49 hI (Has.ltN k49 hMxw47)) undU szU) hMxw47 hI
        · exact potg_run rfl rfl (Value.int .i64 (k : Int)) rfl (run_mv (x := (.tmp 9)) rfl _ (ha 9 (not_dstG (by kernel_rfl)))) hMxw47 hI
        · obtain ⟨v3, hv3a, hv3b⟩ := hv 3 (by simp) (by kernel_rfl)
          have ev3 := hv3b.val rfl
          subst ev3
          obtain ⟨v4, hv4a, hv4b⟩ := hv 4 (by simp) (by kernel_rfl)
          have ev4 := hv4b.val rfl
          subst ev4
          exact potg_cl rfl rfl 39 _ _ rfl #[(Value.agg (cellsOf (nC b) 2)), (Value.int .i64 (k : Int))] (by simp only [List.map_toArray, List.map_cons, List.map_nil, (show ac.eval (.tmp 26) = (Value.agg (cellsOf (nC b) 2)) from (hv3a 26 rfl)), (show ac.eval (.tmp 27) = (Value.int .i64 (k : Int)) from (hv4a 27 rfl))] <;> rfl) (by kernel_rfl) (Value.agg (cellsOf (bC Z) 2)) (fun K hK => Bits_is HY.out wa K hK) rfl hMxw47 hI
        · exact potg_al rfl rfl rfl zeB rfl rfl hMxw47 hI
        · exact potg_al rfl rfl rfl zeB rfl rfl hMxw47 hI
      · intro vals w5_57_ hb5_57_ hF hG
        have e_57_0 := (hF 0 (by simp)).val rfl
        have e_57_1 := (hF 1 (by simp)).val rfl
        have e_57_2 := (hF 2 (by simp)).val rfl
        have e_57_3 := (hF 3 (by simp)).val rfl
        have e_57_4 := (hF 4 (by simp)).val rfl
        have e_57_5 := (hF 5 (by simp)).val rfl
        obtain ⟨b_57_6, l_57_6, e_57_6, h_57_6⟩ := (hF 6 (by simp)).al rfl rfl
        obtain ⟨b_57_7, l_57_7, e_57_7, h_57_7⟩ := (hF 7 (by simp)).al rfl rfl
        have n_57_6_7 := hG 6 (by simp) 7 (by simp) (by omega) rfl rfl b_57_6 b_57_7 e_57_6 e_57_7
        clear hF hG
        simp only [List.foldl_cons, List.foldl_nil, dstOf, List.getElem?_toArray, List.getElem?_cons_succ, List.getElem?_cons_zero, Option.bind_some, Act.put, List.setIfInBounds_toArray, List.set_cons_succ, List.set_cons_zero, e_57_0, e_57_1, e_57_2, e_57_3, e_57_4, e_57_5, e_57_6, e_57_7]
        clear e_57_0 e_57_1 e_57_2 e_57_3 e_57_4 e_57_5 e_57_6 e_57_7
        refine wpAny_chain [8, 9] _ _ _ _ (by kernel_rfl) (by decide) ?_
        simp only [List.filterMap_cons, List.filterMap_nil, List.getElem?_toArray, List.getElem?_cons_succ, List.getElem?_cons_zero]
        have k58 := k48.below hb5_57_ (by omega)
        have k59 := k49.below hb5_57_ (by omega)
        have k60 := k50.below hb5_57_ (by omega)
        have k61 := k51.below hb5_57_ (by omega)
        have k62 := k52.below hb5_57_ (by omega)
        have k63 := k53.below hb5_57_ (by omega)
        have k64 := hhxw47.below hb5_57_ (by omega)
        have lo65 := lo54.trans (hb5_57_.mono (by omega))
        clear k48 k49 k50 k51 k52 k53 hhxw47 lo54 hb5_57_
        refine wpl_store rfl 58 (.tmp 12) (.tmp 25) rfl b_57_6 2 (bC X) rfl rfl 58 _ h_57_6 szB (fun j _ => bC_one _ j) ?_
        intro xw66 t67 k68
        have k69 := k58.touch t67 (by omega)
        have k70 := k59.touch t67 (by omega)
        have k71 := k60.touch t67 (by omega)
        have k72 := k61.touch t67 (by omega)
        have k73 := k62.touch t67 (by omega)
        have k74 := k63.touch t67 (by omega)
        have k75 := k64.touch t67 (by omega)
        have k76 := h_57_7.touch t67 (by omega)
        have lo77 := t67.below lo65 (by omega)
        clear h_57_6 k58 k59 k60 k61 k62 k63 k64 h_57_7 lo65 t67
        refine wpl_store rfl 58 (.tmp 13) (.tmp 28) rfl b_57_7 2 (bC Z) rfl rfl 58 _ k76 szB (fun j _ => bC_one _ j) ?_
        intro xw78 t79 k80
        have k81 := k69.touch t79 (by omega)
        have k82 := k70.touch t79 (by omega)
        have k83 := k71.touch t79 (by omega)
        have k84 := k72.touch t79 (by omega)
        have k85 := k73.touch t79 (by omega)
        have k86 := k74.touch t79 (by omega)
        have k87 := k75.touch t79 (by omega)
        have k88 := k68.touch t79 (by omega)
        have lo89 := t79.below lo77 (by omega)
        clear k76 k69 k70 k71 k72 k73 k74 k75 k68 lo77 t79
        obtain ⟨M90, hM90⟩ := sz_some xw78
        have lt_91 := k81.ltN hM90
        have lt_92 := k82.ltN hM90
        have lt_93 := k83.ltN hM90
        have lt_94 := k84.ltN hM90
        have lt_95 := k85.ltN hM90
        have lt_96 := k86.ltN hM90
        have lt_97 := k87.ltN hM90
        have lt_98 := k88.ltN hM90
        have lt_99 := k80.ltN hM90
        go_wp2_with fail
        go_loopg [14, 15, 16, 17] (2) (fun g x14 x15 x16 x17 wr => ∃ p : Nat, p ≤ 2 ∧ g = 2 - p ∧ x14 = .int .i64 (p : Int) ∧ Has wr N 24 2 (nC a) ∧ Has wr (N + 1) 24 2 (nC b) ∧ Has wr (N + 1 + 1) 24 2 (nC zeroN) ∧ Has wr b_xw4 24 2 (nC (rN y k)) ∧ Has wr b_xw10 58 2 (bC C) ∧ Has wr b_xw39 58 2 (bC (sumN false X Z C (4 * p)).1) ∧ Has wr b_xw47 58 2 (bC (sumN false X Z C (4 * p)).2) ∧ Has wr b_57_6 58 2 (bC X) ∧ Has wr b_57_7 58 2 (bC Z) ∧ Below N w wr)
        case atStart => exact ⟨0, by omega, rfl, rfl, k81, k82, k83, k84, k85, k86, k87, k88, k80, lo89⟩
        case round =>
          clear k81 k82 k83 k84 k85 k86 k87 k88 k80 lo89
          obtain ⟨p, hkp, rfl, rfl, k100, k101, k102, k103, k104, k105, k106, k107, k108, lo109⟩ := hrel
          obtain ⟨M110, hM110⟩ := sz_some wr
          have lt_111 := k100.ltN hM110
          have lt_112 := k101.ltN hM110
          have lt_113 := k102.ltN hM110
          have lt_114 := k103.ltN hM110
          have lt_115 := k104.ltN hM110
          have lt_116 := k105.ltN hM110
          have lt_117 := k106.ltN hM110
          have lt_118 := k107.ltN hM110
          have lt_119 := k108.ltN hM110
          have p0 : (0 : Int) ≤ (p : Int) := by omega
          by_cases hp : p < 2
          · have p1 : (p : Int) < 2 := by omega
            go_wp2_with fail
            go_loopg [15, 16, 17] (2) (fun g x15 x16 x17 wr => ∃ q : Nat, q ≤ 2 ∧ g = 2 - q ∧ x15 = .int .i64 (q : Int) ∧ Has wr N 24 2 (nC a) ∧ Has wr (N + 1) 24 2 (nC b) ∧ Has wr (N + 1 + 1) 24 2 (nC zeroN) ∧ Has wr b_xw4 24 2 (nC (rN y k)) ∧ Has wr b_xw10 58 2 (bC C) ∧ Has wr b_xw39 58 2 (bC (sumN false X Z C (4 * p + 2 * q)).1) ∧ Has wr b_xw47 58 2 (bC (sumN false X Z C (4 * p + 2 * q)).2) ∧ Has wr b_57_6 58 2 (bC X) ∧ Has wr b_57_7 58 2 (bC Z) ∧ Below N w wr)
            case atStart => exact ⟨0, by omega, rfl, rfl, k100, k101, k102, k103, k104, k105, k106, k107, k108, lo109⟩
            case round =>
              clear k100 k101 k102 k103 k104 k105 k106 k107 k108 lo109
              obtain ⟨q, hkq, rfl, rfl, k120, k121, k122, k123, k124, k125, k126, k127, k128, lo129⟩ := hrel
              obtain ⟨M130, hM130⟩ := sz_some wr
              have lt_131 := k120.ltN hM130
              have lt_132 := k121.ltN hM130
              have lt_133 := k122.ltN hM130
              have lt_134 := k123.ltN hM130
              have lt_135 := k124.ltN hM130
              have lt_136 := k125.ltN hM130
              have lt_137 := k126.ltN hM130
              have lt_138 := k127.ltN hM130
              have lt_139 := k128.ltN hM130
              have q0 : (0 : Int) ≤ (q : Int) := by omega
              by_cases hq : q < 2
              · have q1 : (q : Int) < 2 := by omega
                go_wp2_with fail
                go_loopg [16, 17] (2) (fun g x16 x17 wr => ∃ r : Nat, r ≤ 2 ∧ g = 2 - r ∧ x16 = .int .i64 (r : Int) ∧ Has wr N 24 2 (nC a) ∧ Has wr (N + 1) 24 2 (nC b) ∧ Has wr (N + 1 + 1) 24 2 (nC zeroN) ∧ Has wr b_xw4 24 2 (nC (rN y k)) ∧ Has wr b_xw10 58 2 (bC C) ∧ Has wr b_xw39 58 2 (bC (sumN false X Z C (4 * p + 2 * q + r)).1) ∧ Has wr b_xw47 58 2 (bC (sumN false X Z C (4 * p + 2 * q + r)).2) ∧ Has wr b_57_6 58 2 (bC X) ∧ Has wr b_57_7 58 2 (bC Z) ∧ Below N w wr)
                case atStart => exact ⟨0, by omega, rfl, rfl, k120, k121, k122, k123, k124, k125, k126, k127, k128, lo129⟩
                case round =>
                  clear k120 k121 k122 k123 k124 k125 k126 k127 k128 lo129
                  obtain ⟨r, hkr, rfl, rfl, k140, k141, k142, k143, k144, k145, k146, k147, k148, lo149⟩ := hrel
                  obtain ⟨M150, hM150⟩ := sz_some wr
                  have lt_151 := k140.ltN hM150
                  have lt_152 := k141.ltN hM150
                  have lt_153 := k142.ltN hM150
                  have lt_154 := k143.ltN hM150
                  have lt_155 := k144.ltN hM150
                  have lt_156 := k145.ltN hM150
                  have lt_157 := k146.ltN hM150
                  have lt_158 := k147.ltN hM150
                  have lt_159 := k148.ltN hM150
                  have r0 : (0 : Int) ≤ (r : Int) := by omega
                  by_cases hr : r < 2
                  · have r1 : (r : Int) < 2 := by omega
                    have cx := cell_sel k147 hp
                    have cy := cell_sel k148 hq
                    have cc := cell_sel k144 hr
                    go_upto_region 17 with fail
                    cases ex : sel X p
                    · rw [ex] at cx
                      have E2 := hid (sum_no (m := false) (x := X) (y := Z) (c := C) hp hq hr (by rw [ex]; rfl))
                      refine wp_region_later1 (M150) ?_
                      try simp only [Act.put, List.setIfInBounds_toArray, List.set_cons_succ, List.set_cons_zero]
                      go_big_quiet_step (fail)
                      refine later_val (fun q => run_iaN (x := (.tmp 12)) (y := (.tmp 41)) rfl (b := b_57_6) rfl rfl undAB sz1b (by omega)) (by rfl) ?_; simp only [Act.put, List.setIfInBounds_toArray, List.set_cons_succ, List.set_cons_zero]
                      refine later_c1 hM150 4 (.tmp 42) rfl rfl undBool rfl cx (by rfl) ?_; simp only [Act.put, List.setIfInBounds_toArray, List.set_cons_succ, List.set_cons_zero]
                      go_big_quiet_step (fail)
                      go_big_quiet_step (fail)
                      go_big_quiet_step (fail)
                      go_big_quiet_step (fail)
                      go_big_quiet_step (fail)
                      go_big_quiet_step (fail)
                      go_big_quiet_step (fail)
                      go_big_quiet_step (fail)
                      go_big_quiet_step (fail)
                      go_big_quiet_step (fail)
                      go_big_quiet_step (fail)
                      go_big_quiet_step (fail)
                      go_big_quiet_step (fail)
                      refine wpQuiet_nil ?_
                      rintro xw160 ⟨qxw160, exw160⟩
                      have hbxw160 := qxw160.b
                      rw [← exw160] at hbxw160
                      clear qxw160 exw160
                      obtain ⟨M161, hM161⟩ := sz_some xw160
                      have lM161 := below_sz hbxw160 hM150 hM161
                      have k162 := k140.below hbxw160 (by omega)
                      have k163 := k141.below hbxw160 (by omega)
                      have k164 := k142.below hbxw160 (by omega)
                      have k165 := k143.below hbxw160 (by omega)
                      have k166 := k144.below hbxw160 (by omega)
                      have k167 := k145.below hbxw160 (by omega)
                      have k168 := k146.below hbxw160 (by omega)
                      have k169 := k147.below hbxw160 (by omega)
                      have k170 := k148.below hbxw160 (by omega)
                      have lo171 := lo149.trans (hbxw160.mono (by omega))
                      clear k140 k141 k142 k143 k144 k145 k146 k147 k148 lo149 hbxw160
                      go_wp2_with fail
                      go_roundg (2 - (r + 1))
                      case rel => exact ⟨r + 1, by omega, rfl, by simp, k162, k163, k164, k165, k166, by rw [E2.out]; exact k167, by rw [E2.out]; exact k168, k169, k170, lo171⟩
                      case measure => omega
                    cases ey : sel Z q
                    · rw [ex] at cx
                      rw [ey] at cy
                      have E2 := hid (sum_no (m := false) (x := X) (y := Z) (c := C) hp hq hr (by rw [ex, ey]; rfl))
                      refine wp_region_later1 (M150) ?_
                      try simp only [Act.put, List.setIfInBounds_toArray, List.set_cons_succ, List.set_cons_zero]
                      go_big_quiet_step (fail)
                      refine later_val (fun q => run_iaN (x := (.tmp 12)) (y := (.tmp 41)) rfl (b := b_57_6) rfl rfl undAB sz1b (by omega)) (by rfl) ?_; simp only [Act.put, List.setIfInBounds_toArray, List.set_cons_succ, List.set_cons_zero]
                      refine later_c1 hM150 4 (.tmp 42) rfl rfl undBool rfl cx (by rfl) ?_; simp only [Act.put, List.setIfInBounds_toArray, List.set_cons_succ, List.set_cons_zero]
                      go_big_quiet_step (fail)
                      go_big_quiet_step (fail)
                      go_big_quiet_step (fail)
                      refine later_val (fun q => run_iaN (x := (.tmp 13)) (y := (.tmp 46)) rfl (b := b_57_7) rfl rfl undAB sz1b (by omega)) (by rfl) ?_; simp only [Act.put, List.setIfInBounds_toArray, List.set_cons_succ, List.set_cons_zero]
                      refine later_c1 hM150 4 (.tmp 47) rfl rfl undBool rfl cy (by rfl) ?_; simp only [Act.put, List.setIfInBounds_toArray, List.set_cons_succ, List.set_cons_zero]
                      go_big_quiet_step (fail)
                      go_big_quiet_step (fail)
                      go_big_quiet_step (fail)
                      go_big_quiet_step (fail)
                      go_big_quiet_step (fail)
                      go_big_quiet_step (fail)
                      go_big_quiet_step (fail)
                      go_big_quiet_step (fail)
                      refine wpQuiet_nil ?_
                      rintro xw160 ⟨qxw160, exw160⟩
                      have hbxw160 := qxw160.b
                      rw [← exw160] at hbxw160
                      clear qxw160 exw160
                      obtain ⟨M161, hM161⟩ := sz_some xw160
                      have lM161 := below_sz hbxw160 hM150 hM161
                      have k162 := k140.below hbxw160 (by omega)
                      have k163 := k141.below hbxw160 (by omega)
                      have k164 := k142.below hbxw160 (by omega)
                      have k165 := k143.below hbxw160 (by omega)
                      have k166 := k144.below hbxw160 (by omega)
                      have k167 := k145.below hbxw160 (by omega)
                      have k168 := k146.below hbxw160 (by omega)
                      have k169 := k147.below hbxw160 (by omega)
                      have k170 := k148.below hbxw160 (by omega)
                      have lo171 := lo149.trans (hbxw160.mono (by omega))
                      clear k140 k141 k142 k143 k144 k145 k146 k147 k148 lo149 hbxw160
                      go_wp2_with fail
                      go_roundg (2 - (r + 1))
                      case rel => exact ⟨r + 1, by omega, rfl, by simp, k162, k163, k164, k165, k166, by rw [E2.out]; exact k167, by rw [E2.out]; exact k168, k169, k170, lo171⟩
                      case measure => omega
                    cases ec : sel C r
                    · rw [ex] at cx
                      rw [ey] at cy
                      rw [ec] at cc
                      have E2 := hid (sum_no (m := false) (x := X) (y := Z) (c := C) hp hq hr (by rw [ex, ey, ec]; rfl))
                      refine wp_region_later1 (M150) ?_
                      try simp only [Act.put, List.setIfInBounds_toArray, List.set_cons_succ, List.set_cons_zero]
                      go_big_quiet_step (fail)
                      refine later_val (fun q => run_iaN (x := (.tmp 12)) (y := (.tmp 41)) rfl (b := b_57_6) rfl rfl undAB sz1b (by omega)) (by rfl) ?_; simp only [Act.put, List.setIfInBounds_toArray, List.set_cons_succ, List.set_cons_zero]
                      refine later_c1 hM150 4 (.tmp 42) rfl rfl undBool rfl cx (by rfl) ?_; simp only [Act.put, List.setIfInBounds_toArray, List.set_cons_succ, List.set_cons_zero]
                      go_big_quiet_step (fail)
                      go_big_quiet_step (fail)
                      go_big_quiet_step (fail)
                      refine later_val (fun q => run_iaN (x := (.tmp 13)) (y := (.tmp 46)) rfl (b := b_57_7) rfl rfl undAB sz1b (by omega)) (by rfl) ?_; simp only [Act.put, List.setIfInBounds_toArray, List.set_cons_succ, List.set_cons_zero]
                      refine later_c1 hM150 4 (.tmp 47) rfl rfl undBool rfl cy (by rfl) ?_; simp only [Act.put, List.setIfInBounds_toArray, List.set_cons_succ, List.set_cons_zero]
                      go_big_quiet_step (fail)
                      go_big_quiet_step (fail)
                      go_big_quiet_step (fail)
                      go_big_quiet_step (fail)
                      refine later_val (fun q => run_iaN (x := (.tmp 8)) (y := (.tmp 52)) rfl (b := b_xw10) rfl rfl undAB sz1b (by omega)) (by rfl) ?_; simp only [Act.put, List.setIfInBounds_toArray, List.set_cons_succ, List.set_cons_zero]
                      refine later_c1 hM150 4 (.tmp 53) rfl rfl undBool rfl cc (by rfl) ?_; simp only [Act.put, List.setIfInBounds_toArray, List.set_cons_succ, List.set_cons_zero]
                      go_big_quiet_step (fail)
                      go_big_quiet_step (fail)
                      refine wpQuiet_nil ?_
                      rintro xw160 ⟨qxw160, exw160⟩
                      have hbxw160 := qxw160.b
                      rw [← exw160] at hbxw160
                      clear qxw160 exw160
                      obtain ⟨M161, hM161⟩ := sz_some xw160
                      have lM161 := below_sz hbxw160 hM150 hM161
                      have k162 := k140.below hbxw160 (by omega)
                      have k163 := k141.below hbxw160 (by omega)
                      have k164 := k142.below hbxw160 (by omega)
                      have k165 := k143.below hbxw160 (by omega)
                      have k166 := k144.below hbxw160 (by omega)
                      have k167 := k145.below hbxw160 (by omega)
                      have k168 := k146.below hbxw160 (by omega)
                      have k169 := k147.below hbxw160 (by omega)
                      have k170 := k148.below hbxw160 (by omega)
                      have lo171 := lo149.trans (hbxw160.mono (by omega))
                      clear k140 k141 k142 k143 k144 k145 k146 k147 k148 lo149 hbxw160
                      go_wp2_with fail
                      go_roundg (2 - (r + 1))
                      case rel => exact ⟨r + 1, by omega, rfl, by simp, k162, k163, k164, k165, k166, by rw [E2.out]; exact k167, by rw [E2.out]; exact k168, k169, k170, lo171⟩
                      case measure => omega
                    · rw [ex] at cx
                      rw [ey] at cy
                      rw [ec] at cc
                      have E2 := hid (sum_yes (m := false) (x := X) (y := Z) (c := C) hp hq hr (by rw [ex, ey, ec]; rfl))
                      clear ex ey ec
                      refine wp_region_later1 (M150) ?_
                      try simp only [Act.put, List.setIfInBounds_toArray, List.set_cons_succ, List.set_cons_zero]
                      go_big_quiet_step (fail)
                      refine later_val (fun q => run_iaN (x := (.tmp 12)) (y := (.tmp 41)) rfl (b := b_57_6) rfl rfl undAB sz1b (by omega)) (by rfl) ?_; simp only [Act.put, List.setIfInBounds_toArray, List.set_cons_succ, List.set_cons_zero]
                      refine later_c1 hM150 4 (.tmp 42) rfl rfl undBool rfl cx (by rfl) ?_; simp only [Act.put, List.setIfInBounds_toArray, List.set_cons_succ, List.set_cons_zero]
                      go_big_quiet_step (fail)
                      go_big_quiet_step (fail)
                      go_big_quiet_step (fail)
                      refine later_val (fun q => run_iaN (x := (.tmp 13)) (y := (.tmp 46)) rfl (b := b_57_7) rfl rfl undAB sz1b (by omega)) (by rfl) ?_; simp only [Act.put, List.setIfInBounds_toArray, List.set_cons_succ, List.set_cons_zero]
                      refine later_c1 hM150 4 (.tmp 47) rfl rfl undBool rfl cy (by rfl) ?_; simp only [Act.put, List.setIfInBounds_toArray, List.set_cons_succ, List.set_cons_zero]
                      go_big_quiet_step (fail)
                      go_big_quiet_step (fail)
                      go_big_quiet_step (fail)
                      go_big_quiet_step (fail)
                      refine later_val (fun q => run_iaN (x := (.tmp 8)) (y := (.tmp 52)) rfl (b := b_xw10) rfl rfl undAB sz1b (by omega)) (by rfl) ?_; simp only [Act.put, List.setIfInBounds_toArray, List.set_cons_succ, List.set_cons_zero]
                      refine later_c1 hM150 4 (.tmp 53) rfl rfl undBool rfl cc (by rfl) ?_; simp only [Act.put, List.setIfInBounds_toArray, List.set_cons_succ, List.set_cons_zero]
                      go_big_quiet_step (fail)
                      go_big_quiet_step (fail)
                      refine wpQuiet_nil ?_
                      rintro xw160 ⟨qxw160, exw160⟩
                      have hbxw160 := qxw160.b
                      rw [← exw160] at hbxw160
                      clear qxw160 exw160
                      obtain ⟨M161, hM161⟩ := sz_some xw160
                      have lM161 := below_sz hbxw160 hM150 hM161
                      have k162 := k140.below hbxw160 (by omega)
                      have k163 := k141.below hbxw160 (by omega)
                      have k164 := k142.below hbxw160 (by omega)
                      have k165 := k143.below hbxw160 (by omega)
                      have k166 := k144.below hbxw160 (by omega)
                      have k167 := k145.below hbxw160 (by omega)
                      have k168 := k146.below hbxw160 (by omega)
                      have k169 := k147.below hbxw160 (by omega)
                      have k170 := k148.below hbxw160 (by omega)
                      have lo171 := lo149.trans (hbxw160.mono (by omega))
                      clear k140 k141 k142 k143 k144 k145 k146 k147 k148 lo149 hbxw160
                      rcases (show p = 0 ∨ p = 1 by omega) with rfl | rfl <;> rcases (show q = 0 ∨ q = 1 by omega) with rfl | rfl <;> rcases (show r = 0 ∨ r = 1 by omega) with rfl | rfl
                      · have E3 := hid (show sumN false X Z C (4 * 0 + 2 * 0 + (0 + 1)) = ((true, (sumN false X Z C (4 * 0 + 2 * 0 + 0)).1.2), (true, (sumN false X Z C (4 * 0 + 2 * 0 + 0)).2.2)) from E2.out)
                        go_upto_region 18 with fail
                        refine wp_region_lit ?_
                        try simp only [Act.put, List.setIfInBounds_toArray, List.set_cons_succ, List.set_cons_zero]
                        refine wpl_run rfl (.int .i64 0) xw160 (by kernel_rfl) ?_; simp only [Act.put, List.setIfInBounds_toArray, List.set_cons_succ, List.set_cons_zero]
                        refine wpl_run rfl (.int .i64 0) xw160 (by kernel_rfl) ?_; simp only [Act.put, List.setIfInBounds_toArray, List.set_cons_succ, List.set_cons_zero]
                        refine wpl_run rfl (.int .i64 0) xw160 (by kernel_rfl) ?_; simp only [Act.put, List.setIfInBounds_toArray, List.set_cons_succ, List.set_cons_zero]
                        refine wpl_run rfl (.int .i64 0) xw160 (by kernel_rfl) ?_; simp only [Act.put, List.setIfInBounds_toArray, List.set_cons_succ, List.set_cons_zero]
                        refine wpl_run rfl (.int .i64 0) xw160 (by kernel_rfl) ?_; simp only [Act.put, List.setIfInBounds_toArray, List.set_cons_succ, List.set_cons_zero]
                        refine wpl_run rfl (.int .i64 0) xw160 (by kernel_rfl) ?_; simp only [Act.put, List.setIfInBounds_toArray, List.set_cons_succ, List.set_cons_zero]
                        go_upto_region 21 with fail
                        refine wp_region_lit ?_
                        try simp only [Act.put, List.setIfInBounds_toArray, List.set_cons_succ, List.set_cons_zero]
                        refine wpl_run rfl (.int .i64 0) xw160 (by kernel_rfl) ?_; simp only [Act.put, List.setIfInBounds_toArray, List.set_cons_succ, List.set_cons_zero]
                        refine wpl_run rfl (.int .i64 0) xw160 (by kernel_rfl) ?_; simp only [Act.put, List.setIfInBounds_toArray, List.set_cons_succ, List.set_cons_zero]
                        refine wpl_run rfl (.pointer (some ⟨b_xw39, 0, none⟩)) xw160 (by kernel_rfl) ?_; simp only [Act.put, List.setIfInBounds_toArray, List.set_cons_succ, List.set_cons_zero]
                        refine wpl_set rfl 4 (.tmp 71) (.const (.bool true)) rfl b_xw39 0 rfl _ rfl sz1b rfl rfl 58 2 _ k167 (by omega) ?_
                        intro wha1 tha1 ha1_
                        have ha1 : Has wha1 b_xw39 58 2 (bC (true, (sumN false X Z C (4 * 0 + 2 * 0 + 0)).1.2)) := ha1_.congr (fun j hj => set_bC _ 0 (by omega) j hj)
                        have k172 := k162.touch tha1 (by omega)
                        have k173 := k163.touch tha1 (by omega)
                        have k174 := k164.touch tha1 (by omega)
                        have k175 := k165.touch tha1 (by omega)
                        have k176 := k166.touch tha1 (by omega)
                        have k177 := k168.touch tha1 (by omega)
                        have k178 := k169.touch tha1 (by omega)
                        have k179 := k170.touch tha1 (by omega)
                        have lo180 := tha1.below lo171 (by omega)
                        go_upto_region 24 with fail
                        refine wp_region_lit ?_
                        try simp only [Act.put, List.setIfInBounds_toArray, List.set_cons_succ, List.set_cons_zero]
                        refine wpl_run rfl (.int .i64 0) wha1 (by kernel_rfl) ?_; simp only [Act.put, List.setIfInBounds_toArray, List.set_cons_succ, List.set_cons_zero]
                        refine wpl_run rfl (.int .i64 0) wha1 (by kernel_rfl) ?_; simp only [Act.put, List.setIfInBounds_toArray, List.set_cons_succ, List.set_cons_zero]
                        refine wpl_run rfl (.pointer (some ⟨b_xw47, 0, none⟩)) wha1 (by kernel_rfl) ?_; simp only [Act.put, List.setIfInBounds_toArray, List.set_cons_succ, List.set_cons_zero]
                        refine wpl_set rfl 4 (.tmp 83) (.const (.bool true)) rfl b_xw47 0 rfl _ rfl sz1b rfl rfl 58 2 _ k177 (by omega) ?_
                        intro wha2 tha2 ha2_
                        have ha2 : Has wha2 b_xw47 58 2 (bC (true, (sumN false X Z C (4 * 0 + 2 * 0 + 0)).2.2)) := ha2_.congr (fun j hj => set_bC _ 0 (by omega) j hj)
                        have k181 := k172.touch tha2 (by omega)
                        have k182 := k173.touch tha2 (by omega)
                        have k183 := k174.touch tha2 (by omega)
                        have k184 := k175.touch tha2 (by omega)
                        have k185 := k176.touch tha2 (by omega)
                        have k186 := ha1.touch tha2 (by omega)
                        have k187 := k178.touch tha2 (by omega)
                        have k188 := k179.touch tha2 (by omega)
                        have lo189 := tha2.below lo180 (by omega)
                        go_wp2_with fail
                        go_roundg (2 - (0 + 1))
                        case rel => exact ⟨0 + 1, by omega, rfl, by simp, k181, k182, k183, k184, k185, by rw [E3.out]; exact k186, by rw [E3.out]; exact ha2, k187, k188, lo189⟩
                        case measure => omega
                      · have E3 := hid (show sumN false X Z C (4 * 0 + 2 * 0 + (1 + 1)) = (((sumN false X Z C (4 * 0 + 2 * 0 + 1)).1.1, true), (true, (sumN false X Z C (4 * 0 + 2 * 0 + 1)).2.2)) from E2.out)
                        go_upto_region 18 with fail
                        refine wp_region_lit ?_
                        try simp only [Act.put, List.setIfInBounds_toArray, List.set_cons_succ, List.set_cons_zero]
                        refine wpl_run rfl (.int .i64 0) xw160 (by kernel_rfl) ?_; simp only [Act.put, List.setIfInBounds_toArray, List.set_cons_succ, List.set_cons_zero]
                        refine wpl_run rfl (.int .i64 0) xw160 (by kernel_rfl) ?_; simp only [Act.put, List.setIfInBounds_toArray, List.set_cons_succ, List.set_cons_zero]
                        refine wpl_run rfl (.int .i64 0) xw160 (by kernel_rfl) ?_; simp only [Act.put, List.setIfInBounds_toArray, List.set_cons_succ, List.set_cons_zero]
                        refine wpl_run rfl (.int .i64 1) xw160 (by kernel_rfl) ?_; simp only [Act.put, List.setIfInBounds_toArray, List.set_cons_succ, List.set_cons_zero]
                        refine wpl_run rfl (.int .i64 1) xw160 (by kernel_rfl) ?_; simp only [Act.put, List.setIfInBounds_toArray, List.set_cons_succ, List.set_cons_zero]
                        refine wpl_run rfl (.int .i64 1) xw160 (by kernel_rfl) ?_; simp only [Act.put, List.setIfInBounds_toArray, List.set_cons_succ, List.set_cons_zero]
                        go_upto_region 21 with fail
                        refine wp_region_lit ?_
                        try simp only [Act.put, List.setIfInBounds_toArray, List.set_cons_succ, List.set_cons_zero]
                        refine wpl_run rfl (.int .i64 1) xw160 (by kernel_rfl) ?_; simp only [Act.put, List.setIfInBounds_toArray, List.set_cons_succ, List.set_cons_zero]
                        refine wpl_run rfl (.int .i64 1) xw160 (by kernel_rfl) ?_; simp only [Act.put, List.setIfInBounds_toArray, List.set_cons_succ, List.set_cons_zero]
                        refine wpl_run rfl (.pointer (some ⟨b_xw39, 1, none⟩)) xw160 (by kernel_rfl) ?_; simp only [Act.put, List.setIfInBounds_toArray, List.set_cons_succ, List.set_cons_zero]
                        refine wpl_set rfl 4 (.tmp 71) (.const (.bool true)) rfl b_xw39 1 rfl _ rfl sz1b rfl rfl 58 2 _ k167 (by omega) ?_
                        intro wha1 tha1 ha1_
                        have ha1 : Has wha1 b_xw39 58 2 (bC ((sumN false X Z C (4 * 0 + 2 * 0 + 1)).1.1, true)) := ha1_.congr (fun j hj => set_bC _ 1 (by omega) j hj)
                        have k172 := k162.touch tha1 (by omega)
                        have k173 := k163.touch tha1 (by omega)
                        have k174 := k164.touch tha1 (by omega)
                        have k175 := k165.touch tha1 (by omega)
                        have k176 := k166.touch tha1 (by omega)
                        have k177 := k168.touch tha1 (by omega)
                        have k178 := k169.touch tha1 (by omega)
                        have k179 := k170.touch tha1 (by omega)
                        have lo180 := tha1.below lo171 (by omega)
                        go_upto_region 24 with fail
                        refine wp_region_lit ?_
                        try simp only [Act.put, List.setIfInBounds_toArray, List.set_cons_succ, List.set_cons_zero]
                        refine wpl_run rfl (.int .i64 1) wha1 (by kernel_rfl) ?_; simp only [Act.put, List.setIfInBounds_toArray, List.set_cons_succ, List.set_cons_zero]
                        refine wpl_run rfl (.int .i64 0) wha1 (by kernel_rfl) ?_; simp only [Act.put, List.setIfInBounds_toArray, List.set_cons_succ, List.set_cons_zero]
                        refine wpl_run rfl (.pointer (some ⟨b_xw47, 0, none⟩)) wha1 (by kernel_rfl) ?_; simp only [Act.put, List.setIfInBounds_toArray, List.set_cons_succ, List.set_cons_zero]
                        refine wpl_set rfl 4 (.tmp 83) (.const (.bool true)) rfl b_xw47 0 rfl _ rfl sz1b rfl rfl 58 2 _ k177 (by omega) ?_
                        intro wha2 tha2 ha2_
                        have ha2 : Has wha2 b_xw47 58 2 (bC (true, (sumN false X Z C (4 * 0 + 2 * 0 + 1)).2.2)) := ha2_.congr (fun j hj => set_bC _ 0 (by omega) j hj)
                        have k181 := k172.touch tha2 (by omega)
                        have k182 := k173.touch tha2 (by omega)
                        have k183 := k174.touch tha2 (by omega)
                        have k184 := k175.touch tha2 (by omega)
                        have k185 := k176.touch tha2 (by omega)
                        have k186 := ha1.touch tha2 (by omega)
                        have k187 := k178.touch tha2 (by omega)
                        have k188 := k179.touch tha2 (by omega)
                        have lo189 := tha2.below lo180 (by omega)
                        go_wp2_with fail
                        go_roundg (2 - (1 + 1))
                        case rel => exact ⟨1 + 1, by omega, rfl, by simp, k181, k182, k183, k184, k185, by rw [E3.out]; exact k186, by rw [E3.out]; exact ha2, k187, k188, lo189⟩
                        case measure => omega
                      · have E3 := hid (show sumN false X Z C (4 * 0 + 2 * 1 + (0 + 1)) = (((sumN false X Z C (4 * 0 + 2 * 1 + 0)).1.1, true), (true, (sumN false X Z C (4 * 0 + 2 * 1 + 0)).2.2)) from E2.out)
                        go_upto_region 18 with fail
                        refine wp_region_lit ?_
                        try simp only [Act.put, List.setIfInBounds_toArray, List.set_cons_succ, List.set_cons_zero]
                        refine wpl_run rfl (.int .i64 0) xw160 (by kernel_rfl) ?_; simp only [Act.put, List.setIfInBounds_toArray, List.set_cons_succ, List.set_cons_zero]
                        refine wpl_run rfl (.int .i64 1) xw160 (by kernel_rfl) ?_; simp only [Act.put, List.setIfInBounds_toArray, List.set_cons_succ, List.set_cons_zero]
                        refine wpl_run rfl (.int .i64 1) xw160 (by kernel_rfl) ?_; simp only [Act.put, List.setIfInBounds_toArray, List.set_cons_succ, List.set_cons_zero]
                        refine wpl_run rfl (.int .i64 0) xw160 (by kernel_rfl) ?_; simp only [Act.put, List.setIfInBounds_toArray, List.set_cons_succ, List.set_cons_zero]
                        refine wpl_run rfl (.int .i64 1) xw160 (by kernel_rfl) ?_; simp only [Act.put, List.setIfInBounds_toArray, List.set_cons_succ, List.set_cons_zero]
                        refine wpl_run rfl (.int .i64 1) xw160 (by kernel_rfl) ?_; simp only [Act.put, List.setIfInBounds_toArray, List.set_cons_succ, List.set_cons_zero]
                        go_upto_region 21 with fail
                        refine wp_region_lit ?_
                        try simp only [Act.put, List.setIfInBounds_toArray, List.set_cons_succ, List.set_cons_zero]
                        refine wpl_run rfl (.int .i64 1) xw160 (by kernel_rfl) ?_; simp only [Act.put, List.setIfInBounds_toArray, List.set_cons_succ, List.set_cons_zero]
                        refine wpl_run rfl (.int .i64 1) xw160 (by kernel_rfl) ?_; simp only [Act.put, List.setIfInBounds_toArray, List.set_cons_succ, List.set_cons_zero]
                        refine wpl_run rfl (.pointer (some ⟨b_xw39, 1, none⟩)) xw160 (by kernel_rfl) ?_; simp only [Act.put, List.setIfInBounds_toArray, List.set_cons_succ, List.set_cons_zero]
                        refine wpl_set rfl 4 (.tmp 71) (.const (.bool true)) rfl b_xw39 1 rfl _ rfl sz1b rfl rfl 58 2 _ k167 (by omega) ?_
                        intro wha1 tha1 ha1_
                        have ha1 : Has wha1 b_xw39 58 2 (bC ((sumN false X Z C (4 * 0 + 2 * 1 + 0)).1.1, true)) := ha1_.congr (fun j hj => set_bC _ 1 (by omega) j hj)
                        have k172 := k162.touch tha1 (by omega)
                        have k173 := k163.touch tha1 (by omega)
                        have k174 := k164.touch tha1 (by omega)
                        have k175 := k165.touch tha1 (by omega)
                        have k176 := k166.touch tha1 (by omega)
                        have k177 := k168.touch tha1 (by omega)
                        have k178 := k169.touch tha1 (by omega)
                        have k179 := k170.touch tha1 (by omega)
                        have lo180 := tha1.below lo171 (by omega)
                        go_upto_region 24 with fail
                        refine wp_region_lit ?_
                        try simp only [Act.put, List.setIfInBounds_toArray, List.set_cons_succ, List.set_cons_zero]
                        refine wpl_run rfl (.int .i64 1) wha1 (by kernel_rfl) ?_; simp only [Act.put, List.setIfInBounds_toArray, List.set_cons_succ, List.set_cons_zero]
                        refine wpl_run rfl (.int .i64 0) wha1 (by kernel_rfl) ?_; simp only [Act.put, List.setIfInBounds_toArray, List.set_cons_succ, List.set_cons_zero]
                        refine wpl_run rfl (.pointer (some ⟨b_xw47, 0, none⟩)) wha1 (by kernel_rfl) ?_; simp only [Act.put, List.setIfInBounds_toArray, List.set_cons_succ, List.set_cons_zero]
                        refine wpl_set rfl 4 (.tmp 83) (.const (.bool true)) rfl b_xw47 0 rfl _ rfl sz1b rfl rfl 58 2 _ k177 (by omega) ?_
                        intro wha2 tha2 ha2_
                        have ha2 : Has wha2 b_xw47 58 2 (bC (true, (sumN false X Z C (4 * 0 + 2 * 1 + 0)).2.2)) := ha2_.congr (fun j hj => set_bC _ 0 (by omega) j hj)
                        have k181 := k172.touch tha2 (by omega)
                        have k182 := k173.touch tha2 (by omega)
                        have k183 := k174.touch tha2 (by omega)
                        have k184 := k175.touch tha2 (by omega)
                        have k185 := k176.touch tha2 (by omega)
                        have k186 := ha1.touch tha2 (by omega)
                        have k187 := k178.touch tha2 (by omega)
                        have k188 := k179.touch tha2 (by omega)
                        have lo189 := tha2.below lo180 (by omega)
                        go_wp2_with fail
                        go_roundg (2 - (0 + 1))
                        case rel => exact ⟨0 + 1, by omega, rfl, by simp, k181, k182, k183, k184, k185, by rw [E3.out]; exact k186, by rw [E3.out]; exact ha2, k187, k188, lo189⟩
                        case measure => omega
                      · have E3 := hid (show sumN false X Z C (4 * 0 + 2 * 1 + (1 + 1)) = ((true, (sumN false X Z C (4 * 0 + 2 * 1 + 1)).1.2), ((sumN false X Z C (4 * 0 + 2 * 1 + 1)).2.1, true)) from E2.out)
                        go_upto_region 18 with fail
                        refine wp_region_lit ?_
                        try simp only [Act.put, List.setIfInBounds_toArray, List.set_cons_succ, List.set_cons_zero]
                        refine wpl_run rfl (.int .i64 0) xw160 (by kernel_rfl) ?_; simp only [Act.put, List.setIfInBounds_toArray, List.set_cons_succ, List.set_cons_zero]
                        refine wpl_run rfl (.int .i64 1) xw160 (by kernel_rfl) ?_; simp only [Act.put, List.setIfInBounds_toArray, List.set_cons_succ, List.set_cons_zero]
                        refine wpl_run rfl (.int .i64 1) xw160 (by kernel_rfl) ?_; simp only [Act.put, List.setIfInBounds_toArray, List.set_cons_succ, List.set_cons_zero]
                        refine wpl_run rfl (.int .i64 1) xw160 (by kernel_rfl) ?_; simp only [Act.put, List.setIfInBounds_toArray, List.set_cons_succ, List.set_cons_zero]
                        refine wpl_run rfl (.int .i64 2) xw160 (by kernel_rfl) ?_; simp only [Act.put, List.setIfInBounds_toArray, List.set_cons_succ, List.set_cons_zero]
                        refine wpl_run rfl (.int .i64 2) xw160 (by kernel_rfl) ?_; simp only [Act.put, List.setIfInBounds_toArray, List.set_cons_succ, List.set_cons_zero]
                        go_upto_region 21 with fail
                        refine wp_region_lit ?_
                        try simp only [Act.put, List.setIfInBounds_toArray, List.set_cons_succ, List.set_cons_zero]
                        refine wpl_run rfl (.int .i64 2) xw160 (by kernel_rfl) ?_; simp only [Act.put, List.setIfInBounds_toArray, List.set_cons_succ, List.set_cons_zero]
                        refine wpl_run rfl (.int .i64 0) xw160 (by kernel_rfl) ?_; simp only [Act.put, List.setIfInBounds_toArray, List.set_cons_succ, List.set_cons_zero]
                        refine wpl_run rfl (.pointer (some ⟨b_xw39, 0, none⟩)) xw160 (by kernel_rfl) ?_; simp only [Act.put, List.setIfInBounds_toArray, List.set_cons_succ, List.set_cons_zero]
                        refine wpl_set rfl 4 (.tmp 71) (.const (.bool true)) rfl b_xw39 0 rfl _ rfl sz1b rfl rfl 58 2 _ k167 (by omega) ?_
                        intro wha1 tha1 ha1_
                        have ha1 : Has wha1 b_xw39 58 2 (bC (true, (sumN false X Z C (4 * 0 + 2 * 1 + 1)).1.2)) := ha1_.congr (fun j hj => set_bC _ 0 (by omega) j hj)
                        have k172 := k162.touch tha1 (by omega)
                        have k173 := k163.touch tha1 (by omega)
                        have k174 := k164.touch tha1 (by omega)
                        have k175 := k165.touch tha1 (by omega)
                        have k176 := k166.touch tha1 (by omega)
                        have k177 := k168.touch tha1 (by omega)
                        have k178 := k169.touch tha1 (by omega)
                        have k179 := k170.touch tha1 (by omega)
                        have lo180 := tha1.below lo171 (by omega)
                        go_upto_region 24 with fail
                        refine wp_region_lit ?_
                        try simp only [Act.put, List.setIfInBounds_toArray, List.set_cons_succ, List.set_cons_zero]
                        refine wpl_run rfl (.int .i64 2) wha1 (by kernel_rfl) ?_; simp only [Act.put, List.setIfInBounds_toArray, List.set_cons_succ, List.set_cons_zero]
                        refine wpl_run rfl (.int .i64 1) wha1 (by kernel_rfl) ?_; simp only [Act.put, List.setIfInBounds_toArray, List.set_cons_succ, List.set_cons_zero]
                        refine wpl_run rfl (.pointer (some ⟨b_xw47, 1, none⟩)) wha1 (by kernel_rfl) ?_; simp only [Act.put, List.setIfInBounds_toArray, List.set_cons_succ, List.set_cons_zero]
                        refine wpl_set rfl 4 (.tmp 83) (.const (.bool true)) rfl b_xw47 1 rfl _ rfl sz1b rfl rfl 58 2 _ k177 (by omega) ?_
                        intro wha2 tha2 ha2_
                        have ha2 : Has wha2 b_xw47 58 2 (bC ((sumN false X Z C (4 * 0 + 2 * 1 + 1)).2.1, true)) := ha2_.congr (fun j hj => set_bC _ 1 (by omega) j hj)
                        have k181 := k172.touch tha2 (by omega)
                        have k182 := k173.touch tha2 (by omega)
                        have k183 := k174.touch tha2 (by omega)
                        have k184 := k175.touch tha2 (by omega)
                        have k185 := k176.touch tha2 (by omega)
                        have k186 := ha1.touch tha2 (by omega)
                        have k187 := k178.touch tha2 (by omega)
                        have k188 := k179.touch tha2 (by omega)
                        have lo189 := tha2.below lo180 (by omega)
                        go_wp2_with fail
                        go_roundg (2 - (1 + 1))
                        case rel => exact ⟨1 + 1, by omega, rfl, by simp, k181, k182, k183, k184, k185, by rw [E3.out]; exact k186, by rw [E3.out]; exact ha2, k187, k188, lo189⟩
                        case measure => omega
                      · have E3 := hid (show sumN false X Z C (4 * 1 + 2 * 0 + (0 + 1)) = (((sumN false X Z C (4 * 1 + 2 * 0 + 0)).1.1, true), (true, (sumN false X Z C (4 * 1 + 2 * 0 + 0)).2.2)) from E2.out)
                        go_upto_region 18 with fail
                        refine wp_region_lit ?_
                        try simp only [Act.put, List.setIfInBounds_toArray, List.set_cons_succ, List.set_cons_zero]
                        refine wpl_run rfl (.int .i64 1) xw160 (by kernel_rfl) ?_; simp only [Act.put, List.setIfInBounds_toArray, List.set_cons_succ, List.set_cons_zero]
                        refine wpl_run rfl (.int .i64 0) xw160 (by kernel_rfl) ?_; simp only [Act.put, List.setIfInBounds_toArray, List.set_cons_succ, List.set_cons_zero]
                        refine wpl_run rfl (.int .i64 1) xw160 (by kernel_rfl) ?_; simp only [Act.put, List.setIfInBounds_toArray, List.set_cons_succ, List.set_cons_zero]
                        refine wpl_run rfl (.int .i64 0) xw160 (by kernel_rfl) ?_; simp only [Act.put, List.setIfInBounds_toArray, List.set_cons_succ, List.set_cons_zero]
                        refine wpl_run rfl (.int .i64 1) xw160 (by kernel_rfl) ?_; simp only [Act.put, List.setIfInBounds_toArray, List.set_cons_succ, List.set_cons_zero]
                        refine wpl_run rfl (.int .i64 1) xw160 (by kernel_rfl) ?_; simp only [Act.put, List.setIfInBounds_toArray, List.set_cons_succ, List.set_cons_zero]
                        go_upto_region 21 with fail
                        refine wp_region_lit ?_
                        try simp only [Act.put, List.setIfInBounds_toArray, List.set_cons_succ, List.set_cons_zero]
                        refine wpl_run rfl (.int .i64 1) xw160 (by kernel_rfl) ?_; simp only [Act.put, List.setIfInBounds_toArray, List.set_cons_succ, List.set_cons_zero]
                        refine wpl_run rfl (.int .i64 1) xw160 (by kernel_rfl) ?_; simp only [Act.put, List.setIfInBounds_toArray, List.set_cons_succ, List.set_cons_zero]
                        refine wpl_run rfl (.pointer (some ⟨b_xw39, 1, none⟩)) xw160 (by kernel_rfl) ?_; simp only [Act.put, List.setIfInBounds_toArray, List.set_cons_succ, List.set_cons_zero]
                        refine wpl_set rfl 4 (.tmp 71) (.const (.bool true)) rfl b_xw39 1 rfl _ rfl sz1b rfl rfl 58 2 _ k167 (by omega) ?_
                        intro wha1 tha1 ha1_
                        have ha1 : Has wha1 b_xw39 58 2 (bC ((sumN false X Z C (4 * 1 + 2 * 0 + 0)).1.1, true)) := ha1_.congr (fun j hj => set_bC _ 1 (by omega) j hj)
                        have k172 := k162.touch tha1 (by omega)
                        have k173 := k163.touch tha1 (by omega)
                        have k174 := k164.touch tha1 (by omega)
                        have k175 := k165.touch tha1 (by omega)
                        have k176 := k166.touch tha1 (by omega)
                        have k177 := k168.touch tha1 (by omega)
                        have k178 := k169.touch tha1 (by omega)
                        have k179 := k170.touch tha1 (by omega)
                        have lo180 := tha1.below lo171 (by omega)
                        go_upto_region 24 with fail
                        refine wp_region_lit ?_
                        try simp only [Act.put, List.setIfInBounds_toArray, List.set_cons_succ, List.set_cons_zero]
                        refine wpl_run rfl (.int .i64 1) wha1 (by kernel_rfl) ?_; simp only [Act.put, List.setIfInBounds_toArray, List.set_cons_succ, List.set_cons_zero]
                        refine wpl_run rfl (.int .i64 0) wha1 (by kernel_rfl) ?_; simp only [Act.put, List.setIfInBounds_toArray, List.set_cons_succ, List.set_cons_zero]
                        refine wpl_run rfl (.pointer (some ⟨b_xw47, 0, none⟩)) wha1 (by kernel_rfl) ?_; simp only [Act.put, List.setIfInBounds_toArray, List.set_cons_succ, List.set_cons_zero]
                        refine wpl_set rfl 4 (.tmp 83) (.const (.bool true)) rfl b_xw47 0 rfl _ rfl sz1b rfl rfl 58 2 _ k177 (by omega) ?_
                        intro wha2 tha2 ha2_
                        have ha2 : Has wha2 b_xw47 58 2 (bC (true, (sumN false X Z C (4 * 1 + 2 * 0 + 0)).2.2)) := ha2_.congr (fun j hj => set_bC _ 0 (by omega) j hj)
                        have k181 := k172.touch tha2 (by omega)
                        have k182 := k173.touch tha2 (by omega)
                        have k183 := k174.touch tha2 (by omega)
                        have k184 := k175.touch tha2 (by omega)
                        have k185 := k176.touch tha2 (by omega)
                        have k186 := ha1.touch tha2 (by omega)
                        have k187 := k178.touch tha2 (by omega)
                        have k188 := k179.touch tha2 (by omega)
                        have lo189 := tha2.below lo180 (by omega)
                        go_wp2_with fail
                        go_roundg (2 - (0 + 1))
                        case rel => exact ⟨0 + 1, by omega, rfl, by simp, k181, k182, k183, k184, k185, by rw [E3.out]; exact k186, by rw [E3.out]; exact ha2, k187, k188, lo189⟩
                        case measure => omega
                      · have E3 := hid (show sumN false X Z C (4 * 1 + 2 * 0 + (1 + 1)) = ((true, (sumN false X Z C (4 * 1 + 2 * 0 + 1)).1.2), ((sumN false X Z C (4 * 1 + 2 * 0 + 1)).2.1, true)) from E2.out)
                        go_upto_region 18 with fail
                        refine wp_region_lit ?_
                        try simp only [Act.put, List.setIfInBounds_toArray, List.set_cons_succ, List.set_cons_zero]
                        refine wpl_run rfl (.int .i64 1) xw160 (by kernel_rfl) ?_; simp only [Act.put, List.setIfInBounds_toArray, List.set_cons_succ, List.set_cons_zero]
                        refine wpl_run rfl (.int .i64 0) xw160 (by kernel_rfl) ?_; simp only [Act.put, List.setIfInBounds_toArray, List.set_cons_succ, List.set_cons_zero]
                        refine wpl_run rfl (.int .i64 1) xw160 (by kernel_rfl) ?_; simp only [Act.put, List.setIfInBounds_toArray, List.set_cons_succ, List.set_cons_zero]
                        refine wpl_run rfl (.int .i64 1) xw160 (by kernel_rfl) ?_; simp only [Act.put, List.setIfInBounds_toArray, List.set_cons_succ, List.set_cons_zero]
                        refine wpl_run rfl (.int .i64 2) xw160 (by kernel_rfl) ?_; simp only [Act.put, List.setIfInBounds_toArray, List.set_cons_succ, List.set_cons_zero]
                        refine wpl_run rfl (.int .i64 2) xw160 (by kernel_rfl) ?_; simp only [Act.put, List.setIfInBounds_toArray, List.set_cons_succ, List.set_cons_zero]
                        go_upto_region 21 with fail
                        refine wp_region_lit ?_
                        try simp only [Act.put, List.setIfInBounds_toArray, List.set_cons_succ, List.set_cons_zero]
                        refine wpl_run rfl (.int .i64 2) xw160 (by kernel_rfl) ?_; simp only [Act.put, List.setIfInBounds_toArray, List.set_cons_succ, List.set_cons_zero]
                        refine wpl_run rfl (.int .i64 0) xw160 (by kernel_rfl) ?_; simp only [Act.put, List.setIfInBounds_toArray, List.set_cons_succ, List.set_cons_zero]
                        refine wpl_run rfl (.pointer (some ⟨b_xw39, 0, none⟩)) xw160 (by kernel_rfl) ?_; simp only [Act.put, List.setIfInBounds_toArray, List.set_cons_succ, List.set_cons_zero]
                        refine wpl_set rfl 4 (.tmp 71) (.const (.bool true)) rfl b_xw39 0 rfl _ rfl sz1b rfl rfl 58 2 _ k167 (by omega) ?_
                        intro wha1 tha1 ha1_
                        have ha1 : Has wha1 b_xw39 58 2 (bC (true, (sumN false X Z C (4 * 1 + 2 * 0 + 1)).1.2)) := ha1_.congr (fun j hj => set_bC _ 0 (by omega) j hj)
                        have k172 := k162.touch tha1 (by omega)
                        have k173 := k163.touch tha1 (by omega)
                        have k174 := k164.touch tha1 (by omega)
                        have k175 := k165.touch tha1 (by omega)
                        have k176 := k166.touch tha1 (by omega)
                        have k177 := k168.touch tha1 (by omega)
                        have k178 := k169.touch tha1 (by omega)
                        have k179 := k170.touch tha1 (by omega)
                        have lo180 := tha1.below lo171 (by omega)
                        go_upto_region 24 with fail
                        refine wp_region_lit ?_
                        try simp only [Act.put, List.setIfInBounds_toArray, List.set_cons_succ, List.set_cons_zero]
                        refine wpl_run rfl (.int .i64 2) wha1 (by kernel_rfl) ?_; simp only [Act.put, List.setIfInBounds_toArray, List.set_cons_succ, List.set_cons_zero]
                        refine wpl_run rfl (.int .i64 1) wha1 (by kernel_rfl) ?_; simp only [Act.put, List.setIfInBounds_toArray, List.set_cons_succ, List.set_cons_zero]
                        refine wpl_run rfl (.pointer (some ⟨b_xw47, 1, none⟩)) wha1 (by kernel_rfl) ?_; simp only [Act.put, List.setIfInBounds_toArray, List.set_cons_succ, List.set_cons_zero]
                        refine wpl_set rfl 4 (.tmp 83) (.const (.bool true)) rfl b_xw47 1 rfl _ rfl sz1b rfl rfl 58 2 _ k177 (by omega) ?_
                        intro wha2 tha2 ha2_
                        have ha2 : Has wha2 b_xw47 58 2 (bC ((sumN false X Z C (4 * 1 + 2 * 0 + 1)).2.1, true)) := ha2_.congr (fun j hj => set_bC _ 1 (by omega) j hj)
                        have k181 := k172.touch tha2 (by omega)
                        have k182 := k173.touch tha2 (by omega)
                        have k183 := k174.touch tha2 (by omega)
                        have k184 := k175.touch tha2 (by omega)
                        have k185 := k176.touch tha2 (by omega)
                        have k186 := ha1.touch tha2 (by omega)
                        have k187 := k178.touch tha2 (by omega)
                        have k188 := k179.touch tha2 (by omega)
                        have lo189 := tha2.below lo180 (by omega)
                        go_wp2_with fail
                        go_roundg (2 - (1 + 1))
                        case rel => exact ⟨1 + 1, by omega, rfl, by simp, k181, k182, k183, k184, k185, by rw [E3.out]; exact k186, by rw [E3.out]; exact ha2, k187, k188, lo189⟩
                        case measure => omega
                      · have E3 := hid (show sumN false X Z C (4 * 1 + 2 * 1 + (0 + 1)) = ((true, (sumN false X Z C (4 * 1 + 2 * 1 + 0)).1.2), ((sumN false X Z C (4 * 1 + 2 * 1 + 0)).2.1, true)) from E2.out)
                        go_upto_region 18 with fail
                        refine wp_region_lit ?_
                        try simp only [Act.put, List.setIfInBounds_toArray, List.set_cons_succ, List.set_cons_zero]
                        refine wpl_run rfl (.int .i64 1) xw160 (by kernel_rfl) ?_; simp only [Act.put, List.setIfInBounds_toArray, List.set_cons_succ, List.set_cons_zero]
                        refine wpl_run rfl (.int .i64 1) xw160 (by kernel_rfl) ?_; simp only [Act.put, List.setIfInBounds_toArray, List.set_cons_succ, List.set_cons_zero]
                        refine wpl_run rfl (.int .i64 2) xw160 (by kernel_rfl) ?_; simp only [Act.put, List.setIfInBounds_toArray, List.set_cons_succ, List.set_cons_zero]
                        refine wpl_run rfl (.int .i64 0) xw160 (by kernel_rfl) ?_; simp only [Act.put, List.setIfInBounds_toArray, List.set_cons_succ, List.set_cons_zero]
                        refine wpl_run rfl (.int .i64 2) xw160 (by kernel_rfl) ?_; simp only [Act.put, List.setIfInBounds_toArray, List.set_cons_succ, List.set_cons_zero]
                        refine wpl_run rfl (.int .i64 2) xw160 (by kernel_rfl) ?_; simp only [Act.put, List.setIfInBounds_toArray, List.set_cons_succ, List.set_cons_zero]
                        go_upto_region 21 with fail
                        refine wp_region_lit ?_
                        try simp only [Act.put, List.setIfInBounds_toArray, List.set_cons_succ, List.set_cons_zero]
                        refine wpl_run rfl (.int .i64 2) xw160 (by kernel_rfl) ?_; simp only [Act.put, List.setIfInBounds_toArray, List.set_cons_succ, List.set_cons_zero]
                        refine wpl_run rfl (.int .i64 0) xw160 (by kernel_rfl) ?_; simp only [Act.put, List.setIfInBounds_toArray, List.set_cons_succ, List.set_cons_zero]
                        refine wpl_run rfl (.pointer (some ⟨b_xw39, 0, none⟩)) xw160 (by kernel_rfl) ?_; simp only [Act.put, List.setIfInBounds_toArray, List.set_cons_succ, List.set_cons_zero]
                        refine wpl_set rfl 4 (.tmp 71) (.const (.bool true)) rfl b_xw39 0 rfl _ rfl sz1b rfl rfl 58 2 _ k167 (by omega) ?_
                        intro wha1 tha1 ha1_
                        have ha1 : Has wha1 b_xw39 58 2 (bC (true, (sumN false X Z C (4 * 1 + 2 * 1 + 0)).1.2)) := ha1_.congr (fun j hj => set_bC _ 0 (by omega) j hj)
                        have k172 := k162.touch tha1 (by omega)
                        have k173 := k163.touch tha1 (by omega)
                        have k174 := k164.touch tha1 (by omega)
                        have k175 := k165.touch tha1 (by omega)
                        have k176 := k166.touch tha1 (by omega)
                        have k177 := k168.touch tha1 (by omega)
                        have k178 := k169.touch tha1 (by omega)
                        have k179 := k170.touch tha1 (by omega)
                        have lo180 := tha1.below lo171 (by omega)
                        go_upto_region 24 with fail
                        refine wp_region_lit ?_
                        try simp only [Act.put, List.setIfInBounds_toArray, List.set_cons_succ, List.set_cons_zero]
                        refine wpl_run rfl (.int .i64 2) wha1 (by kernel_rfl) ?_; simp only [Act.put, List.setIfInBounds_toArray, List.set_cons_succ, List.set_cons_zero]
                        refine wpl_run rfl (.int .i64 1) wha1 (by kernel_rfl) ?_; simp only [Act.put, List.setIfInBounds_toArray, List.set_cons_succ, List.set_cons_zero]
                        refine wpl_run rfl (.pointer (some ⟨b_xw47, 1, none⟩)) wha1 (by kernel_rfl) ?_; simp only [Act.put, List.setIfInBounds_toArray, List.set_cons_succ, List.set_cons_zero]
                        refine wpl_set rfl 4 (.tmp 83) (.const (.bool true)) rfl b_xw47 1 rfl _ rfl sz1b rfl rfl 58 2 _ k177 (by omega) ?_
                        intro wha2 tha2 ha2_
                        have ha2 : Has wha2 b_xw47 58 2 (bC ((sumN false X Z C (4 * 1 + 2 * 1 + 0)).2.1, true)) := ha2_.congr (fun j hj => set_bC _ 1 (by omega) j hj)
                        have k181 := k172.touch tha2 (by omega)
                        have k182 := k173.touch tha2 (by omega)
                        have k183 := k174.touch tha2 (by omega)
                        have k184 := k175.touch tha2 (by omega)
                        have k185 := k176.touch tha2 (by omega)
                        have k186 := ha1.touch tha2 (by omega)
                        have k187 := k178.touch tha2 (by omega)
                        have k188 := k179.touch tha2 (by omega)
                        have lo189 := tha2.below lo180 (by omega)
                        go_wp2_with fail
                        go_roundg (2 - (0 + 1))
                        case rel => exact ⟨0 + 1, by omega, rfl, by simp, k181, k182, k183, k184, k185, by rw [E3.out]; exact k186, by rw [E3.out]; exact ha2, k187, k188, lo189⟩
                        case measure => omega
                      · have E3 := hid (show sumN false X Z C (4 * 1 + 2 * 1 + (1 + 1)) = (((sumN false X Z C (4 * 1 + 2 * 1 + 1)).1.1, true), ((sumN false X Z C (4 * 1 + 2 * 1 + 1)).2.1, true)) from E2.out)
                        go_upto_region 18 with fail
                        refine wp_region_lit ?_
                        try simp only [Act.put, List.setIfInBounds_toArray, List.set_cons_succ, List.set_cons_zero]
                        refine wpl_run rfl (.int .i64 1) xw160 (by kernel_rfl) ?_; simp only [Act.put, List.setIfInBounds_toArray, List.set_cons_succ, List.set_cons_zero]
                        refine wpl_run rfl (.int .i64 1) xw160 (by kernel_rfl) ?_; simp only [Act.put, List.setIfInBounds_toArray, List.set_cons_succ, List.set_cons_zero]
                        refine wpl_run rfl (.int .i64 2) xw160 (by kernel_rfl) ?_; simp only [Act.put, List.setIfInBounds_toArray, List.set_cons_succ, List.set_cons_zero]
                        refine wpl_run rfl (.int .i64 1) xw160 (by kernel_rfl) ?_; simp only [Act.put, List.setIfInBounds_toArray, List.set_cons_succ, List.set_cons_zero]
                        refine wpl_run rfl (.int .i64 3) xw160 (by kernel_rfl) ?_; simp only [Act.put, List.setIfInBounds_toArray, List.set_cons_succ, List.set_cons_zero]
                        refine wpl_run rfl (.int .i64 3) xw160 (by kernel_rfl) ?_; simp only [Act.put, List.setIfInBounds_toArray, List.set_cons_succ, List.set_cons_zero]
                        go_upto_region 21 with fail
                        refine wp_region_lit ?_
                        try simp only [Act.put, List.setIfInBounds_toArray, List.set_cons_succ, List.set_cons_zero]
                        refine wpl_run rfl (.int .i64 3) xw160 (by kernel_rfl) ?_; simp only [Act.put, List.setIfInBounds_toArray, List.set_cons_succ, List.set_cons_zero]
                        refine wpl_run rfl (.int .i64 1) xw160 (by kernel_rfl) ?_; simp only [Act.put, List.setIfInBounds_toArray, List.set_cons_succ, List.set_cons_zero]
                        refine wpl_run rfl (.pointer (some ⟨b_xw39, 1, none⟩)) xw160 (by kernel_rfl) ?_; simp only [Act.put, List.setIfInBounds_toArray, List.set_cons_succ, List.set_cons_zero]
                        refine wpl_set rfl 4 (.tmp 71) (.const (.bool true)) rfl b_xw39 1 rfl _ rfl sz1b rfl rfl 58 2 _ k167 (by omega) ?_
                        intro wha1 tha1 ha1_
                        have ha1 : Has wha1 b_xw39 58 2 (bC ((sumN false X Z C (4 * 1 + 2 * 1 + 1)).1.1, true)) := ha1_.congr (fun j hj => set_bC _ 1 (by omega) j hj)
                        have k172 := k162.touch tha1 (by omega)
                        have k173 := k163.touch tha1 (by omega)
                        have k174 := k164.touch tha1 (by omega)
                        have k175 := k165.touch tha1 (by omega)
                        have k176 := k166.touch tha1 (by omega)
                        have k177 := k168.touch tha1 (by omega)
                        have k178 := k169.touch tha1 (by omega)
                        have k179 := k170.touch tha1 (by omega)
                        have lo180 := tha1.below lo171 (by omega)
                        go_upto_region 24 with fail
                        refine wp_region_lit ?_
                        try simp only [Act.put, List.setIfInBounds_toArray, List.set_cons_succ, List.set_cons_zero]
                        refine wpl_run rfl (.int .i64 3) wha1 (by kernel_rfl) ?_; simp only [Act.put, List.setIfInBounds_toArray, List.set_cons_succ, List.set_cons_zero]
                        refine wpl_run rfl (.int .i64 1) wha1 (by kernel_rfl) ?_; simp only [Act.put, List.setIfInBounds_toArray, List.set_cons_succ, List.set_cons_zero]
                        refine wpl_run rfl (.pointer (some ⟨b_xw47, 1, none⟩)) wha1 (by kernel_rfl) ?_; simp only [Act.put, List.setIfInBounds_toArray, List.set_cons_succ, List.set_cons_zero]
                        refine wpl_set rfl 4 (.tmp 83) (.const (.bool true)) rfl b_xw47 1 rfl _ rfl sz1b rfl rfl 58 2 _ k177 (by omega) ?_
                        intro wha2 tha2 ha2_
                        have ha2 : Has wha2 b_xw47 58 2 (bC ((sumN false X Z C (4 * 1 + 2 * 1 + 1)).2.1, true)) := ha2_.congr (fun j hj => set_bC _ 1 (by omega) j hj)
                        have k181 := k172.touch tha2 (by omega)
                        have k182 := k173.touch tha2 (by omega)
                        have k183 := k174.touch tha2 (by omega)
                        have k184 := k175.touch tha2 (by omega)
                        have k185 := k176.touch tha2 (by omega)
                        have k186 := ha1.touch tha2 (by omega)
                        have k187 := k178.touch tha2 (by omega)
                        have k188 := k179.touch tha2 (by omega)
                        have lo189 := tha2.below lo180 (by omega)
                        go_wp2_with fail
                        go_roundg (2 - (1 + 1))
                        case rel => exact ⟨1 + 1, by omega, rfl, by simp, k181, k182, k183, k184, k185, by rw [E3.out]; exact k186, by rw [E3.out]; exact ha2, k187, k188, lo189⟩
                        case measure => omega
                  · have e2_ : r = 2 := by omega
                    subst e2_
                    have n2_ : ¬ ((2 : Nat) : Int) < 2 := by omega
                    go_wp2_with fail
                    go_roundg (2 - (q + 1))
                    case rel => exact ⟨q + 1, by omega, rfl, by simp, k140, k141, k142, k143, k144, by rw [show 4 * p + 2 * (q + 1) = 4 * p + 2 * q + 2 from by omega]; exact k145, by rw [show 4 * p + 2 * (q + 1) = 4 * p + 2 * q + 2 from by omega]; exact k146, k147, k148, lo149⟩
                    case measure => omega
              · have e2_ : q = 2 := by omega
                subst e2_
                have n2_ : ¬ ((2 : Nat) : Int) < 2 := by omega
                go_wp2_with fail
                go_roundg (2 - (p + 1))
                case rel => exact ⟨p + 1, by omega, rfl, by simp, k120, k121, k122, k123, k124, by rw [show 4 * (p + 1) = 4 * p + 2 * 2 from by omega]; exact k125, by rw [show 4 * (p + 1) = 4 * p + 2 * 2 from by omega]; exact k126, k127, k128, lo129⟩
                case measure => omega
          · have ep2 : p = 2 := by omega
            subst ep2
            have p2 : ¬ ((2 : Nat) : Int) < 2 := by omega
            go_upto_region 25 with fail
            refine wp_region_lit ?_
            try simp only [Act.put, List.setIfInBounds_toArray, List.set_cons_succ, List.set_cons_zero]
            refine wpl_run rfl (Value.agg (cellsOf (nC (rN y k)) 2)) _ (run_rw 24 (.tmp 7) rfl b_xw4 rfl 24 2 _ k103 undU szU) ?_; simp only [Act.put, List.setIfInBounds_toArray, List.set_cons_succ, List.set_cons_zero]
            refine wpl_run rfl (Value.int .i64 (k : Int)) _ (run_mv (x := (.tmp 9)) rfl _ rfl) ?_; simp only [Act.put, List.setIfInBounds_toArray, List.set_cons_succ, List.set_cons_zero]
            refine wpl_run rfl (Value.agg (cellsOf (bC (sumN false X Z C (8)).1) 2)) _ (run_rw 58 (.tmp 10) rfl b_xw39 rfl 58 2 _ k105 undB szB) ?_; simp only [Act.put, List.setIfInBounds_toArray, List.set_cons_succ, List.set_cons_zero]
            refine wpl_cl rfl 40 _ _ rfl #[(Value.agg (cellsOf (nC (rN y k)) 2)), (Value.int .i64 (k : Int)), (Value.agg (cellsOf (bC (sumN false X Z C (8)).1) 2))] (by simp only [List.map_toArray, List.map_cons, List.map_nil]; rfl) (by kernel_rfl) (Value.agg (cellsOf (nC (rSet (rN y k) k (sumN false X Z C (8)).1)) 2)) (Set_any (rN y k) k (sumN false X Z C (8)).1 wr M110 hM110) ?_
            intro xw120 hbxw120; simp only [Act.put, List.setIfInBounds_toArray, List.set_cons_succ, List.set_cons_zero]
            obtain ⟨M121, hM121⟩ := sz_some xw120
            have lM121 := below_sz hbxw120 hM110 hM121
            have k122 := k100.below hbxw120 (by omega)
            have k123 := k101.below hbxw120 (by omega)
            have k124 := k102.below hbxw120 (by omega)
            have k125 := k103.below hbxw120 (by omega)
            have k126 := k104.below hbxw120 (by omega)
            have k127 := k105.below hbxw120 (by omega)
            have k128 := k106.below hbxw120 (by omega)
            have k129 := k107.below hbxw120 (by omega)
            have k130 := k108.below hbxw120 (by omega)
            have lo131 := lo109.trans (hbxw120.mono (by omega))
            clear k100 k101 k102 k103 k104 k105 k106 k107 k108 lo109 hbxw120
            refine wpl_store rfl 24 (.tmp 7) (.tmp 87) rfl b_xw4 2 (nC (rSet (rN y k) k (sumN false X Z C (8)).1)) rfl rfl 24 _ k125 szU (fun j _ => nC_one _ j) ?_
            intro xw132 t133 k134; simp only [Act.put, List.setIfInBounds_toArray, List.set_cons_succ, List.set_cons_zero]
            have k135 := k122.touch t133 (by omega)
            have k136 := k123.touch t133 (by omega)
            have k137 := k124.touch t133 (by omega)
            have k138 := k126.touch t133 (by omega)
            have k139 := k127.touch t133 (by omega)
            have k140 := k128.touch t133 (by omega)
            have k141 := k129.touch t133 (by omega)
            have k142 := k130.touch t133 (by omega)
            have lo143 := t133.below lo131 (by omega)
            have h144 := t133.sz hM121
            clear k125 k122 k123 k124 k126 k127 k128 k129 k130 lo131 hM121 t133
            go_upto_region 26 with fail
            refine wp_region_lit ?_
            try simp only [Act.put, List.setIfInBounds_toArray, List.set_cons_succ, List.set_cons_zero]
            refine wpl_run rfl (Value.agg (cellsOf (bC (sumN false X Z C (8)).2) 2)) _ (run_rw 58 (.tmp 11) rfl b_xw47 rfl 58 2 _ k140 undB szB) ?_; simp only [Act.put, List.setIfInBounds_toArray, List.set_cons_succ, List.set_cons_zero]
            refine wpl_store rfl 58 (.tmp 8) (.tmp 88) rfl b_xw10 2 (bC (sumN false X Z C (8)).2) rfl rfl 58 _ k138 szB (fun j _ => bC_one _ j) ?_
            intro xw145 t146 k147; simp only [Act.put, List.setIfInBounds_toArray, List.set_cons_succ, List.set_cons_zero]
            have k148 := k135.touch t146 (by omega)
            have k149 := k136.touch t146 (by omega)
            have k150 := k137.touch t146 (by omega)
            have k151 := k134.touch t146 (by omega)
            have k152 := k139.touch t146 (by omega)
            have k153 := k140.touch t146 (by omega)
            have k154 := k141.touch t146 (by omega)
            have k155 := k142.touch t146 (by omega)
            have lo156 := t146.below lo143 (by omega)
            have h157 := t146.sz h144
            clear k138 k135 k136 k137 k134 k139 k140 k141 k142 lo143 h144 t146
            go_wp2_with fail
            go_roundg (64 - (k + 1))
            case rel => exact ⟨k + 1, by omega, rfl, by simp, k148, k149, k150, by rw [E.out]; exact k151, by rw [EC.out]; exact k147, lo156⟩
            case measure => omega
    · have ek : k = 64 := by omega
      subst ek
      go_upto_region 27 with fail
      refine wp_region_lit ?_
      try simp only [Act.put, List.setIfInBounds_toArray, List.set_cons_succ, List.set_cons_zero]
      refine wpl_run rfl (Value.agg (cellsOf (nC (rN y 64)) 2)) _ (run_rw 24 (.tmp 7) rfl b_xw4 rfl 24 2 _ k30 undU szU) ?_; simp only [Act.put, List.setIfInBounds_toArray, List.set_cons_succ, List.set_cons_zero]
      refine wpl_store rfl 24 (.tmp 6) (.tmp 89) rfl (N + 1 + 1) 2 (nC (rN y 64)) rfl rfl 24 _ k29 szU (fun j _ => nC_one _ j) ?_
      intro xw39 t40 k41; simp only [Act.put, List.setIfInBounds_toArray, List.set_cons_succ, List.set_cons_zero]
      have k42 := k27.touch t40 (by omega)
      have k43 := k28.touch t40 (by omega)
      have k44 := k30.touch t40 (by omega)
      have k45 := k31.touch t40 (by omega)
      have lo46 := t40.below lo32 (by omega)
      have h47 := t40.sz hM33
      clear k29 k27 k28 k30 k31 lo32 hM33 t40
      go_wp2_with fail
      refine post_n rfl (N + 1 + 1) rfl k41 ⟨dU, u1, u2⟩ szU rfl ?_
      exact ⟨rfl, lo46⟩
end Go.Proofs.Ytbeikhokkpioeaa
