/- Claw: the walk. -/
import Derived.Test.YtbeikhokkpioeaaNh
import Derived.Test.YtbeikhokkpioeaaNme
import Derived.Test.YtbeikhokkpioeaaLex
namespace Go.Proofs.Ytbeikhokkpioeaa
open Go Go.RowKit
set_option maxRecDepth 100000 in
set_option maxHeartbeats 4000000 in
theorem law_consts (d : Nat → W) (z : Int) (w : World) (N : Nat) (hN : Sz w N) : Calls Try.prog 8 #[.agg (cellsOf (dC d) 2), .int .i64 z] w fun e w' => e = .returned (.bool true) ∧ Below N w w' := by
  cases hb : ((d 0) == (d 1))
  · have h0_ := hid (add_const (d 0) (d 1))
    have h1_ := hid (sub_const (d 0) (d 1))
    have h2_ := hid (and_const (d 0) (d 1))
    have h3_ := hid (or_const (d 0) (d 1))
    have h4_ := hid (xor_const (d 0) (d 1))
    have h5_ := hid (left_const (d 0) (rm z 64))
    have h6_ := hid (down_const (d 0) (rm z 64))
    have CM := fun w N hN => Meet_any (tConst (d 0)) (tConst (d 1)) w N hN
    rw [meet_const, hb] at CM
    generalize meetN (tConst (d 0)) (tConst (d 1)) = mm at CM
    have CJ := fun w N hN => Join_any (tConst (d 0)) (tConst (d 1)) w N hN
    have ej := join_const_m (d 0) (d 1)
    generalize tJoin (tConst (d 0)) (tConst (d 1)) = jj at CJ ej
    have h7_ : Hid ((jj.m == ((d 0) ^^^ (d 1))) = true) := hid (by rw [ej]; simp)
    have h8_ := hid hb
    clear ej hb
    go_enter Try.func8, Try.ntmps8
    unfold nV at CM CJ
    go_upto_region 1 with (first
      | (refine wpl_box rfl 36 (.tmp 0) rfl 2 _ rfl (N) hN ?_; intro w1 hN1 hb1 hh1)
      | fail)
    have lo0 : Below N w w1 := hb1
    have k1 := hh1
    clear hh1 hb1
    go_upto_region 1 with fail
    refine wp_region_any (by kernel_rfl) ?_
    replace k1 : Has w1.drew N 36 2 (dC d) := k1
    replace hN1 : Sz w1.drew (N + 1) := hN1
    replace lo0 : Below N w w1.drew := lo0.drew
    change wpAny _ _ _ _ _ _ _ (World.drew _)
    generalize w1.drew = xw2 at *
    obtain ⟨c3, c4⟩ := d_cells k1
    refine wpAny_pot (rem := [0, 1, 2, 3, 4, 5, 6, 7]) (FG (N + 1) (fun j => if j = 0 then some (Value.pointer (some ⟨N, 0, none⟩)) else if j = 1 then some (Q (d 0)) else if j = 2 then some (Value.agg (cellsOf (nC (tConst (d 0))) 2)) else if j = 3 then some (Value.pointer (some ⟨N, 1, none⟩)) else if j = 4 then some (Q (d 1)) else if j = 5 then some (Value.agg (cellsOf (nC (tConst (d 1))) 2)) else if j = 6 then none else none) (fun j => if j = 6 then (27, 2, nC zeroN) else (27, 2, nC zeroN))) (TwoN (fun j => if j = 0 then some (Value.pointer (some ⟨N, 0, none⟩)) else if j = 1 then some (Q (d 0)) else if j = 2 then some (Value.agg (cellsOf (nC (tConst (d 0))) 2)) else if j = 3 then some (Value.pointer (some ⟨N, 1, none⟩)) else if j = 4 then some (Q (d 1)) else if j = 5 then some (Value.agg (cellsOf (nC (tConst (d 1))) 2)) else if j = 6 then none else none)) (Below (N + 1) xw2) _ _ _ _ (by kernel_rfl) (size_dstG (by kernel_rfl)) (Below.refl _ _) ?_ ?_
    · intro i hi ac wa hI ha hv
      simp only [List.mem_cons, List.not_mem_nil, or_false] at hi
      rcases hi with rfl | rfl | rfl | rfl | rfl | rfl | rfl | rfl
      · exact potg_run rfl rfl (Value.pointer (some ⟨N, 0, none⟩)) rfl (run_ia 36 (.tmp 2) (.const (.int .i64 0)) 0 rfl (ha 2 (not_dstG (by kernel_rfl))) rfl iaD0) hN1 hI
      · obtain ⟨v0, hv0a, hv0b⟩ := hv 0 (by simp) (by kernel_rfl)
        have ev0 := hv0b.val rfl
        subst ev0
        exact potg_run rfl rfl (Q (d 0)) rfl (run_c1 22 (.tmp 11) rfl ⟨N, 0, none⟩ (hv0a 11 rfl) und64 rfl (keep_c hI hN1 c3)) hN1 hI
      · obtain ⟨v1, hv1a, hv1b⟩ := hv 1 (by simp) (by kernel_rfl)
        have ev1 := hv1b.val rfl
        subst ev1
        exact potg_cl rfl rfl 25 _ _ rfl #[(Q (d 0))] (by simp only [List.map_toArray, List.map_cons, List.map_nil, (show ac.eval (.tmp 12) = (Q (d 0)) from (hv1a 12 rfl))] <;> rfl) (by kernel_rfl) (Value.agg (cellsOf (nC (tConst (d 0))) 2)) (fun K hK => Const_any (d 0) wa K hK) rfl hN1 hI
      · exact potg_run rfl rfl (Value.pointer (some ⟨N, 1, none⟩)) rfl (run_ia 36 (.tmp 2) (.const (.int .i64 1)) 1 rfl (ha 2 (not_dstG (by kernel_rfl))) rfl iaD1) hN1 hI
      · obtain ⟨v3, hv3a, hv3b⟩ := hv 3 (by simp) (by kernel_rfl)
        have ev3 := hv3b.val rfl
        subst ev3
        exact potg_run rfl rfl (Q (d 1)) rfl (run_c1 22 (.tmp 14) rfl ⟨N, 1, none⟩ (hv3a 14 rfl) und64 rfl (keep_c hI hN1 c4)) hN1 hI
      · obtain ⟨v4, hv4a, hv4b⟩ := hv 4 (by simp) (by kernel_rfl)
        have ev4 := hv4b.val rfl
        subst ev4
        exact potg_cl rfl rfl 25 _ _ rfl #[(Q (d 1))] (by simp only [List.map_toArray, List.map_cons, List.map_nil, (show ac.eval (.tmp 15) = (Q (d 1)) from (hv4a 15 rfl))] <;> rfl) (by kernel_rfl) (Value.agg (cellsOf (nC (tConst (d 1))) 2)) (fun K hK => Const_any (d 1) wa K hK) rfl hN1 hI
      · exact potg_al rfl rfl rfl zeT rfl rfl hN1 hI
      · exact potg_al rfl rfl rfl zeT rfl rfl hN1 hI
    · intro vals w5_5_ hb5_5_ hF hG
      have e_5_0 := (hF 0 (by simp)).val rfl
      have e_5_1 := (hF 1 (by simp)).val rfl
      have e_5_2 := (hF 2 (by simp)).val rfl
      have e_5_3 := (hF 3 (by simp)).val rfl
      have e_5_4 := (hF 4 (by simp)).val rfl
      have e_5_5 := (hF 5 (by simp)).val rfl
      obtain ⟨b_5_6, l_5_6, e_5_6, h_5_6⟩ := (hF 6 (by simp)).al rfl rfl
      obtain ⟨b_5_7, l_5_7, e_5_7, h_5_7⟩ := (hF 7 (by simp)).al rfl rfl
      have n_5_6_7 := hG 6 (by simp) 7 (by simp) (by omega) rfl rfl b_5_6 b_5_7 e_5_6 e_5_7
      clear hF hG
      simp only [List.foldl_cons, List.foldl_nil, dstOf, List.getElem?_toArray, List.getElem?_cons_succ, List.getElem?_cons_zero, Option.bind_some, Act.put, List.setIfInBounds_toArray, List.set_cons_succ, List.set_cons_zero, e_5_0, e_5_1, e_5_2, e_5_3, e_5_4, e_5_5, e_5_6, e_5_7]
      clear e_5_0 e_5_1 e_5_2 e_5_3 e_5_4 e_5_5 e_5_6 e_5_7
      refine wpAny_chain [8, 9] _ _ _ _ (by kernel_rfl) (by decide) ?_
      simp only [List.filterMap_cons, List.filterMap_nil, List.getElem?_toArray, List.getElem?_cons_succ, List.getElem?_cons_zero]
      have k6 := k1.below hb5_5_ (by omega)
      have lo7 := lo0.trans (hb5_5_.mono (by omega))
      clear k1 c3 c4 lo0 hb5_5_
      refine wpl_store rfl 27 (.tmp 5) (.tmp 13) rfl b_5_6 2 (nC (tConst (d 0))) rfl rfl 27 _ h_5_6 szT (fun j _ => nC_one _ j) ?_
      intro xw8 t9 k10
      have k11 := k6.touch t9 (by omega)
      have k12 := h_5_7.touch t9 (by omega)
      have lo13 := t9.below lo7 (by omega)
      clear h_5_6 k6 h_5_7 lo7 t9
      refine wpl_store rfl 27 (.tmp 6) (.tmp 16) rfl b_5_7 2 (nC (tConst (d 1))) rfl rfl 27 _ k12 szT (fun j _ => nC_one _ j) ?_
      intro xw14 t15 k16
      have k17 := k11.touch t15 (by omega)
      have k18 := k10.touch t15 (by omega)
      have lo19 := t15.below lo13 (by omega)
      clear k12 k11 k10 lo13 t15
      obtain ⟨M20, hM20⟩ := sz_some xw14
      have lt_21 := k17.ltN hM20
      have lt_22 := k18.ltN hM20
      have lt_23 := k16.ltN hM20
      go_upto_region 2 with fail
      refine wp_region_later1 (M20) ?_
      try simp only [Act.put, List.setIfInBounds_toArray, List.set_cons_succ, List.set_cons_zero]
      go_big_quiet_step (fail)
      refine later_val (fun q => run_iu (x := (.tmp 17)) rfl undInt und64 rfl q.w') (by rfl) ?_; simp only [Act.put, List.setIfInBounds_toArray, List.set_cons_succ, List.set_cons_zero]
      refine later_b (x := (.tmp 18)) (y := (.const (.int .u64 64))) rfl (bin_rem _ (BitVec.ofInt 64 z) 64#64 (by decide)) rfl rfl (by rfl) ?_; simp only [Act.put, List.setIfInBounds_toArray, List.set_cons_succ, List.set_cons_zero]
      refine later_val (fun q => run_rm (x := (.tmp 19)) rfl und64 undInt (z := z) (m := 64) (by omega) rfl q.w') (by rfl) ?_; simp only [Act.put, List.setIfInBounds_toArray, List.set_cons_succ, List.set_cons_zero]
      go_big_quiet_step (fail)
      refine wpQuiet_nil ?_
      rintro xw24 ⟨qxw24, exw24⟩
      have hbxw24 := qxw24.b
      rw [← exw24] at hbxw24
      clear qxw24 exw24
      obtain ⟨M25, hM25⟩ := sz_some xw24
      have lM25 := below_sz hbxw24 hM20 hM25
      have k26 := k17.below hbxw24 (by omega)
      have k27 := k18.below hbxw24 (by omega)
      have k28 := k16.below hbxw24 (by omega)
      have lo29 := lo19.trans (hbxw24.mono (by omega))
      clear k17 k18 k16 lo19 hbxw24
      go_upto_region 3 with fail
      refine wp_region_lit ?_
      try simp only [Act.put, List.setIfInBounds_toArray, List.set_cons_succ, List.set_cons_zero]
      refine wpl_run rfl (Value.agg (cellsOf (nC (tConst (d 0))) 2)) _ (run_rw 27 (.tmp 5) rfl b_5_6 rfl 27 2 _ k27 undT szT) ?_; simp only [Act.put, List.setIfInBounds_toArray, List.set_cons_succ, List.set_cons_zero]
      refine wpl_run rfl (Value.agg (cellsOf (nC (tConst (d 1))) 2)) _ (run_rw 27 (.tmp 6) rfl b_5_7 rfl 27 2 _ k28 undT szT) ?_; simp only [Act.put, List.setIfInBounds_toArray, List.set_cons_succ, List.set_cons_zero]
      refine wpl_cl rfl 24 _ _ rfl #[(Value.agg (cellsOf (nC (tConst (d 0))) 2)), (Value.agg (cellsOf (nC (tConst (d 1))) 2))] (by simp only [List.map_toArray, List.map_cons, List.map_nil]; rfl) (by kernel_rfl) (Value.agg (cellsOf (nC jj) 2)) (CJ xw24 M25 hM25) ?_
      intro xw30 hbxw30; simp only [Act.put, List.setIfInBounds_toArray, List.set_cons_succ, List.set_cons_zero]
      obtain ⟨M31, hM31⟩ := sz_some xw30
      have lM31 := below_sz hbxw30 hM25 hM31
      have k32 := k26.below hbxw30 (by omega)
      have k33 := k27.below hbxw30 (by omega)
      have k34 := k28.below hbxw30 (by omega)
      have lo35 := lo29.trans (hbxw30.mono (by omega))
      clear k26 k27 k28 lo29 hbxw30
      obtain ⟨b_xw36, eb_xw36⟩ : ∃ b_xw36, b_xw36 = M31 := ⟨_, rfl⟩
      have hzb_xw36 : Sz xw30 b_xw36 := by rw [eb_xw36]; exact hM31
      have lob_xw36 : M31 ≤ b_xw36 := by omega
      have upb_xw36 : b_xw36 ≤ M31 := by omega
      clear eb_xw36
      refine wpl_alloc rfl 27 rfl 2 (nC zeroN) zeT b_xw36 hzb_xw36 ?_
      intro xw36 hMxw36 hbxw36 hhxw36; simp only [Act.put, List.setIfInBounds_toArray, List.set_cons_succ, List.set_cons_zero]
      have k37 := k32.below hbxw36 (by omega)
      have k38 := k33.below hbxw36 (by omega)
      have k39 := k34.below hbxw36 (by omega)
      have lo40 := lo35.trans (hbxw36.mono (by omega))
      clear k32 k33 k34 lo35 hbxw36 hzb_xw36
      obtain ⟨M41, eM41⟩ : ∃ M41, M41 = b_xw36 + 1 := ⟨_, rfl⟩
      rw [← eM41] at hMxw36
      have loM41 : b_xw36 + 1 ≤ M41 := by omega
      have upM41 : M41 ≤ b_xw36 + 1 := by omega
      clear eM41
      refine wpl_store rfl 27 (.tmp 8) (.tmp 23) rfl b_xw36 2 (nC jj) rfl rfl 27 _ hhxw36 szT (fun j _ => nC_one _ j) ?_
      intro xw42 t43 k44; simp only [Act.put, List.setIfInBounds_toArray, List.set_cons_succ, List.set_cons_zero]
      have k45 := k37.touch t43 (by omega)
      have k46 := k38.touch t43 (by omega)
      have k47 := k39.touch t43 (by omega)
      have lo48 := t43.below lo40 (by omega)
      have h49 := t43.sz hMxw36
      clear hhxw36 k37 k38 k39 lo40 hMxw36 t43
      go_upto_region 4 with fail
      refine wp_region_lit ?_
      try simp only [Act.put, List.setIfInBounds_toArray, List.set_cons_succ, List.set_cons_zero]
      refine wpl_run rfl (Value.agg (cellsOf (nC (tConst (d 0))) 2)) _ (run_rw 27 (.tmp 5) rfl b_5_6 rfl 27 2 _ k46 undT szT) ?_; simp only [Act.put, List.setIfInBounds_toArray, List.set_cons_succ, List.set_cons_zero]
      refine wpl_run rfl (Value.agg (cellsOf (nC (tConst (d 1))) 2)) _ (run_rw 27 (.tmp 6) rfl b_5_7 rfl 27 2 _ k47 undT szT) ?_; simp only [Act.put, List.setIfInBounds_toArray, List.set_cons_succ, List.set_cons_zero]
      refine wpl_cl rfl 31 _ _ rfl #[(Value.agg (cellsOf (nC (tConst (d 0))) 2)), (Value.agg (cellsOf (nC (tConst (d 1))) 2))] (by simp only [List.map_toArray, List.map_cons, List.map_nil]; rfl) (by kernel_rfl) (Value.tuple #[(Value.agg (cellsOf (nC mm) 2)), (Value.bool false)]) (CM xw42 M41 h49) ?_
      intro xw50 hbxw50; simp only [Act.put, List.setIfInBounds_toArray, List.set_cons_succ, List.set_cons_zero]
      obtain ⟨M51, hM51⟩ := sz_some xw50
      have lM51 := below_sz hbxw50 h49 hM51
      have k52 := k45.below hbxw50 (by omega)
      have k53 := k46.below hbxw50 (by omega)
      have k54 := k47.below hbxw50 (by omega)
      have k55 := k44.below hbxw50 (by omega)
      have lo56 := lo48.trans (hbxw50.mono (by omega))
      clear k45 k46 k47 k44 lo48 hbxw50
      refine wpl_run rfl (Value.tuple #[(Value.agg (cellsOf (nC mm) 2)), (Value.bool false)]) _ (run_mv (x := (.tmp 27)) rfl _ rfl) ?_; simp only [Act.put, List.setIfInBounds_toArray, List.set_cons_succ, List.set_cons_zero]
      refine wpl_run rfl (Value.agg (cellsOf (nC mm) 2)) _ (run_ex (x := (.tmp 24)) rfl _ rfl rfl) ?_; simp only [Act.put, List.setIfInBounds_toArray, List.set_cons_succ, List.set_cons_zero]
      refine wpl_run rfl (Value.bool false) _ (run_ex (x := (.tmp 24)) rfl _ rfl rfl) ?_; simp only [Act.put, List.setIfInBounds_toArray, List.set_cons_succ, List.set_cons_zero]
      obtain ⟨b_xw57, eb_xw57⟩ : ∃ b_xw57, b_xw57 = M51 := ⟨_, rfl⟩
      have hzb_xw57 : Sz xw50 b_xw57 := by rw [eb_xw57]; exact hM51
      have lob_xw57 : M51 ≤ b_xw57 := by omega
      have upb_xw57 : b_xw57 ≤ M51 := by omega
      clear eb_xw57
      refine wpl_alloc rfl 27 rfl 2 (nC zeroN) zeT b_xw57 hzb_xw57 ?_
      intro xw57 hMxw57 hbxw57 hhxw57; simp only [Act.put, List.setIfInBounds_toArray, List.set_cons_succ, List.set_cons_zero]
      have k58 := k52.below hbxw57 (by omega)
      have k59 := k53.below hbxw57 (by omega)
      have k60 := k54.below hbxw57 (by omega)
      have k61 := k55.below hbxw57 (by omega)
      have lo62 := lo56.trans (hbxw57.mono (by omega))
      clear k52 k53 k54 k55 lo56 hbxw57 hzb_xw57
      obtain ⟨M63, eM63⟩ : ∃ M63, M63 = b_xw57 + 1 := ⟨_, rfl⟩
      rw [← eM63] at hMxw57
      have loM63 : b_xw57 + 1 ≤ M63 := by omega
      have upM63 : M63 ≤ b_xw57 + 1 := by omega
      clear eM63
      refine wpl_store rfl 27 (.tmp 9) (.tmp 28) rfl b_xw57 2 (nC mm) rfl rfl 27 _ hhxw57 szT (fun j _ => nC_one _ j) ?_
      intro xw64 t65 k66; simp only [Act.put, List.setIfInBounds_toArray, List.set_cons_succ, List.set_cons_zero]
      have k67 := k58.touch t65 (by omega)
      have k68 := k59.touch t65 (by omega)
      have k69 := k60.touch t65 (by omega)
      have k70 := k61.touch t65 (by omega)
      have lo71 := t65.below lo62 (by omega)
      have h72 := t65.sz hMxw57
      clear hhxw57 k58 k59 k60 k61 lo62 hMxw57 t65
      change wpList _ _ _ (_ :: []) _ _
      refine wpList_of_quiet (C := fun w' => ∃ x : Later M63 xw64, w' = x.w') _ _ _ ⟨⟨_, Below.refl _ _⟩, rfl⟩ ?_
      go_big_quiet_step (fail)
      refine wpQuiet_nil ?_
      rintro xw73 ⟨qxw73, exw73⟩
      have hbxw73 := qxw73.b
      rw [← exw73] at hbxw73
      clear qxw73 exw73
      obtain ⟨M74, hM74⟩ := sz_some xw73
      have lM74 := below_sz hbxw73 h72 hM74
      have k75 := k67.below hbxw73 (by omega)
      have k76 := k68.below hbxw73 (by omega)
      have k77 := k69.below hbxw73 (by omega)
      have k78 := k70.below hbxw73 (by omega)
      have k79 := k66.below hbxw73 (by omega)
      have lo80 := lo71.trans (hbxw73.mono (by omega))
      clear k67 k68 k69 k70 k66 lo71 hbxw73
      go_upto_region 5 with fail
      obtain ⟨c81, c82⟩ := d_cells k75
      obtain ⟨c83, c84⟩ := n_cells k78
      change Code.wp _ (Code.region _ (List.toArray (_ :: _ :: _ :: _ :: _ :: _ :: _ :: _ :: _ :: _ :: _ :: _ :: _ :: _ :: _ :: _ :: _ :: _ :: _ :: _ :: _ :: _ :: _ :: _ :: _ :: _ :: _ :: _ :: _ :: _ :: _ :: _ :: _ :: _ :: _ :: _ :: _ :: _ :: _ :: _ :: _ :: _ :: _ :: _ :: _ :: _ :: _ :: _ :: _ :: _ :: _ :: _ :: _ :: _ :: _ :: _ :: _ :: _ :: _ :: _ :: _ :: _ :: _ :: _ :: _ :: _ :: _ :: _ :: _ :: _ :: _ :: _ :: _ :: _ :: _ :: _ :: _ :: _ :: _ :: _ :: _ :: _ :: _ :: _ :: _ :: _ :: _ :: _ :: _ :: _ :: _ :: _ :: _ :: _ :: _ :: _ :: _ :: _ :: _ :: _ :: _ :: _ :: _ :: [])) _) _ _ _
      first | refine wp_region_later1 (M74) ?_ | refine wp_region_laterL (M74) (by kernel_rfl) (by kernel_rfl) ?_
      try simp only [Act.put, List.setIfInBounds_toArray, List.set_cons_succ, List.set_cons_zero]
      go_big_quiet_step ((go_at_call 11; exact later_of hM74 _ (fun K hK hKN => knows_any _ K hK)))
      go_big_quiet_step (fail)
      refine later_row hM74 27 (.tmp 5) rfl (b_5_6) rfl 27 2 _ k76 undT szT (by rfl) ?_; simp only [Act.put, List.setIfInBounds_toArray, List.set_cons_succ, List.set_cons_zero]
      refine later_row hM74 27 (.tmp 6) rfl (b_5_7) rfl 27 2 _ k77 undT szT (by rfl) ?_; simp only [Act.put, List.setIfInBounds_toArray, List.set_cons_succ, List.set_cons_zero]
      go_big_quiet_step ((go_at_call 13; exact later_of hM74 _ (fun K hK hKN => Add_any (tConst (d 0)) (tConst (d 1)) _ K hK)))
      go_big_quiet_step (fail)
      refine later_c1 hM74 22 (.tmp 35) rfl rfl und64 rfl c81 (by rfl) ?_; simp only [Act.put, List.setIfInBounds_toArray, List.set_cons_succ, List.set_cons_zero]
      go_big_quiet_step (fail)
      refine later_c1 hM74 22 (.tmp 37) rfl rfl und64 rfl c82 (by rfl) ?_; simp only [Act.put, List.setIfInBounds_toArray, List.set_cons_succ, List.set_cons_zero]
      refine later_b (x := (.tmp 36)) (y := (.tmp 38)) rfl (bin_add _ (d 0) (d 1)) rfl rfl (by rfl) ?_; simp only [Act.put, List.setIfInBounds_toArray, List.set_cons_succ, List.set_cons_zero]
      go_big_quiet_step ((go_at_call 25; exact later_of hM74 _ (fun K hK hKN => Const_any ((d 0) + (d 1)) _ K hK)))
      refine later_val (fun q => run_eql_op 27 27 (.tmp 34) (.tmp 40) rfl _ _ rfl rfl true (by kernel_rfl) (run_eqT_t h0_.out q.w')) (by rfl) ?_; simp only [Act.put, List.setIfInBounds_toArray, List.set_cons_succ, List.set_cons_zero]
      go_big_quiet_step (fail)
      go_big_quiet_step (fail)
      refine later_row hM74 27 (.tmp 5) rfl (b_5_6) rfl 27 2 _ k76 undT szT (by rfl) ?_; simp only [Act.put, List.setIfInBounds_toArray, List.set_cons_succ, List.set_cons_zero]
      refine later_row hM74 27 (.tmp 6) rfl (b_5_7) rfl 27 2 _ k77 undT szT (by rfl) ?_; simp only [Act.put, List.setIfInBounds_toArray, List.set_cons_succ, List.set_cons_zero]
      go_big_quiet_step ((go_at_call 15; exact later_of hM74 _ (fun K hK hKN => Sub_any (tConst (d 0)) (tConst (d 1)) _ K hK)))
      go_big_quiet_step (fail)
      refine later_c1 hM74 22 (.tmp 47) rfl rfl und64 rfl c81 (by rfl) ?_; simp only [Act.put, List.setIfInBounds_toArray, List.set_cons_succ, List.set_cons_zero]
      go_big_quiet_step (fail)
      refine later_c1 hM74 22 (.tmp 49) rfl rfl und64 rfl c82 (by rfl) ?_; simp only [Act.put, List.setIfInBounds_toArray, List.set_cons_succ, List.set_cons_zero]
      refine later_b (x := (.tmp 48)) (y := (.tmp 50)) rfl (bin_sub _ (d 0) (d 1)) rfl rfl (by rfl) ?_; simp only [Act.put, List.setIfInBounds_toArray, List.set_cons_succ, List.set_cons_zero]
      go_big_quiet_step ((go_at_call 25; exact later_of hM74 _ (fun K hK hKN => Const_any ((d 0) - (d 1)) _ K hK)))
      refine later_val (fun q => run_eql_op 27 27 (.tmp 46) (.tmp 52) rfl _ _ rfl rfl true (by kernel_rfl) (run_eqT_t h1_.out q.w')) (by rfl) ?_; simp only [Act.put, List.setIfInBounds_toArray, List.set_cons_succ, List.set_cons_zero]
      go_big_quiet_step (fail)
      go_big_quiet_step (fail)
      refine later_row hM74 27 (.tmp 5) rfl (b_5_6) rfl 27 2 _ k76 undT szT (by rfl) ?_; simp only [Act.put, List.setIfInBounds_toArray, List.set_cons_succ, List.set_cons_zero]
      refine later_row hM74 27 (.tmp 6) rfl (b_5_7) rfl 27 2 _ k77 undT szT (by rfl) ?_; simp only [Act.put, List.setIfInBounds_toArray, List.set_cons_succ, List.set_cons_zero]
      go_big_quiet_step ((go_at_call 16; exact later_of hM74 _ (fun K hK hKN => And_any (tConst (d 0)) (tConst (d 1)) _ K hK)))
      go_big_quiet_step (fail)
      refine later_c1 hM74 22 (.tmp 59) rfl rfl und64 rfl c81 (by rfl) ?_; simp only [Act.put, List.setIfInBounds_toArray, List.set_cons_succ, List.set_cons_zero]
      go_big_quiet_step (fail)
      refine later_c1 hM74 22 (.tmp 61) rfl rfl und64 rfl c82 (by rfl) ?_; simp only [Act.put, List.setIfInBounds_toArray, List.set_cons_succ, List.set_cons_zero]
      refine later_b (x := (.tmp 60)) (y := (.tmp 62)) rfl (bin_and _ (d 0) (d 1)) rfl rfl (by rfl) ?_; simp only [Act.put, List.setIfInBounds_toArray, List.set_cons_succ, List.set_cons_zero]
      go_big_quiet_step ((go_at_call 25; exact later_of hM74 _ (fun K hK hKN => Const_any ((d 0) &&& (d 1)) _ K hK)))
      refine later_val (fun q => run_eql_op 27 27 (.tmp 58) (.tmp 64) rfl _ _ rfl rfl true (by kernel_rfl) (run_eqT_t h2_.out q.w')) (by rfl) ?_; simp only [Act.put, List.setIfInBounds_toArray, List.set_cons_succ, List.set_cons_zero]
      go_big_quiet_step (fail)
      go_big_quiet_step (fail)
      refine later_row hM74 27 (.tmp 5) rfl (b_5_6) rfl 27 2 _ k76 undT szT (by rfl) ?_; simp only [Act.put, List.setIfInBounds_toArray, List.set_cons_succ, List.set_cons_zero]
      refine later_row hM74 27 (.tmp 6) rfl (b_5_7) rfl 27 2 _ k77 undT szT (by rfl) ?_; simp only [Act.put, List.setIfInBounds_toArray, List.set_cons_succ, List.set_cons_zero]
      go_big_quiet_step ((go_at_call 18; exact later_of hM74 _ (fun K hK hKN => Or_any (tConst (d 0)) (tConst (d 1)) _ K hK)))
      go_big_quiet_step (fail)
      refine later_c1 hM74 22 (.tmp 71) rfl rfl und64 rfl c81 (by rfl) ?_; simp only [Act.put, List.setIfInBounds_toArray, List.set_cons_succ, List.set_cons_zero]
      go_big_quiet_step (fail)
      refine later_c1 hM74 22 (.tmp 73) rfl rfl und64 rfl c82 (by rfl) ?_; simp only [Act.put, List.setIfInBounds_toArray, List.set_cons_succ, List.set_cons_zero]
      refine later_b (x := (.tmp 72)) (y := (.tmp 74)) rfl (bin_or _ (d 0) (d 1)) rfl rfl (by rfl) ?_; simp only [Act.put, List.setIfInBounds_toArray, List.set_cons_succ, List.set_cons_zero]
      go_big_quiet_step ((go_at_call 25; exact later_of hM74 _ (fun K hK hKN => Const_any ((d 0) ||| (d 1)) _ K hK)))
      refine later_val (fun q => run_eql_op 27 27 (.tmp 70) (.tmp 76) rfl _ _ rfl rfl true (by kernel_rfl) (run_eqT_t h3_.out q.w')) (by rfl) ?_; simp only [Act.put, List.setIfInBounds_toArray, List.set_cons_succ, List.set_cons_zero]
      go_big_quiet_step (fail)
      go_big_quiet_step (fail)
      refine later_row hM74 27 (.tmp 5) rfl (b_5_6) rfl 27 2 _ k76 undT szT (by rfl) ?_; simp only [Act.put, List.setIfInBounds_toArray, List.set_cons_succ, List.set_cons_zero]
      refine later_row hM74 27 (.tmp 6) rfl (b_5_7) rfl 27 2 _ k77 undT szT (by rfl) ?_; simp only [Act.put, List.setIfInBounds_toArray, List.set_cons_succ, List.set_cons_zero]
      go_big_quiet_step ((go_at_call 19; exact later_of hM74 _ (fun K hK hKN => Xor_any (tConst (d 0)) (tConst (d 1)) _ K hK)))
      go_big_quiet_step (fail)
      refine later_c1 hM74 22 (.tmp 83) rfl rfl und64 rfl c81 (by rfl) ?_; simp only [Act.put, List.setIfInBounds_toArray, List.set_cons_succ, List.set_cons_zero]
      go_big_quiet_step (fail)
      refine later_c1 hM74 22 (.tmp 85) rfl rfl und64 rfl c82 (by rfl) ?_; simp only [Act.put, List.setIfInBounds_toArray, List.set_cons_succ, List.set_cons_zero]
      refine later_b (x := (.tmp 84)) (y := (.tmp 86)) rfl (bin_xor _ (d 0) (d 1)) rfl rfl (by rfl) ?_; simp only [Act.put, List.setIfInBounds_toArray, List.set_cons_succ, List.set_cons_zero]
      go_big_quiet_step ((go_at_call 25; exact later_of hM74 _ (fun K hK hKN => Const_any ((d 0) ^^^ (d 1)) _ K hK)))
      refine later_val (fun q => run_eql_op 27 27 (.tmp 82) (.tmp 88) rfl _ _ rfl rfl true (by kernel_rfl) (run_eqT_t h4_.out q.w')) (by rfl) ?_; simp only [Act.put, List.setIfInBounds_toArray, List.set_cons_succ, List.set_cons_zero]
      go_big_quiet_step (fail)
      go_big_quiet_step (fail)
      refine later_row hM74 27 (.tmp 5) rfl (b_5_6) rfl 27 2 _ k76 undT szT (by rfl) ?_; simp only [Act.put, List.setIfInBounds_toArray, List.set_cons_succ, List.set_cons_zero]
      go_big_quiet_step (fail)
      go_big_quiet_step ((go_at_call 26; exact later_of hM74 _ (fun K hK hKN => Left_k (tConst (d 0)) (rm z 64) (rm_lt z 64 (by omega)) _ K hK)))
      go_big_quiet_step (fail)
      refine later_c1 hM74 22 (.tmp 95) rfl rfl und64 rfl c81 (by rfl) ?_; simp only [Act.put, List.setIfInBounds_toArray, List.set_cons_succ, List.set_cons_zero]
      go_big_quiet_step (fail)
      refine later_b (x := (.tmp 96)) (y := (.tmp 97)) rfl (bin_shl _ (d 0) (rm z 64)) rfl rfl (by rfl) ?_; simp only [Act.put, List.setIfInBounds_toArray, List.set_cons_succ, List.set_cons_zero]
      go_big_quiet_step ((go_at_call 25; exact later_of hM74 _ (fun K hK hKN => Const_any ((d 0) <<< (rm z 64)) _ K hK)))
      refine later_val (fun q => run_eql_op 27 27 (.tmp 94) (.tmp 99) rfl _ _ rfl rfl true (by kernel_rfl) (run_eqT_t h5_.out q.w')) (by rfl) ?_; simp only [Act.put, List.setIfInBounds_toArray, List.set_cons_succ, List.set_cons_zero]
      go_big_quiet_step (fail)
      go_big_quiet_step (fail)
      refine later_row hM74 27 (.tmp 5) rfl (b_5_6) rfl 27 2 _ k76 undT szT (by rfl) ?_; simp only [Act.put, List.setIfInBounds_toArray, List.set_cons_succ, List.set_cons_zero]
      go_big_quiet_step (fail)
      go_big_quiet_step ((go_at_call 28; exact later_of hM74 _ (fun K hK hKN => Down_k (tConst (d 0)) (rm z 64) (rm_lt z 64 (by omega)) _ K hK)))
      go_big_quiet_step (fail)
      refine later_c1 hM74 22 (.tmp 106) rfl rfl und64 rfl c81 (by rfl) ?_; simp only [Act.put, List.setIfInBounds_toArray, List.set_cons_succ, List.set_cons_zero]
      go_big_quiet_step (fail)
      refine later_b (x := (.tmp 107)) (y := (.tmp 108)) rfl (bin_shr _ (d 0) (rm z 64)) rfl rfl (by rfl) ?_; simp only [Act.put, List.setIfInBounds_toArray, List.set_cons_succ, List.set_cons_zero]
      go_big_quiet_step ((go_at_call 25; exact later_of hM74 _ (fun K hK hKN => Const_any ((d 0) >>> (rm z 64)) _ K hK)))
      refine later_val (fun q => run_eql_op 27 27 (.tmp 105) (.tmp 110) rfl _ _ rfl rfl true (by kernel_rfl) (run_eqT_t h6_.out q.w')) (by rfl) ?_; simp only [Act.put, List.setIfInBounds_toArray, List.set_cons_succ, List.set_cons_zero]
      go_big_quiet_step (fail)
      go_big_quiet_step (fail)
      go_big_quiet_step (fail)
      refine later_c1 hM74 22 (.tmp 114) rfl rfl und64 rfl c84 (by rfl) ?_; simp only [Act.put, List.setIfInBounds_toArray, List.set_cons_succ, List.set_cons_zero]
      go_big_quiet_step (fail)
      refine later_c1 hM74 22 (.tmp 116) rfl rfl und64 rfl c81 (by rfl) ?_; simp only [Act.put, List.setIfInBounds_toArray, List.set_cons_succ, List.set_cons_zero]
      go_big_quiet_step (fail)
      refine later_c1 hM74 22 (.tmp 118) rfl rfl und64 rfl c82 (by rfl) ?_; simp only [Act.put, List.setIfInBounds_toArray, List.set_cons_succ, List.set_cons_zero]
      refine later_b (x := (.tmp 117)) (y := (.tmp 119)) rfl (bin_xor _ (d 0) (d 1)) rfl rfl (by rfl) ?_; simp only [Act.put, List.setIfInBounds_toArray, List.set_cons_succ, List.set_cons_zero]
      refine later_b (x := (.tmp 115)) (y := (.tmp 120)) rfl (BinRun.is h7_.out (bin_eql _ jj.m ((d 0) ^^^ (d 1)))) rfl rfl (by rfl) ?_; simp only [Act.put, List.setIfInBounds_toArray, List.set_cons_succ, List.set_cons_zero]
      go_big_quiet_step (fail)
      go_big_quiet_step (fail)
      go_big_quiet_step (fail)
      go_big_quiet_step (fail)
      refine later_c1 hM74 22 (.tmp 125) rfl rfl und64 rfl c81 (by rfl) ?_; simp only [Act.put, List.setIfInBounds_toArray, List.set_cons_succ, List.set_cons_zero]
      go_big_quiet_step (fail)
      refine later_c1 hM74 22 (.tmp 127) rfl rfl und64 rfl c82 (by rfl) ?_; simp only [Act.put, List.setIfInBounds_toArray, List.set_cons_succ, List.set_cons_zero]
      refine later_b (x := (.tmp 126)) (y := (.tmp 128)) rfl (BinRun.is h8_.out (bin_eql _ (d 0) (d 1))) rfl rfl (by rfl) ?_; simp only [Act.put, List.setIfInBounds_toArray, List.set_cons_succ, List.set_cons_zero]
      refine later_val (fun q => run_eqb 4 4 (.tmp 124) (.tmp 129) rfl undBool (p := false) (q := false) (r := true) rfl rfl rfl) (by rfl) ?_; simp only [Act.put, List.setIfInBounds_toArray, List.set_cons_succ, List.set_cons_zero]
      go_big_quiet_step (fail)
      go_big_quiet_step (fail)
      refine wpQuiet_nil ?_
      rintro xw85 ⟨qxw85, exw85⟩
      have hbxw85 := qxw85.b
      rw [← exw85] at hbxw85
      clear qxw85 exw85
      obtain ⟨M86, hM86⟩ := sz_some xw85
      have lM86 := below_sz hbxw85 hM74 hM86
      have k87 := k75.below hbxw85 (by omega)
      have k88 := k76.below hbxw85 (by omega)
      have k89 := k77.below hbxw85 (by omega)
      have k90 := k78.below hbxw85 (by omega)
      have k91 := k79.below hbxw85 (by omega)
      have lo92 := lo80.trans (hbxw85.mono (by omega))
      clear k75 c81 c82 k76 k77 k78 c83 c84 k79 lo80 hbxw85
      go_wp2_with fail
      go_ret
      exact ⟨rfl, lo92⟩
  · have h0_ := hid (add_const (d 0) (d 1))
    have h1_ := hid (sub_const (d 0) (d 1))
    have h2_ := hid (and_const (d 0) (d 1))
    have h3_ := hid (or_const (d 0) (d 1))
    have h4_ := hid (xor_const (d 0) (d 1))
    have h5_ := hid (left_const (d 0) (rm z 64))
    have h6_ := hid (down_const (d 0) (rm z 64))
    have CM := fun w N hN => Meet_any (tConst (d 0)) (tConst (d 1)) w N hN
    rw [meet_const, hb] at CM
    generalize meetN (tConst (d 0)) (tConst (d 1)) = mm at CM
    have CJ := fun w N hN => Join_any (tConst (d 0)) (tConst (d 1)) w N hN
    have ej := join_const_m (d 0) (d 1)
    generalize tJoin (tConst (d 0)) (tConst (d 1)) = jj at CJ ej
    have h7_ : Hid ((jj.m == ((d 0) ^^^ (d 1))) = true) := hid (by rw [ej]; simp)
    have h8_ := hid hb
    clear ej hb
    go_enter Try.func8, Try.ntmps8
    unfold nV at CM CJ
    go_upto_region 1 with (first
      | (refine wpl_box rfl 36 (.tmp 0) rfl 2 _ rfl (N) hN ?_; intro w1 hN1 hb1 hh1)
      | fail)
    have lo0 : Below N w w1 := hb1
    have k1 := hh1
    clear hh1 hb1
    go_upto_region 1 with fail
    refine wp_region_any (by kernel_rfl) ?_
    replace k1 : Has w1.drew N 36 2 (dC d) := k1
    replace hN1 : Sz w1.drew (N + 1) := hN1
    replace lo0 : Below N w w1.drew := lo0.drew
    change wpAny _ _ _ _ _ _ _ (World.drew _)
    generalize w1.drew = xw2 at *
    obtain ⟨c3, c4⟩ := d_cells k1
    refine wpAny_pot (rem := [0, 1, 2, 3, 4, 5, 6, 7]) (FG (N + 1) (fun j => if j = 0 then some (Value.pointer (some ⟨N, 0, none⟩)) else if j = 1 then some (Q (d 0)) else if j = 2 then some (Value.agg (cellsOf (nC (tConst (d 0))) 2)) else if j = 3 then some (Value.pointer (some ⟨N, 1, none⟩)) else if j = 4 then some (Q (d 1)) else if j = 5 then some (Value.agg (cellsOf (nC (tConst (d 1))) 2)) else if j = 6 then none else none) (fun j => if j = 6 then (27, 2, nC zeroN) else (27, 2, nC zeroN))) (TwoN (fun j => if j = 0 then some (Value.pointer (some ⟨N, 0, none⟩)) else if j = 1 then some (Q (d 0)) else if j = 2 then some (Value.agg (cellsOf (nC (tConst (d 0))) 2)) else if j = 3 then some (Value.pointer (some ⟨N, 1, none⟩)) else if j = 4 then some (Q (d 1)) else if j = 5 then some (Value.agg (cellsOf (nC (tConst (d 1))) 2)) else if j = 6 then none else none)) (Below (N + 1) xw2) _ _ _ _ (by kernel_rfl) (size_dstG (by kernel_rfl)) (Below.refl _ _) ?_ ?_
    · intro i hi ac wa hI ha hv
      simp only [List.mem_cons, List.not_mem_nil, or_false] at hi
      rcases hi with rfl | rfl | rfl | rfl | rfl | rfl | rfl | rfl
      · exact potg_run rfl rfl (Value.pointer (some ⟨N, 0, none⟩)) rfl (run_ia 36 (.tmp 2) (.const (.int .i64 0)) 0 rfl (ha 2 (not_dstG (by kernel_rfl))) rfl iaD0) hN1 hI
      · obtain ⟨v0, hv0a, hv0b⟩ := hv 0 (by simp) (by kernel_rfl)
        have ev0 := hv0b.val rfl
        subst ev0
        exact potg_run rfl rfl (Q (d 0)) rfl (run_c1 22 (.tmp 11) rfl ⟨N, 0, none⟩ (hv0a 11 rfl) und64 rfl (keep_c hI hN1 c3)) hN1 hI
      · obtain ⟨v1, hv1a, hv1b⟩ := hv 1 (by simp) (by kernel_rfl)
        have ev1 := hv1b.val rfl
        subst ev1
        exact potg_cl rfl rfl 25 _ _ rfl #[(Q (d 0))] (by simp only [List.map_toArray, List.map_cons, List.map_nil, (show ac.eval (.tmp 12) = (Q (d 0)) from (hv1a 12 rfl))] <;> rfl) (by kernel_rfl) (Value.agg (cellsOf (nC (tConst (d 0))) 2)) (fun K hK => Const_any (d 0) wa K hK) rfl hN1 hI
      · exact potg_run rfl rfl (Value.pointer (some ⟨N, 1, none⟩)) rfl (run_ia 36 (.tmp 2) (.const (.int .i64 1)) 1 rfl (ha 2 (not_dstG (by kernel_rfl))) rfl iaD1) hN1 hI
      · obtain ⟨v3, hv3a, hv3b⟩ := hv 3 (by simp) (by kernel_rfl)
        have ev3 := hv3b.val rfl
        subst ev3
        exact potg_run rfl rfl (Q (d 1)) rfl (run_c1 22 (.tmp 14) rfl ⟨N, 1, none⟩ (hv3a 14 rfl) und64 rfl (keep_c hI hN1 c4)) hN1 hI
      · obtain ⟨v4, hv4a, hv4b⟩ := hv 4 (by simp) (by kernel_rfl)
        have ev4 := hv4b.val rfl
        subst ev4
        exact potg_cl rfl rfl 25 _ _ rfl #[(Q (d 1))] (by simp only [List.map_toArray, List.map_cons, List.map_nil, (show ac.eval (.tmp 15) = (Q (d 1)) from (hv4a 15 rfl))] <;> rfl) (by kernel_rfl) (Value.agg (cellsOf (nC (tConst (d 1))) 2)) (fun K hK => Const_any (d 1) wa K hK) rfl hN1 hI
      · exact potg_al rfl rfl rfl zeT rfl rfl hN1 hI
      · exact potg_al rfl rfl rfl zeT rfl rfl hN1 hI
    · intro vals w5_5_ hb5_5_ hF hG
      have e_5_0 := (hF 0 (by simp)).val rfl
      have e_5_1 := (hF 1 (by simp)).val rfl
      have e_5_2 := (hF 2 (by simp)).val rfl
      have e_5_3 := (hF 3 (by simp)).val rfl
      have e_5_4 := (hF 4 (by simp)).val rfl
      have e_5_5 := (hF 5 (by simp)).val rfl
      obtain ⟨b_5_6, l_5_6, e_5_6, h_5_6⟩ := (hF 6 (by simp)).al rfl rfl
      obtain ⟨b_5_7, l_5_7, e_5_7, h_5_7⟩ := (hF 7 (by simp)).al rfl rfl
      have n_5_6_7 := hG 6 (by simp) 7 (by simp) (by omega) rfl rfl b_5_6 b_5_7 e_5_6 e_5_7
      clear hF hG
      simp only [List.foldl_cons, List.foldl_nil, dstOf, List.getElem?_toArray, List.getElem?_cons_succ, List.getElem?_cons_zero, Option.bind_some, Act.put, List.setIfInBounds_toArray, List.set_cons_succ, List.set_cons_zero, e_5_0, e_5_1, e_5_2, e_5_3, e_5_4, e_5_5, e_5_6, e_5_7]
      clear e_5_0 e_5_1 e_5_2 e_5_3 e_5_4 e_5_5 e_5_6 e_5_7
      refine wpAny_chain [8, 9] _ _ _ _ (by kernel_rfl) (by decide) ?_
      simp only [List.filterMap_cons, List.filterMap_nil, List.getElem?_toArray, List.getElem?_cons_succ, List.getElem?_cons_zero]
      have k6 := k1.below hb5_5_ (by omega)
      have lo7 := lo0.trans (hb5_5_.mono (by omega))
      clear k1 c3 c4 lo0 hb5_5_
      refine wpl_store rfl 27 (.tmp 5) (.tmp 13) rfl b_5_6 2 (nC (tConst (d 0))) rfl rfl 27 _ h_5_6 szT (fun j _ => nC_one _ j) ?_
      intro xw8 t9 k10
      have k11 := k6.touch t9 (by omega)
      have k12 := h_5_7.touch t9 (by omega)
      have lo13 := t9.below lo7 (by omega)
      clear h_5_6 k6 h_5_7 lo7 t9
      refine wpl_store rfl 27 (.tmp 6) (.tmp 16) rfl b_5_7 2 (nC (tConst (d 1))) rfl rfl 27 _ k12 szT (fun j _ => nC_one _ j) ?_
      intro xw14 t15 k16
      have k17 := k11.touch t15 (by omega)
      have k18 := k10.touch t15 (by omega)
      have lo19 := t15.below lo13 (by omega)
      clear k12 k11 k10 lo13 t15
      obtain ⟨M20, hM20⟩ := sz_some xw14
      have lt_21 := k17.ltN hM20
      have lt_22 := k18.ltN hM20
      have lt_23 := k16.ltN hM20
      go_upto_region 2 with fail
      refine wp_region_later1 (M20) ?_
      try simp only [Act.put, List.setIfInBounds_toArray, List.set_cons_succ, List.set_cons_zero]
      go_big_quiet_step (fail)
      refine later_val (fun q => run_iu (x := (.tmp 17)) rfl undInt und64 rfl q.w') (by rfl) ?_; simp only [Act.put, List.setIfInBounds_toArray, List.set_cons_succ, List.set_cons_zero]
      refine later_b (x := (.tmp 18)) (y := (.const (.int .u64 64))) rfl (bin_rem _ (BitVec.ofInt 64 z) 64#64 (by decide)) rfl rfl (by rfl) ?_; simp only [Act.put, List.setIfInBounds_toArray, List.set_cons_succ, List.set_cons_zero]
      refine later_val (fun q => run_rm (x := (.tmp 19)) rfl und64 undInt (z := z) (m := 64) (by omega) rfl q.w') (by rfl) ?_; simp only [Act.put, List.setIfInBounds_toArray, List.set_cons_succ, List.set_cons_zero]
      go_big_quiet_step (fail)
      refine wpQuiet_nil ?_
      rintro xw24 ⟨qxw24, exw24⟩
      have hbxw24 := qxw24.b
      rw [← exw24] at hbxw24
      clear qxw24 exw24
      obtain ⟨M25, hM25⟩ := sz_some xw24
      have lM25 := below_sz hbxw24 hM20 hM25
      have k26 := k17.below hbxw24 (by omega)
      have k27 := k18.below hbxw24 (by omega)
      have k28 := k16.below hbxw24 (by omega)
      have lo29 := lo19.trans (hbxw24.mono (by omega))
      clear k17 k18 k16 lo19 hbxw24
      go_upto_region 3 with fail
      refine wp_region_lit ?_
      try simp only [Act.put, List.setIfInBounds_toArray, List.set_cons_succ, List.set_cons_zero]
      refine wpl_run rfl (Value.agg (cellsOf (nC (tConst (d 0))) 2)) _ (run_rw 27 (.tmp 5) rfl b_5_6 rfl 27 2 _ k27 undT szT) ?_; simp only [Act.put, List.setIfInBounds_toArray, List.set_cons_succ, List.set_cons_zero]
      refine wpl_run rfl (Value.agg (cellsOf (nC (tConst (d 1))) 2)) _ (run_rw 27 (.tmp 6) rfl b_5_7 rfl 27 2 _ k28 undT szT) ?_; simp only [Act.put, List.setIfInBounds_toArray, List.set_cons_succ, List.set_cons_zero]
      refine wpl_cl rfl 24 _ _ rfl #[(Value.agg (cellsOf (nC (tConst (d 0))) 2)), (Value.agg (cellsOf (nC (tConst (d 1))) 2))] (by simp only [List.map_toArray, List.map_cons, List.map_nil]; rfl) (by kernel_rfl) (Value.agg (cellsOf (nC jj) 2)) (CJ xw24 M25 hM25) ?_
      intro xw30 hbxw30; simp only [Act.put, List.setIfInBounds_toArray, List.set_cons_succ, List.set_cons_zero]
      obtain ⟨M31, hM31⟩ := sz_some xw30
      have lM31 := below_sz hbxw30 hM25 hM31
      have k32 := k26.below hbxw30 (by omega)
      have k33 := k27.below hbxw30 (by omega)
      have k34 := k28.below hbxw30 (by omega)
      have lo35 := lo29.trans (hbxw30.mono (by omega))
      clear k26 k27 k28 lo29 hbxw30
      obtain ⟨b_xw36, eb_xw36⟩ : ∃ b_xw36, b_xw36 = M31 := ⟨_, rfl⟩
      have hzb_xw36 : Sz xw30 b_xw36 := by rw [eb_xw36]; exact hM31
      have lob_xw36 : M31 ≤ b_xw36 := by omega
      have upb_xw36 : b_xw36 ≤ M31 := by omega
      clear eb_xw36
      refine wpl_alloc rfl 27 rfl 2 (nC zeroN) zeT b_xw36 hzb_xw36 ?_
      intro xw36 hMxw36 hbxw36 hhxw36; simp only [Act.put, List.setIfInBounds_toArray, List.set_cons_succ, List.set_cons_zero]
      have k37 := k32.below hbxw36 (by omega)
      have k38 := k33.below hbxw36 (by omega)
      have k39 := k34.below hbxw36 (by omega)
      have lo40 := lo35.trans (hbxw36.mono (by omega))
      clear k32 k33 k34 lo35 hbxw36 hzb_xw36
      obtain ⟨M41, eM41⟩ : ∃ M41, M41 = b_xw36 + 1 := ⟨_, rfl⟩
      rw [← eM41] at hMxw36
      have loM41 : b_xw36 + 1 ≤ M41 := by omega
      have upM41 : M41 ≤ b_xw36 + 1 := by omega
      clear eM41
      refine wpl_store rfl 27 (.tmp 8) (.tmp 23) rfl b_xw36 2 (nC jj) rfl rfl 27 _ hhxw36 szT (fun j _ => nC_one _ j) ?_
      intro xw42 t43 k44; simp only [Act.put, List.setIfInBounds_toArray, List.set_cons_succ, List.set_cons_zero]
      have k45 := k37.touch t43 (by omega)
      have k46 := k38.touch t43 (by omega)
      have k47 := k39.touch t43 (by omega)
      have lo48 := t43.below lo40 (by omega)
      have h49 := t43.sz hMxw36
      clear hhxw36 k37 k38 k39 lo40 hMxw36 t43
      go_upto_region 4 with fail
      refine wp_region_lit ?_
      try simp only [Act.put, List.setIfInBounds_toArray, List.set_cons_succ, List.set_cons_zero]
      refine wpl_run rfl (Value.agg (cellsOf (nC (tConst (d 0))) 2)) _ (run_rw 27 (.tmp 5) rfl b_5_6 rfl 27 2 _ k46 undT szT) ?_; simp only [Act.put, List.setIfInBounds_toArray, List.set_cons_succ, List.set_cons_zero]
      refine wpl_run rfl (Value.agg (cellsOf (nC (tConst (d 1))) 2)) _ (run_rw 27 (.tmp 6) rfl b_5_7 rfl 27 2 _ k47 undT szT) ?_; simp only [Act.put, List.setIfInBounds_toArray, List.set_cons_succ, List.set_cons_zero]
      refine wpl_cl rfl 31 _ _ rfl #[(Value.agg (cellsOf (nC (tConst (d 0))) 2)), (Value.agg (cellsOf (nC (tConst (d 1))) 2))] (by simp only [List.map_toArray, List.map_cons, List.map_nil]; rfl) (by kernel_rfl) (Value.tuple #[(Value.agg (cellsOf (nC mm) 2)), (Value.bool true)]) (CM xw42 M41 h49) ?_
      intro xw50 hbxw50; simp only [Act.put, List.setIfInBounds_toArray, List.set_cons_succ, List.set_cons_zero]
      obtain ⟨M51, hM51⟩ := sz_some xw50
      have lM51 := below_sz hbxw50 h49 hM51
      have k52 := k45.below hbxw50 (by omega)
      have k53 := k46.below hbxw50 (by omega)
      have k54 := k47.below hbxw50 (by omega)
      have k55 := k44.below hbxw50 (by omega)
      have lo56 := lo48.trans (hbxw50.mono (by omega))
      clear k45 k46 k47 k44 lo48 hbxw50
      refine wpl_run rfl (Value.tuple #[(Value.agg (cellsOf (nC mm) 2)), (Value.bool true)]) _ (run_mv (x := (.tmp 27)) rfl _ rfl) ?_; simp only [Act.put, List.setIfInBounds_toArray, List.set_cons_succ, List.set_cons_zero]
      refine wpl_run rfl (Value.agg (cellsOf (nC mm) 2)) _ (run_ex (x := (.tmp 24)) rfl _ rfl rfl) ?_; simp only [Act.put, List.setIfInBounds_toArray, List.set_cons_succ, List.set_cons_zero]
      refine wpl_run rfl (Value.bool true) _ (run_ex (x := (.tmp 24)) rfl _ rfl rfl) ?_; simp only [Act.put, List.setIfInBounds_toArray, List.set_cons_succ, List.set_cons_zero]
      obtain ⟨b_xw57, eb_xw57⟩ : ∃ b_xw57, b_xw57 = M51 := ⟨_, rfl⟩
      have hzb_xw57 : Sz xw50 b_xw57 := by rw [eb_xw57]; exact hM51
      have lob_xw57 : M51 ≤ b_xw57 := by omega
      have upb_xw57 : b_xw57 ≤ M51 := by omega
      clear eb_xw57
      refine wpl_alloc rfl 27 rfl 2 (nC zeroN) zeT b_xw57 hzb_xw57 ?_
      intro xw57 hMxw57 hbxw57 hhxw57; simp only [Act.put, List.setIfInBounds_toArray, List.set_cons_succ, List.set_cons_zero]
      have k58 := k52.below hbxw57 (by omega)
      have k59 := k53.below hbxw57 (by omega)
      have k60 := k54.below hbxw57 (by omega)
      have k61 := k55.below hbxw57 (by omega)
      have lo62 := lo56.trans (hbxw57.mono (by omega))
      clear k52 k53 k54 k55 lo56 hbxw57 hzb_xw57
      obtain ⟨M63, eM63⟩ : ∃ M63, M63 = b_xw57 + 1 := ⟨_, rfl⟩
      rw [← eM63] at hMxw57
      have loM63 : b_xw57 + 1 ≤ M63 := by omega
      have upM63 : M63 ≤ b_xw57 + 1 := by omega
      clear eM63
      refine wpl_store rfl 27 (.tmp 9) (.tmp 28) rfl b_xw57 2 (nC mm) rfl rfl 27 _ hhxw57 szT (fun j _ => nC_one _ j) ?_
      intro xw64 t65 k66; simp only [Act.put, List.setIfInBounds_toArray, List.set_cons_succ, List.set_cons_zero]
      have k67 := k58.touch t65 (by omega)
      have k68 := k59.touch t65 (by omega)
      have k69 := k60.touch t65 (by omega)
      have k70 := k61.touch t65 (by omega)
      have lo71 := t65.below lo62 (by omega)
      have h72 := t65.sz hMxw57
      clear hhxw57 k58 k59 k60 k61 lo62 hMxw57 t65
      change wpList _ _ _ (_ :: []) _ _
      refine wpList_of_quiet (C := fun w' => ∃ x : Later M63 xw64, w' = x.w') _ _ _ ⟨⟨_, Below.refl _ _⟩, rfl⟩ ?_
      go_big_quiet_step (fail)
      refine wpQuiet_nil ?_
      rintro xw73 ⟨qxw73, exw73⟩
      have hbxw73 := qxw73.b
      rw [← exw73] at hbxw73
      clear qxw73 exw73
      obtain ⟨M74, hM74⟩ := sz_some xw73
      have lM74 := below_sz hbxw73 h72 hM74
      have k75 := k67.below hbxw73 (by omega)
      have k76 := k68.below hbxw73 (by omega)
      have k77 := k69.below hbxw73 (by omega)
      have k78 := k70.below hbxw73 (by omega)
      have k79 := k66.below hbxw73 (by omega)
      have lo80 := lo71.trans (hbxw73.mono (by omega))
      clear k67 k68 k69 k70 k66 lo71 hbxw73
      go_upto_region 5 with fail
      obtain ⟨c81, c82⟩ := d_cells k75
      obtain ⟨c83, c84⟩ := n_cells k78
      change Code.wp _ (Code.region _ (List.toArray (_ :: _ :: _ :: _ :: _ :: _ :: _ :: _ :: _ :: _ :: _ :: _ :: _ :: _ :: _ :: _ :: _ :: _ :: _ :: _ :: _ :: _ :: _ :: _ :: _ :: _ :: _ :: _ :: _ :: _ :: _ :: _ :: _ :: _ :: _ :: _ :: _ :: _ :: _ :: _ :: _ :: _ :: _ :: _ :: _ :: _ :: _ :: _ :: _ :: _ :: _ :: _ :: _ :: _ :: _ :: _ :: _ :: _ :: _ :: _ :: _ :: _ :: _ :: _ :: _ :: _ :: _ :: _ :: _ :: _ :: _ :: _ :: _ :: _ :: _ :: _ :: _ :: _ :: _ :: _ :: _ :: _ :: _ :: _ :: _ :: _ :: _ :: _ :: _ :: _ :: _ :: _ :: _ :: _ :: _ :: _ :: _ :: _ :: _ :: _ :: _ :: _ :: _ :: [])) _) _ _ _
      first | refine wp_region_later1 (M74) ?_ | refine wp_region_laterL (M74) (by kernel_rfl) (by kernel_rfl) ?_
      try simp only [Act.put, List.setIfInBounds_toArray, List.set_cons_succ, List.set_cons_zero]
      go_big_quiet_step ((go_at_call 11; exact later_of hM74 _ (fun K hK hKN => knows_any _ K hK)))
      go_big_quiet_step (fail)
      refine later_row hM74 27 (.tmp 5) rfl (b_5_6) rfl 27 2 _ k76 undT szT (by rfl) ?_; simp only [Act.put, List.setIfInBounds_toArray, List.set_cons_succ, List.set_cons_zero]
      refine later_row hM74 27 (.tmp 6) rfl (b_5_7) rfl 27 2 _ k77 undT szT (by rfl) ?_; simp only [Act.put, List.setIfInBounds_toArray, List.set_cons_succ, List.set_cons_zero]
      go_big_quiet_step ((go_at_call 13; exact later_of hM74 _ (fun K hK hKN => Add_any (tConst (d 0)) (tConst (d 1)) _ K hK)))
      go_big_quiet_step (fail)
      refine later_c1 hM74 22 (.tmp 35) rfl rfl und64 rfl c81 (by rfl) ?_; simp only [Act.put, List.setIfInBounds_toArray, List.set_cons_succ, List.set_cons_zero]
      go_big_quiet_step (fail)
      refine later_c1 hM74 22 (.tmp 37) rfl rfl und64 rfl c82 (by rfl) ?_; simp only [Act.put, List.setIfInBounds_toArray, List.set_cons_succ, List.set_cons_zero]
      refine later_b (x := (.tmp 36)) (y := (.tmp 38)) rfl (bin_add _ (d 0) (d 1)) rfl rfl (by rfl) ?_; simp only [Act.put, List.setIfInBounds_toArray, List.set_cons_succ, List.set_cons_zero]
      go_big_quiet_step ((go_at_call 25; exact later_of hM74 _ (fun K hK hKN => Const_any ((d 0) + (d 1)) _ K hK)))
      refine later_val (fun q => run_eql_op 27 27 (.tmp 34) (.tmp 40) rfl _ _ rfl rfl true (by kernel_rfl) (run_eqT_t h0_.out q.w')) (by rfl) ?_; simp only [Act.put, List.setIfInBounds_toArray, List.set_cons_succ, List.set_cons_zero]
      go_big_quiet_step (fail)
      go_big_quiet_step (fail)
      refine later_row hM74 27 (.tmp 5) rfl (b_5_6) rfl 27 2 _ k76 undT szT (by rfl) ?_; simp only [Act.put, List.setIfInBounds_toArray, List.set_cons_succ, List.set_cons_zero]
      refine later_row hM74 27 (.tmp 6) rfl (b_5_7) rfl 27 2 _ k77 undT szT (by rfl) ?_; simp only [Act.put, List.setIfInBounds_toArray, List.set_cons_succ, List.set_cons_zero]
      go_big_quiet_step ((go_at_call 15; exact later_of hM74 _ (fun K hK hKN => Sub_any (tConst (d 0)) (tConst (d 1)) _ K hK)))
      go_big_quiet_step (fail)
      refine later_c1 hM74 22 (.tmp 47) rfl rfl und64 rfl c81 (by rfl) ?_; simp only [Act.put, List.setIfInBounds_toArray, List.set_cons_succ, List.set_cons_zero]
      go_big_quiet_step (fail)
      refine later_c1 hM74 22 (.tmp 49) rfl rfl und64 rfl c82 (by rfl) ?_; simp only [Act.put, List.setIfInBounds_toArray, List.set_cons_succ, List.set_cons_zero]
      refine later_b (x := (.tmp 48)) (y := (.tmp 50)) rfl (bin_sub _ (d 0) (d 1)) rfl rfl (by rfl) ?_; simp only [Act.put, List.setIfInBounds_toArray, List.set_cons_succ, List.set_cons_zero]
      go_big_quiet_step ((go_at_call 25; exact later_of hM74 _ (fun K hK hKN => Const_any ((d 0) - (d 1)) _ K hK)))
      refine later_val (fun q => run_eql_op 27 27 (.tmp 46) (.tmp 52) rfl _ _ rfl rfl true (by kernel_rfl) (run_eqT_t h1_.out q.w')) (by rfl) ?_; simp only [Act.put, List.setIfInBounds_toArray, List.set_cons_succ, List.set_cons_zero]
      go_big_quiet_step (fail)
      go_big_quiet_step (fail)
      refine later_row hM74 27 (.tmp 5) rfl (b_5_6) rfl 27 2 _ k76 undT szT (by rfl) ?_; simp only [Act.put, List.setIfInBounds_toArray, List.set_cons_succ, List.set_cons_zero]
      refine later_row hM74 27 (.tmp 6) rfl (b_5_7) rfl 27 2 _ k77 undT szT (by rfl) ?_; simp only [Act.put, List.setIfInBounds_toArray, List.set_cons_succ, List.set_cons_zero]
      go_big_quiet_step ((go_at_call 16; exact later_of hM74 _ (fun K hK hKN => And_any (tConst (d 0)) (tConst (d 1)) _ K hK)))
      go_big_quiet_step (fail)
      refine later_c1 hM74 22 (.tmp 59) rfl rfl und64 rfl c81 (by rfl) ?_; simp only [Act.put, List.setIfInBounds_toArray, List.set_cons_succ, List.set_cons_zero]
      go_big_quiet_step (fail)
      refine later_c1 hM74 22 (.tmp 61) rfl rfl und64 rfl c82 (by rfl) ?_; simp only [Act.put, List.setIfInBounds_toArray, List.set_cons_succ, List.set_cons_zero]
      refine later_b (x := (.tmp 60)) (y := (.tmp 62)) rfl (bin_and _ (d 0) (d 1)) rfl rfl (by rfl) ?_; simp only [Act.put, List.setIfInBounds_toArray, List.set_cons_succ, List.set_cons_zero]
      go_big_quiet_step ((go_at_call 25; exact later_of hM74 _ (fun K hK hKN => Const_any ((d 0) &&& (d 1)) _ K hK)))
      refine later_val (fun q => run_eql_op 27 27 (.tmp 58) (.tmp 64) rfl _ _ rfl rfl true (by kernel_rfl) (run_eqT_t h2_.out q.w')) (by rfl) ?_; simp only [Act.put, List.setIfInBounds_toArray, List.set_cons_succ, List.set_cons_zero]
      go_big_quiet_step (fail)
      go_big_quiet_step (fail)
      refine later_row hM74 27 (.tmp 5) rfl (b_5_6) rfl 27 2 _ k76 undT szT (by rfl) ?_; simp only [Act.put, List.setIfInBounds_toArray, List.set_cons_succ, List.set_cons_zero]
      refine later_row hM74 27 (.tmp 6) rfl (b_5_7) rfl 27 2 _ k77 undT szT (by rfl) ?_; simp only [Act.put, List.setIfInBounds_toArray, List.set_cons_succ, List.set_cons_zero]
      go_big_quiet_step ((go_at_call 18; exact later_of hM74 _ (fun K hK hKN => Or_any (tConst (d 0)) (tConst (d 1)) _ K hK)))
      go_big_quiet_step (fail)
      refine later_c1 hM74 22 (.tmp 71) rfl rfl und64 rfl c81 (by rfl) ?_; simp only [Act.put, List.setIfInBounds_toArray, List.set_cons_succ, List.set_cons_zero]
      go_big_quiet_step (fail)
      refine later_c1 hM74 22 (.tmp 73) rfl rfl und64 rfl c82 (by rfl) ?_; simp only [Act.put, List.setIfInBounds_toArray, List.set_cons_succ, List.set_cons_zero]
      refine later_b (x := (.tmp 72)) (y := (.tmp 74)) rfl (bin_or _ (d 0) (d 1)) rfl rfl (by rfl) ?_; simp only [Act.put, List.setIfInBounds_toArray, List.set_cons_succ, List.set_cons_zero]
      go_big_quiet_step ((go_at_call 25; exact later_of hM74 _ (fun K hK hKN => Const_any ((d 0) ||| (d 1)) _ K hK)))
      refine later_val (fun q => run_eql_op 27 27 (.tmp 70) (.tmp 76) rfl _ _ rfl rfl true (by kernel_rfl) (run_eqT_t h3_.out q.w')) (by rfl) ?_; simp only [Act.put, List.setIfInBounds_toArray, List.set_cons_succ, List.set_cons_zero]
      go_big_quiet_step (fail)
      go_big_quiet_step (fail)
      refine later_row hM74 27 (.tmp 5) rfl (b_5_6) rfl 27 2 _ k76 undT szT (by rfl) ?_; simp only [Act.put, List.setIfInBounds_toArray, List.set_cons_succ, List.set_cons_zero]
      refine later_row hM74 27 (.tmp 6) rfl (b_5_7) rfl 27 2 _ k77 undT szT (by rfl) ?_; simp only [Act.put, List.setIfInBounds_toArray, List.set_cons_succ, List.set_cons_zero]
      go_big_quiet_step ((go_at_call 19; exact later_of hM74 _ (fun K hK hKN => Xor_any (tConst (d 0)) (tConst (d 1)) _ K hK)))
      go_big_quiet_step (fail)
      refine later_c1 hM74 22 (.tmp 83) rfl rfl und64 rfl c81 (by rfl) ?_; simp only [Act.put, List.setIfInBounds_toArray, List.set_cons_succ, List.set_cons_zero]
      go_big_quiet_step (fail)
      refine later_c1 hM74 22 (.tmp 85) rfl rfl und64 rfl c82 (by rfl) ?_; simp only [Act.put, List.setIfInBounds_toArray, List.set_cons_succ, List.set_cons_zero]
      refine later_b (x := (.tmp 84)) (y := (.tmp 86)) rfl (bin_xor _ (d 0) (d 1)) rfl rfl (by rfl) ?_; simp only [Act.put, List.setIfInBounds_toArray, List.set_cons_succ, List.set_cons_zero]
      go_big_quiet_step ((go_at_call 25; exact later_of hM74 _ (fun K hK hKN => Const_any ((d 0) ^^^ (d 1)) _ K hK)))
      refine later_val (fun q => run_eql_op 27 27 (.tmp 82) (.tmp 88) rfl _ _ rfl rfl true (by kernel_rfl) (run_eqT_t h4_.out q.w')) (by rfl) ?_; simp only [Act.put, List.setIfInBounds_toArray, List.set_cons_succ, List.set_cons_zero]
      go_big_quiet_step (fail)
      go_big_quiet_step (fail)
      refine later_row hM74 27 (.tmp 5) rfl (b_5_6) rfl 27 2 _ k76 undT szT (by rfl) ?_; simp only [Act.put, List.setIfInBounds_toArray, List.set_cons_succ, List.set_cons_zero]
      go_big_quiet_step (fail)
      go_big_quiet_step ((go_at_call 26; exact later_of hM74 _ (fun K hK hKN => Left_k (tConst (d 0)) (rm z 64) (rm_lt z 64 (by omega)) _ K hK)))
      go_big_quiet_step (fail)
      refine later_c1 hM74 22 (.tmp 95) rfl rfl und64 rfl c81 (by rfl) ?_; simp only [Act.put, List.setIfInBounds_toArray, List.set_cons_succ, List.set_cons_zero]
      go_big_quiet_step (fail)
      refine later_b (x := (.tmp 96)) (y := (.tmp 97)) rfl (bin_shl _ (d 0) (rm z 64)) rfl rfl (by rfl) ?_; simp only [Act.put, List.setIfInBounds_toArray, List.set_cons_succ, List.set_cons_zero]
      go_big_quiet_step ((go_at_call 25; exact later_of hM74 _ (fun K hK hKN => Const_any ((d 0) <<< (rm z 64)) _ K hK)))
      refine later_val (fun q => run_eql_op 27 27 (.tmp 94) (.tmp 99) rfl _ _ rfl rfl true (by kernel_rfl) (run_eqT_t h5_.out q.w')) (by rfl) ?_; simp only [Act.put, List.setIfInBounds_toArray, List.set_cons_succ, List.set_cons_zero]
      go_big_quiet_step (fail)
      go_big_quiet_step (fail)
      refine later_row hM74 27 (.tmp 5) rfl (b_5_6) rfl 27 2 _ k76 undT szT (by rfl) ?_; simp only [Act.put, List.setIfInBounds_toArray, List.set_cons_succ, List.set_cons_zero]
      go_big_quiet_step (fail)
      go_big_quiet_step ((go_at_call 28; exact later_of hM74 _ (fun K hK hKN => Down_k (tConst (d 0)) (rm z 64) (rm_lt z 64 (by omega)) _ K hK)))
      go_big_quiet_step (fail)
      refine later_c1 hM74 22 (.tmp 106) rfl rfl und64 rfl c81 (by rfl) ?_; simp only [Act.put, List.setIfInBounds_toArray, List.set_cons_succ, List.set_cons_zero]
      go_big_quiet_step (fail)
      refine later_b (x := (.tmp 107)) (y := (.tmp 108)) rfl (bin_shr _ (d 0) (rm z 64)) rfl rfl (by rfl) ?_; simp only [Act.put, List.setIfInBounds_toArray, List.set_cons_succ, List.set_cons_zero]
      go_big_quiet_step ((go_at_call 25; exact later_of hM74 _ (fun K hK hKN => Const_any ((d 0) >>> (rm z 64)) _ K hK)))
      refine later_val (fun q => run_eql_op 27 27 (.tmp 105) (.tmp 110) rfl _ _ rfl rfl true (by kernel_rfl) (run_eqT_t h6_.out q.w')) (by rfl) ?_; simp only [Act.put, List.setIfInBounds_toArray, List.set_cons_succ, List.set_cons_zero]
      go_big_quiet_step (fail)
      go_big_quiet_step (fail)
      go_big_quiet_step (fail)
      refine later_c1 hM74 22 (.tmp 114) rfl rfl und64 rfl c84 (by rfl) ?_; simp only [Act.put, List.setIfInBounds_toArray, List.set_cons_succ, List.set_cons_zero]
      go_big_quiet_step (fail)
      refine later_c1 hM74 22 (.tmp 116) rfl rfl und64 rfl c81 (by rfl) ?_; simp only [Act.put, List.setIfInBounds_toArray, List.set_cons_succ, List.set_cons_zero]
      go_big_quiet_step (fail)
      refine later_c1 hM74 22 (.tmp 118) rfl rfl und64 rfl c82 (by rfl) ?_; simp only [Act.put, List.setIfInBounds_toArray, List.set_cons_succ, List.set_cons_zero]
      refine later_b (x := (.tmp 117)) (y := (.tmp 119)) rfl (bin_xor _ (d 0) (d 1)) rfl rfl (by rfl) ?_; simp only [Act.put, List.setIfInBounds_toArray, List.set_cons_succ, List.set_cons_zero]
      refine later_b (x := (.tmp 115)) (y := (.tmp 120)) rfl (BinRun.is h7_.out (bin_eql _ jj.m ((d 0) ^^^ (d 1)))) rfl rfl (by rfl) ?_; simp only [Act.put, List.setIfInBounds_toArray, List.set_cons_succ, List.set_cons_zero]
      go_big_quiet_step (fail)
      go_big_quiet_step (fail)
      go_big_quiet_step (fail)
      go_big_quiet_step (fail)
      refine later_c1 hM74 22 (.tmp 125) rfl rfl und64 rfl c81 (by rfl) ?_; simp only [Act.put, List.setIfInBounds_toArray, List.set_cons_succ, List.set_cons_zero]
      go_big_quiet_step (fail)
      refine later_c1 hM74 22 (.tmp 127) rfl rfl und64 rfl c82 (by rfl) ?_; simp only [Act.put, List.setIfInBounds_toArray, List.set_cons_succ, List.set_cons_zero]
      refine later_b (x := (.tmp 126)) (y := (.tmp 128)) rfl (BinRun.is h8_.out (bin_eql _ (d 0) (d 1))) rfl rfl (by rfl) ?_; simp only [Act.put, List.setIfInBounds_toArray, List.set_cons_succ, List.set_cons_zero]
      refine later_val (fun q => run_eqb 4 4 (.tmp 124) (.tmp 129) rfl undBool (p := true) (q := true) (r := true) rfl rfl rfl) (by rfl) ?_; simp only [Act.put, List.setIfInBounds_toArray, List.set_cons_succ, List.set_cons_zero]
      go_big_quiet_step (fail)
      go_big_quiet_step (fail)
      refine wpQuiet_nil ?_
      rintro xw85 ⟨qxw85, exw85⟩
      have hbxw85 := qxw85.b
      rw [← exw85] at hbxw85
      clear qxw85 exw85
      obtain ⟨M86, hM86⟩ := sz_some xw85
      have lM86 := below_sz hbxw85 hM74 hM86
      have k87 := k75.below hbxw85 (by omega)
      have k88 := k76.below hbxw85 (by omega)
      have k89 := k77.below hbxw85 (by omega)
      have k90 := k78.below hbxw85 (by omega)
      have k91 := k79.below hbxw85 (by omega)
      have lo92 := lo80.trans (hbxw85.mono (by omega))
      clear k75 c81 c82 k76 k77 k78 c83 c84 k79 lo80 hbxw85
      go_wp2_with fail
      go_ret
      exact ⟨rfl, lo92⟩
end Go.Proofs.Ytbeikhokkpioeaa
