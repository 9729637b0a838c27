/- Mlaw: the walk. -/
import Derived.Test.YtbeikhokkpioeaaNr4
import Derived.Test.YtbeikhokkpioeaaLex
import Derived.Test.YtbeikhokkpioeaaNmm
import Derived.Test.YtbeikhokkpioeaaPotO
namespace Go.Proofs.Ytbeikhokkpioeaa
open Go Go.RowKit
set_option maxRecDepth 100000 in
set_option maxHeartbeats 8000000 in
theorem law_meets (a0 b0 : Nm) (x : W) (w : World) (N : Nat) (hN : Sz w N) : Calls Try.prog 6 #[nV a0, nV b0, Q x] w fun e w' => e = .returned (.bool true) ∧ Below N w w' := by
  have ha := rightN_rgt a0
  have hb := rightN_rgt b0
  generalize hA : rightN a0 = A at ha
  generalize hB : rightN b0 = B at hb
  have CA := fun w N hN => right_any a0 w N hN
  have CB := fun w N hN => right_any b0 w N hN
  rw [hA] at CA
  rw [hB] at CB
  clear hA hB
  have h1_ := hid (join_ref ha hb)
  have h2_ := hid (meetN_ref ha hb)
  have hmw := within_meet ha hb
  have h5_ := hid (within_join_l ha hb)
  have h6_ := hid (within_join_r ha hb)
  have h7_ := hid (within_any A)
  have CM := fun w N hN => Meet_any A B w N hN
  have CR := fun w N hN => RMeet_any A B w N hN
  rw [← meetB_ref ha hb] at CR
  rw [← meetN_ref ha hb] at CR
  cases hm : meetB A B
  · rw [hm] at hmw CM CR
    have h3_ := hid (show tWithin A B = false by rw [hmw]; rfl)
    generalize meetN A B = mm at *
    clear hmw hm ha hb h2_
    go_enter Try.func6, Try.ntmps6
    unfold nV at CA CB CM CR
    unfold nV
    go_upto_region 1 with (first
      | (refine wpl_box rfl 24 (.tmp 0) rfl 2 _ rfl (N) hN ?_; intro w1 hN1 hb1 hh1)
      | (refine wpl_box rfl 24 (.tmp 1) rfl 2 _ rfl (N + 1) hN1 ?_; intro w2 hN2 hb2 hh2)
      | fail)
    have lo0 : Below N w w2 := (hb1.trans (hb2.mono (by omega)))
    have k1 := (hh1.below hb2 (by omega))
    have k2 := hh2
    clear hh1 hb1 hh2 hb2 hN1
    go_upto_region 1 with fail
    refine wp_region_any (by kernel_rfl) ?_
    replace k1 : Has w2.drew N 24 2 (nC a0) := k1
    replace k2 : Has w2.drew (N + 1) 24 2 (nC b0) := k2
    replace hN2 : Sz w2.drew (N + 1 + 1) := hN2
    replace lo0 : Below N w w2.drew := lo0.drew
    change wpAny _ _ _ _ _ _ _ (World.drew _)
    generalize w2.drew = xw3 at *
    refine wpAny_pot (rem := [0, 1, 2, 3]) (FG (N + 1 + 1) (fun j => if j = 0 then some (Value.agg (cellsOf (nC a0) 2)) else if j = 1 then some (Value.agg (cellsOf (nC A) 2)) else if j = 2 then some (Value.agg (cellsOf (nC b0) 2)) else some (Value.agg (cellsOf (nC B) 2))) (fun j => (0, 0, fun _ => undef))) (TwoN (fun j => if j = 0 then some (Value.agg (cellsOf (nC a0) 2)) else if j = 1 then some (Value.agg (cellsOf (nC A) 2)) else if j = 2 then some (Value.agg (cellsOf (nC b0) 2)) else some (Value.agg (cellsOf (nC B) 2)))) (Below (N + 1 + 1) xw3) _ _ _ _ (by kernel_rfl) (size_dstG (by kernel_rfl)) (Below.refl _ _) ?_ ?_
    · intro i hi ac wa hI ha hv
      simp only [List.mem_cons, List.not_mem_nil, or_false] at hi
      rcases hi with rfl | rfl | rfl | rfl
      · exact potg_run rfl rfl (Value.agg (cellsOf (nC a0) 2)) rfl (run_rw 24 (.tmp 3) rfl N (ha 3 (not_dstG (by kernel_rfl))) 24 2 _ (Has.below k1 hI (Has.ltN k1 hN2)) undU szU) hN2 hI
      · obtain ⟨v0, hv0a, hv0b⟩ := hv 0 (by simp) (by kernel_rfl)
        have ev0 := hv0b.val rfl
        subst ev0
        exact potg_cl rfl rfl 9 _ _ rfl #[(Value.agg (cellsOf (nC a0) 2))] (by simp only [List.map_toArray, List.map_cons, List.map_nil, (show ac.eval (.tmp 13) = (Value.agg (cellsOf (nC a0) 2)) from (hv0a 13 rfl))] <;> rfl) (by kernel_rfl) (Value.agg (cellsOf (nC A) 2)) (fun K hK => CA wa K hK) rfl hN2 hI
      · exact potg_run rfl rfl (Value.agg (cellsOf (nC b0) 2)) rfl (run_rw 24 (.tmp 4) rfl (N + 1) (ha 4 (not_dstG (by kernel_rfl))) 24 2 _ (Has.below k2 hI (Has.ltN k2 hN2)) undU szU) hN2 hI
      · obtain ⟨v2, hv2a, hv2b⟩ := hv 2 (by simp) (by kernel_rfl)
        have ev2 := hv2b.val rfl
        subst ev2
        exact potg_cl rfl rfl 9 _ _ rfl #[(Value.agg (cellsOf (nC b0) 2))] (by simp only [List.map_toArray, List.map_cons, List.map_nil, (show ac.eval (.tmp 15) = (Value.agg (cellsOf (nC b0) 2)) from (hv2a 15 rfl))] <;> rfl) (by kernel_rfl) (Value.agg (cellsOf (nC B) 2)) (fun K hK => CB wa K hK) rfl hN2 hI
    · intro vals w5_4_ hb5_4_ hF hG
      have e_4_0 := (hF 0 (by simp)).val rfl
      have e_4_1 := (hF 1 (by simp)).val rfl
      have e_4_2 := (hF 2 (by simp)).val rfl
      have e_4_3 := (hF 3 (by simp)).val rfl
      clear hF hG
      simp only [List.foldl_cons, List.foldl_nil, dstOf, List.getElem?_toArray, List.getElem?_cons_succ, List.getElem?_cons_zero, Option.bind_some, Act.put, List.setIfInBounds_toArray, List.set_cons_succ, List.set_cons_zero, e_4_0, e_4_1, e_4_2, e_4_3]
      clear e_4_0 e_4_1 e_4_2 e_4_3
      refine wpAny_chain [4, 5] _ _ _ _ (by kernel_rfl) (by decide) ?_
      simp only [List.filterMap_cons, List.filterMap_nil, List.getElem?_toArray, List.getElem?_cons_succ, List.getElem?_cons_zero]
      have k5 := k1.below hb5_4_ (by omega)
      have k6 := k2.below hb5_4_ (by omega)
      have lo7 := lo0.trans (hb5_4_.mono (by omega))
      clear k1 k2 lo0 hb5_4_
      refine wpl_store rfl 24 (.tmp 3) (.tmp 14) rfl N 2 (nC A) rfl rfl 24 _ k5 szU (fun j _ => nC_one _ j) ?_
      intro xw8 t9 k10
      have k11 := k6.touch t9 (by omega)
      have lo12 := t9.below lo7 (by omega)
      clear k5 k6 lo7 t9
      refine wpl_store rfl 24 (.tmp 4) (.tmp 16) rfl (N + 1) 2 (nC B) rfl rfl 24 _ k11 szU (fun j _ => nC_one _ j) ?_
      intro xw13 t14 k15
      have k16 := k10.touch t14 (by omega)
      have lo17 := t14.below lo12 (by omega)
      clear k11 k10 lo12 t14
      obtain ⟨M18, hM18⟩ := sz_some xw13
      have lt_19 := k16.ltN hM18
      have lt_20 := k15.ltN hM18
      go_upto_region 2 with fail
      refine wp_region_any (by kernel_rfl) ?_
      replace k16 : Has xw13.drew N 24 2 (nC A) := k16
      replace k15 : Has xw13.drew (N + 1) 24 2 (nC B) := k15
      replace hM18 : Sz xw13.drew M18 := hM18
      replace lo17 : Below N w xw13.drew := lo17.drew
      change wpAny _ _ _ _ _ _ _ (World.drew _)
      generalize xw13.drew = xw21 at *
      refine wpAny_pot (rem := [0, 1, 2, 3, 4, 5]) (FG M18 (fun j => if j = 0 then some (Value.agg (cellsOf (nC A) 2)) else if j = 1 then some (Value.agg (cellsOf (nC A) 2)) else if j = 2 then some (Value.agg (cellsOf (nC B) 2)) else if j = 3 then some (Value.agg (cellsOf (nC B) 2)) else if j = 4 then some (Value.agg (cellsOf (nC (tJoin A B)) 2)) else none) (fun j => (27, 2, nC zeroN))) (TwoN (fun j => if j = 0 then some (Value.agg (cellsOf (nC A) 2)) else if j = 1 then some (Value.agg (cellsOf (nC A) 2)) else if j = 2 then some (Value.agg (cellsOf (nC B) 2)) else if j = 3 then some (Value.agg (cellsOf (nC B) 2)) else if j = 4 then some (Value.agg (cellsOf (nC (tJoin A B)) 2)) else none)) (Below M18 xw21) _ _ _ _ (by kernel_rfl) (size_dstG (by kernel_rfl)) (Below.refl _ _) ?_ ?_
      · intro i hi ac wa hI ha hv
        simp only [List.mem_cons, List.not_mem_nil, or_false] at hi
        rcases hi with rfl | rfl | rfl | rfl | rfl | rfl
        · exact potg_run rfl rfl (Value.agg (cellsOf (nC A) 2)) rfl (run_rw 24 (.tmp 3) rfl N (ha 3 (not_dstG (by kernel_rfl))) 24 2 _ (Has.below k16 hI (Has.ltN k16 hM18)) undU szU) hM18 hI
        · obtain ⟨v0, hv0a, hv0b⟩ := hv 0 (by simp) (by kernel_rfl)
          have ev0 := hv0b.val rfl
          subst ev0
          exact potg_cl rfl rfl 10 _ _ rfl #[(Value.agg (cellsOf (nC A) 2))] (by simp only [List.map_toArray, List.map_cons, List.map_nil, (show ac.eval (.tmp 17) = (Value.agg (cellsOf (nC A) 2)) from (hv0a 17 rfl))] <;> rfl) (by kernel_rfl) (Value.agg (cellsOf (nC A) 2)) (fun K hK => To_any A wa K hK) rfl hM18 hI
        · exact potg_run rfl rfl (Value.agg (cellsOf (nC B) 2)) rfl (run_rw 24 (.tmp 4) rfl (N + 1) (ha 4 (not_dstG (by kernel_rfl))) 24 2 _ (Has.below k15 hI (Has.ltN k15 hM18)) undU szU) hM18 hI
        · obtain ⟨v2, hv2a, hv2b⟩ := hv 2 (by simp) (by kernel_rfl)
          have ev2 := hv2b.val rfl
          subst ev2
          exact potg_cl rfl rfl 10 _ _ rfl #[(Value.agg (cellsOf (nC B) 2))] (by simp only [List.map_toArray, List.map_cons, List.map_nil, (show ac.eval (.tmp 19) = (Value.agg (cellsOf (nC B) 2)) from (hv2a 19 rfl))] <;> rfl) (by kernel_rfl) (Value.agg (cellsOf (nC B) 2)) (fun K hK => To_any B wa K hK) rfl hM18 hI
        · obtain ⟨v1, hv1a, hv1b⟩ := hv 1 (by simp) (by kernel_rfl)
          have ev1 := hv1b.val rfl
          subst ev1
          obtain ⟨v3, hv3a, hv3b⟩ := hv 3 (by simp) (by kernel_rfl)
          have ev3 := hv3b.val rfl
          subst ev3
          exact potg_cl rfl rfl 24 _ _ rfl #[(Value.agg (cellsOf (nC A) 2)), (Value.agg (cellsOf (nC B) 2))] (by simp only [List.map_toArray, List.map_cons, List.map_nil, (show ac.eval (.tmp 18) = (Value.agg (cellsOf (nC A) 2)) from (hv1a 18 rfl)), (show ac.eval (.tmp 20) = (Value.agg (cellsOf (nC B) 2)) from (hv3a 20 rfl))] <;> rfl) (by kernel_rfl) (Value.agg (cellsOf (nC (tJoin A B)) 2)) (fun K hK => Join_any A B wa K hK) rfl hM18 hI
        · exact potg_al rfl rfl rfl zeT rfl rfl hM18 hI
      · intro vals w5_22_ hb5_22_ hF hG
        have e_22_0 := (hF 0 (by simp)).val rfl
        have e_22_1 := (hF 1 (by simp)).val rfl
        have e_22_2 := (hF 2 (by simp)).val rfl
        have e_22_3 := (hF 3 (by simp)).val rfl
        have e_22_4 := (hF 4 (by simp)).val rfl
        obtain ⟨b_22_5, l_22_5, e_22_5, h_22_5⟩ := (hF 5 (by simp)).al rfl rfl
        clear hF hG
        simp only [List.foldl_cons, List.foldl_nil, dstOf, List.getElem?_toArray, List.getElem?_cons_succ, List.getElem?_cons_zero, Option.bind_some, Act.put, List.setIfInBounds_toArray, List.set_cons_succ, List.set_cons_zero, e_22_0, e_22_1, e_22_2, e_22_3, e_22_4, e_22_5]
        clear e_22_0 e_22_1 e_22_2 e_22_3 e_22_4 e_22_5
        refine wpAny_chain [6] _ _ _ _ (by kernel_rfl) (by decide) ?_
        simp only [List.filterMap_cons, List.filterMap_nil, List.getElem?_toArray, List.getElem?_cons_succ, List.getElem?_cons_zero]
        have k23 := k16.below hb5_22_ (by omega)
        have k24 := k15.below hb5_22_ (by omega)
        have lo25 := lo17.trans (hb5_22_.mono (by omega))
        clear k16 k15 lo17 hb5_22_
        refine wpl_store rfl 27 (.tmp 7) (.tmp 21) rfl b_22_5 2 (nC (tJoin A B)) rfl rfl 27 _ h_22_5 szT (fun j _ => nC_one _ j) ?_
        intro xw26 t27 k28
        have k29 := k23.touch t27 (by omega)
        have k30 := k24.touch t27 (by omega)
        have lo31 := t27.below lo25 (by omega)
        clear h_22_5 k23 k24 lo25 t27
        obtain ⟨M32, hM32⟩ := sz_some xw26
        have lt_33 := k29.ltN hM32
        have lt_34 := k30.ltN hM32
        have lt_35 := k28.ltN hM32
        go_upto_region 3 with fail
        refine wp_mid (fun ac (x : Nat) => ((((((((((ac.put (some 23) (Value.agg (cellsOf (nC A) 2))).put (some 24) (Value.agg (cellsOf (nC A) 2))).put (some 25) (Value.agg (cellsOf (nC B) 2))).put (some 26) (Value.agg (cellsOf (nC B) 2))).put (some 27) (Value.tuple #[(Value.agg (cellsOf (nC mm) 2)), (Value.bool false)])).put (some 22) (Value.tuple #[(Value.agg (cellsOf (nC mm) 2)), (Value.bool false)])).put (some 28) (Value.agg (cellsOf (nC mm) 2))).put (some 29) (Value.bool false)).put (some 8) (.pointer (some ⟨x, 0, none⟩))).put (some 9) (Value.bool false))) (fun x w' => Has w' x 27 2 (nC mm) ∧ Has w' N 24 2 (nC A) ∧ Has w' (N + 1) 24 2 (nC B) ∧ Has w' b_22_5 27 2 (nC (tJoin A B)) ∧ M32 ≤ x ∧ Below N w w') ?_ ?_
        · refine wp_region_any (by kernel_rfl) ?_
          replace k29 : Has xw26.drew N 24 2 (nC A) := k29
          replace k30 : Has xw26.drew (N + 1) 24 2 (nC B) := k30
          replace k28 : Has xw26.drew b_22_5 27 2 (nC (tJoin A B)) := k28
          replace hM32 : Sz xw26.drew M32 := hM32
          replace lo31 : Below N w xw26.drew := lo31.drew
          change wpAny _ _ _ _ _ _ _ (World.drew _)
          generalize xw26.drew = xw37 at *
          refine wpAny_potO (rem := [0, 1, 2, 3, 4, 5, 6, 7, 8]) 7 (FG M32 (fun j => if j = 0 then some (Value.agg (cellsOf (nC A) 2)) else if j = 1 then some (Value.agg (cellsOf (nC A) 2)) else if j = 2 then some (Value.agg (cellsOf (nC B) 2)) else if j = 3 then some (Value.agg (cellsOf (nC B) 2)) else if j = 4 then some (Value.tuple #[(Value.agg (cellsOf (nC mm) 2)), (Value.bool false)]) else if j = 5 then some (Value.tuple #[(Value.agg (cellsOf (nC mm) 2)), (Value.bool false)]) else if j = 6 then some (Value.agg (cellsOf (nC mm) 2)) else if j = 7 then some (Value.bool false) else none) (fun j => (27, 2, nC zeroN))) (TwoN (fun j => if j = 0 then some (Value.agg (cellsOf (nC A) 2)) else if j = 1 then some (Value.agg (cellsOf (nC A) 2)) else if j = 2 then some (Value.agg (cellsOf (nC B) 2)) else if j = 3 then some (Value.agg (cellsOf (nC B) 2)) else if j = 4 then some (Value.tuple #[(Value.agg (cellsOf (nC mm) 2)), (Value.bool false)]) else if j = 5 then some (Value.tuple #[(Value.agg (cellsOf (nC mm) 2)), (Value.bool false)]) else if j = 6 then some (Value.agg (cellsOf (nC mm) 2)) else if j = 7 then some (Value.bool false) else none)) (Below M32 xw37) _ _ _ _ (by kernel_rfl) (size_dstG (by kernel_rfl)) (Below.refl _ _) ?_ ?_ ?_
          · intro i hi ac wa hI ha hv
            simp only [List.mem_cons, List.not_mem_nil, or_false] at hi
            rcases hi with rfl | rfl | rfl | rfl | rfl | rfl | rfl | rfl | rfl
            · exact potg_run rfl rfl (Value.agg (cellsOf (nC A) 2)) rfl (run_rw 24 (.tmp 3) rfl N (ha 3 (not_dstG (by kernel_rfl))) 24 2 _ (Has.below k29 hI (Has.ltN k29 hM32)) undU szU) hM32 hI
            · obtain ⟨v0, hv0a, hv0b⟩ := hv 0 (by simp) (by kernel_rfl)
              have ev0 := hv0b.val rfl
              subst ev0
              exact potg_cl rfl rfl 10 _ _ rfl #[(Value.agg (cellsOf (nC A) 2))] (by simp only [List.map_toArray, List.map_cons, List.map_nil, (show ac.eval (.tmp 23) = (Value.agg (cellsOf (nC A) 2)) from (hv0a 23 rfl))] <;> rfl) (by kernel_rfl) (Value.agg (cellsOf (nC A) 2)) (fun K hK => To_any A wa K hK) rfl hM32 hI
            · exact potg_run rfl rfl (Value.agg (cellsOf (nC B) 2)) rfl (run_rw 24 (.tmp 4) rfl (N + 1) (ha 4 (not_dstG (by kernel_rfl))) 24 2 _ (Has.below k30 hI (Has.ltN k30 hM32)) undU szU) hM32 hI
            · obtain ⟨v2, hv2a, hv2b⟩ := hv 2 (by simp) (by kernel_rfl)
              have ev2 := hv2b.val rfl
              subst ev2
              exact potg_cl rfl rfl 10 _ _ rfl #[(Value.agg (cellsOf (nC B) 2))] (by simp only [List.map_toArray, List.map_cons, List.map_nil, (show ac.eval (.tmp 25) = (Value.agg (cellsOf (nC B) 2)) from (hv2a 25 rfl))] <;> rfl) (by kernel_rfl) (Value.agg (cellsOf (nC B) 2)) (fun K hK => To_any B wa K hK) rfl hM32 hI
            · obtain ⟨v1, hv1a, hv1b⟩ := hv 1 (by simp) (by kernel_rfl)
              have ev1 := hv1b.val rfl
              subst ev1
              obtain ⟨v3, hv3a, hv3b⟩ := hv 3 (by simp) (by kernel_rfl)
              have ev3 := hv3b.val rfl
              subst ev3
              exact potg_cl rfl rfl 31 _ _ rfl #[(Value.agg (cellsOf (nC A) 2)), (Value.agg (cellsOf (nC B) 2))] (by simp only [List.map_toArray, List.map_cons, List.map_nil, (show ac.eval (.tmp 24) = (Value.agg (cellsOf (nC A) 2)) from (hv1a 24 rfl)), (show ac.eval (.tmp 26) = (Value.agg (cellsOf (nC B) 2)) from (hv3a 26 rfl))] <;> rfl) (by kernel_rfl) (Value.tuple #[(Value.agg (cellsOf (nC mm) 2)), (Value.bool false)]) (fun K hK => CM wa K hK) rfl hM32 hI
            · obtain ⟨v4, hv4a, hv4b⟩ := hv 4 (by simp) (by kernel_rfl)
              have ev4 := hv4b.val rfl
              subst ev4
              exact potg_run rfl rfl (Value.tuple #[(Value.agg (cellsOf (nC mm) 2)), (Value.bool false)]) rfl (run_mv (x := (.tmp 27)) rfl _ (hv4a 27 rfl)) hM32 hI
            · obtain ⟨v5, hv5a, hv5b⟩ := hv 5 (by simp) (by kernel_rfl)
              have ev5 := hv5b.val rfl
              subst ev5
              exact potg_run rfl rfl (Value.agg (cellsOf (nC mm) 2)) rfl (run_ex (x := (.tmp 22)) rfl _ (hv5a 22 rfl) rfl) hM32 hI
            · obtain ⟨v5, hv5a, hv5b⟩ := hv 5 (by simp) (by kernel_rfl)
              have ev5 := hv5b.val rfl
              subst ev5
              exact potg_run rfl rfl (Value.bool false) rfl (run_ex (x := (.tmp 22)) rfl _ (hv5a 22 rfl) rfl) hM32 hI
            · exact potg_al rfl rfl rfl zeT rfl rfl hM32 hI
          · intro vals w5_36_ hb5_36_ hF hG
            have e_36_0 := (hF 0 (by simp)).val rfl
            have e_36_1 := (hF 1 (by simp)).val rfl
            have e_36_2 := (hF 2 (by simp)).val rfl
            have e_36_3 := (hF 3 (by simp)).val rfl
            have e_36_4 := (hF 4 (by simp)).val rfl
            have e_36_5 := (hF 5 (by simp)).val rfl
            have e_36_6 := (hF 6 (by simp)).val rfl
            have e_36_7 := (hF 7 (by simp)).val rfl
            obtain ⟨b_36_8, l_36_8, e_36_8, h_36_8⟩ := (hF 8 (by simp)).al rfl rfl
            clear hF hG
            simp only [List.foldl_cons, List.foldl_nil, dstOf, List.getElem?_toArray, List.getElem?_cons_succ, List.getElem?_cons_zero, Option.bind_some, Act.put, List.setIfInBounds_toArray, List.set_cons_succ, List.set_cons_zero, e_36_0, e_36_1, e_36_2, e_36_3, e_36_4, e_36_5, e_36_6, e_36_7, e_36_8]
            clear e_36_0 e_36_1 e_36_2 e_36_3 e_36_4 e_36_5 e_36_6 e_36_7 e_36_8
            have k38 := k29.below hb5_36_ (by omega)
            have k39 := k30.below hb5_36_ (by omega)
            have k40 := k28.below hb5_36_ (by omega)
            have lo41 := lo31.trans (hb5_36_.mono (by omega))
            clear k29 k30 k28 lo31 hb5_36_
            refine wpAny_chain [9, 10] _ _ _ _ (by kernel_rfl) (by decide) ?_
            simp only [List.filterMap_cons, List.filterMap_nil, List.getElem?_toArray, List.getElem?_cons_succ, List.getElem?_cons_zero]
            refine wpl_store rfl 27 (.tmp 8) (.tmp 28) rfl b_36_8 2 (nC mm) rfl rfl 27 _ h_36_8 szT (fun j _ => nC_one _ j) ?_
            intro xw42 t43 k44
            have k45 := k38.touch t43 (by omega)
            have k46 := k39.touch t43 (by omega)
            have k47 := k40.touch t43 (by omega)
            have lo48 := t43.below lo41 (by omega)
            clear h_36_8 k38 k39 k40 lo41 t43
            refine wpl_run rfl (Value.bool false) _ (run_as (x := (.tmp 29)) rfl _ rfl) ?_; simp only [Act.put, List.setIfInBounds_toArray, List.set_cons_succ, List.set_cons_zero]
            refine ⟨rfl, b_36_8, (by simp only [Act.put, List.setIfInBounds_toArray, List.set_cons_succ, List.set_cons_zero]), k44, k45, k46, k47, (by omega), lo48⟩
          · intro vals w5_36_ hb5_36_ hF hG
            have e_36_0 := (hF 0 (by simp) (by omega)).val rfl
            have e_36_1 := (hF 1 (by simp) (by omega)).val rfl
            have e_36_2 := (hF 2 (by simp) (by omega)).val rfl
            have e_36_3 := (hF 3 (by simp) (by omega)).val rfl
            have e_36_4 := (hF 4 (by simp) (by omega)).val rfl
            have e_36_5 := (hF 5 (by simp) (by omega)).val rfl
            have e_36_6 := (hF 6 (by simp) (by omega)).val rfl
            obtain ⟨b_36_8, l_36_8, e_36_8, h_36_8⟩ := (hF 8 (by simp) (by omega)).al rfl rfl
            clear hF hG
            rw [show (List.filter (fun j => !(j == 7)) [0, 1, 2, 3, 4, 5, 6, 7, 8]) = [0, 1, 2, 3, 4, 5, 6, 8] from rfl]
            simp only [List.foldl_cons, List.foldl_nil, dstOf, List.getElem?_toArray, List.getElem?_cons_succ, List.getElem?_cons_zero, Option.bind_some, Act.put, List.setIfInBounds_toArray, List.set_cons_succ, List.set_cons_zero, e_36_0, e_36_1, e_36_2, e_36_3, e_36_4, e_36_5, e_36_6, e_36_8]
            clear e_36_0 e_36_1 e_36_2 e_36_3 e_36_4 e_36_5 e_36_6 e_36_8
            have k38 := k29.below hb5_36_ (by omega)
            have k39 := k30.below hb5_36_ (by omega)
            have k40 := k28.below hb5_36_ (by omega)
            have lo41 := lo31.trans (hb5_36_.mono (by omega))
            clear k29 k30 k28 lo31 hb5_36_
            refine wpAny_fork 7 9 [9, 10] [7, 10] 2 _ _ _ (by kernel_rfl) (by kernel_rfl) ?_ ?_
            · simp only [List.filterMap_cons, List.filterMap_nil, List.getElem?_toArray, List.getElem?_cons_succ, List.getElem?_cons_zero]
              refine wpl_run rfl (Value.bool false) _ (run_ex (x := (.tmp 22)) rfl _ rfl rfl) ?_; simp only [Act.put, List.setIfInBounds_toArray, List.set_cons_succ, List.set_cons_zero]
              refine wpl_store rfl 27 (.tmp 8) (.tmp 28) rfl b_36_8 2 (nC mm) rfl rfl 27 _ h_36_8 szT (fun j _ => nC_one _ j) ?_
              intro xw42 t43 k44
              have k45 := k38.touch t43 (by omega)
              have k46 := k39.touch t43 (by omega)
              have k47 := k40.touch t43 (by omega)
              have lo48 := t43.below lo41 (by omega)
              clear h_36_8 k38 k39 k40 lo41 t43
              refine wpl_run rfl (Value.bool false) _ (run_as (x := (.tmp 29)) rfl _ rfl) ?_; simp only [Act.put, List.setIfInBounds_toArray, List.set_cons_succ, List.set_cons_zero]
              refine ⟨rfl, b_36_8, (by simp only [Act.put, List.setIfInBounds_toArray, List.set_cons_succ, List.set_cons_zero]), k44, k45, k46, k47, (by omega), lo48⟩
            · simp only [List.filterMap_cons, List.filterMap_nil, List.getElem?_toArray, List.getElem?_cons_succ, List.getElem?_cons_zero]
              refine wpl_store rfl 27 (.tmp 8) (.tmp 28) rfl b_36_8 2 (nC mm) rfl rfl 27 _ h_36_8 szT (fun j _ => nC_one _ j) ?_
              intro xw42 t43 k44
              have k45 := k38.touch t43 (by omega)
              have k46 := k39.touch t43 (by omega)
              have k47 := k40.touch t43 (by omega)
              have lo48 := t43.below lo41 (by omega)
              clear h_36_8 k38 k39 k40 lo41 t43
              refine wpl_run rfl (Value.bool false) _ (run_ex (x := (.tmp 22)) rfl _ rfl rfl) ?_; simp only [Act.put, List.setIfInBounds_toArray, List.set_cons_succ, List.set_cons_zero]
              refine wpl_run rfl (Value.bool false) _ (run_as (x := (.tmp 29)) rfl _ rfl) ?_; simp only [Act.put, List.setIfInBounds_toArray, List.set_cons_succ, List.set_cons_zero]
              refine ⟨rfl, b_36_8, (by simp only [Act.put, List.setIfInBounds_toArray, List.set_cons_succ, List.set_cons_zero]), k44, k45, k46, k47, (by omega), lo48⟩
        · clear k29 k30 k28 lo31
          rintro b_36_x xw42 ⟨k37, k38, k39, k40, lb_36_x, lo41⟩
          try dsimp only
          try simp only [Act.put, List.setIfInBounds_toArray, List.set_cons_succ, List.set_cons_zero]
          obtain ⟨M43, hM43⟩ := sz_some xw42
          have lt_44 := k38.ltN hM43
          have lt_45 := k39.ltN hM43
          have lt_46 := k40.ltN hM43
          have lt_47 := k37.ltN hM43
          go_upto_region 4 with fail
          refine wp_region_lit ?_
          try simp only [Act.put, List.setIfInBounds_toArray, List.set_cons_succ, List.set_cons_zero]
          refine wpl_run rfl (Value.agg (cellsOf (nC A) 2)) _ (run_rw 24 (.tmp 3) rfl N rfl 24 2 _ k38 undU szU) ?_; simp only [Act.put, List.setIfInBounds_toArray, List.set_cons_succ, List.set_cons_zero]
          refine wpl_run rfl (Value.agg (cellsOf (nC B) 2)) _ (run_rw 24 (.tmp 4) rfl (N + 1) rfl 24 2 _ k39 undU szU) ?_; simp only [Act.put, List.setIfInBounds_toArray, List.set_cons_succ, List.set_cons_zero]
          refine wpl_cl rfl 32 _ _ rfl #[(Value.agg (cellsOf (nC A) 2)), (Value.agg (cellsOf (nC B) 2))] (by simp only [List.map_toArray, List.map_cons, List.map_nil]; rfl) (by kernel_rfl) (Value.tuple #[(Value.agg (cellsOf (nC mm) 2)), (Value.bool false)]) (CR xw42 M43 hM43) ?_
          intro xw48 hbxw48; simp only [Act.put, List.setIfInBounds_toArray, List.set_cons_succ, List.set_cons_zero]
          obtain ⟨M49, hM49⟩ := sz_some xw48
          have lM49 := below_sz hbxw48 hM43 hM49
          have k50 := k38.below hbxw48 (by omega)
          have k51 := k39.below hbxw48 (by omega)
          have k52 := k40.below hbxw48 (by omega)
          have k53 := k37.below hbxw48 (by omega)
          have lo54 := lo41.trans (hbxw48.mono (by omega))
          clear k38 k39 k40 k37 lo41 hbxw48
          refine wpl_run rfl (Value.tuple #[(Value.agg (cellsOf (nC mm) 2)), (Value.bool false)]) _ (run_mv (x := (.tmp 33)) rfl _ rfl) ?_; simp only [Act.put, List.setIfInBounds_toArray, List.set_cons_succ, List.set_cons_zero]
          refine wpl_run rfl (Value.agg (cellsOf (nC mm) 2)) _ (run_ex (x := (.tmp 30)) rfl _ rfl rfl) ?_; simp only [Act.put, List.setIfInBounds_toArray, List.set_cons_succ, List.set_cons_zero]
          refine wpl_run rfl (Value.bool false) _ (run_ex (x := (.tmp 30)) rfl _ rfl rfl) ?_; simp only [Act.put, List.setIfInBounds_toArray, List.set_cons_succ, List.set_cons_zero]
          obtain ⟨b_xw55, eb_xw55⟩ : ∃ b_xw55, b_xw55 = M49 := ⟨_, rfl⟩
          have hzb_xw55 : Sz xw48 b_xw55 := by rw [eb_xw55]; exact hM49
          have lob_xw55 : M49 ≤ b_xw55 := by omega
          have upb_xw55 : b_xw55 ≤ M49 := by omega
          clear eb_xw55
          refine wpl_alloc rfl 24 rfl 2 (nC zeroN) zeU b_xw55 hzb_xw55 ?_
          intro xw55 hMxw55 hbxw55 hhxw55; simp only [Act.put, List.setIfInBounds_toArray, List.set_cons_succ, List.set_cons_zero]
          have k56 := k50.below hbxw55 (by omega)
          have k57 := k51.below hbxw55 (by omega)
          have k58 := k52.below hbxw55 (by omega)
          have k59 := k53.below hbxw55 (by omega)
          have lo60 := lo54.trans (hbxw55.mono (by omega))
          clear k50 k51 k52 k53 lo54 hbxw55 hzb_xw55
          obtain ⟨M61, eM61⟩ : ∃ M61, M61 = b_xw55 + 1 := ⟨_, rfl⟩
          rw [← eM61] at hMxw55
          have loM61 : b_xw55 + 1 ≤ M61 := by omega
          have upM61 : M61 ≤ b_xw55 + 1 := by omega
          clear eM61
          refine wpl_store rfl 24 (.tmp 10) (.tmp 34) rfl b_xw55 2 (nC mm) rfl rfl 24 _ hhxw55 szU (fun j _ => nC_one _ j) ?_
          intro xw62 t63 k64; simp only [Act.put, List.setIfInBounds_toArray, List.set_cons_succ, List.set_cons_zero]
          have k65 := k56.touch t63 (by omega)
          have k66 := k57.touch t63 (by omega)
          have k67 := k58.touch t63 (by omega)
          have k68 := k59.touch t63 (by omega)
          have lo69 := t63.below lo60 (by omega)
          have h70 := t63.sz hMxw55
          clear hhxw55 k56 k57 k58 k59 lo60 hMxw55 t63
          change wpList _ _ _ (_ :: []) _ _
          refine wpList_of_quiet (C := fun w' => ∃ x : Later M61 xw62, w' = x.w') _ _ _ ⟨⟨_, Below.refl _ _⟩, rfl⟩ ?_
          go_big_quiet_step (fail)
          refine wpQuiet_nil ?_
          rintro xw71 ⟨qxw71, exw71⟩
          have hbxw71 := qxw71.b
          rw [← exw71] at hbxw71
          clear qxw71 exw71
          obtain ⟨M72, hM72⟩ := sz_some xw71
          have lM72 := below_sz hbxw71 h70 hM72
          have k73 := k65.below hbxw71 (by omega)
          have k74 := k66.below hbxw71 (by omega)
          have k75 := k67.below hbxw71 (by omega)
          have k76 := k68.below hbxw71 (by omega)
          have k77 := k64.below hbxw71 (by omega)
          have lo78 := lo69.trans (hbxw71.mono (by omega))
          clear k65 k66 k67 k68 k64 lo69 hbxw71
          go_upto_region 5 with fail
          first | refine wp_region_later (M72) (by kernel_rfl) (by kernel_rfl) ?_ | refine wp_region_later1 (M72) ?_
          try simp only [Act.put, List.setIfInBounds_toArray, List.set_cons_succ, List.set_cons_zero]
          refine later_row hM72 24 (.tmp 3) rfl (N) rfl 24 2 _ k73 undU szU (by rfl) ?_; simp only [Act.put, List.setIfInBounds_toArray, List.set_cons_succ, List.set_cons_zero]
          go_big_quiet_step ((go_at_call 10; exact later_of hM72 _ (fun K hK hKN => To_any A _ K hK)))
          refine later_row hM72 24 (.tmp 4) rfl ((N + 1)) rfl 24 2 _ k74 undU szU (by rfl) ?_; simp only [Act.put, List.setIfInBounds_toArray, List.set_cons_succ, List.set_cons_zero]
          go_big_quiet_step ((go_at_call 10; exact later_of hM72 _ (fun K hK hKN => To_any B _ K hK)))
          go_big_quiet_step ((go_at_call 33; exact later_of hM72 _ (fun K hK hKN => ret_is h3_.out (Within_any A B) _ K hK)))
          go_big_quiet_step (fail)
          refine wpQuiet_nil ?_
          rintro xw79 ⟨qxw79, exw79⟩
          have hbxw79 := qxw79.b
          rw [← exw79] at hbxw79
          clear qxw79 exw79
          obtain ⟨M80, hM80⟩ := sz_some xw79
          have lM80 := below_sz hbxw79 hM72 hM80
          have k81 := k73.below hbxw79 (by omega)
          have k82 := k74.below hbxw79 (by omega)
          have k83 := k75.below hbxw79 (by omega)
          have k84 := k76.below hbxw79 (by omega)
          have k85 := k77.below hbxw79 (by omega)
          have lo86 := lo78.trans (hbxw79.mono (by omega))
          clear k73 k74 k75 k76 k77 lo78 hbxw79
          go_upto_region 6 with fail
          change Code.wp _ (Code.region _ (List.toArray (_ :: _ :: _ :: _ :: _ :: _ :: _ :: _ :: _ :: _ :: _ :: _ :: _ :: _ :: _ :: _ :: _ :: _ :: _ :: _ :: _ :: _ :: _ :: _ :: _ :: _ :: _ :: _ :: _ :: _ :: _ :: _ :: _ :: _ :: _ :: _ :: _ :: _ :: _ :: _ :: _ :: _ :: _ :: _ :: _ :: _ :: _ :: _ :: _ :: _ :: _ :: _ :: _ :: _ :: _ :: _ :: _ :: _ :: _ :: _ :: _ :: _ :: _ :: _ :: _ :: _ :: _ :: _ :: _ :: _ :: _ :: _ :: _ :: _ :: _ :: [])) _) _ _ _
          first | refine wp_region_later1 (M80) ?_ | refine wp_region_laterL (M80) (by kernel_rfl) (by kernel_rfl) ?_
          try simp only [Act.put, List.setIfInBounds_toArray, List.set_cons_succ, List.set_cons_zero]
          go_big_quiet_step ((go_at_call 11; exact later_of hM80 _ (fun K hK hKN => knows_any _ K hK)))
          go_big_quiet_step (fail)
          refine later_row hM80 27 (.tmp 7) rfl (b_22_5) rfl 27 2 _ k83 undT szT (by rfl) ?_; simp only [Act.put, List.setIfInBounds_toArray, List.set_cons_succ, List.set_cons_zero]
          go_big_quiet_step ((go_at_call 12; exact later_of hM80 _ (fun K hK hKN => From_any (tJoin A B) _ K hK)))
          refine later_row hM80 24 (.tmp 3) rfl (N) rfl 24 2 _ k81 undU szU (by rfl) ?_; simp only [Act.put, List.setIfInBounds_toArray, List.set_cons_succ, List.set_cons_zero]
          refine later_row hM80 24 (.tmp 4) rfl ((N + 1)) rfl 24 2 _ k82 undU szU (by rfl) ?_; simp only [Act.put, List.setIfInBounds_toArray, List.set_cons_succ, List.set_cons_zero]
          go_big_quiet_step ((go_at_call 34; exact later_of hM80 _ (fun K hK hKN => RJoin_any A B _ K hK)))
          refine later_val (fun q => run_eql_op 24 24 (.tmp 44) (.tmp 47) rfl _ _ rfl rfl true (by kernel_rfl) (run_eqU_t h1_.out q.w')) (by rfl) ?_; simp only [Act.put, List.setIfInBounds_toArray, List.set_cons_succ, List.set_cons_zero]
          go_big_quiet_step (fail)
          go_big_quiet_step (fail)
          refine later_row hM80 27 (.tmp 8) rfl (b_36_x) rfl 27 2 _ k84 undT szT (by rfl) ?_; simp only [Act.put, List.setIfInBounds_toArray, List.set_cons_succ, List.set_cons_zero]
          go_big_quiet_step ((go_at_call 12; exact later_of hM80 _ (fun K hK hKN => From_any mm _ K hK)))
          refine later_row hM80 24 (.tmp 10) rfl (b_xw55) rfl 24 2 _ k85 undU szU (by rfl) ?_; simp only [Act.put, List.setIfInBounds_toArray, List.set_cons_succ, List.set_cons_zero]
          refine later_val (fun q => run_eql_op 24 24 (.tmp 52) (.tmp 53) rfl _ _ rfl rfl true (by kernel_rfl) (run_eqU_t rfl q.w')) (by rfl) ?_; simp only [Act.put, List.setIfInBounds_toArray, List.set_cons_succ, List.set_cons_zero]
          go_big_quiet_step (fail)
          go_big_quiet_step (fail)
          go_big_quiet_step (fail)
          go_big_quiet_step (fail)
          refine later_val (fun q => run_eqb 4 4 (.tmp 57) (.tmp 58) rfl undBool (p := false) (q := false) (r := true) rfl rfl rfl) (by rfl) ?_; simp only [Act.put, List.setIfInBounds_toArray, List.set_cons_succ, List.set_cons_zero]
          go_big_quiet_step (fail)
          go_big_quiet_step (fail)
          refine later_row hM80 24 (.tmp 3) rfl (N) rfl 24 2 _ k81 undU szU (by rfl) ?_; simp only [Act.put, List.setIfInBounds_toArray, List.set_cons_succ, List.set_cons_zero]
          go_big_quiet_step ((go_at_call 10; exact later_of hM80 _ (fun K hK hKN => To_any A _ K hK)))
          go_big_quiet_step (fail)
          go_big_quiet_step ((go_at_call 23; exact later_of hM80 _ (fun K hK hKN => Has_any A x _ K hK)))
          refine later_row hM80 24 (.tmp 3) rfl (N) rfl 24 2 _ k81 undU szU (by rfl) ?_; simp only [Act.put, List.setIfInBounds_toArray, List.set_cons_succ, List.set_cons_zero]
          go_big_quiet_step (fail)
          go_big_quiet_step ((go_at_call 35; exact later_of hM80 _ (fun K hK hKN => RHas_any A x _ K hK)))
          refine later_val (fun q => run_eqb 4 4 (.tmp 65) (.tmp 68) rfl undBool (p := (tHas A x)) (q := (tHas A x)) (r := true) rfl rfl (by simp)) (by rfl) ?_; simp only [Act.put, List.setIfInBounds_toArray, List.set_cons_succ, List.set_cons_zero]
          go_big_quiet_step (fail)
          go_big_quiet_step (fail)
          go_big_quiet_step (fail)
          go_big_quiet_step (fail)
          go_big_quiet_step (fail)
          go_big_quiet_step (fail)
          go_big_quiet_step (fail)
          go_big_quiet_step (fail)
          go_big_quiet_step (fail)
          refine later_val (fun q => run_eqb 4 4 (.tmp 72) (.tmp 78) rfl undBool (p := false) (q := false) (r := true) rfl rfl rfl) (by rfl) ?_; simp only [Act.put, List.setIfInBounds_toArray, List.set_cons_succ, List.set_cons_zero]
          go_big_quiet_step (fail)
          go_big_quiet_step (fail)
          refine later_row hM80 24 (.tmp 3) rfl (N) rfl 24 2 _ k81 undU szU (by rfl) ?_; simp only [Act.put, List.setIfInBounds_toArray, List.set_cons_succ, List.set_cons_zero]
          go_big_quiet_step ((go_at_call 10; exact later_of hM80 _ (fun K hK hKN => To_any A _ K hK)))
          refine later_row hM80 27 (.tmp 7) rfl (b_22_5) rfl 27 2 _ k83 undT szT (by rfl) ?_; simp only [Act.put, List.setIfInBounds_toArray, List.set_cons_succ, List.set_cons_zero]
          go_big_quiet_step ((go_at_call 33; exact later_of hM80 _ (fun K hK hKN => ret_is h5_.out (Within_any A (tJoin A B)) _ K hK)))
          go_big_quiet_step (fail)
          go_big_quiet_step (fail)
          refine later_row hM80 24 (.tmp 4) rfl ((N + 1)) rfl 24 2 _ k82 undU szU (by rfl) ?_; simp only [Act.put, List.setIfInBounds_toArray, List.set_cons_succ, List.set_cons_zero]
          go_big_quiet_step ((go_at_call 10; exact later_of hM80 _ (fun K hK hKN => To_any B _ K hK)))
          refine later_row hM80 27 (.tmp 7) rfl (b_22_5) rfl 27 2 _ k83 undT szT (by rfl) ?_; simp only [Act.put, List.setIfInBounds_toArray, List.set_cons_succ, List.set_cons_zero]
          go_big_quiet_step ((go_at_call 33; exact later_of hM80 _ (fun K hK hKN => ret_is h6_.out (Within_any B (tJoin A B)) _ K hK)))
          go_big_quiet_step (fail)
          go_big_quiet_step (fail)
          refine later_row hM80 24 (.tmp 3) rfl (N) rfl 24 2 _ k81 undU szU (by rfl) ?_; simp only [Act.put, List.setIfInBounds_toArray, List.set_cons_succ, List.set_cons_zero]
          go_big_quiet_step ((go_at_call 10; exact later_of hM80 _ (fun K hK hKN => To_any A _ K hK)))
          go_big_quiet_step ((go_at_call 36; exact later_of hM80 _ (fun K hK hKN => Any_any _ K hK)))
          go_big_quiet_step ((go_at_call 33; exact later_of hM80 _ (fun K hK hKN => ret_is h7_.out (Within_any A tAny) _ K hK)))
          go_big_quiet_step (fail)
          go_big_quiet_step (fail)
          go_big_quiet_step (fail)
          go_big_quiet_step (fail)
          go_big_quiet_step (fail)
          go_big_quiet_step (fail)
          go_big_quiet_step (fail)
          go_big_quiet_step (fail)
          go_big_quiet_step (fail)
          go_big_quiet_step (fail)
          go_big_quiet_step (fail)
          go_big_quiet_step (fail)
          go_big_quiet_step (fail)
          go_big_quiet_step (fail)
          go_big_quiet_step (fail)
          go_big_quiet_step (fail)
          go_big_quiet_step (fail)
          go_big_quiet_step (fail)
          refine wpQuiet_nil ?_
          rintro xw87 ⟨qxw87, exw87⟩
          have hbxw87 := qxw87.b
          rw [← exw87] at hbxw87
          clear qxw87 exw87
          obtain ⟨M88, hM88⟩ := sz_some xw87
          have lM88 := below_sz hbxw87 hM80 hM88
          have k89 := k81.below hbxw87 (by omega)
          have k90 := k82.below hbxw87 (by omega)
          have k91 := k83.below hbxw87 (by omega)
          have k92 := k84.below hbxw87 (by omega)
          have k93 := k85.below hbxw87 (by omega)
          have lo94 := lo86.trans (hbxw87.mono (by omega))
          clear k81 k82 k83 k84 k85 lo86 hbxw87
          go_wp2_with fail
          go_ret
          exact ⟨rfl, lo94⟩
  · rw [hm] at hmw CM CR
    have h8_ := hid (within_meet_l ha hb hm)
    have h9_ := hid (within_meet_r ha hb hm)
    cases hw : tWithin A B
    · have h3_ := hid hw
      have h4_ : Hid (∀ w, (Op.equalIn 10000 24 (.agg (cellsOf (nC (meetN A B)) 2)) (.agg (cellsOf (nC A) 2))).run Try.prog w = .ok false w) := hid (fun w => by rw [run_eqU, show (meetN A B).beq A = false from by rw [hw] at hmw; simpa using hmw.symm])
      generalize meetN A B = mm at *
      clear hmw hm ha hb h2_ hw
      go_enter Try.func6, Try.ntmps6
      unfold nV at CA CB CM CR
      unfold nV
      go_upto_region 1 with (first
        | (refine wpl_box rfl 24 (.tmp 0) rfl 2 _ rfl (N) hN ?_; intro w1 hN1 hb1 hh1)
        | (refine wpl_box rfl 24 (.tmp 1) rfl 2 _ rfl (N + 1) hN1 ?_; intro w2 hN2 hb2 hh2)
        | fail)
      have lo0 : Below N w w2 := (hb1.trans (hb2.mono (by omega)))
      have k1 := (hh1.below hb2 (by omega))
      have k2 := hh2
      clear hh1 hb1 hh2 hb2 hN1
      go_upto_region 1 with fail
      refine wp_region_any (by kernel_rfl) ?_
      replace k1 : Has w2.drew N 24 2 (nC a0) := k1
      replace k2 : Has w2.drew (N + 1) 24 2 (nC b0) := k2
      replace hN2 : Sz w2.drew (N + 1 + 1) := hN2
      replace lo0 : Below N w w2.drew := lo0.drew
      change wpAny _ _ _ _ _ _ _ (World.drew _)
      generalize w2.drew = xw3 at *
      refine wpAny_pot (rem := [0, 1, 2, 3]) (FG (N + 1 + 1) (fun j => if j = 0 then some (Value.agg (cellsOf (nC a0) 2)) else if j = 1 then some (Value.agg (cellsOf (nC A) 2)) else if j = 2 then some (Value.agg (cellsOf (nC b0) 2)) else some (Value.agg (cellsOf (nC B) 2))) (fun j => (0, 0, fun _ => undef))) (TwoN (fun j => if j = 0 then some (Value.agg (cellsOf (nC a0) 2)) else if j = 1 then some (Value.agg (cellsOf (nC A) 2)) else if j = 2 then some (Value.agg (cellsOf (nC b0) 2)) else some (Value.agg (cellsOf (nC B) 2)))) (Below (N + 1 + 1) xw3) _ _ _ _ (by kernel_rfl) (size_dstG (by kernel_rfl)) (Below.refl _ _) ?_ ?_
      · intro i hi ac wa hI ha hv
        simp only [List.mem_cons, List.not_mem_nil, or_false] at hi
        rcases hi with rfl | rfl | rfl | rfl
        · exact potg_run rfl rfl (Value.agg (cellsOf (nC a0) 2)) rfl (run_rw 24 (.tmp 3) rfl N (ha 3 (not_dstG (by kernel_rfl))) 24 2 _ (Has.below k1 hI (Has.ltN k1 hN2)) undU szU) hN2 hI
        · obtain ⟨v0, hv0a, hv0b⟩ := hv 0 (by simp) (by kernel_rfl)
          have ev0 := hv0b.val rfl
          subst ev0
          exact potg_cl rfl rfl 9 _ _ rfl #[(Value.agg (cellsOf (nC a0) 2))] (by simp only [List.map_toArray, List.map_cons, List.map_nil, (show ac.eval (.tmp 13) = (Value.agg (cellsOf (nC a0) 2)) from (hv0a 13 rfl))] <;> rfl) (by kernel_rfl) (Value.agg (cellsOf (nC A) 2)) (fun K hK => CA wa K hK) rfl hN2 hI
        · exact potg_run rfl rfl (Value.agg (cellsOf (nC b0) 2)) rfl (run_rw 24 (.tmp 4) rfl (N + 1) (ha 4 (not_dstG (by kernel_rfl))) 24 2 _ (Has.below k2 hI (Has.ltN k2 hN2)) undU szU) hN2 hI
        · obtain ⟨v2, hv2a, hv2b⟩ := hv 2 (by simp) (by kernel_rfl)
          have ev2 := hv2b.val rfl
          subst ev2
          exact potg_cl rfl rfl 9 _ _ rfl #[(Value.agg (cellsOf (nC b0) 2))] (by simp only [List.map_toArray, List.map_cons, List.map_nil, (show ac.eval (.tmp 15) = (Value.agg (cellsOf (nC b0) 2)) from (hv2a 15 rfl))] <;> rfl) (by kernel_rfl) (Value.agg (cellsOf (nC B) 2)) (fun K hK => CB wa K hK) rfl hN2 hI
      · intro vals w5_4_ hb5_4_ hF hG
        have e_4_0 := (hF 0 (by simp)).val rfl
        have e_4_1 := (hF 1 (by simp)).val rfl
        have e_4_2 := (hF 2 (by simp)).val rfl
        have e_4_3 := (hF 3 (by simp)).val rfl
        clear hF hG
        simp only [List.foldl_cons, List.foldl_nil, dstOf, List.getElem?_toArray, List.getElem?_cons_succ, List.getElem?_cons_zero, Option.bind_some, Act.put, List.setIfInBounds_toArray, List.set_cons_succ, List.set_cons_zero, e_4_0, e_4_1, e_4_2, e_4_3]
        clear e_4_0 e_4_1 e_4_2 e_4_3
        refine wpAny_chain [4, 5] _ _ _ _ (by kernel_rfl) (by decide) ?_
        simp only [List.filterMap_cons, List.filterMap_nil, List.getElem?_toArray, List.getElem?_cons_succ, List.getElem?_cons_zero]
        have k5 := k1.below hb5_4_ (by omega)
        have k6 := k2.below hb5_4_ (by omega)
        have lo7 := lo0.trans (hb5_4_.mono (by omega))
        clear k1 k2 lo0 hb5_4_
        refine wpl_store rfl 24 (.tmp 3) (.tmp 14) rfl N 2 (nC A) rfl rfl 24 _ k5 szU (fun j _ => nC_one _ j) ?_
        intro xw8 t9 k10
        have k11 := k6.touch t9 (by omega)
        have lo12 := t9.below lo7 (by omega)
        clear k5 k6 lo7 t9
        refine wpl_store rfl 24 (.tmp 4) (.tmp 16) rfl (N + 1) 2 (nC B) rfl rfl 24 _ k11 szU (fun j _ => nC_one _ j) ?_
        intro xw13 t14 k15
        have k16 := k10.touch t14 (by omega)
        have lo17 := t14.below lo12 (by omega)
        clear k11 k10 lo12 t14
        obtain ⟨M18, hM18⟩ := sz_some xw13
        have lt_19 := k16.ltN hM18
        have lt_20 := k15.ltN hM18
        go_upto_region 2 with fail
        refine wp_region_any (by kernel_rfl) ?_
        replace k16 : Has xw13.drew N 24 2 (nC A) := k16
        replace k15 : Has xw13.drew (N + 1) 24 2 (nC B) := k15
        replace hM18 : Sz xw13.drew M18 := hM18
        replace lo17 : Below N w xw13.drew := lo17.drew
        change wpAny _ _ _ _ _ _ _ (World.drew _)
        generalize xw13.drew = xw21 at *
        refine wpAny_pot (rem := [0, 1, 2, 3, 4, 5]) (FG M18 (fun j => if j = 0 then some (Value.agg (cellsOf (nC A) 2)) else if j = 1 then some (Value.agg (cellsOf (nC A) 2)) else if j = 2 then some (Value.agg (cellsOf (nC B) 2)) else if j = 3 then some (Value.agg (cellsOf (nC B) 2)) else if j = 4 then some (Value.agg (cellsOf (nC (tJoin A B)) 2)) else none) (fun j => (27, 2, nC zeroN))) (TwoN (fun j => if j = 0 then some (Value.agg (cellsOf (nC A) 2)) else if j = 1 then some (Value.agg (cellsOf (nC A) 2)) else if j = 2 then some (Value.agg (cellsOf (nC B) 2)) else if j = 3 then some (Value.agg (cellsOf (nC B) 2)) else if j = 4 then some (Value.agg (cellsOf (nC (tJoin A B)) 2)) else none)) (Below M18 xw21) _ _ _ _ (by kernel_rfl) (size_dstG (by kernel_rfl)) (Below.refl _ _) ?_ ?_
        · intro i hi ac wa hI ha hv
          simp only [List.mem_cons, List.not_mem_nil, or_false] at hi
          rcases hi with rfl | rfl | rfl | rfl | rfl | rfl
          · exact potg_run rfl rfl (Value.agg (cellsOf (nC A) 2)) rfl (run_rw 24 (.tmp 3) rfl N (ha 3 (not_dstG (by kernel_rfl))) 24 2 _ (Has.below k16 hI (Has.ltN k16 hM18)) undU szU) hM18 hI
          · obtain ⟨v0, hv0a, hv0b⟩ := hv 0 (by simp) (by kernel_rfl)
            have ev0 := hv0b.val rfl
            subst ev0
            exact potg_cl rfl rfl 10 _ _ rfl #[(Value.agg (cellsOf (nC A) 2))] (by simp only [List.map_toArray, List.map_cons, List.map_nil, (show ac.eval (.tmp 17) = (Value.agg (cellsOf (nC A) 2)) from (hv0a 17 rfl))] <;> rfl) (by kernel_rfl) (Value.agg (cellsOf (nC A) 2)) (fun K hK => To_any A wa K hK) rfl hM18 hI
          · exact potg_run rfl rfl (Value.agg (cellsOf (nC B) 2)) rfl (run_rw 24 (.tmp 4) rfl (N + 1) (ha 4 (not_dstG (by kernel_rfl))) 24 2 _ (Has.below k15 hI (Has.ltN k15 hM18)) undU szU) hM18 hI
          · obtain ⟨v2, hv2a, hv2b⟩ := hv 2 (by simp) (by kernel_rfl)
            have ev2 := hv2b.val rfl
            subst ev2
            exact potg_cl rfl rfl 10 _ _ rfl #[(Value.agg (cellsOf (nC B) 2))] (by simp only [List.map_toArray, List.map_cons, List.map_nil, (show ac.eval (.tmp 19) = (Value.agg (cellsOf (nC B) 2)) from (hv2a 19 rfl))] <;> rfl) (by kernel_rfl) (Value.agg (cellsOf (nC B) 2)) (fun K hK => To_any B wa K hK) rfl hM18 hI
          · obtain ⟨v1, hv1a, hv1b⟩ := hv 1 (by simp) (by kernel_rfl)
            have ev1 := hv1b.val rfl
            subst ev1
            obtain ⟨v3, hv3a, hv3b⟩ := hv 3 (by simp) (by kernel_rfl)
            have ev3 := hv3b.val rfl
            subst ev3
            exact potg_cl rfl rfl 24 _ _ rfl #[(Value.agg (cellsOf (nC A) 2)), (Value.agg (cellsOf (nC B) 2))] (by simp only [List.map_toArray, List.map_cons, List.map_nil, (show ac.eval (.tmp 18) = (Value.agg (cellsOf (nC A) 2)) from (hv1a 18 rfl)), (show ac.eval (.tmp 20) = (Value.agg (cellsOf (nC B) 2)) from (hv3a 20 rfl))] <;> rfl) (by kernel_rfl) (Value.agg (cellsOf (nC (tJoin A B)) 2)) (fun K hK => Join_any A B wa K hK) rfl hM18 hI
          · exact potg_al rfl rfl rfl zeT rfl rfl hM18 hI
        · intro vals w5_22_ hb5_22_ hF hG
          have e_22_0 := (hF 0 (by simp)).val rfl
          have e_22_1 := (hF 1 (by simp)).val rfl
          have e_22_2 := (hF 2 (by simp)).val rfl
          have e_22_3 := (hF 3 (by simp)).val rfl
          have e_22_4 := (hF 4 (by simp)).val rfl
          obtain ⟨b_22_5, l_22_5, e_22_5, h_22_5⟩ := (hF 5 (by simp)).al rfl rfl
          clear hF hG
          simp only [List.foldl_cons, List.foldl_nil, dstOf, List.getElem?_toArray, List.getElem?_cons_succ, List.getElem?_cons_zero, Option.bind_some, Act.put, List.setIfInBounds_toArray, List.set_cons_succ, List.set_cons_zero, e_22_0, e_22_1, e_22_2, e_22_3, e_22_4, e_22_5]
          clear e_22_0 e_22_1 e_22_2 e_22_3 e_22_4 e_22_5
          refine wpAny_chain [6] _ _ _ _ (by kernel_rfl) (by decide) ?_
          simp only [List.filterMap_cons, List.filterMap_nil, List.getElem?_toArray, List.getElem?_cons_succ, List.getElem?_cons_zero]
          have k23 := k16.below hb5_22_ (by omega)
          have k24 := k15.below hb5_22_ (by omega)
          have lo25 := lo17.trans (hb5_22_.mono (by omega))
          clear k16 k15 lo17 hb5_22_
          refine wpl_store rfl 27 (.tmp 7) (.tmp 21) rfl b_22_5 2 (nC (tJoin A B)) rfl rfl 27 _ h_22_5 szT (fun j _ => nC_one _ j) ?_
          intro xw26 t27 k28
          have k29 := k23.touch t27 (by omega)
          have k30 := k24.touch t27 (by omega)
          have lo31 := t27.below lo25 (by omega)
          clear h_22_5 k23 k24 lo25 t27
          obtain ⟨M32, hM32⟩ := sz_some xw26
          have lt_33 := k29.ltN hM32
          have lt_34 := k30.ltN hM32
          have lt_35 := k28.ltN hM32
          go_upto_region 3 with fail
          refine wp_mid (fun ac (x : Nat) => ((((((((((ac.put (some 23) (Value.agg (cellsOf (nC A) 2))).put (some 24) (Value.agg (cellsOf (nC A) 2))).put (some 25) (Value.agg (cellsOf (nC B) 2))).put (some 26) (Value.agg (cellsOf (nC B) 2))).put (some 27) (Value.tuple #[(Value.agg (cellsOf (nC mm) 2)), (Value.bool true)])).put (some 22) (Value.tuple #[(Value.agg (cellsOf (nC mm) 2)), (Value.bool true)])).put (some 28) (Value.agg (cellsOf (nC mm) 2))).put (some 29) (Value.bool true)).put (some 8) (.pointer (some ⟨x, 0, none⟩))).put (some 9) (Value.bool true))) (fun x w' => Has w' x 27 2 (nC mm) ∧ Has w' N 24 2 (nC A) ∧ Has w' (N + 1) 24 2 (nC B) ∧ Has w' b_22_5 27 2 (nC (tJoin A B)) ∧ M32 ≤ x ∧ Below N w w') ?_ ?_
          · refine wp_region_any (by kernel_rfl) ?_
            replace k29 : Has xw26.drew N 24 2 (nC A) := k29
            replace k30 : Has xw26.drew (N + 1) 24 2 (nC B) := k30
            replace k28 : Has xw26.drew b_22_5 27 2 (nC (tJoin A B)) := k28
            replace hM32 : Sz xw26.drew M32 := hM32
            replace lo31 : Below N w xw26.drew := lo31.drew
            change wpAny _ _ _ _ _ _ _ (World.drew _)
            generalize xw26.drew = xw37 at *
            refine wpAny_potO (rem := [0, 1, 2, 3, 4, 5, 6, 7, 8]) 7 (FG M32 (fun j => if j = 0 then some (Value.agg (cellsOf (nC A) 2)) else if j = 1 then some (Value.agg (cellsOf (nC A) 2)) else if j = 2 then some (Value.agg (cellsOf (nC B) 2)) else if j = 3 then some (Value.agg (cellsOf (nC B) 2)) else if j = 4 then some (Value.tuple #[(Value.agg (cellsOf (nC mm) 2)), (Value.bool true)]) else if j = 5 then some (Value.tuple #[(Value.agg (cellsOf (nC mm) 2)), (Value.bool true)]) else if j = 6 then some (Value.agg (cellsOf (nC mm) 2)) else if j = 7 then some (Value.bool true) else none) (fun j => (27, 2, nC zeroN))) (TwoN (fun j => if j = 0 then some (Value.agg (cellsOf (nC A) 2)) else if j = 1 then some (Value.agg (cellsOf (nC A) 2)) else if j = 2 then some (Value.agg (cellsOf (nC B) 2)) else if j = 3 then some (Value.agg (cellsOf (nC B) 2)) else if j = 4 then some (Value.tuple #[(Value.agg (cellsOf (nC mm) 2)), (Value.bool true)]) else if j = 5 then some (Value.tuple #[(Value.agg (cellsOf (nC mm) 2)), (Value.bool true)]) else if j = 6 then some (Value.agg (cellsOf (nC mm) 2)) else if j = 7 then some (Value.bool true) else none)) (Below M32 xw37) _ _ _ _ (by kernel_rfl) (size_dstG (by kernel_rfl)) (Below.refl _ _) ?_ ?_ ?_
            · intro i hi ac wa hI ha hv
              simp only [List.mem_cons, List.not_mem_nil, or_false] at hi
              rcases hi with rfl | rfl | rfl | rfl | rfl | rfl | rfl | rfl | rfl
              · exact potg_run rfl rfl (Value.agg (cellsOf (nC A) 2)) rfl (run_rw 24 (.tmp 3) rfl N (ha 3 (not_dstG (by kernel_rfl))) 24 2 _ (Has.below k29 hI (Has.ltN k29 hM32)) undU szU) hM32 hI
              · obtain ⟨v0, hv0a, hv0b⟩ := hv 0 (by simp) (by kernel_rfl)
                have ev0 := hv0b.val rfl
                subst ev0
                exact potg_cl rfl rfl 10 _ _ rfl #[(Value.agg (cellsOf (nC A) 2))] (by simp only [List.map_toArray, List.map_cons, List.map_nil, (show ac.eval (.tmp 23) = (Value.agg (cellsOf (nC A) 2)) from (hv0a 23 rfl))] <;> rfl) (by kernel_rfl) (Value.agg (cellsOf (nC A) 2)) (fun K hK => To_any A wa K hK) rfl hM32 hI
              · exact potg_run rfl rfl (Value.agg (cellsOf (nC B) 2)) rfl (run_rw 24 (.tmp 4) rfl (N + 1) (ha 4 (not_dstG (by kernel_rfl))) 24 2 _ (Has.below k30 hI (Has.ltN k30 hM32)) undU szU) hM32 hI
              · obtain ⟨v2, hv2a, hv2b⟩ := hv 2 (by simp) (by kernel_rfl)
                have ev2 := hv2b.val rfl
                subst ev2
                exact potg_cl rfl rfl 10 _ _ rfl #[(Value.agg (cellsOf (nC B) 2))] (by simp only [List.map_toArray, List.map_cons, List.map_nil, (show ac.eval (.tmp 25) = (Value.agg (cellsOf (nC B) 2)) from (hv2a 25 rfl))] <;> rfl) (by kernel_rfl) (Value.agg (cellsOf (nC B) 2)) (fun K hK => To_any B wa K hK) rfl hM32 hI
              · obtain ⟨v1, hv1a, hv1b⟩ := hv 1 (by simp) (by kernel_rfl)
                have ev1 := hv1b.val rfl
                subst ev1
                obtain ⟨v3, hv3a, hv3b⟩ := hv 3 (by simp) (by kernel_rfl)
                have ev3 := hv3b.val rfl
                subst ev3
                exact potg_cl rfl rfl 31 _ _ rfl #[(Value.agg (cellsOf (nC A) 2)), (Value.agg (cellsOf (nC B) 2))] (by simp only [List.map_toArray, List.map_cons, List.map_nil, (show ac.eval (.tmp 24) = (Value.agg (cellsOf (nC A) 2)) from (hv1a 24 rfl)), (show ac.eval (.tmp 26) = (Value.agg (cellsOf (nC B) 2)) from (hv3a 26 rfl))] <;> rfl) (by kernel_rfl) (Value.tuple #[(Value.agg (cellsOf (nC mm) 2)), (Value.bool true)]) (fun K hK => CM wa K hK) rfl hM32 hI
              · obtain ⟨v4, hv4a, hv4b⟩ := hv 4 (by simp) (by kernel_rfl)
                have ev4 := hv4b.val rfl
                subst ev4
                exact potg_run rfl rfl (Value.tuple #[(Value.agg (cellsOf (nC mm) 2)), (Value.bool true)]) rfl (run_mv (x := (.tmp 27)) rfl _ (hv4a 27 rfl)) hM32 hI
              · obtain ⟨v5, hv5a, hv5b⟩ := hv 5 (by simp) (by kernel_rfl)
                have ev5 := hv5b.val rfl
                subst ev5
                exact potg_run rfl rfl (Value.agg (cellsOf (nC mm) 2)) rfl (run_ex (x := (.tmp 22)) rfl _ (hv5a 22 rfl) rfl) hM32 hI
              · obtain ⟨v5, hv5a, hv5b⟩ := hv 5 (by simp) (by kernel_rfl)
                have ev5 := hv5b.val rfl
                subst ev5
                exact potg_run rfl rfl (Value.bool true) rfl (run_ex (x := (.tmp 22)) rfl _ (hv5a 22 rfl) rfl) hM32 hI
              · exact potg_al rfl rfl rfl zeT rfl rfl hM32 hI
            · intro vals w5_36_ hb5_36_ hF hG
              have e_36_0 := (hF 0 (by simp)).val rfl
              have e_36_1 := (hF 1 (by simp)).val rfl
              have e_36_2 := (hF 2 (by simp)).val rfl
              have e_36_3 := (hF 3 (by simp)).val rfl
              have e_36_4 := (hF 4 (by simp)).val rfl
              have e_36_5 := (hF 5 (by simp)).val rfl
              have e_36_6 := (hF 6 (by simp)).val rfl
              have e_36_7 := (hF 7 (by simp)).val rfl
              obtain ⟨b_36_8, l_36_8, e_36_8, h_36_8⟩ := (hF 8 (by simp)).al rfl rfl
              clear hF hG
              simp only [List.foldl_cons, List.foldl_nil, dstOf, List.getElem?_toArray, List.getElem?_cons_succ, List.getElem?_cons_zero, Option.bind_some, Act.put, List.setIfInBounds_toArray, List.set_cons_succ, List.set_cons_zero, e_36_0, e_36_1, e_36_2, e_36_3, e_36_4, e_36_5, e_36_6, e_36_7, e_36_8]
              clear e_36_0 e_36_1 e_36_2 e_36_3 e_36_4 e_36_5 e_36_6 e_36_7 e_36_8
              have k38 := k29.below hb5_36_ (by omega)
              have k39 := k30.below hb5_36_ (by omega)
              have k40 := k28.below hb5_36_ (by omega)
              have lo41 := lo31.trans (hb5_36_.mono (by omega))
              clear k29 k30 k28 lo31 hb5_36_
              refine wpAny_chain [9, 10] _ _ _ _ (by kernel_rfl) (by decide) ?_
              simp only [List.filterMap_cons, List.filterMap_nil, List.getElem?_toArray, List.getElem?_cons_succ, List.getElem?_cons_zero]
              refine wpl_store rfl 27 (.tmp 8) (.tmp 28) rfl b_36_8 2 (nC mm) rfl rfl 27 _ h_36_8 szT (fun j _ => nC_one _ j) ?_
              intro xw42 t43 k44
              have k45 := k38.touch t43 (by omega)
              have k46 := k39.touch t43 (by omega)
              have k47 := k40.touch t43 (by omega)
              have lo48 := t43.below lo41 (by omega)
              clear h_36_8 k38 k39 k40 lo41 t43
              refine wpl_run rfl (Value.bool true) _ (run_as (x := (.tmp 29)) rfl _ rfl) ?_; simp only [Act.put, List.setIfInBounds_toArray, List.set_cons_succ, List.set_cons_zero]
              refine ⟨rfl, b_36_8, (by simp only [Act.put, List.setIfInBounds_toArray, List.set_cons_succ, List.set_cons_zero]), k44, k45, k46, k47, (by omega), lo48⟩
            · intro vals w5_36_ hb5_36_ hF hG
              have e_36_0 := (hF 0 (by simp) (by omega)).val rfl
              have e_36_1 := (hF 1 (by simp) (by omega)).val rfl
              have e_36_2 := (hF 2 (by simp) (by omega)).val rfl
              have e_36_3 := (hF 3 (by simp) (by omega)).val rfl
              have e_36_4 := (hF 4 (by simp) (by omega)).val rfl
              have e_36_5 := (hF 5 (by simp) (by omega)).val rfl
              have e_36_6 := (hF 6 (by simp) (by omega)).val rfl
              obtain ⟨b_36_8, l_36_8, e_36_8, h_36_8⟩ := (hF 8 (by simp) (by omega)).al rfl rfl
              clear hF hG
              rw [show (List.filter (fun j => !(j == 7)) [0, 1, 2, 3, 4, 5, 6, 7, 8]) = [0, 1, 2, 3, 4, 5, 6, 8] from rfl]
              simp only [List.foldl_cons, List.foldl_nil, dstOf, List.getElem?_toArray, List.getElem?_cons_succ, List.getElem?_cons_zero, Option.bind_some, Act.put, List.setIfInBounds_toArray, List.set_cons_succ, List.set_cons_zero, e_36_0, e_36_1, e_36_2, e_36_3, e_36_4, e_36_5, e_36_6, e_36_8]
              clear e_36_0 e_36_1 e_36_2 e_36_3 e_36_4 e_36_5 e_36_6 e_36_8
              have k38 := k29.below hb5_36_ (by omega)
              have k39 := k30.below hb5_36_ (by omega)
              have k40 := k28.below hb5_36_ (by omega)
              have lo41 := lo31.trans (hb5_36_.mono (by omega))
              clear k29 k30 k28 lo31 hb5_36_
              refine wpAny_fork 7 9 [9, 10] [7, 10] 2 _ _ _ (by kernel_rfl) (by kernel_rfl) ?_ ?_
              · simp only [List.filterMap_cons, List.filterMap_nil, List.getElem?_toArray, List.getElem?_cons_succ, List.getElem?_cons_zero]
                refine wpl_run rfl (Value.bool true) _ (run_ex (x := (.tmp 22)) rfl _ rfl rfl) ?_; simp only [Act.put, List.setIfInBounds_toArray, List.set_cons_succ, List.set_cons_zero]
                refine wpl_store rfl 27 (.tmp 8) (.tmp 28) rfl b_36_8 2 (nC mm) rfl rfl 27 _ h_36_8 szT (fun j _ => nC_one _ j) ?_
                intro xw42 t43 k44
                have k45 := k38.touch t43 (by omega)
                have k46 := k39.touch t43 (by omega)
                have k47 := k40.touch t43 (by omega)
                have lo48 := t43.below lo41 (by omega)
                clear h_36_8 k38 k39 k40 lo41 t43
                refine wpl_run rfl (Value.bool true) _ (run_as (x := (.tmp 29)) rfl _ rfl) ?_; simp only [Act.put, List.setIfInBounds_toArray, List.set_cons_succ, List.set_cons_zero]
                refine ⟨rfl, b_36_8, (by simp only [Act.put, List.setIfInBounds_toArray, List.set_cons_succ, List.set_cons_zero]), k44, k45, k46, k47, (by omega), lo48⟩
              · simp only [List.filterMap_cons, List.filterMap_nil, List.getElem?_toArray, List.getElem?_cons_succ, List.getElem?_cons_zero]
                refine wpl_store rfl 27 (.tmp 8) (.tmp 28) rfl b_36_8 2 (nC mm) rfl rfl 27 _ h_36_8 szT (fun j _ => nC_one _ j) ?_
                intro xw42 t43 k44
                have k45 := k38.touch t43 (by omega)
                have k46 := k39.touch t43 (by omega)
                have k47 := k40.touch t43 (by omega)
                have lo48 := t43.below lo41 (by omega)
                clear h_36_8 k38 k39 k40 lo41 t43
                refine wpl_run rfl (Value.bool true) _ (run_ex (x := (.tmp 22)) rfl _ rfl rfl) ?_; simp only [Act.put, List.setIfInBounds_toArray, List.set_cons_succ, List.set_cons_zero]
                refine wpl_run rfl (Value.bool true) _ (run_as (x := (.tmp 29)) rfl _ rfl) ?_; simp only [Act.put, List.setIfInBounds_toArray, List.set_cons_succ, List.set_cons_zero]
                refine ⟨rfl, b_36_8, (by simp only [Act.put, List.setIfInBounds_toArray, List.set_cons_succ, List.set_cons_zero]), k44, k45, k46, k47, (by omega), lo48⟩
          · clear k29 k30 k28 lo31
            rintro b_36_x xw42 ⟨k37, k38, k39, k40, lb_36_x, lo41⟩
            try dsimp only
            try simp only [Act.put, List.setIfInBounds_toArray, List.set_cons_succ, List.set_cons_zero]
            obtain ⟨M43, hM43⟩ := sz_some xw42
            have lt_44 := k38.ltN hM43
            have lt_45 := k39.ltN hM43
            have lt_46 := k40.ltN hM43
            have lt_47 := k37.ltN hM43
            go_upto_region 4 with fail
            refine wp_region_lit ?_
            try simp only [Act.put, List.setIfInBounds_toArray, List.set_cons_succ, List.set_cons_zero]
            refine wpl_run rfl (Value.agg (cellsOf (nC A) 2)) _ (run_rw 24 (.tmp 3) rfl N rfl 24 2 _ k38 undU szU) ?_; simp only [Act.put, List.setIfInBounds_toArray, List.set_cons_succ, List.set_cons_zero]
            refine wpl_run rfl (Value.agg (cellsOf (nC B) 2)) _ (run_rw 24 (.tmp 4) rfl (N + 1) rfl 24 2 _ k39 undU szU) ?_; simp only [Act.put, List.setIfInBounds_toArray, List.set_cons_succ, List.set_cons_zero]
            refine wpl_cl rfl 32 _ _ rfl #[(Value.agg (cellsOf (nC A) 2)), (Value.agg (cellsOf (nC B) 2))] (by simp only [List.map_toArray, List.map_cons, List.map_nil]; rfl) (by kernel_rfl) (Value.tuple #[(Value.agg (cellsOf (nC mm) 2)), (Value.bool true)]) (CR xw42 M43 hM43) ?_
            intro xw48 hbxw48; simp only [Act.put, List.setIfInBounds_toArray, List.set_cons_succ, List.set_cons_zero]
            obtain ⟨M49, hM49⟩ := sz_some xw48
            have lM49 := below_sz hbxw48 hM43 hM49
            have k50 := k38.below hbxw48 (by omega)
            have k51 := k39.below hbxw48 (by omega)
            have k52 := k40.below hbxw48 (by omega)
            have k53 := k37.below hbxw48 (by omega)
            have lo54 := lo41.trans (hbxw48.mono (by omega))
            clear k38 k39 k40 k37 lo41 hbxw48
            refine wpl_run rfl (Value.tuple #[(Value.agg (cellsOf (nC mm) 2)), (Value.bool true)]) _ (run_mv (x := (.tmp 33)) rfl _ rfl) ?_; simp only [Act.put, List.setIfInBounds_toArray, List.set_cons_succ, List.set_cons_zero]
            refine wpl_run rfl (Value.agg (cellsOf (nC mm) 2)) _ (run_ex (x := (.tmp 30)) rfl _ rfl rfl) ?_; simp only [Act.put, List.setIfInBounds_toArray, List.set_cons_succ, List.set_cons_zero]
            refine wpl_run rfl (Value.bool true) _ (run_ex (x := (.tmp 30)) rfl _ rfl rfl) ?_; simp only [Act.put, List.setIfInBounds_toArray, List.set_cons_succ, List.set_cons_zero]
            obtain ⟨b_xw55, eb_xw55⟩ : ∃ b_xw55, b_xw55 = M49 := ⟨_, rfl⟩
            have hzb_xw55 : Sz xw48 b_xw55 := by rw [eb_xw55]; exact hM49
            have lob_xw55 : M49 ≤ b_xw55 := by omega
            have upb_xw55 : b_xw55 ≤ M49 := by omega
            clear eb_xw55
            refine wpl_alloc rfl 24 rfl 2 (nC zeroN) zeU b_xw55 hzb_xw55 ?_
            intro xw55 hMxw55 hbxw55 hhxw55; simp only [Act.put, List.setIfInBounds_toArray, List.set_cons_succ, List.set_cons_zero]
            have k56 := k50.below hbxw55 (by omega)
            have k57 := k51.below hbxw55 (by omega)
            have k58 := k52.below hbxw55 (by omega)
            have k59 := k53.below hbxw55 (by omega)
            have lo60 := lo54.trans (hbxw55.mono (by omega))
            clear k50 k51 k52 k53 lo54 hbxw55 hzb_xw55
            obtain ⟨M61, eM61⟩ : ∃ M61, M61 = b_xw55 + 1 := ⟨_, rfl⟩
            rw [← eM61] at hMxw55
            have loM61 : b_xw55 + 1 ≤ M61 := by omega
            have upM61 : M61 ≤ b_xw55 + 1 := by omega
            clear eM61
            refine wpl_store rfl 24 (.tmp 10) (.tmp 34) rfl b_xw55 2 (nC mm) rfl rfl 24 _ hhxw55 szU (fun j _ => nC_one _ j) ?_
            intro xw62 t63 k64; simp only [Act.put, List.setIfInBounds_toArray, List.set_cons_succ, List.set_cons_zero]
            have k65 := k56.touch t63 (by omega)
            have k66 := k57.touch t63 (by omega)
            have k67 := k58.touch t63 (by omega)
            have k68 := k59.touch t63 (by omega)
            have lo69 := t63.below lo60 (by omega)
            have h70 := t63.sz hMxw55
            clear hhxw55 k56 k57 k58 k59 lo60 hMxw55 t63
            change wpList _ _ _ (_ :: []) _ _
            refine wpList_of_quiet (C := fun w' => ∃ x : Later M61 xw62, w' = x.w') _ _ _ ⟨⟨_, Below.refl _ _⟩, rfl⟩ ?_
            go_big_quiet_step (fail)
            refine wpQuiet_nil ?_
            rintro xw71 ⟨qxw71, exw71⟩
            have hbxw71 := qxw71.b
            rw [← exw71] at hbxw71
            clear qxw71 exw71
            obtain ⟨M72, hM72⟩ := sz_some xw71
            have lM72 := below_sz hbxw71 h70 hM72
            have k73 := k65.below hbxw71 (by omega)
            have k74 := k66.below hbxw71 (by omega)
            have k75 := k67.below hbxw71 (by omega)
            have k76 := k68.below hbxw71 (by omega)
            have k77 := k64.below hbxw71 (by omega)
            have lo78 := lo69.trans (hbxw71.mono (by omega))
            clear k65 k66 k67 k68 k64 lo69 hbxw71
            go_upto_region 5 with fail
            first | refine wp_region_later (M72) (by kernel_rfl) (by kernel_rfl) ?_ | refine wp_region_later1 (M72) ?_
            try simp only [Act.put, List.setIfInBounds_toArray, List.set_cons_succ, List.set_cons_zero]
            refine later_row hM72 24 (.tmp 3) rfl (N) rfl 24 2 _ k73 undU szU (by rfl) ?_; simp only [Act.put, List.setIfInBounds_toArray, List.set_cons_succ, List.set_cons_zero]
            go_big_quiet_step ((go_at_call 10; exact later_of hM72 _ (fun K hK hKN => To_any A _ K hK)))
            refine later_row hM72 24 (.tmp 4) rfl ((N + 1)) rfl 24 2 _ k74 undU szU (by rfl) ?_; simp only [Act.put, List.setIfInBounds_toArray, List.set_cons_succ, List.set_cons_zero]
            go_big_quiet_step ((go_at_call 10; exact later_of hM72 _ (fun K hK hKN => To_any B _ K hK)))
            go_big_quiet_step ((go_at_call 33; exact later_of hM72 _ (fun K hK hKN => ret_is h3_.out (Within_any A B) _ K hK)))
            go_big_quiet_step (fail)
            refine wpQuiet_nil ?_
            rintro xw79 ⟨qxw79, exw79⟩
            have hbxw79 := qxw79.b
            rw [← exw79] at hbxw79
            clear qxw79 exw79
            obtain ⟨M80, hM80⟩ := sz_some xw79
            have lM80 := below_sz hbxw79 hM72 hM80
            have k81 := k73.below hbxw79 (by omega)
            have k82 := k74.below hbxw79 (by omega)
            have k83 := k75.below hbxw79 (by omega)
            have k84 := k76.below hbxw79 (by omega)
            have k85 := k77.below hbxw79 (by omega)
            have lo86 := lo78.trans (hbxw79.mono (by omega))
            clear k73 k74 k75 k76 k77 lo78 hbxw79
            go_upto_region 6 with fail
            change Code.wp _ (Code.region _ (List.toArray (_ :: _ :: _ :: _ :: _ :: _ :: _ :: _ :: _ :: _ :: _ :: _ :: _ :: _ :: _ :: _ :: _ :: _ :: _ :: _ :: _ :: _ :: _ :: _ :: _ :: _ :: _ :: _ :: _ :: _ :: _ :: _ :: _ :: _ :: _ :: _ :: _ :: _ :: _ :: _ :: _ :: _ :: _ :: _ :: _ :: _ :: _ :: _ :: _ :: _ :: _ :: _ :: _ :: _ :: _ :: _ :: _ :: _ :: _ :: _ :: _ :: _ :: _ :: _ :: _ :: _ :: _ :: _ :: _ :: _ :: _ :: _ :: _ :: _ :: _ :: [])) _) _ _ _
            first | refine wp_region_later1 (M80) ?_ | refine wp_region_laterL (M80) (by kernel_rfl) (by kernel_rfl) ?_
            try simp only [Act.put, List.setIfInBounds_toArray, List.set_cons_succ, List.set_cons_zero]
            go_big_quiet_step ((go_at_call 11; exact later_of hM80 _ (fun K hK hKN => knows_any _ K hK)))
            go_big_quiet_step (fail)
            refine later_row hM80 27 (.tmp 7) rfl (b_22_5) rfl 27 2 _ k83 undT szT (by rfl) ?_; simp only [Act.put, List.setIfInBounds_toArray, List.set_cons_succ, List.set_cons_zero]
            go_big_quiet_step ((go_at_call 12; exact later_of hM80 _ (fun K hK hKN => From_any (tJoin A B) _ K hK)))
            refine later_row hM80 24 (.tmp 3) rfl (N) rfl 24 2 _ k81 undU szU (by rfl) ?_; simp only [Act.put, List.setIfInBounds_toArray, List.set_cons_succ, List.set_cons_zero]
            refine later_row hM80 24 (.tmp 4) rfl ((N + 1)) rfl 24 2 _ k82 undU szU (by rfl) ?_; simp only [Act.put, List.setIfInBounds_toArray, List.set_cons_succ, List.set_cons_zero]
            go_big_quiet_step ((go_at_call 34; exact later_of hM80 _ (fun K hK hKN => RJoin_any A B _ K hK)))
            refine later_val (fun q => run_eql_op 24 24 (.tmp 44) (.tmp 47) rfl _ _ rfl rfl true (by kernel_rfl) (run_eqU_t h1_.out q.w')) (by rfl) ?_; simp only [Act.put, List.setIfInBounds_toArray, List.set_cons_succ, List.set_cons_zero]
            go_big_quiet_step (fail)
            go_big_quiet_step (fail)
            refine later_row hM80 27 (.tmp 8) rfl (b_36_x) rfl 27 2 _ k84 undT szT (by rfl) ?_; simp only [Act.put, List.setIfInBounds_toArray, List.set_cons_succ, List.set_cons_zero]
            go_big_quiet_step ((go_at_call 12; exact later_of hM80 _ (fun K hK hKN => From_any mm _ K hK)))
            refine later_row hM80 24 (.tmp 10) rfl (b_xw55) rfl 24 2 _ k85 undU szU (by rfl) ?_; simp only [Act.put, List.setIfInBounds_toArray, List.set_cons_succ, List.set_cons_zero]
            refine later_val (fun q => run_eql_op 24 24 (.tmp 52) (.tmp 53) rfl _ _ rfl rfl true (by kernel_rfl) (run_eqU_t rfl q.w')) (by rfl) ?_; simp only [Act.put, List.setIfInBounds_toArray, List.set_cons_succ, List.set_cons_zero]
            go_big_quiet_step (fail)
            go_big_quiet_step (fail)
            go_big_quiet_step (fail)
            go_big_quiet_step (fail)
            refine later_val (fun q => run_eqb 4 4 (.tmp 57) (.tmp 58) rfl undBool (p := true) (q := true) (r := true) rfl rfl rfl) (by rfl) ?_; simp only [Act.put, List.setIfInBounds_toArray, List.set_cons_succ, List.set_cons_zero]
            go_big_quiet_step (fail)
            go_big_quiet_step (fail)
            refine later_row hM80 24 (.tmp 3) rfl (N) rfl 24 2 _ k81 undU szU (by rfl) ?_; simp only [Act.put, List.setIfInBounds_toArray, List.set_cons_succ, List.set_cons_zero]
            go_big_quiet_step ((go_at_call 10; exact later_of hM80 _ (fun K hK hKN => To_any A _ K hK)))
            go_big_quiet_step (fail)
            go_big_quiet_step ((go_at_call 23; exact later_of hM80 _ (fun K hK hKN => Has_any A x _ K hK)))
            refine later_row hM80 24 (.tmp 3) rfl (N) rfl 24 2 _ k81 undU szU (by rfl) ?_; simp only [Act.put, List.setIfInBounds_toArray, List.set_cons_succ, List.set_cons_zero]
            go_big_quiet_step (fail)
            go_big_quiet_step ((go_at_call 35; exact later_of hM80 _ (fun K hK hKN => RHas_any A x _ K hK)))
            refine later_val (fun q => run_eqb 4 4 (.tmp 65) (.tmp 68) rfl undBool (p := (tHas A x)) (q := (tHas A x)) (r := true) rfl rfl (by simp)) (by rfl) ?_; simp only [Act.put, List.setIfInBounds_toArray, List.set_cons_succ, List.set_cons_zero]
            go_big_quiet_step (fail)
            go_big_quiet_step (fail)
            go_big_quiet_step (fail)
            go_big_quiet_step (fail)
            go_big_quiet_step (fail)
            refine later_row hM80 24 (.tmp 10) rfl (b_xw55) rfl 24 2 _ k85 undU szU (by rfl) ?_; simp only [Act.put, List.setIfInBounds_toArray, List.set_cons_succ, List.set_cons_zero]
            refine later_row hM80 24 (.tmp 3) rfl (N) rfl 24 2 _ k81 undU szU (by rfl) ?_; simp only [Act.put, List.setIfInBounds_toArray, List.set_cons_succ, List.set_cons_zero]
            refine later_val (fun q => run_eql_op 24 24 (.tmp 75) (.tmp 76) rfl _ _ rfl rfl false (by kernel_rfl) (h4_.out q.w')) (by rfl) ?_; simp only [Act.put, List.setIfInBounds_toArray, List.set_cons_succ, List.set_cons_zero]
            go_big_quiet_step (fail)
            refine later_val (fun q => run_eqb 4 4 (.tmp 72) (.tmp 78) rfl undBool (p := false) (q := false) (r := true) rfl rfl rfl) (by rfl) ?_; simp only [Act.put, List.setIfInBounds_toArray, List.set_cons_succ, List.set_cons_zero]
            go_big_quiet_step (fail)
            go_big_quiet_step (fail)
            refine later_row hM80 24 (.tmp 3) rfl (N) rfl 24 2 _ k81 undU szU (by rfl) ?_; simp only [Act.put, List.setIfInBounds_toArray, List.set_cons_succ, List.set_cons_zero]
            go_big_quiet_step ((go_at_call 10; exact later_of hM80 _ (fun K hK hKN => To_any A _ K hK)))
            refine later_row hM80 27 (.tmp 7) rfl (b_22_5) rfl 27 2 _ k83 undT szT (by rfl) ?_; simp only [Act.put, List.setIfInBounds_toArray, List.set_cons_succ, List.set_cons_zero]
            go_big_quiet_step ((go_at_call 33; exact later_of hM80 _ (fun K hK hKN => ret_is h5_.out (Within_any A (tJoin A B)) _ K hK)))
            go_big_quiet_step (fail)
            go_big_quiet_step (fail)
            refine later_row hM80 24 (.tmp 4) rfl ((N + 1)) rfl 24 2 _ k82 undU szU (by rfl) ?_; simp only [Act.put, List.setIfInBounds_toArray, List.set_cons_succ, List.set_cons_zero]
            go_big_quiet_step ((go_at_call 10; exact later_of hM80 _ (fun K hK hKN => To_any B _ K hK)))
            refine later_row hM80 27 (.tmp 7) rfl (b_22_5) rfl 27 2 _ k83 undT szT (by rfl) ?_; simp only [Act.put, List.setIfInBounds_toArray, List.set_cons_succ, List.set_cons_zero]
            go_big_quiet_step ((go_at_call 33; exact later_of hM80 _ (fun K hK hKN => ret_is h6_.out (Within_any B (tJoin A B)) _ K hK)))
            go_big_quiet_step (fail)
            go_big_quiet_step (fail)
            refine later_row hM80 24 (.tmp 3) rfl (N) rfl 24 2 _ k81 undU szU (by rfl) ?_; simp only [Act.put, List.setIfInBounds_toArray, List.set_cons_succ, List.set_cons_zero]
            go_big_quiet_step ((go_at_call 10; exact later_of hM80 _ (fun K hK hKN => To_any A _ K hK)))
            go_big_quiet_step ((go_at_call 36; exact later_of hM80 _ (fun K hK hKN => Any_any _ K hK)))
            go_big_quiet_step ((go_at_call 33; exact later_of hM80 _ (fun K hK hKN => ret_is h7_.out (Within_any A tAny) _ K hK)))
            go_big_quiet_step (fail)
            go_big_quiet_step (fail)
            go_big_quiet_step (fail)
            go_big_quiet_step (fail)
            go_big_quiet_step (fail)
            refine later_row hM80 27 (.tmp 8) rfl (b_36_x) rfl 27 2 _ k84 undT szT (by rfl) ?_; simp only [Act.put, List.setIfInBounds_toArray, List.set_cons_succ, List.set_cons_zero]
            refine later_row hM80 24 (.tmp 3) rfl (N) rfl 24 2 _ k81 undU szU (by rfl) ?_; simp only [Act.put, List.setIfInBounds_toArray, List.set_cons_succ, List.set_cons_zero]
            go_big_quiet_step ((go_at_call 10; exact later_of hM80 _ (fun K hK hKN => To_any A _ K hK)))
            go_big_quiet_step ((go_at_call 33; exact later_of hM80 _ (fun K hK hKN => ret_is h8_.out (Within_any mm A) _ K hK)))
            go_big_quiet_step (fail)
            refine later_row hM80 27 (.tmp 8) rfl (b_36_x) rfl 27 2 _ k84 undT szT (by rfl) ?_; simp only [Act.put, List.setIfInBounds_toArray, List.set_cons_succ, List.set_cons_zero]
            refine later_row hM80 24 (.tmp 4) rfl ((N + 1)) rfl 24 2 _ k82 undU szU (by rfl) ?_; simp only [Act.put, List.setIfInBounds_toArray, List.set_cons_succ, List.set_cons_zero]
            go_big_quiet_step ((go_at_call 10; exact later_of hM80 _ (fun K hK hKN => To_any B _ K hK)))
            go_big_quiet_step ((go_at_call 33; exact later_of hM80 _ (fun K hK hKN => ret_is h9_.out (Within_any mm B) _ K hK)))
            go_big_quiet_step (fail)
            go_big_quiet_step (fail)
            go_big_quiet_step (fail)
            go_big_quiet_step (fail)
            refine wpQuiet_nil ?_
            rintro xw87 ⟨qxw87, exw87⟩
            have hbxw87 := qxw87.b
            rw [← exw87] at hbxw87
            clear qxw87 exw87
            obtain ⟨M88, hM88⟩ := sz_some xw87
            have lM88 := below_sz hbxw87 hM80 hM88
            have k89 := k81.below hbxw87 (by omega)
            have k90 := k82.below hbxw87 (by omega)
            have k91 := k83.below hbxw87 (by omega)
            have k92 := k84.below hbxw87 (by omega)
            have k93 := k85.below hbxw87 (by omega)
            have lo94 := lo86.trans (hbxw87.mono (by omega))
            clear k81 k82 k83 k84 k85 lo86 hbxw87
            go_wp2_with fail
            go_ret
            exact ⟨rfl, lo94⟩
    · have h3_ := hid hw
      have h4_ : Hid (∀ w, (Op.equalIn 10000 24 (.agg (cellsOf (nC (meetN A B)) 2)) (.agg (cellsOf (nC A) 2))).run Try.prog w = .ok true w) := hid (fun w => by rw [run_eqU, show (meetN A B).beq A = true from by rw [hw] at hmw; simpa using hmw.symm])
      generalize meetN A B = mm at *
      clear hmw hm ha hb h2_ hw
      go_enter Try.func6, Try.ntmps6
      unfold nV at CA CB CM CR
      unfold nV
      go_upto_region 1 with (first
        | (refine wpl_box rfl 24 (.tmp 0) rfl 2 _ rfl (N) hN ?_; intro w1 hN1 hb1 hh1)
        | (refine wpl_box rfl 24 (.tmp 1) rfl 2 _ rfl (N + 1) hN1 ?_; intro w2 hN2 hb2 hh2)
        | fail)
      have lo0 : Below N w w2 := (hb1.trans (hb2.mono (by omega)))
      have k1 := (hh1.below hb2 (by omega))
      have k2 := hh2
      clear hh1 hb1 hh2 hb2 hN1
      go_upto_region 1 with fail
      refine wp_region_any (by kernel_rfl) ?_
      replace k1 : Has w2.drew N 24 2 (nC a0) := k1
      replace k2 : Has w2.drew (N + 1) 24 2 (nC b0) := k2
      replace hN2 : Sz w2.drew (N + 1 + 1) := hN2
      replace lo0 : Below N w w2.drew := lo0.drew
      change wpAny _ _ _ _ _ _ _ (World.drew _)
      generalize w2.drew = xw3 at *
      refine wpAny_pot (rem := [0, 1, 2, 3]) (FG (N + 1 + 1) (fun j => if j = 0 then some (Value.agg (cellsOf (nC a0) 2)) else if j = 1 then some (Value.agg (cellsOf (nC A) 2)) else if j = 2 then some (Value.agg (cellsOf (nC b0) 2)) else some (Value.agg (cellsOf (nC B) 2))) (fun j => (0, 0, fun _ => undef))) (TwoN (fun j => if j = 0 then some (Value.agg (cellsOf (nC a0) 2)) else if j = 1 then some (Value.agg (cellsOf (nC A) 2)) else if j = 2 then some (Value.agg (cellsOf (nC b0) 2)) else some (Value.agg (cellsOf (nC B) 2)))) (Below (N + 1 + 1) xw3) _ _ _ _ (by kernel_rfl) (size_dstG (by kernel_rfl)) (Below.refl _ _) ?_ ?_
      · intro i hi ac wa hI ha hv
        simp only [List.mem_cons, List.not_mem_nil, or_false] at hi
        rcases hi with rfl | rfl | rfl | rfl
        · exact potg_run rfl rfl (Value.agg (cellsOf (nC a0) 2)) rfl (run_rw 24 (.tmp 3) rfl N (ha 3 (not_dstG (by kernel_rfl))) 24 2 _ (Has.below k1 hI (Has.ltN k1 hN2)) undU szU) hN2 hI
        · obtain ⟨v0, hv0a, hv0b⟩ := hv 0 (by simp) (by kernel_rfl)
          have ev0 := hv0b.val rfl
          subst ev0
          exact potg_cl rfl rfl 9 _ _ rfl #[(Value.agg (cellsOf (nC a0) 2))] (by simp only [List.map_toArray, List.map_cons, List.map_nil, (show ac.eval (.tmp 13) = (Value.agg (cellsOf (nC a0) 2)) from (hv0a 13 rfl))] <;> rfl) (by kernel_rfl) (Value.agg (cellsOf (nC A) 2)) (fun K hK => CA wa K hK) rfl hN2 hI
        · exact potg_run rfl rfl (Value.agg (cellsOf (nC b0) 2)) rfl (run_rw 24 (.tmp 4) rfl (N + 1) (ha 4 (not_dstG (by kernel_rfl))) 24 2 _ (Has.below k2 hI (Has.ltN k2 hN2)) undU szU) hN2 hI
        · obtain ⟨v2, hv2a, hv2b⟩ := hv 2 (by simp) (by kernel_rfl)
          have ev2 := hv2b.val rfl
          subst ev2
          exact potg_cl rfl rfl 9 _ _ rfl #[(Value.agg (cellsOf (nC b0) 2))] (by simp only [List.map_toArray, List.map_cons, List.map_nil, (show ac.eval (.tmp 15) = (Value.agg (cellsOf (nC b0) 2)) from (hv2a 15 rfl))] <;> rfl) (by kernel_rfl) (Value.agg (cellsOf (nC B) 2)) (fun K hK => CB wa K hK) rfl hN2 hI
      · intro vals w5_4_ hb5_4_ hF hG
        have e_4_0 := (hF 0 (by simp)).val rfl
        have e_4_1 := (hF 1 (by simp)).val rfl
        have e_4_2 := (hF 2 (by simp)).val rfl
        have e_4_3 := (hF 3 (by simp)).val rfl
        clear hF hG
        simp only [List.foldl_cons, List.foldl_nil, dstOf, List.getElem?_toArray, List.getElem?_cons_succ, List.getElem?_cons_zero, Option.bind_some, Act.put, List.setIfInBounds_toArray, List.set_cons_succ, List.set_cons_zero, e_4_0, e_4_1, e_4_2, e_4_3]
        clear e_4_0 e_4_1 e_4_2 e_4_3
        refine wpAny_chain [4, 5] _ _ _ _ (by kernel_rfl) (by decide) ?_
        simp only [List.filterMap_cons, List.filterMap_nil, List.getElem?_toArray, List.getElem?_cons_succ, List.getElem?_cons_zero]
        have k5 := k1.below hb5_4_ (by omega)
        have k6 := k2.below hb5_4_ (by omega)
        have lo7 := lo0.trans (hb5_4_.mono (by omega))
        clear k1 k2 lo0 hb5_4_
        refine wpl_store rfl 24 (.tmp 3) (.tmp 14) rfl N 2 (nC A) rfl rfl 24 _ k5 szU (fun j _ => nC_one _ j) ?_
        intro xw8 t9 k10
        have k11 := k6.touch t9 (by omega)
        have lo12 := t9.below lo7 (by omega)
        clear k5 k6 lo7 t9
        refine wpl_store rfl 24 (.tmp 4) (.tmp 16) rfl (N + 1) 2 (nC B) rfl rfl 24 _ k11 szU (fun j _ => nC_one _ j) ?_
        intro xw13 t14 k15
        have k16 := k10.touch t14 (by omega)
        have lo17 := t14.below lo12 (by omega)
        clear k11 k10 lo12 t14
        obtain ⟨M18, hM18⟩ := sz_some xw13
        have lt_19 := k16.ltN hM18
        have lt_20 := k15.ltN hM18
        go_upto_region 2 with fail
        refine wp_region_any (by kernel_rfl) ?_
        replace k16 : Has xw13.drew N 24 2 (nC A) := k16
        replace k15 : Has xw13.drew (N + 1) 24 2 (nC B) := k15
        replace hM18 : Sz xw13.drew M18 := hM18
        replace lo17 : Below N w xw13.drew := lo17.drew
        change wpAny _ _ _ _ _ _ _ (World.drew _)
        generalize xw13.drew = xw21 at *
        refine wpAny_pot (rem := [0, 1, 2, 3, 4, 5]) (FG M18 (fun j => if j = 0 then some (Value.agg (cellsOf (nC A) 2)) else if j = 1 then some (Value.agg (cellsOf (nC A) 2)) else if j = 2 then some (Value.agg (cellsOf (nC B) 2)) else if j = 3 then some (Value.agg (cellsOf (nC B) 2)) else if j = 4 then some (Value.agg (cellsOf (nC (tJoin A B)) 2)) else none) (fun j => (27, 2, nC zeroN))) (TwoN (fun j => if j = 0 then some (Value.agg (cellsOf (nC A) 2)) else if j = 1 then some (Value.agg (cellsOf (nC A) 2)) else if j = 2 then some (Value.agg (cellsOf (nC B) 2)) else if j = 3 then some (Value.agg (cellsOf (nC B) 2)) else if j = 4 then some (Value.agg (cellsOf (nC (tJoin A B)) 2)) else none)) (Below M18 xw21) _ _ _ _ (by kernel_rfl) (size_dstG (by kernel_rfl)) (Below.refl _ _) ?_ ?_
        · intro i hi ac wa hI ha hv
          simp only [List.mem_cons, List.not_mem_nil, or_false] at hi
          rcases hi with rfl | rfl | rfl | rfl | rfl | rfl
          · exact potg_run rfl rfl (Value.agg (cellsOf (nC A) 2)) rfl (run_rw 24 (.tmp 3) rfl N (ha 3 (not_dstG (by kernel_rfl))) 24 2 _ (Has.below k16 hI (Has.ltN k16 hM18)) undU szU) hM18 hI
          · obtain ⟨v0, hv0a, hv0b⟩ := hv 0 (by simp) (by kernel_rfl)
            have ev0 := hv0b.val rfl
            subst ev0
            exact potg_cl rfl rfl 10 _ _ rfl #[(Value.agg (cellsOf (nC A) 2))] (by simp only [List.map_toArray, List.map_cons, List.map_nil, (show ac.eval (.tmp 17) = (Value.agg (cellsOf (nC A) 2)) from (hv0a 17 rfl))] <;> rfl) (by kernel_rfl) (Value.agg (cellsOf (nC A) 2)) (fun K hK => To_any A wa K hK) rfl hM18 hI
          · exact potg_run rfl rfl (Value.agg (cellsOf (nC B) 2)) rfl (run_rw 24 (.tmp 4) rfl (N + 1) (ha 4 (not_dstG (by kernel_rfl))) 24 2 _ (Has.below k15 hI (Has.ltN k15 hM18)) undU szU) hM18 hI
          · obtain ⟨v2, hv2a, hv2b⟩ := hv 2 (by simp) (by kernel_rfl)
            have ev2 := hv2b.val rfl
            subst ev2
            exact potg_cl rfl rfl 10 _ _ rfl #[(Value.agg (cellsOf (nC B) 2))] (by simp only [List.map_toArray, List.map_cons, List.map_nil, (show ac.eval (.tmp 19) = (Value.agg (cellsOf (nC B) 2)) from (hv2a 19 rfl))] <;> rfl) (by kernel_rfl) (Value.agg (cellsOf (nC B) 2)) (fun K hK => To_any B wa K hK) rfl hM18 hI
          · obtain ⟨v1, hv1a, hv1b⟩ := hv 1 (by simp) (by kernel_rfl)
            have ev1 := hv1b.val rfl
            subst ev1
            obtain ⟨v3, hv3a, hv3b⟩ := hv 3 (by simp) (by kernel_rfl)
            have ev3 := hv3b.val rfl
            subst ev3
            exact potg_cl rfl rfl 24 _ _ rfl #[(Value.agg (cellsOf (nC A) 2)), (Value.agg (cellsOf (nC B) 2))] (by simp only [List.map_toArray, List.map_cons, List.map_nil, (show ac.eval (.tmp 18) = (Value.agg (cellsOf (nC A) 2)) from (hv1a 18 rfl)), (show ac.eval (.tmp 20) = (Value.agg (cellsOf (nC B) 2)) from (hv3a 20 rfl))] <;> rfl) (by kernel_rfl) (Value.agg (cellsOf (nC (tJoin A B)) 2)) (fun K hK => Join_any A B wa K hK) rfl hM18 hI
          · exact potg_al rfl rfl rfl zeT rfl rfl hM18 hI
        · intro vals w5_22_ hb5_22_ hF hG
          have e_22_0 := (hF 0 (by simp)).val rfl
          have e_22_1 := (hF 1 (by simp)).val rfl
          have e_22_2 := (hF 2 (by simp)).val rfl
          have e_22_3 := (hF 3 (by simp)).val rfl
          have e_22_4 := (hF 4 (by simp)).val rfl
          obtain ⟨b_22_5, l_22_5, e_22_5, h_22_5⟩ := (hF 5 (by simp)).al rfl rfl
          clear hF hG
          simp only [List.foldl_cons, List.foldl_nil, dstOf, List.getElem?_toArray, List.getElem?_cons_succ, List.getElem?_cons_zero, Option.bind_some, Act.put, List.setIfInBounds_toArray, List.set_cons_succ, List.set_cons_zero, e_22_0, e_22_1, e_22_2, e_22_3, e_22_4, e_22_5]
          clear e_22_0 e_22_1 e_22_2 e_22_3 e_22_4 e_22_5
          refine wpAny_chain [6] _ _ _ _ (by kernel_rfl) (by decide) ?_
          simp only [List.filterMap_cons, List.filterMap_nil, List.getElem?_toArray, List.getElem?_cons_succ, List.getElem?_cons_zero]
          have k23 := k16.below hb5_22_ (by omega)
          have k24 := k15.below hb5_22_ (by omega)
          have lo25 := lo17.trans (hb5_22_.mono (by omega))
          clear k16 k15 lo17 hb5_22_
          refine wpl_store rfl 27 (.tmp 7) (.tmp 21) rfl b_22_5 2 (nC (tJoin A B)) rfl rfl 27 _ h_22_5 szT (fun j _ => nC_one _ j) ?_
          intro xw26 t27 k28
          have k29 := k23.touch t27 (by omega)
          have k30 := k24.touch t27 (by omega)
          have lo31 := t27.below lo25 (by omega)
          clear h_22_5 k23 k24 lo25 t27
          obtain ⟨M32, hM32⟩ := sz_some xw26
          have lt_33 := k29.ltN hM32
          have lt_34 := k30.ltN hM32
          have lt_35 := k28.ltN hM32
          go_upto_region 3 with fail
          refine wp_mid (fun ac (x : Nat) => ((((((((((ac.put (some 23) (Value.agg (cellsOf (nC A) 2))).put (some 24) (Value.agg (cellsOf (nC A) 2))).put (some 25) (Value.agg (cellsOf (nC B) 2))).put (some 26) (Value.agg (cellsOf (nC B) 2))).put (some 27) (Value.tuple #[(Value.agg (cellsOf (nC mm) 2)), (Value.bool true)])).put (some 22) (Value.tuple #[(Value.agg (cellsOf (nC mm) 2)), (Value.bool true)])).put (some 28) (Value.agg (cellsOf (nC mm) 2))).put (some 29) (Value.bool true)).put (some 8) (.pointer (some ⟨x, 0, none⟩))).put (some 9) (Value.bool true))) (fun x w' => Has w' x 27 2 (nC mm) ∧ Has w' N 24 2 (nC A) ∧ Has w' (N + 1) 24 2 (nC B) ∧ Has w' b_22_5 27 2 (nC (tJoin A B)) ∧ M32 ≤ x ∧ Below N w w') ?_ ?_
          · refine wp_region_any (by kernel_rfl) ?_
            replace k29 : Has xw26.drew N 24 2 (nC A) := k29
            replace k30 : Has xw26.drew (N + 1) 24 2 (nC B) := k30
            replace k28 : Has xw26.drew b_22_5 27 2 (nC (tJoin A B)) := k28
            replace hM32 : Sz xw26.drew M32 := hM32
            replace lo31 : Below N w xw26.drew := lo31.drew
            change wpAny _ _ _ _ _ _ _ (World.drew _)
            generalize xw26.drew = xw37 at *
            refine wpAny_potO (rem := [0, 1, 2, 3, 4, 5, 6, 7, 8]) 7 (FG M32 (fun j => if j = 0 then some (Value.agg (cellsOf (nC A) 2)) else if j = 1 then some (Value.agg (cellsOf (nC A) 2)) else if j = 2 then some (Value.agg (cellsOf (nC B) 2)) else if j = 3 then some (Value.agg (cellsOf (nC B) 2)) else if j = 4 then some (Value.tuple #[(Value.agg (cellsOf (nC mm) 2)), (Value.bool true)]) else if j = 5 then some (Value.tuple #[(Value.agg (cellsOf (nC mm) 2)), (Value.bool true)]) else if j = 6 then some (Value.agg (cellsOf (nC mm) 2)) else if j = 7 then some (Value.bool true) else none) (fun j => (27, 2, nC zeroN))) (TwoN (fun j => if j = 0 then some (Value.agg (cellsOf (nC A) 2)) else if j = 1 then some (Value.agg (cellsOf (nC A) 2)) else if j = 2 then some (Value.agg (cellsOf (nC B) 2)) else if j = 3 then some (Value.agg (cellsOf (nC B) 2)) else if j = 4 then some (Value.tuple #[(Value.agg (cellsOf (nC mm) 2)), (Value.bool true)]) else if j = 5 then some (Value.tuple #[(Value.agg (cellsOf (nC mm) 2)), (Value.bool true)]) else if j = 6 then some (Value.agg (cellsOf (nC mm) 2)) else if j = 7 then some (Value.bool true) else none)) (Below M32 xw37) _ _ _ _ (by kernel_rfl) (size_dstG (by kernel_rfl)) (Below.refl _ _) ?_ ?_ ?_
            · intro i hi ac wa hI ha hv
              simp only [List.mem_cons, List.not_mem_nil, or_false] at hi
              rcases hi with rfl | rfl | rfl | rfl | rfl | rfl | rfl | rfl | rfl
              · exact potg_run rfl rfl (Value.agg (cellsOf (nC A) 2)) rfl (run_rw 24 (.tmp 3) rfl N (ha 3 (not_dstG (by kernel_rfl))) 24 2 _ (Has.below k29 hI (Has.ltN k29 hM32)) undU szU) hM32 hI
              · obtain ⟨v0, hv0a, hv0b⟩ := hv 0 (by simp) (by kernel_rfl)
                have ev0 := hv0b.val rfl
                subst ev0
                exact potg_cl rfl rfl 10 _ _ rfl #[(Value.agg (cellsOf (nC A) 2))] (by simp only [List.map_toArray, List.map_cons, List.map_nil, (show ac.eval (.tmp 23) = (Value.agg (cellsOf (nC A) 2)) from (hv0a 23 rfl))] <;> rfl) (by kernel_rfl) (Value.agg (cellsOf (nC A) 2)) (fun K hK => To_any A wa K hK) rfl hM32 hI
              · exact potg_run rfl rfl (Value.agg (cellsOf (nC B) 2)) rfl (run_rw 24 (.tmp 4) rfl (N + 1) (ha 4 (not_dstG (by kernel_rfl))) 24 2 _ (Has.below k30 hI (Has.ltN k30 hM32)) undU szU) hM32 hI
              · obtain ⟨v2, hv2a, hv2b⟩ := hv 2 (by simp) (by kernel_rfl)
                have ev2 := hv2b.val rfl
                subst ev2
                exact potg_cl rfl rfl 10 _ _ rfl #[(Value.agg (cellsOf (nC B) 2))] (by simp only [List.map_toArray, List.map_cons, List.map_nil, (show ac.eval (.tmp 25) = (Value.agg (cellsOf (nC B) 2)) from (hv2a 25 rfl))] <;> rfl) (by kernel_rfl) (Value.agg (cellsOf (nC B) 2)) (fun K hK => To_any B wa K hK) rfl hM32 hI
              · obtain ⟨v1, hv1a, hv1b⟩ := hv 1 (by simp) (by kernel_rfl)
                have ev1 := hv1b.val rfl
                subst ev1
                obtain ⟨v3, hv3a, hv3b⟩ := hv 3 (by simp) (by kernel_rfl)
                have ev3 := hv3b.val rfl
                subst ev3
                exact potg_cl rfl rfl 31 _ _ rfl #[(Value.agg (cellsOf (nC A) 2)), (Value.agg (cellsOf (nC B) 2))] (by simp only [List.map_toArray, List.map_cons, List.map_nil, (show ac.eval (.tmp 24) = (Value.agg (cellsOf (nC A) 2)) from (hv1a 24 rfl)), (show ac.eval (.tmp 26) = (Value.agg (cellsOf (nC B) 2)) from (hv3a 26 rfl))] <;> rfl) (by kernel_rfl) (Value.tuple #[(Value.agg (cellsOf (nC mm) 2)), (Value.bool true)]) (fun K hK => CM wa K hK) rfl hM32 hI
              · obtain ⟨v4, hv4a, hv4b⟩ := hv 4 (by simp) (by kernel_rfl)
                have ev4 := hv4b.val rfl
                subst ev4
                exact potg_run rfl rfl (Value.tuple #[(Value.agg (cellsOf (nC mm) 2)), (Value.bool true)]) rfl (run_mv (x := (.tmp 27)) rfl _ (hv4a 27 rfl)) hM32 hI
              · obtain ⟨v5, hv5a, hv5b⟩ := hv 5 (by simp) (by kernel_rfl)
                have ev5 := hv5b.val rfl
                subst ev5
                exact potg_run rfl rfl (Value.agg (cellsOf (nC mm) 2)) rfl (run_ex (x := (.tmp 22)) rfl _ (hv5a 22 rfl) rfl) hM32 hI
              · obtain ⟨v5, hv5a, hv5b⟩ := hv 5 (by simp) (by kernel_rfl)
                have ev5 := hv5b.val rfl
                subst ev5
                exact potg_run rfl rfl (Value.bool true) rfl (run_ex (x := (.tmp 22)) rfl _ (hv5a 22 rfl) rfl) hM32 hI
              · exact potg_al rfl rfl rfl zeT rfl rfl hM32 hI
            · intro vals w5_36_ hb5_36_ hF hG
              have e_36_0 := (hF 0 (by simp)).val rfl
              have e_36_1 := (hF 1 (by simp)).val rfl
              have e_36_2 := (hF 2 (by simp)).val rfl
              have e_36_3 := (hF 3 (by simp)).val rfl
              have e_36_4 := (hF 4 (by simp)).val rfl
              have e_36_5 := (hF 5 (by simp)).val rfl
              have e_36_6 := (hF 6 (by simp)).val rfl
              have e_36_7 := (hF 7 (by simp)).val rfl
              obtain ⟨b_36_8, l_36_8, e_36_8, h_36_8⟩ := (hF 8 (by simp)).al rfl rfl
              clear hF hG
              simp only [List.foldl_cons, List.foldl_nil, dstOf, List.getElem?_toArray, List.getElem?_cons_succ, List.getElem?_cons_zero, Option.bind_some, Act.put, List.setIfInBounds_toArray, List.set_cons_succ, List.set_cons_zero, e_36_0, e_36_1, e_36_2, e_36_3, e_36_4, e_36_5, e_36_6, e_36_7, e_36_8]
              clear e_36_0 e_36_1 e_36_2 e_36_3 e_36_4 e_36_5 e_36_6 e_36_7 e_36_8
              have k38 := k29.below hb5_36_ (by omega)
              have k39 := k30.below hb5_36_ (by omega)
              have k40 := k28.below hb5_36_ (by omega)
              have lo41 := lo31.trans (hb5_36_.mono (by omega))
              clear k29 k30 k28 lo31 hb5_36_
              refine wpAny_chain [9, 10] _ _ _ _ (by kernel_rfl) (by decide) ?_
              simp only [List.filterMap_cons, List.filterMap_nil, List.getElem?_toArray, List.getElem?_cons_succ, List.getElem?_cons_zero]
              refine wpl_store rfl 27 (.tmp 8) (.tmp 28) rfl b_36_8 2 (nC mm) rfl rfl 27 _ h_36_8 szT (fun j _ => nC_one _ j) ?_
              intro xw42 t43 k44
              have k45 := k38.touch t43 (by omega)
              have k46 := k39.touch t43 (by omega)
              have k47 := k40.touch t43 (by omega)
              have lo48 := t43.below lo41 (by omega)
              clear h_36_8 k38 k39 k40 lo41 t43
              refine wpl_run rfl (Value.bool true) _ (run_as (x := (.tmp 29)) rfl _ rfl) ?_; simp only [Act.put, List.setIfInBounds_toArray, List.set_cons_succ, List.set_cons_zero]
              refine ⟨rfl, b_36_8, (by simp only [Act.put, List.setIfInBounds_toArray, List.set_cons_succ, List.set_cons_zero]), k44, k45, k46, k47, (by omega), lo48⟩
            · intro vals w5_36_ hb5_36_ hF hG
              have e_36_0 := (hF 0 (by simp) (by omega)).val rfl
              have e_36_1 := (hF 1 (by simp) (by omega)).val rfl
              have e_36_2 := (hF 2 (by simp) (by omega)).val rfl
              have e_36_3 := (hF 3 (by simp) (by omega)).val rfl
              have e_36_4 := (hF 4 (by simp) (by omega)).val rfl
              have e_36_5 := (hF 5 (by simp) (by omega)).val rfl
              have e_36_6 := (hF 6 (by simp) (by omega)).val rfl
              obtain ⟨b_36_8, l_36_8, e_36_8, h_36_8⟩ := (hF 8 (by simp) (by omega)).al rfl rfl
              clear hF hG
              rw [show (List.filter (fun j => !(j == 7)) [0, 1, 2, 3, 4, 5, 6, 7, 8]) = [0, 1, 2, 3, 4, 5, 6, 8] from rfl]
              simp only [List.foldl_cons, List.foldl_nil, dstOf, List.getElem?_toArray, List.getElem?_cons_succ, List.getElem?_cons_zero, Option.bind_some, Act.put, List.setIfInBounds_toArray, List.set_cons_succ, List.set_cons_zero, e_36_0, e_36_1, e_36_2, e_36_3, e_36_4, e_36_5, e_36_6, e_36_8]
              clear e_36_0 e_36_1 e_36_2 e_36_3 e_36_4 e_36_5 e_36_6 e_36_8
              have k38 := k29.below hb5_36_ (by omega)
              have k39 := k30.below hb5_36_ (by omega)
              have k40 := k28.below hb5_36_ (by omega)
              have lo41 := lo31.trans (hb5_36_.mono (by omega))
              clear k29 k30 k28 lo31 hb5_36_
              refine wpAny_fork 7 9 [9, 10] [7, 10] 2 _ _ _ (by kernel_rfl) (by kernel_rfl) ?_ ?_
              · simp only [List.filterMap_cons, List.filterMap_nil, List.getElem?_toArray, List.getElem?_cons_succ, List.getElem?_cons_zero]
                refine wpl_run rfl (Value.bool true) _ (run_ex (x := (.tmp 22)) rfl _ rfl rfl) ?_; simp only [Act.put, List.setIfInBounds_toArray, List.set_cons_succ, List.set_cons_zero]
                refine wpl_store rfl 27 (.tmp 8) (.tmp 28) rfl b_36_8 2 (nC mm) rfl rfl 27 _ h_36_8 szT (fun j _ => nC_one _ j) ?_
                intro xw42 t43 k44
                have k45 := k38.touch t43 (by omega)
                have k46 := k39.touch t43 (by omega)
                have k47 := k40.touch t43 (by omega)
                have lo48 := t43.below lo41 (by omega)
                clear h_36_8 k38 k39 k40 lo41 t43
                refine wpl_run rfl (Value.bool true) _ (run_as (x := (.tmp 29)) rfl _ rfl) ?_; simp only [Act.put, List.setIfInBounds_toArray, List.set_cons_succ, List.set_cons_zero]
                refine ⟨rfl, b_36_8, (by simp only [Act.put, List.setIfInBounds_toArray, List.set_cons_succ, List.set_cons_zero]), k44, k45, k46, k47, (by omega), lo48⟩
              · simp only [List.filterMap_cons, List.filterMap_nil, List.getElem?_toArray, List.getElem?_cons_succ, List.getElem?_cons_zero]
                refine wpl_store rfl 27 (.tmp 8) (.tmp 28) rfl b_36_8 2 (nC mm) rfl rfl 27 _ h_36_8 szT (fun j _ => nC_one _ j) ?_
                intro xw42 t43 k44
                have k45 := k38.touch t43 (by omega)
                have k46 := k39.touch t43 (by omega)
                have k47 := k40.touch t43 (by omega)
                have lo48 := t43.below lo41 (by omega)
                clear h_36_8 k38 k39 k40 lo41 t43
                refine wpl_run rfl (Value.bool true) _ (run_ex (x := (.tmp 22)) rfl _ rfl rfl) ?_; simp only [Act.put, List.setIfInBounds_toArray, List.set_cons_succ, List.set_cons_zero]
                refine wpl_run rfl (Value.bool true) _ (run_as (x := (.tmp 29)) rfl _ rfl) ?_; simp only [Act.put, List.setIfInBounds_toArray, List.set_cons_succ, List.set_cons_zero]
                refine ⟨rfl, b_36_8, (by simp only [Act.put, List.setIfInBounds_toArray, List.set_cons_succ, List.set_cons_zero]), k44, k45, k46, k47, (by omega), lo48⟩
          · clear k29 k30 k28 lo31
            rintro b_36_x xw42 ⟨k37, k38, k39, k40, lb_36_x, lo41⟩
            try dsimp only
            try simp only [Act.put, List.setIfInBounds_toArray, List.set_cons_succ, List.set_cons_zero]
            obtain ⟨M43, hM43⟩ := sz_some xw42
            have lt_44 := k38.ltN hM43
            have lt_45 := k39.ltN hM43
            have lt_46 := k40.ltN hM43
            have lt_47 := k37.ltN hM43
            go_upto_region 4 with fail
            refine wp_region_lit ?_
            try simp only [Act.put, List.setIfInBounds_toArray, List.set_cons_succ, List.set_cons_zero]
            refine wpl_run rfl (Value.agg (cellsOf (nC A) 2)) _ (run_rw 24 (.tmp 3) rfl N rfl 24 2 _ k38 undU szU) ?_; simp only [Act.put, List.setIfInBounds_toArray, List.set_cons_succ, List.set_cons_zero]
            refine wpl_run rfl (Value.agg (cellsOf (nC B) 2)) _ (run_rw 24 (.tmp 4) rfl (N + 1) rfl 24 2 _ k39 undU szU) ?_; simp only [Act.put, List.setIfInBounds_toArray, List.set_cons_succ, List.set_cons_zero]
            refine wpl_cl rfl 32 _ _ rfl #[(Value.agg (cellsOf (nC A) 2)), (Value.agg (cellsOf (nC B) 2))] (by simp only [List.map_toArray, List.map_cons, List.map_nil]; rfl) (by kernel_rfl) (Value.tuple #[(Value.agg (cellsOf (nC mm) 2)), (Value.bool true)]) (CR xw42 M43 hM43) ?_
            intro xw48 hbxw48; simp only [Act.put, List.setIfInBounds_toArray, List.set_cons_succ, List.set_cons_zero]
            obtain ⟨M49, hM49⟩ := sz_some xw48
            have lM49 := below_sz hbxw48 hM43 hM49
            have k50 := k38.below hbxw48 (by omega)
            have k51 := k39.below hbxw48 (by omega)
            have k52 := k40.below hbxw48 (by omega)
            have k53 := k37.below hbxw48 (by omega)
            have lo54 := lo41.trans (hbxw48.mono (by omega))
            clear k38 k39 k40 k37 lo41 hbxw48
            refine wpl_run rfl (Value.tuple #[(Value.agg (cellsOf (nC mm) 2)), (Value.bool true)]) _ (run_mv (x := (.tmp 33)) rfl _ rfl) ?_; simp only [Act.put, List.setIfInBounds_toArray, List.set_cons_succ, List.set_cons_zero]
            refine wpl_run rfl (Value.agg (cellsOf (nC mm) 2)) _ (run_ex (x := (.tmp 30)) rfl _ rfl rfl) ?_; simp only [Act.put, List.setIfInBounds_toArray, List.set_cons_succ, List.set_cons_zero]
            refine wpl_run rfl (Value.bool true) _ (run_ex (x := (.tmp 30)) rfl _ rfl rfl) ?_; simp only [Act.put, List.setIfInBounds_toArray, List.set_cons_succ, List.set_cons_zero]
            obtain ⟨b_xw55, eb_xw55⟩ : ∃ b_xw55, b_xw55 = M49 := ⟨_, rfl⟩
            have hzb_xw55 : Sz xw48 b_xw55 := by rw [eb_xw55]; exact hM49
            have lob_xw55 : M49 ≤ b_xw55 := by omega
            have upb_xw55 : b_xw55 ≤ M49 := by omega
            clear eb_xw55
            refine wpl_alloc rfl 24 rfl 2 (nC zeroN) zeU b_xw55 hzb_xw55 ?_
            intro xw55 hMxw55 hbxw55 hhxw55; simp only [Act.put, List.setIfInBounds_toArray, List.set_cons_succ, List.set_cons_zero]
            have k56 := k50.below hbxw55 (by omega)
            have k57 := k51.below hbxw55 (by omega)
            have k58 := k52.below hbxw55 (by omega)
            have k59 := k53.below hbxw55 (by omega)
            have lo60 := lo54.trans (hbxw55.mono (by omega))
            clear k50 k51 k52 k53 lo54 hbxw55 hzb_xw55
            obtain ⟨M61, eM61⟩ : ∃ M61, M61 = b_xw55 + 1 := ⟨_, rfl⟩
            rw [← eM61] at hMxw55
            have loM61 : b_xw55 + 1 ≤ M61 := by omega
            have upM61 : M61 ≤ b_xw55 + 1 := by omega
            clear eM61
            refine wpl_store rfl 24 (.tmp 10) (.tmp 34) rfl b_xw55 2 (nC mm) rfl rfl 24 _ hhxw55 szU (fun j _ => nC_one _ j) ?_
            intro xw62 t63 k64; simp only [Act.put, List.setIfInBounds_toArray, List.set_cons_succ, List.set_cons_zero]
            have k65 := k56.touch t63 (by omega)
            have k66 := k57.touch t63 (by omega)
            have k67 := k58.touch t63 (by omega)
            have k68 := k59.touch t63 (by omega)
            have lo69 := t63.below lo60 (by omega)
            have h70 := t63.sz hMxw55
            clear hhxw55 k56 k57 k58 k59 lo60 hMxw55 t63
            change wpList _ _ _ (_ :: []) _ _
            refine wpList_of_quiet (C := fun w' => ∃ x : Later M61 xw62, w' = x.w') _ _ _ ⟨⟨_, Below.refl _ _⟩, rfl⟩ ?_
            go_big_quiet_step (fail)
            refine wpQuiet_nil ?_
            rintro xw71 ⟨qxw71, exw71⟩
            have hbxw71 := qxw71.b
            rw [← exw71] at hbxw71
            clear qxw71 exw71
            obtain ⟨M72, hM72⟩ := sz_some xw71
            have lM72 := below_sz hbxw71 h70 hM72
            have k73 := k65.below hbxw71 (by omega)
            have k74 := k66.below hbxw71 (by omega)
            have k75 := k67.below hbxw71 (by omega)
            have k76 := k68.below hbxw71 (by omega)
            have k77 := k64.below hbxw71 (by omega)
            have lo78 := lo69.trans (hbxw71.mono (by omega))
            clear k65 k66 k67 k68 k64 lo69 hbxw71
            go_upto_region 5 with fail
            first | refine wp_region_later (M72) (by kernel_rfl) (by kernel_rfl) ?_ | refine wp_region_later1 (M72) ?_
            try simp only [Act.put, List.setIfInBounds_toArray, List.set_cons_succ, List.set_cons_zero]
            refine later_row hM72 24 (.tmp 3) rfl (N) rfl 24 2 _ k73 undU szU (by rfl) ?_; simp only [Act.put, List.setIfInBounds_toArray, List.set_cons_succ, List.set_cons_zero]
            go_big_quiet_step ((go_at_call 10; exact later_of hM72 _ (fun K hK hKN => To_any A _ K hK)))
            refine later_row hM72 24 (.tmp 4) rfl ((N + 1)) rfl 24 2 _ k74 undU szU (by rfl) ?_; simp only [Act.put, List.setIfInBounds_toArray, List.set_cons_succ, List.set_cons_zero]
            go_big_quiet_step ((go_at_call 10; exact later_of hM72 _ (fun K hK hKN => To_any B _ K hK)))
            go_big_quiet_step ((go_at_call 33; exact later_of hM72 _ (fun K hK hKN => ret_is h3_.out (Within_any A B) _ K hK)))
            go_big_quiet_step (fail)
            refine wpQuiet_nil ?_
            rintro xw79 ⟨qxw79, exw79⟩
            have hbxw79 := qxw79.b
            rw [← exw79] at hbxw79
            clear qxw79 exw79
            obtain ⟨M80, hM80⟩ := sz_some xw79
            have lM80 := below_sz hbxw79 hM72 hM80
            have k81 := k73.below hbxw79 (by omega)
            have k82 := k74.below hbxw79 (by omega)
            have k83 := k75.below hbxw79 (by omega)
            have k84 := k76.below hbxw79 (by omega)
            have k85 := k77.below hbxw79 (by omega)
            have lo86 := lo78.trans (hbxw79.mono (by omega))
            clear k73 k74 k75 k76 k77 lo78 hbxw79
            go_upto_region 6 with fail
            change Code.wp _ (Code.region _ (List.toArray (_ :: _ :: _ :: _ :: _ :: _ :: _ :: _ :: _ :: _ :: _ :: _ :: _ :: _ :: _ :: _ :: _ :: _ :: _ :: _ :: _ :: _ :: _ :: _ :: _ :: _ :: _ :: _ :: _ :: _ :: _ :: _ :: _ :: _ :: _ :: _ :: _ :: _ :: _ :: _ :: _ :: _ :: _ :: _ :: _ :: _ :: _ :: _ :: _ :: _ :: _ :: _ :: _ :: _ :: _ :: _ :: _ :: _ :: _ :: _ :: _ :: _ :: _ :: _ :: _ :: _ :: _ :: _ :: _ :: _ :: _ :: _ :: _ :: _ :: _ :: [])) _) _ _ _
            first | refine wp_region_later1 (M80) ?_ | refine wp_region_laterL (M80) (by kernel_rfl) (by kernel_rfl) ?_
            try simp only [Act.put, List.setIfInBounds_toArray, List.set_cons_succ, List.set_cons_zero]
            go_big_quiet_step ((go_at_call 11; exact later_of hM80 _ (fun K hK hKN => knows_any _ K hK)))
            go_big_quiet_step (fail)
            refine later_row hM80 27 (.tmp 7) rfl (b_22_5) rfl 27 2 _ k83 undT szT (by rfl) ?_; simp only [Act.put, List.setIfInBounds_toArray, List.set_cons_succ, List.set_cons_zero]
            go_big_quiet_step ((go_at_call 12; exact later_of hM80 _ (fun K hK hKN => From_any (tJoin A B) _ K hK)))
            refine later_row hM80 24 (.tmp 3) rfl (N) rfl 24 2 _ k81 undU szU (by rfl) ?_; simp only [Act.put, List.setIfInBounds_toArray, List.set_cons_succ, List.set_cons_zero]
            refine later_row hM80 24 (.tmp 4) rfl ((N + 1)) rfl 24 2 _ k82 undU szU (by rfl) ?_; simp only [Act.put, List.setIfInBounds_toArray, List.set_cons_succ, List.set_cons_zero]
            go_big_quiet_step ((go_at_call 34; exact later_of hM80 _ (fun K hK hKN => RJoin_any A B _ K hK)))
            refine later_val (fun q => run_eql_op 24 24 (.tmp 44) (.tmp 47) rfl _ _ rfl rfl true (by kernel_rfl) (run_eqU_t h1_.out q.w')) (by rfl) ?_; simp only [Act.put, List.setIfInBounds_toArray, List.set_cons_succ, List.set_cons_zero]
            go_big_quiet_step (fail)
            go_big_quiet_step (fail)
            refine later_row hM80 27 (.tmp 8) rfl (b_36_x) rfl 27 2 _ k84 undT szT (by rfl) ?_; simp only [Act.put, List.setIfInBounds_toArray, List.set_cons_succ, List.set_cons_zero]
            go_big_quiet_step ((go_at_call 12; exact later_of hM80 _ (fun K hK hKN => From_any mm _ K hK)))
            refine later_row hM80 24 (.tmp 10) rfl (b_xw55) rfl 24 2 _ k85 undU szU (by rfl) ?_; simp only [Act.put, List.setIfInBounds_toArray, List.set_cons_succ, List.set_cons_zero]
            refine later_val (fun q => run_eql_op 24 24 (.tmp 52) (.tmp 53) rfl _ _ rfl rfl true (by kernel_rfl) (run_eqU_t rfl q.w')) (by rfl) ?_; simp only [Act.put, List.setIfInBounds_toArray, List.set_cons_succ, List.set_cons_zero]
            go_big_quiet_step (fail)
            go_big_quiet_step (fail)
            go_big_quiet_step (fail)
            go_big_quiet_step (fail)
            refine later_val (fun q => run_eqb 4 4 (.tmp 57) (.tmp 58) rfl undBool (p := true) (q := true) (r := true) rfl rfl rfl) (by rfl) ?_; simp only [Act.put, List.setIfInBounds_toArray, List.set_cons_succ, List.set_cons_zero]
            go_big_quiet_step (fail)
            go_big_quiet_step (fail)
            refine later_row hM80 24 (.tmp 3) rfl (N) rfl 24 2 _ k81 undU szU (by rfl) ?_; simp only [Act.put, List.setIfInBounds_toArray, List.set_cons_succ, List.set_cons_zero]
            go_big_quiet_step ((go_at_call 10; exact later_of hM80 _ (fun K hK hKN => To_any A _ K hK)))
            go_big_quiet_step (fail)
            go_big_quiet_step ((go_at_call 23; exact later_of hM80 _ (fun K hK hKN => Has_any A x _ K hK)))
            refine later_row hM80 24 (.tmp 3) rfl (N) rfl 24 2 _ k81 undU szU (by rfl) ?_; simp only [Act.put, List.setIfInBounds_toArray, List.set_cons_succ, List.set_cons_zero]
            go_big_quiet_step (fail)
            go_big_quiet_step ((go_at_call 35; exact later_of hM80 _ (fun K hK hKN => RHas_any A x _ K hK)))
            refine later_val (fun q => run_eqb 4 4 (.tmp 65) (.tmp 68) rfl undBool (p := (tHas A x)) (q := (tHas A x)) (r := true) rfl rfl (by simp)) (by rfl) ?_; simp only [Act.put, List.setIfInBounds_toArray, List.set_cons_succ, List.set_cons_zero]
            go_big_quiet_step (fail)
            go_big_quiet_step (fail)
            go_big_quiet_step (fail)
            go_big_quiet_step (fail)
            go_big_quiet_step (fail)
            refine later_row hM80 24 (.tmp 10) rfl (b_xw55) rfl 24 2 _ k85 undU szU (by rfl) ?_; simp only [Act.put, List.setIfInBounds_toArray, List.set_cons_succ, List.set_cons_zero]
            refine later_row hM80 24 (.tmp 3) rfl (N) rfl 24 2 _ k81 undU szU (by rfl) ?_; simp only [Act.put, List.setIfInBounds_toArray, List.set_cons_succ, List.set_cons_zero]
            refine later_val (fun q => run_eql_op 24 24 (.tmp 75) (.tmp 76) rfl _ _ rfl rfl true (by kernel_rfl) (h4_.out q.w')) (by rfl) ?_; simp only [Act.put, List.setIfInBounds_toArray, List.set_cons_succ, List.set_cons_zero]
            go_big_quiet_step (fail)
            refine later_val (fun q => run_eqb 4 4 (.tmp 72) (.tmp 78) rfl undBool (p := true) (q := true) (r := true) rfl rfl rfl) (by rfl) ?_; simp only [Act.put, List.setIfInBounds_toArray, List.set_cons_succ, List.set_cons_zero]
            go_big_quiet_step (fail)
            go_big_quiet_step (fail)
            refine later_row hM80 24 (.tmp 3) rfl (N) rfl 24 2 _ k81 undU szU (by rfl) ?_; simp only [Act.put, List.setIfInBounds_toArray, List.set_cons_succ, List.set_cons_zero]
            go_big_quiet_step ((go_at_call 10; exact later_of hM80 _ (fun K hK hKN => To_any A _ K hK)))
            refine later_row hM80 27 (.tmp 7) rfl (b_22_5) rfl 27 2 _ k83 undT szT (by rfl) ?_; simp only [Act.put, List.setIfInBounds_toArray, List.set_cons_succ, List.set_cons_zero]
            go_big_quiet_step ((go_at_call 33; exact later_of hM80 _ (fun K hK hKN => ret_is h5_.out (Within_any A (tJoin A B)) _ K hK)))
            go_big_quiet_step (fail)
            go_big_quiet_step (fail)
            refine later_row hM80 24 (.tmp 4) rfl ((N + 1)) rfl 24 2 _ k82 undU szU (by rfl) ?_; simp only [Act.put, List.setIfInBounds_toArray, List.set_cons_succ, List.set_cons_zero]
            go_big_quiet_step ((go_at_call 10; exact later_of hM80 _ (fun K hK hKN => To_any B _ K hK)))
            refine later_row hM80 27 (.tmp 7) rfl (b_22_5) rfl 27 2 _ k83 undT szT (by rfl) ?_; simp only [Act.put, List.setIfInBounds_toArray, List.set_cons_succ, List.set_cons_zero]
            go_big_quiet_step ((go_at_call 33; exact later_of hM80 _ (fun K hK hKN => ret_is h6_.out (Within_any B (tJoin A B)) _ K hK)))
            go_big_quiet_step (fail)
            go_big_quiet_step (fail)
            refine later_row hM80 24 (.tmp 3) rfl (N) rfl 24 2 _ k81 undU szU (by rfl) ?_; simp only [Act.put, List.setIfInBounds_toArray, List.set_cons_succ, List.set_cons_zero]
            go_big_quiet_step ((go_at_call 10; exact later_of hM80 _ (fun K hK hKN => To_any A _ K hK)))
            go_big_quiet_step ((go_at_call 36; exact later_of hM80 _ (fun K hK hKN => Any_any _ K hK)))
            go_big_quiet_step ((go_at_call 33; exact later_of hM80 _ (fun K hK hKN => ret_is h7_.out (Within_any A tAny) _ K hK)))
            go_big_quiet_step (fail)
            go_big_quiet_step (fail)
            go_big_quiet_step (fail)
            go_big_quiet_step (fail)
            go_big_quiet_step (fail)
            refine later_row hM80 27 (.tmp 8) rfl (b_36_x) rfl 27 2 _ k84 undT szT (by rfl) ?_; simp only [Act.put, List.setIfInBounds_toArray, List.set_cons_succ, List.set_cons_zero]
            refine later_row hM80 24 (.tmp 3) rfl (N) rfl 24 2 _ k81 undU szU (by rfl) ?_; simp only [Act.put, List.setIfInBounds_toArray, List.set_cons_succ, List.set_cons_zero]
            go_big_quiet_step ((go_at_call 10; exact later_of hM80 _ (fun K hK hKN => To_any A _ K hK)))
            go_big_quiet_step ((go_at_call 33; exact later_of hM80 _ (fun K hK hKN => ret_is h8_.out (Within_any mm A) _ K hK)))
            go_big_quiet_step (fail)
            refine later_row hM80 27 (.tmp 8) rfl (b_36_x) rfl 27 2 _ k84 undT szT (by rfl) ?_; simp only [Act.put, List.setIfInBounds_toArray, List.set_cons_succ, List.set_cons_zero]
            refine later_row hM80 24 (.tmp 4) rfl ((N + 1)) rfl 24 2 _ k82 undU szU (by rfl) ?_; simp only [Act.put, List.setIfInBounds_toArray, List.set_cons_succ, List.set_cons_zero]
            go_big_quiet_step ((go_at_call 10; exact later_of hM80 _ (fun K hK hKN => To_any B _ K hK)))
            go_big_quiet_step ((go_at_call 33; exact later_of hM80 _ (fun K hK hKN => ret_is h9_.out (Within_any mm B) _ K hK)))
            go_big_quiet_step (fail)
            go_big_quiet_step (fail)
            go_big_quiet_step (fail)
            go_big_quiet_step (fail)
            refine wpQuiet_nil ?_
            rintro xw87 ⟨qxw87, exw87⟩
            have hbxw87 := qxw87.b
            rw [← exw87] at hbxw87
            clear qxw87 exw87
            obtain ⟨M88, hM88⟩ := sz_some xw87
            have lM88 := below_sz hbxw87 hM80 hM88
            have k89 := k81.below hbxw87 (by omega)
            have k90 := k82.below hbxw87 (by omega)
            have k91 := k83.below hbxw87 (by omega)
            have k92 := k84.below hbxw87 (by omega)
            have k93 := k85.below hbxw87 (by omega)
            have lo94 := lo86.trans (hbxw87.mono (by omega))
            clear k81 k82 k83 k84 k85 lo86 hbxw87
            go_wp2_with fail
            go_ret
            exact ⟨rfl, lo94⟩
end Go.Proofs.Ytbeikhokkpioeaa
