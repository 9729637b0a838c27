/- RightsMeets: the walk. -/
import Derived.Test.YtcbcnhkalchpbaaDoorRi7
namespace Go.Proofs.YtcbcnhkalchpbaaDoor
open Go Go.RowKit
set_option maxRecDepth 100000 in
set_option maxHeartbeats 2000000 in
theorem law_meets (x y z : Rg) (w : World) (N : Nat) (hN : Sz w N) (hT : Rt w) :
    Calls Tryd.prog 8 #[rgV x, rgV y, rgV z] w fun e w' => e = .returned (.bool true) ∧ Below N w w' := by
  unfold rgV
  go_enter Tryd.func8, Tryd.ntmps8
  go_upto_region 1 with (first
    | (refine wpl_box rfl 24 (.tmp 0) rfl 6 _ rfl N hN ?_; intro w1 hN1 hb1 hh1)
    | (refine wpl_box rfl 24 (.tmp 1) rfl 6 _ rfl (N + 1) hN1 ?_; intro w2 hN2 hb2 hh2)
    | (refine wpl_box rfl 24 (.tmp 2) rfl 6 _ rfl (N + 1 + 1) hN2 ?_; intro w3 hN3 hb3 hh3)
    | fail)
  have k1 := (hh1.below hb2 (by omega)).below hb3 (by omega)
  have k2 := hh2.below hb3 (by omega)
  have lo3 : Below N w w3 := (hb1.trans (hb2.mono (by omega))).trans (hb3.mono (by omega))
  have T3 := hT.below hN lo3
  clear hh1 hh2 hb1 hb2 hb3 hN1 hN2
  refine wp_region_any (by kernel_rfl) ?_
  have k1d : Has w3.drew N 24 6 (rgC x) := k1
  have k2d : Has w3.drew (N + 1) 24 6 (rgC y) := k2
  have k3d : Has w3.drew (N + 1 + 1) 24 6 (rgC z) := hh3
  have hN3d : Sz w3.drew (N + 1 + 1 + 1) := hN3
  have lo3d : Below N w w3.drew := lo3.drew
  have T3d : Rt w3.drew := ⟨T3.h, T3.d⟩
  change wpAny _ _ _ _ _ _ _ (World.drew _)
  generalize w3.drew = w4 at *
  clear k1 k2 hh3 hN3 lo3 T3 hT
  refine wpAny_pot (rem := [0, 1, 2, 3, 4, 5, 6, 7, 8]) (FR (N + 1 + 1 + 1) 26 rgNone (fun j => if j < 2 then some x else if j < 4 then some y else if j < 6 then some z else none)) TwoB (Below (N + 1 + 1 + 1) w4) _ _ _ _ (by kernel_rfl) (size_dst (by kernel_rfl)) (Below.refl _ _) ?_ ?_
  · intro i hi a wa hI ha hv
    simp only [List.mem_cons, List.not_mem_nil, or_false] at hi
    rcases hi with rfl | rfl | rfl | rfl | rfl | rfl | rfl | rfl | rfl
    · exact pot_ld rfl rfl 24 (.tmp 3) rfl N (ha 3 (not_dst (by kernel_rfl))) 24 x k1d undRF szRF rfl hN3d hI
    · obtain ⟨v, hv1, hv2⟩ := hv 0 (by simp) (by kernel_rfl)
      have e := hv2.rg rfl
      subst e
      exact pot_cl rfl rfl 14 _ _ rfl #[rgV x] (by simp only [List.map_toArray, List.map_cons, List.map_nil]; exact congrArg (fun u => #[u]) (hv1 12 (by rfl))) (by kernel_rfl) x (fun M hM => To_any x wa M hM) rfl hN3d hI
    · exact pot_ld rfl rfl 24 (.tmp 4) rfl (N + 1) (ha 4 (not_dst (by kernel_rfl))) 24 y k2d undRF szRF rfl hN3d hI
    · obtain ⟨v, hv1, hv2⟩ := hv 2 (by simp) (by kernel_rfl)
      have e := hv2.rg rfl
      subst e
      exact pot_cl rfl rfl 14 _ _ rfl #[rgV y] (by simp only [List.map_toArray, List.map_cons, List.map_nil]; exact congrArg (fun u => #[u]) (hv1 14 (by rfl))) (by kernel_rfl) y (fun M hM => To_any y wa M hM) rfl hN3d hI
    · exact pot_ld rfl rfl 24 (.tmp 5) rfl (N + 1 + 1) (ha 5 (not_dst (by kernel_rfl))) 24 z k3d undRF szRF rfl hN3d hI
    · obtain ⟨v, hv1, hv2⟩ := hv 4 (by simp) (by kernel_rfl)
      have e := hv2.rg rfl
      subst e
      exact pot_cl rfl rfl 14 _ _ rfl #[rgV z] (by simp only [List.map_toArray, List.map_cons, List.map_nil]; exact congrArg (fun u => #[u]) (hv1 16 (by rfl))) (by kernel_rfl) z (fun M hM => To_any z wa M hM) rfl hN3d hI
    · exact pot_al rfl rfl rfl zeRR rfl hN3d hI
    · exact pot_al rfl rfl rfl zeRR rfl hN3d hI
    · exact pot_al rfl rfl rfl zeRR rfl hN3d hI
  · intro vals w5 hI hF hG
    have e0 := (hF 0 (by simp)).rg rfl
    have e1 := (hF 1 (by simp)).rg rfl
    have e2 := (hF 2 (by simp)).rg rfl
    have e3 := (hF 3 (by simp)).rg rfl
    have e4 := (hF 4 (by simp)).rg rfl
    have e5 := (hF 5 (by simp)).rg rfl
    obtain ⟨b6, l6, e6, h6⟩ := (hF 6 (by simp)).al rfl
    obtain ⟨b7, l7, e7, h7⟩ := (hF 7 (by simp)).al rfl
    obtain ⟨b8, l8, e8, h8⟩ := (hF 8 (by simp)).al rfl
    have n67 := hG 6 (by simp) 7 (by simp) (by omega) b6 b7 e6 e7
    have n68 := hG 6 (by simp) 8 (by simp) (by omega) b6 b8 e6 e8
    have n78 := hG 7 (by simp) 8 (by simp) (by omega) b7 b8 e7 e8
    clear hF hG
    simp only [List.foldl_cons, List.foldl_nil, dstOf, List.getElem?_toArray, List.getElem?_cons_succ, List.getElem?_cons_zero, Option.bind_some, Act.put, List.setIfInBounds_toArray, List.set_cons_succ, List.set_cons_zero, e0, e1, e2, e3, e4, e5, e6, e7, e8]
    refine wpAny_chain [9, 10, 11] _ _ _ _ (by kernel_rfl) (by decide) ?_
    simp only [List.filterMap_cons, List.filterMap_nil, List.getElem?_toArray, List.getElem?_cons_succ, List.getElem?_cons_zero]
    refine wpl_store rfl 26 (.tmp 7) (.tmp 13) rfl b6 6 (rgC x) rfl rfl 26 _ h6 szRR (fun j _ => rgC_one _ j) ?_
    intro w6 t6 k6
    have h7 := h7.touch t6 (fun h => n67 h.symm)
    have h8 := h8.touch t6 (fun h => n68 h.symm)
    refine wpl_store rfl 26 (.tmp 8) (.tmp 15) rfl b7 6 (rgC y) rfl rfl 26 _ h7 szRR (fun j _ => rgC_one _ j) ?_
    intro w7 t7 k7
    have h8 := h8.touch t7 (fun h => n78 h.symm)
    have k6 := k6.touch t7 n67
    refine wpl_store rfl 26 (.tmp 9) (.tmp 17) rfl b8 6 (rgC z) rfl rfl 26 _ h8 szRR (fun j _ => rgC_one _ j) ?_
    intro w8 t8 k8
    have k6 := k6.touch t8 n68
    have k7 := k7.touch t8 n78
    have bl : Below (N + 1 + 1 + 1) w4 w8 := t8.below (t7.below (t6.below hI l6) l7) l8
    have kx := k1d.below bl (by omega)
    have ky := k2d.below bl (by omega)
    have lo8 := lo3d.trans (bl.mono (by omega))
    have T8 := T3d.below hN3d bl
    obtain ⟨M, hM⟩ := sz_some w8
    have lM := below_sz lo8 hN hM
    have r6 := k6.ltN hM
    have r7 := k7.ltN hM
    have r8 := k8.ltN hM
    have rx := kx.ltN hM
    have ry := ky.ltN hM
    clear h6 h7 h8 t6 t7 t8 hI k1d k2d k3d lo3d T3d hN3d bl e0 e1 e2 e3 e4 e5 e6 e7 e8 n67 n68 n78 l6 l7 l8
    obtain ⟨dR, u1, u2⟩ := undRR
    obtain ⟨dF, v1, v2⟩ := undRF
    go_upto_region 2 with fail
    refine wp_region_any (by kernel_rfl) ?_
    have j6 : Has w8.drew b6 26 6 (rgC x) := k6
    have j7 : Has w8.drew b7 26 6 (rgC y) := k7
    have j8 : Has w8.drew b8 26 6 (rgC z) := k8
    have jM : Sz w8.drew M := hM
    have jo : Below N w w8.drew := lo8.drew
    have jT : Rt w8.drew := ⟨T8.h, T8.d⟩
    change wpAny _ _ _ _ _ _ _ (World.drew _)
    generalize w8.drew = w9 at *
    clear k6 k7 k8 hM lo8 T8 kx ky
    refine wpAny_pot (rem := [0, 1, 2, 3, 4, 5]) (FR M 26 rgNone (fun j => if j = 0 then some x else if j = 1 then some y else if j = 2 then some (rCommon x y) else if j = 3 then some z else if j = 4 then some (rCommon (rCommon x y) z) else none)) TwoB (Below M w9) _ _ _ _ (by kernel_rfl) (size_dst (by kernel_rfl)) (Below.refl _ _) ?_ ?_
    · intro i hi a wa hI ha hv
      simp only [List.mem_cons, List.not_mem_nil, or_false] at hi
      rcases hi with rfl | rfl | rfl | rfl | rfl | rfl
      · exact pot_ld rfl rfl 26 (.tmp 7) rfl b6 (ha 7 (not_dst (by kernel_rfl))) 26 x j6 ⟨_, u1, u2⟩ szRR rfl jM hI
      · exact pot_ld rfl rfl 26 (.tmp 8) rfl b7 (ha 8 (not_dst (by kernel_rfl))) 26 y j7 ⟨_, u1, u2⟩ szRR rfl jM hI
      · obtain ⟨v, hv1, hv2⟩ := hv 0 (by simp) (by kernel_rfl)
        obtain ⟨v', hv3, hv4⟩ := hv 1 (by simp) (by kernel_rfl)
        have e := hv2.rg rfl
        have e' := hv4.rg rfl
        subst e
        subst e'
        exact pot_cl rfl rfl 15 _ _ rfl #[rgV x, rgV y] (by simp only [List.map_toArray, List.map_cons, List.map_nil]; have h1 := hv1 18 (by rfl); have h2 := hv3 19 (by rfl); show #[a.tmps.getD 18 undef, a.tmps.getD 19 undef] = _; rw [h1, h2]) (by kernel_rfl) (rCommon x y) (fun M hM => Common_any x y wa M hM) rfl jM hI
      · exact pot_ld rfl rfl 26 (.tmp 9) rfl b8 (ha 9 (not_dst (by kernel_rfl))) 26 z j8 ⟨_, u1, u2⟩ szRR rfl jM hI
      · obtain ⟨v, hv1, hv2⟩ := hv 2 (by simp) (by kernel_rfl)
        obtain ⟨v', hv3, hv4⟩ := hv 3 (by simp) (by kernel_rfl)
        have e := hv2.rg rfl
        have e' := hv4.rg rfl
        subst e
        subst e'
        exact pot_cl rfl rfl 15 _ _ rfl #[rgV (rCommon x y), rgV z] (by simp only [List.map_toArray, List.map_cons, List.map_nil]; have h1 := hv1 20 (by rfl); have h2 := hv3 21 (by rfl); show #[a.tmps.getD 20 undef, a.tmps.getD 21 undef] = _; rw [h1, h2]) (by kernel_rfl) (rCommon (rCommon x y) z) (fun M hM => Common_any (rCommon x y) z wa M hM) rfl jM hI
      · exact pot_al rfl rfl rfl zeRR rfl jM hI
    · intro vals wb hI hF hG
      have e0 := (hF 0 (by simp)).rg rfl
      have e1 := (hF 1 (by simp)).rg rfl
      have e2 := (hF 2 (by simp)).rg rfl
      have e3 := (hF 3 (by simp)).rg rfl
      have e4 := (hF 4 (by simp)).rg rfl
      obtain ⟨bk, lk, e5, hk⟩ := (hF 5 (by simp)).al rfl
      clear hF hG
      simp only [List.foldl_cons, List.foldl_nil, dstOf, List.getElem?_toArray, List.getElem?_cons_succ, List.getElem?_cons_zero, Option.bind_some, Act.put, List.setIfInBounds_toArray, List.set_cons_succ, List.set_cons_zero, e0, e1, e2, e3, e4, e5]
      refine wpAny_chain [6] _ _ _ _ (by kernel_rfl) (by decide) ?_
      simp only [List.filterMap_cons, List.filterMap_nil, List.getElem?_toArray, List.getElem?_cons_succ, List.getElem?_cons_zero]
      refine wpl_store rfl 26 (.tmp 10) (.tmp 22) rfl bk 6 (rgC (rCommon (rCommon x y) z)) rfl rfl 26 _ hk szRR (fun j _ => rgC_one _ j) ?_
      intro wc tc kk
      have bl : Below M w9 wc := tc.below hI lk
      have k6 := j6.below bl r6
      have k7 := j7.below bl r7
      have k8 := j8.below bl r8
      have lo := jo.trans (bl.mono lM)
      have T := jT.below jM bl
      obtain ⟨M1, hM1⟩ := sz_some wc
      have l1 := below_sz bl jM hM1
      clear hk tc hI bl e0 e1 e2 e3 e4 e5 lk j6 j7 j8 jM jo jT
      go_wp2_with fail
      refine (All_any _ M1 hM1).mono ?_
      rintro e wd ⟨rfl, hb⟩
      obtain ⟨M2, hM2⟩ := sz_some wd
      have l2 := below_sz hb hM1 hM2
      have k6 := k6.below hb (k6.ltN hM1)
      have k7 := k7.below hb (k7.ltN hM1)
      have k8 := k8.below hb (k8.ltN hM1)
      have kk := kk.below hb (kk.ltN hM1)
      have T := T.below hM1 hb
      have lo := lo.trans (hb.mono (by omega))
      clear hb
      unfold rgV
      go_upto_region 4 with (first
        | (refine wpl_alloc rfl 26 rfl 6 (rgC rgNone) zeRR M2 hM2 ?_; intro w10 hM10 hb10 hh10)
        | (refine wpl_store rfl 26 (.tmp 11) (.tmp 23) rfl M2 6 (rgC rgAll) rfl rfl 26 _ hh10 szRR (fun j _ => rgC_one _ j) ?_; intro w11 ht11 ka)
        | fail)
      have hb11 : Below M2 wd w11 := ht11.below hb10 (Nat.le_refl M2)
      have hM11 : Sz w11 (M2 + 1) := ht11.sz hM10
      have k6 := k6.below hb11 (k6.ltN hM2)
      have k7 := k7.below hb11 (k7.ltN hM2)
      have k8 := k8.below hb11 (k8.ltN hM2)
      have kk := kk.below hb11 (kk.ltN hM2)
      have lo := lo.trans (hb11.mono (by omega))
      have T := T.below hM2 hb11
      clear hb11 hb10 hh10 ht11 hM10
      have e1 : (rCommon (rCommon x y) z).beq (rCommon x (rCommon z y)) = true := (Rg.beq_iff _ _).2 (by rw [common_comm z y, common_assoc])
      have e2 : (rCommon x y).beq (rCommon y x) = true := (Rg.beq_iff _ _).2 (common_comm x y)
      have e3 : (rCommon x x).beq x = true := (Rg.beq_iff _ _).2 (common_self x)
      have e4 : (rCommon x rgAll).beq x = rWithin x rgAll := by rw [Bool.eq_iff_iff, Rg.beq_iff, within_iff']
      have HE1 := fun w' => run_eq_rr (rCommon (rCommon x y) z) (rCommon x (rCommon z y)) w'
      have HE2 := fun w' => run_eq_rr (rCommon x y) (rCommon y x) w'
      have HE3 := fun w' => run_eq_rr (rCommon x x) x w'
      have HE4 := fun w' => run_eq_rr (rCommon x rgAll) x w'
      rw [e1] at HE1
      rw [e2] at HE2
      rw [e3] at HE3
      rw [e4] at HE4
      clear e1 e2 e3 e4
      refine wp_region_later (M2 + 1) (by kernel_rfl) (by kernel_rfl) ?_
      try simp only [Act.put, List.setIfInBounds_toArray, List.set_cons_succ, List.set_cons_zero]
      go_big_quiet_step ((go_at_call 16; exact later_of hM11 _ (fun K hK hKN => whole_any _ K hK (T.below hM11 (Later.b _)))))
      go_big_quiet_step (fail)
      refine later_val (fun q => run_ld 26 (.tmp 10) rfl bk rfl 26 6 _ (Later.has hM11 kk q) _ u1 u2 szRR) (by rfl) ?_; simp only [Act.put, List.setIfInBounds_toArray, List.set_cons_succ, List.set_cons_zero]
      refine later_val (fun q => run_ld 26 (.tmp 7) rfl b6 rfl 26 6 _ (Later.has hM11 k6 q) _ u1 u2 szRR) (by rfl) ?_; simp only [Act.put, List.setIfInBounds_toArray, List.set_cons_succ, List.set_cons_zero]
      refine later_val (fun q => run_ld 26 (.tmp 9) rfl b8 rfl 26 6 _ (Later.has hM11 k8 q) _ u1 u2 szRR) (by rfl) ?_; simp only [Act.put, List.setIfInBounds_toArray, List.set_cons_succ, List.set_cons_zero]
      refine later_val (fun q => run_ld 26 (.tmp 8) rfl b7 rfl 26 6 _ (Later.has hM11 k7 q) _ u1 u2 szRR) (by rfl) ?_; simp only [Act.put, List.setIfInBounds_toArray, List.set_cons_succ, List.set_cons_zero]
      go_big_quiet_step ((go_at_call 15; exact later_of hM11 _ (fun K hK hKN => Common_any z y _ K hK)))
      go_big_quiet_step ((go_at_call 15; exact later_of hM11 _ (fun K hK hKN => Common_any x (rCommon z y) _ K hK)))
      refine later_val (fun q => run_eql_op 26 26 (.tmp 26) (.tmp 31) rfl _ _ rfl rfl true (by kernel_rfl) (HE1 q.w')) (by rfl) ?_; simp only [Act.put, List.setIfInBounds_toArray, List.set_cons_succ, List.set_cons_zero, Bool.not_true, Bool.not_false]
      go_big_quiet_step (fail)
      go_big_quiet_step (fail)
      refine later_val (fun q => run_ld 26 (.tmp 7) rfl b6 rfl 26 6 _ (Later.has hM11 k6 q) _ u1 u2 szRR) (by rfl) ?_; simp only [Act.put, List.setIfInBounds_toArray, List.set_cons_succ, List.set_cons_zero]
      refine later_val (fun q => run_ld 26 (.tmp 8) rfl b7 rfl 26 6 _ (Later.has hM11 k7 q) _ u1 u2 szRR) (by rfl) ?_; simp only [Act.put, List.setIfInBounds_toArray, List.set_cons_succ, List.set_cons_zero]
      go_big_quiet_step ((go_at_call 15; exact later_of hM11 _ (fun K hK hKN => Common_any x y _ K hK)))
      refine later_val (fun q => run_ld 26 (.tmp 8) rfl b7 rfl 26 6 _ (Later.has hM11 k7 q) _ u1 u2 szRR) (by rfl) ?_; simp only [Act.put, List.setIfInBounds_toArray, List.set_cons_succ, List.set_cons_zero]
      refine later_val (fun q => run_ld 26 (.tmp 7) rfl b6 rfl 26 6 _ (Later.has hM11 k6 q) _ u1 u2 szRR) (by rfl) ?_; simp only [Act.put, List.setIfInBounds_toArray, List.set_cons_succ, List.set_cons_zero]
      go_big_quiet_step ((go_at_call 15; exact later_of hM11 _ (fun K hK hKN => Common_any y x _ K hK)))
      refine later_val (fun q => run_eql_op 26 26 (.tmp 37) (.tmp 40) rfl _ _ rfl rfl true (by kernel_rfl) (HE2 q.w')) (by rfl) ?_; simp only [Act.put, List.setIfInBounds_toArray, List.set_cons_succ, List.set_cons_zero, Bool.not_true, Bool.not_false]
      go_big_quiet_step (fail)
      go_big_quiet_step (fail)
      refine later_val (fun q => run_ld 26 (.tmp 7) rfl b6 rfl 26 6 _ (Later.has hM11 k6 q) _ u1 u2 szRR) (by rfl) ?_; simp only [Act.put, List.setIfInBounds_toArray, List.set_cons_succ, List.set_cons_zero]
      refine later_val (fun q => run_ld 26 (.tmp 7) rfl b6 rfl 26 6 _ (Later.has hM11 k6 q) _ u1 u2 szRR) (by rfl) ?_; simp only [Act.put, List.setIfInBounds_toArray, List.set_cons_succ, List.set_cons_zero]
      go_big_quiet_step ((go_at_call 15; exact later_of hM11 _ (fun K hK hKN => Common_any x x _ K hK)))
      refine later_val (fun q => run_ld 26 (.tmp 7) rfl b6 rfl 26 6 _ (Later.has hM11 k6 q) _ u1 u2 szRR) (by rfl) ?_; simp only [Act.put, List.setIfInBounds_toArray, List.set_cons_succ, List.set_cons_zero]
      refine later_val (fun q => run_eql_op 26 26 (.tmp 46) (.tmp 47) rfl _ _ rfl rfl true (by kernel_rfl) (HE3 q.w')) (by rfl) ?_; simp only [Act.put, List.setIfInBounds_toArray, List.set_cons_succ, List.set_cons_zero, Bool.not_true, Bool.not_false]
      go_big_quiet_step (fail)
      go_big_quiet_step (fail)
      refine later_val (fun q => run_ld 26 (.tmp 7) rfl b6 rfl 26 6 _ (Later.has hM11 k6 q) _ u1 u2 szRR) (by rfl) ?_; simp only [Act.put, List.setIfInBounds_toArray, List.set_cons_succ, List.set_cons_zero]
      refine later_val (fun q => run_ld 26 (.tmp 11) rfl M2 rfl 26 6 _ (Later.has hM11 ka q) _ u1 u2 szRR) (by rfl) ?_; simp only [Act.put, List.setIfInBounds_toArray, List.set_cons_succ, List.set_cons_zero]
      go_big_quiet_step ((go_at_call 15; exact later_of hM11 _ (fun K hK hKN => Common_any x rgAll _ K hK)))
      refine later_val (fun q => run_ld 26 (.tmp 7) rfl b6 rfl 26 6 _ (Later.has hM11 k6 q) _ u1 u2 szRR) (by rfl) ?_; simp only [Act.put, List.setIfInBounds_toArray, List.set_cons_succ, List.set_cons_zero]
      refine later_val (fun q => run_eql_op 26 26 (.tmp 53) (.tmp 54) rfl _ _ rfl rfl (rWithin x rgAll) (by kernel_rfl) (HE4 q.w')) (by rfl) ?_; simp only [Act.put, List.setIfInBounds_toArray, List.set_cons_succ, List.set_cons_zero, Bool.not_true, Bool.not_false]
      refine later_val (fun q => run_ld 26 (.tmp 7) rfl b6 rfl 26 6 _ (Later.has hM11 k6 q) _ u1 u2 szRR) (by rfl) ?_; simp only [Act.put, List.setIfInBounds_toArray, List.set_cons_succ, List.set_cons_zero]
      refine later_val (fun q => run_ld 26 (.tmp 11) rfl M2 rfl 26 6 _ (Later.has hM11 ka q) _ u1 u2 szRR) (by rfl) ?_; simp only [Act.put, List.setIfInBounds_toArray, List.set_cons_succ, List.set_cons_zero]
      go_big_quiet_step ((go_at_call 17; exact later_of hM11 _ (fun K hK hKN => Within_any x rgAll _ K hK)))
      go_big_quiet_step (fail)
      go_big_quiet_step (fail)
      go_big_quiet_step (fail)
      refine wpQuiet_nil ?_
      rintro w30 ⟨q30, e30⟩
      have hb30 := q30.b
      rw [← e30] at hb30
      go_wp2_with fail
      go_ret
      exact ⟨by first | rfl | simp, lo.trans (hb30.mono (by omega))⟩
end Go.Proofs.YtcbcnhkalchpbaaDoor
