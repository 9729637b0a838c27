/- RightsWithin: the walk. -/
import Derived.Test.YtcbcnhkalchpbaaDoorRi6
import Derived.Test.YtcbcnhkalchpbaaDoorPot2
import Derived.Test.YtcbcnhkalchpbaaDoorRi8
namespace Go.Proofs.YtcbcnhkalchpbaaDoor
open Go Go.RowKit
theorem FR.rg {N : Nat} {T : TypeId} {z : Rg} {V : Nat → Option Rg} {j : Nat} {v : Value} {w : World} (h : FR N T z V j v w) {r : Rg} (e : V j = some r) : v = rgV r := by unfold FR at h; rw [e] at h; exact h
theorem FR.al {N : Nat} {T : TypeId} {z : Rg} {V : Nat → Option Rg} {j : Nat} {v : Value} {w : World} (h : FR N T z V j v w) (e : V j = none) : ∃ b, N ≤ b ∧ v = .pointer (some ⟨b, 0, none⟩) ∧ Has w b T 6 (rgC z) := by unfold FR at h; rw [e] at h; exact h
theorem not_dst {ops : Array Oper} {rem : List Nat} {t : Tmp} (h : (rem.all fun j => dstOf ops j != some t) = true) : ∀ j ∈ rem, dstOf ops j ≠ some t := fun j hj => by
  have := List.all_eq_true.1 h j hj
  simpa using this
theorem size_dst {ops : Array Oper} {rem : List Nat} {n : Nat} (h : (rem.all fun j => match dstOf ops j with | some t => decide (t < n) | none => true) = true) : ∀ i ∈ rem, ∀ t, dstOf ops i = some t → t < n := fun i hi t ht => by
  have := List.all_eq_true.1 h i hi
  rw [ht] at this
  simpa using this
set_option maxRecDepth 100000 in
set_option maxHeartbeats 2000000 in
theorem law_within (x y z : Rg) (w : World) (N : Nat) (hN : Sz w N) (hT : Rt w) :
    Calls Tryd.prog 3 #[rgV x, rgV y, rgV z] w fun e w' => e = .returned (.bool true) ∧ Below N w w' := by
  unfold rgV
  go_enter Tryd.func3, Tryd.ntmps3
  go_upto_region 1 with (first
    | (refine wpl_box rfl 24 (.tmp 0) rfl 6 _ rfl N hN ?_; intro w1 hN1 hb1 hh1)
    | (refine wpl_box rfl 24 (.tmp 1) rfl 6 _ rfl (N + 1) hN1 ?_; intro w2 hN2 hb2 hh2)
    | (refine wpl_box rfl 24 (.tmp 2) rfl 6 _ rfl (N + 1 + 1) hN2 ?_; intro w3 hN3 hb3 hh3)
    | fail)
  have k1 := (hh1.below hb2 (by omega)).below hb3 (by omega)
  have k2 := hh2.below hb3 (by omega)
  have lo3 : Below N w w3 := (hb1.trans (hb2.mono (by omega))).trans (hb3.mono (by omega))
  have T3 := hT.below hN lo3
  clear hh1 hh2 hb1 hb2 hb3 hN1 hN2
  refine wp_region_any (by kernel_rfl) ?_
  have k1d : Has w3.drew N 24 6 (rgC x) := k1
  have k2d : Has w3.drew (N + 1) 24 6 (rgC y) := k2
  have k3d : Has w3.drew (N + 1 + 1) 24 6 (rgC z) := hh3
  have hN3d : Sz w3.drew (N + 1 + 1 + 1) := hN3
  have lo3d : Below N w w3.drew := lo3.drew
  have T3d : Rt w3.drew := ⟨T3.h, T3.d⟩
  change wpAny _ _ _ _ _ _ _ (World.drew _)
  generalize w3.drew = w4 at *
  clear k1 k2 hh3 hN3 lo3 T3 hT
  refine wpAny_pot (rem := [0, 1, 2, 3, 4, 5, 6, 7, 8]) (FR (N + 1 + 1 + 1) 26 rgNone (fun j => if j < 2 then some x else if j < 4 then some y else if j < 6 then some z else none)) TwoB (Below (N + 1 + 1 + 1) w4) _ _ _ _ (by kernel_rfl) (size_dst (by kernel_rfl)) (Below.refl _ _) ?_ ?_
  · intro i hi a wa hI ha hv
    simp only [List.mem_cons, List.not_mem_nil, or_false] at hi
    rcases hi with rfl | rfl | rfl | rfl | rfl | rfl | rfl | rfl | rfl
    · exact pot_ld rfl rfl 24 (.tmp 3) rfl N (ha 3 (not_dst (by kernel_rfl))) 24 x k1d undRF szRF rfl hN3d hI
    · obtain ⟨v, hv1, hv2⟩ := hv 0 (by simp) (by kernel_rfl)
      have e := hv2.rg rfl
      subst e
      exact pot_cl rfl rfl 14 _ _ rfl #[rgV x] (by simp only [List.map_toArray, List.map_cons, List.map_nil]; exact congrArg (fun u => #[u]) (hv1 11 (by rfl))) (by kernel_rfl) x (fun M hM => To_any x wa M hM) rfl hN3d hI
    · exact pot_ld rfl rfl 24 (.tmp 4) rfl (N + 1) (ha 4 (not_dst (by kernel_rfl))) 24 y k2d undRF szRF rfl hN3d hI
    · obtain ⟨v, hv1, hv2⟩ := hv 2 (by simp) (by kernel_rfl)
      have e := hv2.rg rfl
      subst e
      exact pot_cl rfl rfl 14 _ _ rfl #[rgV y] (by simp only [List.map_toArray, List.map_cons, List.map_nil]; exact congrArg (fun u => #[u]) (hv1 13 (by rfl))) (by kernel_rfl) y (fun M hM => To_any y wa M hM) rfl hN3d hI
    · exact pot_ld rfl rfl 24 (.tmp 5) rfl (N + 1 + 1) (ha 5 (not_dst (by kernel_rfl))) 24 z k3d undRF szRF rfl hN3d hI
    · obtain ⟨v, hv1, hv2⟩ := hv 4 (by simp) (by kernel_rfl)
      have e := hv2.rg rfl
      subst e
      exact pot_cl rfl rfl 14 _ _ rfl #[rgV z] (by simp only [List.map_toArray, List.map_cons, List.map_nil]; exact congrArg (fun u => #[u]) (hv1 15 (by rfl))) (by kernel_rfl) z (fun M hM => To_any z wa M hM) rfl hN3d hI
    · exact pot_al rfl rfl rfl zeRR rfl hN3d hI
    · exact pot_al rfl rfl rfl zeRR rfl hN3d hI
    · exact pot_al rfl rfl rfl zeRR rfl hN3d hI
  · intro vals w5 hI hF hG
    have e0 := (hF 0 (by simp)).rg rfl
    have e1 := (hF 1 (by simp)).rg rfl
    have e2 := (hF 2 (by simp)).rg rfl
    have e3 := (hF 3 (by simp)).rg rfl
    have e4 := (hF 4 (by simp)).rg rfl
    have e5 := (hF 5 (by simp)).rg rfl
    obtain ⟨b6, l6, e6, h6⟩ := (hF 6 (by simp)).al rfl
    obtain ⟨b7, l7, e7, h7⟩ := (hF 7 (by simp)).al rfl
    obtain ⟨b8, l8, e8, h8⟩ := (hF 8 (by simp)).al rfl
    have n67 := hG 6 (by simp) 7 (by simp) (by omega) b6 b7 e6 e7
    have n68 := hG 6 (by simp) 8 (by simp) (by omega) b6 b8 e6 e8
    have n78 := hG 7 (by simp) 8 (by simp) (by omega) b7 b8 e7 e8
    clear hF hG
    simp only [List.foldl_cons, List.foldl_nil, dstOf, List.getElem?_toArray, List.getElem?_cons_succ, List.getElem?_cons_zero, Option.bind_some, Act.put, List.setIfInBounds_toArray, List.set_cons_succ, List.set_cons_zero, e0, e1, e2, e3, e4, e5, e6, e7, e8]
    refine wpAny_chain [9, 10, 11] _ _ _ _ (by kernel_rfl) (by decide) ?_
    simp only [List.filterMap_cons, List.filterMap_nil, List.getElem?_toArray, List.getElem?_cons_succ, List.getElem?_cons_zero]
    refine wpl_store rfl 26 (.tmp 7) (.tmp 12) rfl b6 6 (rgC x) rfl rfl 26 _ h6 szRR (fun j _ => rgC_one _ j) ?_
    intro w6 t6 k6
    have h7 := h7.touch t6 (fun h => n67 h.symm)
    have h8 := h8.touch t6 (fun h => n68 h.symm)
    refine wpl_store rfl 26 (.tmp 8) (.tmp 14) rfl b7 6 (rgC y) rfl rfl 26 _ h7 szRR (fun j _ => rgC_one _ j) ?_
    intro w7 t7 k7
    have h8 := h8.touch t7 (fun h => n78 h.symm)
    have k6 := k6.touch t7 n67
    refine wpl_store rfl 26 (.tmp 9) (.tmp 16) rfl b8 6 (rgC z) rfl rfl 26 _ h8 szRR (fun j _ => rgC_one _ j) ?_
    intro w8 t8 k8
    have k6 := k6.touch t8 n68
    have k7 := k7.touch t8 n78
    have bl : Below (N + 1 + 1 + 1) w4 w8 := t8.below (t7.below (t6.below hI l6) l7) l8
    have kx := k1d.below bl (by omega)
    have ky := k2d.below bl (by omega)
    have lo8 := lo3d.trans (bl.mono (by omega))
    have T8 := T3d.below hN3d bl
    obtain ⟨M, hM⟩ := sz_some w8
    have lM := below_sz lo8 hN hM
    have r6 := k6.ltN hM
    have r7 := k7.ltN hM
    have r8 := k8.ltN hM
    have rx := kx.ltN hM
    have ry := ky.ltN hM
    clear h6 h7 h8 t6 t7 t8 hI k1d k2d k3d lo3d T3d hN3d bl e0 e1 e2 e3 e4 e5 e6 e7 e8 n67 n68 n78 l6 l7 l8
    obtain ⟨dR, u1, u2⟩ := undRR
    obtain ⟨dF, v1, v2⟩ := undRF
    go_wp2_with (first
      | (refine wpl_load rfl 26 (.tmp 7) rfl b6 rfl 26 6 _ k6 _ u1 u2 szRR ?_)
      | (refine wpl_load rfl 26 (.tmp 8) rfl b7 rfl 26 6 _ k7 _ u1 u2 szRR ?_)
      | fail)
    refine (Common_any x y _ M hM).mono ?_
    rintro e w9 ⟨rfl, hb9⟩
    obtain ⟨M9, hM9⟩ := sz_some w9
    have l9 := below_sz hb9 hM hM9
    have k6 := k6.below hb9 r6
    have k7 := k7.below hb9 r7
    have k8 := k8.below hb9 r8
    have kx := kx.below hb9 rx
    have ky := ky.below hb9 ry
    have lo9 := lo8.trans (hb9.mono lM)
    have T9 := T8.below hM hb9
    clear hb9 T8
    unfold rgV
    go_upto_region 3 with (first
      | (refine wpl_alloc rfl 26 rfl 6 (rgC rgNone) zeRR M9 hM9 ?_; intro w10 hM10 hb10 hh10)
      | (refine wpl_store rfl 26 (.tmp 10) (.tmp 19) rfl M9 6 (rgC (rCommon x y)) rfl rfl 26 _ hh10 szRR (fun j _ => rgC_one _ j) ?_; intro w11 ht11 k10)
      | fail)
    have hb11 : Below M9 w9 w11 := ht11.below hb10 (Nat.le_refl M9)
    have hM11 : Sz w11 (M9 + 1) := ht11.sz hM10
    have k6 := k6.below hb11 (by omega)
    have k7 := k7.below hb11 (by omega)
    have k8 := k8.below hb11 (by omega)
    have kx := kx.below hb11 (by omega)
    have ky := ky.below hb11 (by omega)
    have lo11 := lo9.trans (hb11.mono (by omega))
    have T11 := T9.below hM9 hb11
    clear hb11 hb10 hh10 ht11 hM10 T9 lo9 lo8 hM9 hM
    refine wp_region_later (M9 + 1) (by kernel_rfl) (by kernel_rfl) ?_
    try simp only [Act.put, List.setIfInBounds_toArray, List.set_cons_succ, List.set_cons_zero]
    have beqc : (rCommon x y).beq (rCommon x y) = true := (Rg.beq_iff _ _).2 rfl
    have HEQ := fun w' => run_eq_rf (rCommon x y) (rCommon x y) w'
    rw [beqc] at HEQ
    have w_l := within_common_l x y
    have w_r := within_common_r x y
    have w_s := within_self x
    -- REGION3
    go_big_quiet_step ((go_at_call 16; exact later_of hM11 _ (fun K hK hKN => whole_any _ K hK (T11.below hM11 (Later.b _)))))
    go_big_quiet_step (fail)
    go_big_quiet_step (fail)
    refine later_val (fun q => run_ld 26 (.tmp 7) rfl b6 rfl 26 6 _ (Later.has hM11 k6 q) _ u1 u2 szRR) (by rfl) ?_; simp only [Act.put, List.setIfInBounds_toArray, List.set_cons_succ, List.set_cons_zero]
    refine later_val (fun q => run_ld 26 (.tmp 8) rfl b7 rfl 26 6 _ (Later.has hM11 k7 q) _ u1 u2 szRR) (by rfl) ?_; simp only [Act.put, List.setIfInBounds_toArray, List.set_cons_succ, List.set_cons_zero]
    go_big_quiet_step ((go_at_call 17; exact later_of hM11 _ (fun K hK hKN => Within_any x y _ K hK)))
    refine later_val (fun q => run_ld 24 (.tmp 3) rfl N rfl 24 6 _ (Later.has hM11 kx q) _ v1 v2 szRF) (by rfl) ?_; simp only [Act.put, List.setIfInBounds_toArray, List.set_cons_succ, List.set_cons_zero]
    refine later_val (fun q => run_ld 24 (.tmp 4) rfl (N + 1) rfl 24 6 _ (Later.has hM11 ky q) _ v1 v2 szRF) (by rfl) ?_; simp only [Act.put, List.setIfInBounds_toArray, List.set_cons_succ, List.set_cons_zero]
    go_big_quiet_step ((go_at_call 18; exact later_of hM11 _ (fun K hK hKN => RWithin_any x y _ K hK)))
    go_big_quiet_step (fail)
    go_big_quiet_step (fail)
    go_big_quiet_step (fail)
    refine later_val (fun q => run_ld 26 (.tmp 10) rfl M9 rfl 26 6 _ (Later.has hM11 k10 q) _ u1 u2 szRR) (by rfl) ?_; simp only [Act.put, List.setIfInBounds_toArray, List.set_cons_succ, List.set_cons_zero]
    go_big_quiet_step ((go_at_call 19; exact later_of hM11 _ (fun K hK hKN => From_any (rCommon x y) _ K hK)))
    refine later_val (fun q => run_ld 24 (.tmp 3) rfl N rfl 24 6 _ (Later.has hM11 kx q) _ v1 v2 szRF) (by rfl) ?_; simp only [Act.put, List.setIfInBounds_toArray, List.set_cons_succ, List.set_cons_zero]
    refine later_val (fun q => run_ld 24 (.tmp 4) rfl (N + 1) rfl 24 6 _ (Later.has hM11 ky q) _ v1 v2 szRF) (by rfl) ?_; simp only [Act.put, List.setIfInBounds_toArray, List.set_cons_succ, List.set_cons_zero]
    go_big_quiet_step ((go_at_call 20; exact later_of hM11 _ (fun K hK hKN => RCommon_any x y _ K hK)))
    refine later_val (fun q => run_neq_op 24 24 (.tmp 33) (.tmp 36) rfl _ _ rfl rfl true (by kernel_rfl) (HEQ q.w')) (by rfl) ?_; simp only [Act.put, List.setIfInBounds_toArray, List.set_cons_succ, List.set_cons_zero, Bool.not_true, Bool.not_false]
    go_big_quiet_step (fail)
    go_big_quiet_step (fail)
    refine later_val (fun q => run_ld 26 (.tmp 10) rfl M9 rfl 26 6 _ (Later.has hM11 k10 q) _ u1 u2 szRR) (by rfl) ?_; simp only [Act.put, List.setIfInBounds_toArray, List.set_cons_succ, List.set_cons_zero]
    refine later_val (fun q => run_ld 26 (.tmp 7) rfl b6 rfl 26 6 _ (Later.has hM11 k6 q) _ u1 u2 szRR) (by rfl) ?_; simp only [Act.put, List.setIfInBounds_toArray, List.set_cons_succ, List.set_cons_zero]
    go_big_quiet_step ((go_at_call 17; exact later_of hM11 _ (fun K hK hKN => Within_any (rCommon x y) x _ K hK)))
    go_big_quiet_step (fail)
    go_big_quiet_step (fail)
    go_big_quiet_step (fail)
    refine later_val (fun q => run_ld 26 (.tmp 10) rfl M9 rfl 26 6 _ (Later.has hM11 k10 q) _ u1 u2 szRR) (by rfl) ?_; simp only [Act.put, List.setIfInBounds_toArray, List.set_cons_succ, List.set_cons_zero]
    refine later_val (fun q => run_ld 26 (.tmp 8) rfl b7 rfl 26 6 _ (Later.has hM11 k7 q) _ u1 u2 szRR) (by rfl) ?_; simp only [Act.put, List.setIfInBounds_toArray, List.set_cons_succ, List.set_cons_zero]
    go_big_quiet_step ((go_at_call 17; exact later_of hM11 _ (fun K hK hKN => Within_any (rCommon x y) y _ K hK)))
    go_big_quiet_step (fail)
    go_big_quiet_step (fail)
    go_big_quiet_step (fail)
    refine later_val (fun q => run_ld 26 (.tmp 7) rfl b6 rfl 26 6 _ (Later.has hM11 k6 q) _ u1 u2 szRR) (by rfl) ?_; simp only [Act.put, List.setIfInBounds_toArray, List.set_cons_succ, List.set_cons_zero]
    refine later_val (fun q => run_ld 26 (.tmp 7) rfl b6 rfl 26 6 _ (Later.has hM11 k6 q) _ u1 u2 szRR) (by rfl) ?_; simp only [Act.put, List.setIfInBounds_toArray, List.set_cons_succ, List.set_cons_zero]
    go_big_quiet_step ((go_at_call 17; exact later_of hM11 _ (fun K hK hKN => Within_any x x _ K hK)))
    go_big_quiet_step (fail)
    go_big_quiet_step (fail)
    refine wpQuiet_nil ?_
    rintro w12 ⟨q12, e12⟩
    have hb12 := q12.b
    rw [← e12] at hb12
    clear e12 q12
    have k6 := k6.below hb12 (by omega)
    have k7 := k7.below hb12 (by omega)
    have k8 := k8.below hb12 (by omega)
    have k10 := k10.below hb12 (by omega)
    have lo12 := lo11.trans (hb12.mono (by omega))
    obtain ⟨M12, hM12⟩ := sz_some w12
    have l12 := below_sz hb12 hM11 hM12
    clear hb12 lo11 HEQ beqc w_l w_r w_s kx ky T11
    have C1 := fun w M hM => Within_any x y w M hM
    have C2 := fun w M hM => Within_any y z w M hM
    have C3 := fun w M hM => Within_any x z w M hM
    have H3 := hid (show rWithin x y = true → rWithin y z = true → rWithin x z = true from within_trans)
    have HZ := hid (within_common z x y)
    have C4 := fun w M hM => Within_any z x w M hM
    have C5 := fun w M hM => Within_any z y w M hM
    cases hxy : rWithin x y
    · rw [hxy] at C1
      clear H3 C2 C3
      go_wp2_with (first
        | (refine wpl_load rfl 26 (.tmp 7) rfl b6 rfl 26 6 _ k6 _ u1 u2 szRR ?_)
        | (refine wpl_want' rfl (wpl_load rfl 26 (.tmp 7) rfl b6 rfl 26 6 _ k6 _ u1 u2 szRR ?_))
        | (refine wpl_load rfl 26 (.tmp 8) rfl b7 rfl 26 6 _ k7 _ u1 u2 szRR ?_)
        | (refine wpl_want' rfl (wpl_load rfl 26 (.tmp 8) rfl b7 rfl 26 6 _ k7 _ u1 u2 szRR ?_))
        | fail)
      refine (C1 _ M12 hM12).mono ?_
      rintro e x20 ⟨rfl, y20⟩
      obtain ⟨M20, hM20⟩ := sz_some x20
      have g20 := below_sz y20 hM12 hM20
      have k6 := k6.below y20 (k6.ltN hM12)
      have k7 := k7.below y20 (k7.ltN hM12)
      have k8 := k8.below y20 (k8.ltN hM12)
      have k10 := k10.below y20 (k10.ltN hM12)
      have lo20 := lo12.trans (y20.mono (show N ≤ M12 by omega))
      cases hzx : rWithin z x
      · rw [hzx] at HZ C4
        have E := HZ.out
        have C6 := fun w M hM => Within_any z (rCommon x y) w M hM
        rw [E] at C6
        clear E
        go_upto_region 7 with fail
        refine wp_region_later M20 (by kernel_rfl) (by kernel_rfl) ?_
        try simp only [Act.put, List.setIfInBounds_toArray, List.set_cons_succ, List.set_cons_zero]
        refine later_val (fun q => run_ld 26 (.tmp 9) rfl b8 rfl 26 6 _ (Later.has hM20 k8 q) _ u1 u2 szRR) (by rfl) ?_; simp only [Act.put, List.setIfInBounds_toArray, List.set_cons_succ, List.set_cons_zero]
        refine later_val (fun q => run_ld 26 (.tmp 10) rfl M9 rfl 26 6 _ (Later.has hM20 k10 q) _ u1 u2 szRR) (by rfl) ?_; simp only [Act.put, List.setIfInBounds_toArray, List.set_cons_succ, List.set_cons_zero]
        go_big_quiet_step ((go_at_call 17; exact later_of hM20 _ (fun K hK hKN => C6 _ K hK)))
        refine later_val (fun q => run_ld 26 (.tmp 9) rfl b8 rfl 26 6 _ (Later.has hM20 k8 q) _ u1 u2 szRR) (by rfl) ?_; simp only [Act.put, List.setIfInBounds_toArray, List.set_cons_succ, List.set_cons_zero]
        refine later_val (fun q => run_ld 26 (.tmp 7) rfl b6 rfl 26 6 _ (Later.has hM20 k6 q) _ u1 u2 szRR) (by rfl) ?_; simp only [Act.put, List.setIfInBounds_toArray, List.set_cons_succ, List.set_cons_zero]
        go_big_quiet_step ((go_at_call 17; exact later_of hM20 _ (fun K hK hKN => C4 _ K hK)))
        go_big_quiet_step (fail)
        go_big_quiet_step (fail)
        go_big_quiet_step (fail)
        go_big_quiet_step (fail)
        go_big_quiet_step (fail)
        go_big_quiet_step (fail)
        go_big_quiet_step (fail)
        refine wpQuiet_nil ?_
        rintro w30 ⟨q30, e30⟩
        have hb30 := q30.b
        rw [← e30] at hb30
        go_wp2_with fail
        go_ret
        exact ⟨by first | rfl | simp, lo20.trans (hb30.mono (show N ≤ M20 by omega))⟩
      · rw [hzx] at HZ C4
        cases hzy : rWithin z y
        · rw [hzy] at HZ C5
          have E := HZ.out
          have C6 := fun w M hM => Within_any z (rCommon x y) w M hM
          rw [E] at C6
          clear E
          go_upto_region 7 with fail
          refine wp_region_later M20 (by kernel_rfl) (by kernel_rfl) ?_
          try simp only [Act.put, List.setIfInBounds_toArray, List.set_cons_succ, List.set_cons_zero]
          refine later_val (fun q => run_ld 26 (.tmp 9) rfl b8 rfl 26 6 _ (Later.has hM20 k8 q) _ u1 u2 szRR) (by rfl) ?_; simp only [Act.put, List.setIfInBounds_toArray, List.set_cons_succ, List.set_cons_zero]
          refine later_val (fun q => run_ld 26 (.tmp 10) rfl M9 rfl 26 6 _ (Later.has hM20 k10 q) _ u1 u2 szRR) (by rfl) ?_; simp only [Act.put, List.setIfInBounds_toArray, List.set_cons_succ, List.set_cons_zero]
          go_big_quiet_step ((go_at_call 17; exact later_of hM20 _ (fun K hK hKN => C6 _ K hK)))
          refine later_val (fun q => run_ld 26 (.tmp 9) rfl b8 rfl 26 6 _ (Later.has hM20 k8 q) _ u1 u2 szRR) (by rfl) ?_; simp only [Act.put, List.setIfInBounds_toArray, List.set_cons_succ, List.set_cons_zero]
          refine later_val (fun q => run_ld 26 (.tmp 7) rfl b6 rfl 26 6 _ (Later.has hM20 k6 q) _ u1 u2 szRR) (by rfl) ?_; simp only [Act.put, List.setIfInBounds_toArray, List.set_cons_succ, List.set_cons_zero]
          go_big_quiet_step ((go_at_call 17; exact later_of hM20 _ (fun K hK hKN => C4 _ K hK)))
          go_big_quiet_step (fail)
          refine later_val (fun q => run_ld 26 (.tmp 9) rfl b8 rfl 26 6 _ (Later.has hM20 k8 q) _ u1 u2 szRR) (by rfl) ?_; simp only [Act.put, List.setIfInBounds_toArray, List.set_cons_succ, List.set_cons_zero]
          refine later_val (fun q => run_ld 26 (.tmp 8) rfl b7 rfl 26 6 _ (Later.has hM20 k7 q) _ u1 u2 szRR) (by rfl) ?_; simp only [Act.put, List.setIfInBounds_toArray, List.set_cons_succ, List.set_cons_zero]
          go_big_quiet_step ((go_at_call 17; exact later_of hM20 _ (fun K hK hKN => C5 _ K hK)))
          go_big_quiet_step (fail)
          go_big_quiet_step (fail)
          go_big_quiet_step (fail)
          refine wpQuiet_nil ?_
          rintro w30 ⟨q30, e30⟩
          have hb30 := q30.b
          rw [← e30] at hb30
          go_wp2_with fail
          go_ret
          exact ⟨by first | rfl | simp, lo20.trans (hb30.mono (show N ≤ M20 by omega))⟩
        · rw [hzy] at HZ C5
          have E := HZ.out
          have C6 := fun w M hM => Within_any z (rCommon x y) w M hM
          rw [E] at C6
          clear E
          go_upto_region 7 with fail
          refine wp_region_later M20 (by kernel_rfl) (by kernel_rfl) ?_
          try simp only [Act.put, List.setIfInBounds_toArray, List.set_cons_succ, List.set_cons_zero]
          refine later_val (fun q => run_ld 26 (.tmp 9) rfl b8 rfl 26 6 _ (Later.has hM20 k8 q) _ u1 u2 szRR) (by rfl) ?_; simp only [Act.put, List.setIfInBounds_toArray, List.set_cons_succ, List.set_cons_zero]
          refine later_val (fun q => run_ld 26 (.tmp 10) rfl M9 rfl 26 6 _ (Later.has hM20 k10 q) _ u1 u2 szRR) (by rfl) ?_; simp only [Act.put, List.setIfInBounds_toArray, List.set_cons_succ, List.set_cons_zero]
          go_big_quiet_step ((go_at_call 17; exact later_of hM20 _ (fun K hK hKN => C6 _ K hK)))
          refine later_val (fun q => run_ld 26 (.tmp 9) rfl b8 rfl 26 6 _ (Later.has hM20 k8 q) _ u1 u2 szRR) (by rfl) ?_; simp only [Act.put, List.setIfInBounds_toArray, List.set_cons_succ, List.set_cons_zero]
          refine later_val (fun q => run_ld 26 (.tmp 7) rfl b6 rfl 26 6 _ (Later.has hM20 k6 q) _ u1 u2 szRR) (by rfl) ?_; simp only [Act.put, List.setIfInBounds_toArray, List.set_cons_succ, List.set_cons_zero]
          go_big_quiet_step ((go_at_call 17; exact later_of hM20 _ (fun K hK hKN => C4 _ K hK)))
          go_big_quiet_step (fail)
          refine later_val (fun q => run_ld 26 (.tmp 9) rfl b8 rfl 26 6 _ (Later.has hM20 k8 q) _ u1 u2 szRR) (by rfl) ?_; simp only [Act.put, List.setIfInBounds_toArray, List.set_cons_succ, List.set_cons_zero]
          refine later_val (fun q => run_ld 26 (.tmp 8) rfl b7 rfl 26 6 _ (Later.has hM20 k7 q) _ u1 u2 szRR) (by rfl) ?_; simp only [Act.put, List.setIfInBounds_toArray, List.set_cons_succ, List.set_cons_zero]
          go_big_quiet_step ((go_at_call 17; exact later_of hM20 _ (fun K hK hKN => C5 _ K hK)))
          go_big_quiet_step (fail)
          go_big_quiet_step (fail)
          go_big_quiet_step (fail)
          refine wpQuiet_nil ?_
          rintro w30 ⟨q30, e30⟩
          have hb30 := q30.b
          rw [← e30] at hb30
          go_wp2_with fail
          go_ret
          exact ⟨by first | rfl | simp, lo20.trans (hb30.mono (show N ≤ M20 by omega))⟩
    · rw [hxy] at C1
      cases hyz : rWithin y z
      · rw [hyz] at C2
        clear H3 C3
        go_wp2_with (first
          | (refine wpl_load rfl 26 (.tmp 7) rfl b6 rfl 26 6 _ k6 _ u1 u2 szRR ?_)
          | (refine wpl_want' rfl (wpl_load rfl 26 (.tmp 7) rfl b6 rfl 26 6 _ k6 _ u1 u2 szRR ?_))
          | (refine wpl_load rfl 26 (.tmp 8) rfl b7 rfl 26 6 _ k7 _ u1 u2 szRR ?_)
          | (refine wpl_want' rfl (wpl_load rfl 26 (.tmp 8) rfl b7 rfl 26 6 _ k7 _ u1 u2 szRR ?_))
          | fail)
        refine (C1 _ M12 hM12).mono ?_
        rintro e x21 ⟨rfl, y21⟩
        obtain ⟨M21, hM21⟩ := sz_some x21
        have g21 := below_sz y21 hM12 hM21
        have k6 := k6.below y21 (k6.ltN hM12)
        have k7 := k7.below y21 (k7.ltN hM12)
        have k8 := k8.below y21 (k8.ltN hM12)
        have k10 := k10.below y21 (k10.ltN hM12)
        have lo21 := lo12.trans (y21.mono (show N ≤ M12 by omega))
        go_wp2_with (first
          | (refine wpl_load rfl 26 (.tmp 8) rfl b7 rfl 26 6 _ k7 _ u1 u2 szRR ?_)
          | (refine wpl_want' rfl (wpl_load rfl 26 (.tmp 8) rfl b7 rfl 26 6 _ k7 _ u1 u2 szRR ?_))
          | (refine wpl_load rfl 26 (.tmp 9) rfl b8 rfl 26 6 _ k8 _ u1 u2 szRR ?_)
          | (refine wpl_want' rfl (wpl_load rfl 26 (.tmp 9) rfl b8 rfl 26 6 _ k8 _ u1 u2 szRR ?_))
          | fail)
        refine (C2 _ M21 hM21).mono ?_
        rintro e x22 ⟨rfl, y22⟩
        obtain ⟨M22, hM22⟩ := sz_some x22
        have g22 := below_sz y22 hM21 hM22
        have k6 := k6.below y22 (k6.ltN hM21)
        have k7 := k7.below y22 (k7.ltN hM21)
        have k8 := k8.below y22 (k8.ltN hM21)
        have k10 := k10.below y22 (k10.ltN hM21)
        have lo22 := lo21.trans (y22.mono (show N ≤ M21 by omega))
        cases hzx : rWithin z x
        · rw [hzx] at HZ C4
          have E := HZ.out
          have C6 := fun w M hM => Within_any z (rCommon x y) w M hM
          rw [E] at C6
          clear E
          go_upto_region 7 with fail
          refine wp_region_later M22 (by kernel_rfl) (by kernel_rfl) ?_
          try simp only [Act.put, List.setIfInBounds_toArray, List.set_cons_succ, List.set_cons_zero]
          refine later_val (fun q => run_ld 26 (.tmp 9) rfl b8 rfl 26 6 _ (Later.has hM22 k8 q) _ u1 u2 szRR) (by rfl) ?_; simp only [Act.put, List.setIfInBounds_toArray, List.set_cons_succ, List.set_cons_zero]
          refine later_val (fun q => run_ld 26 (.tmp 10) rfl M9 rfl 26 6 _ (Later.has hM22 k10 q) _ u1 u2 szRR) (by rfl) ?_; simp only [Act.put, List.setIfInBounds_toArray, List.set_cons_succ, List.set_cons_zero]
          go_big_quiet_step ((go_at_call 17; exact later_of hM22 _ (fun K hK hKN => C6 _ K hK)))
          refine later_val (fun q => run_ld 26 (.tmp 9) rfl b8 rfl 26 6 _ (Later.has hM22 k8 q) _ u1 u2 szRR) (by rfl) ?_; simp only [Act.put, List.setIfInBounds_toArray, List.set_cons_succ, List.set_cons_zero]
          refine later_val (fun q => run_ld 26 (.tmp 7) rfl b6 rfl 26 6 _ (Later.has hM22 k6 q) _ u1 u2 szRR) (by rfl) ?_; simp only [Act.put, List.setIfInBounds_toArray, List.set_cons_succ, List.set_cons_zero]
          go_big_quiet_step ((go_at_call 17; exact later_of hM22 _ (fun K hK hKN => C4 _ K hK)))
          go_big_quiet_step (fail)
          go_big_quiet_step (fail)
          go_big_quiet_step (fail)
          go_big_quiet_step (fail)
          go_big_quiet_step (fail)
          go_big_quiet_step (fail)
          go_big_quiet_step (fail)
          refine wpQuiet_nil ?_
          rintro w30 ⟨q30, e30⟩
          have hb30 := q30.b
          rw [← e30] at hb30
          go_wp2_with fail
          go_ret
          exact ⟨by first | rfl | simp, lo22.trans (hb30.mono (show N ≤ M22 by omega))⟩
        · rw [hzx] at HZ C4
          cases hzy : rWithin z y
          · rw [hzy] at HZ C5
            have E := HZ.out
            have C6 := fun w M hM => Within_any z (rCommon x y) w M hM
            rw [E] at C6
            clear E
            go_upto_region 7 with fail
            refine wp_region_later M22 (by kernel_rfl) (by kernel_rfl) ?_
            try simp only [Act.put, List.setIfInBounds_toArray, List.set_cons_succ, List.set_cons_zero]
            refine later_val (fun q => run_ld 26 (.tmp 9) rfl b8 rfl 26 6 _ (Later.has hM22 k8 q) _ u1 u2 szRR) (by rfl) ?_; simp only [Act.put, List.setIfInBounds_toArray, List.set_cons_succ, List.set_cons_zero]
            refine later_val (fun q => run_ld 26 (.tmp 10) rfl M9 rfl 26 6 _ (Later.has hM22 k10 q) _ u1 u2 szRR) (by rfl) ?_; simp only [Act.put, List.setIfInBounds_toArray, List.set_cons_succ, List.set_cons_zero]
            go_big_quiet_step ((go_at_call 17; exact later_of hM22 _ (fun K hK hKN => C6 _ K hK)))
            refine later_val (fun q => run_ld 26 (.tmp 9) rfl b8 rfl 26 6 _ (Later.has hM22 k8 q) _ u1 u2 szRR) (by rfl) ?_; simp only [Act.put, List.setIfInBounds_toArray, List.set_cons_succ, List.set_cons_zero]
            refine later_val (fun q => run_ld 26 (.tmp 7) rfl b6 rfl 26 6 _ (Later.has hM22 k6 q) _ u1 u2 szRR) (by rfl) ?_; simp only [Act.put, List.setIfInBounds_toArray, List.set_cons_succ, List.set_cons_zero]
            go_big_quiet_step ((go_at_call 17; exact later_of hM22 _ (fun K hK hKN => C4 _ K hK)))
            go_big_quiet_step (fail)
            refine later_val (fun q => run_ld 26 (.tmp 9) rfl b8 rfl 26 6 _ (Later.has hM22 k8 q) _ u1 u2 szRR) (by rfl) ?_; simp only [Act.put, List.setIfInBounds_toArray, List.set_cons_succ, List.set_cons_zero]
            refine later_val (fun q => run_ld 26 (.tmp 8) rfl b7 rfl 26 6 _ (Later.has hM22 k7 q) _ u1 u2 szRR) (by rfl) ?_; simp only [Act.put, List.setIfInBounds_toArray, List.set_cons_succ, List.set_cons_zero]
            go_big_quiet_step ((go_at_call 17; exact later_of hM22 _ (fun K hK hKN => C5 _ K hK)))
            go_big_quiet_step (fail)
            go_big_quiet_step (fail)
            go_big_quiet_step (fail)
            refine wpQuiet_nil ?_
            rintro w30 ⟨q30, e30⟩
            have hb30 := q30.b
            rw [← e30] at hb30
            go_wp2_with fail
            go_ret
            exact ⟨by first | rfl | simp, lo22.trans (hb30.mono (show N ≤ M22 by omega))⟩
          · rw [hzy] at HZ C5
            have E := HZ.out
            have C6 := fun w M hM => Within_any z (rCommon x y) w M hM
            rw [E] at C6
            clear E
            go_upto_region 7 with fail
            refine wp_region_later M22 (by kernel_rfl) (by kernel_rfl) ?_
            try simp only [Act.put, List.setIfInBounds_toArray, List.set_cons_succ, List.set_cons_zero]
            refine later_val (fun q => run_ld 26 (.tmp 9) rfl b8 rfl 26 6 _ (Later.has hM22 k8 q) _ u1 u2 szRR) (by rfl) ?_; simp only [Act.put, List.setIfInBounds_toArray, List.set_cons_succ, List.set_cons_zero]
            refine later_val (fun q => run_ld 26 (.tmp 10) rfl M9 rfl 26 6 _ (Later.has hM22 k10 q) _ u1 u2 szRR) (by rfl) ?_; simp only [Act.put, List.setIfInBounds_toArray, List.set_cons_succ, List.set_cons_zero]
            go_big_quiet_step ((go_at_call 17; exact later_of hM22 _ (fun K hK hKN => C6 _ K hK)))
            refine later_val (fun q => run_ld 26 (.tmp 9) rfl b8 rfl 26 6 _ (Later.has hM22 k8 q) _ u1 u2 szRR) (by rfl) ?_; simp only [Act.put, List.setIfInBounds_toArray, List.set_cons_succ, List.set_cons_zero]
            refine later_val (fun q => run_ld 26 (.tmp 7) rfl b6 rfl 26 6 _ (Later.has hM22 k6 q) _ u1 u2 szRR) (by rfl) ?_; simp only [Act.put, List.setIfInBounds_toArray, List.set_cons_succ, List.set_cons_zero]
            go_big_quiet_step ((go_at_call 17; exact later_of hM22 _ (fun K hK hKN => C4 _ K hK)))
            go_big_quiet_step (fail)
            refine later_val (fun q => run_ld 26 (.tmp 9) rfl b8 rfl 26 6 _ (Later.has hM22 k8 q) _ u1 u2 szRR) (by rfl) ?_; simp only [Act.put, List.setIfInBounds_toArray, List.set_cons_succ, List.set_cons_zero]
            refine later_val (fun q => run_ld 26 (.tmp 8) rfl b7 rfl 26 6 _ (Later.has hM22 k7 q) _ u1 u2 szRR) (by rfl) ?_; simp only [Act.put, List.setIfInBounds_toArray, List.set_cons_succ, List.set_cons_zero]
            go_big_quiet_step ((go_at_call 17; exact later_of hM22 _ (fun K hK hKN => C5 _ K hK)))
            go_big_quiet_step (fail)
            go_big_quiet_step (fail)
            go_big_quiet_step (fail)
            refine wpQuiet_nil ?_
            rintro w30 ⟨q30, e30⟩
            have hb30 := q30.b
            rw [← e30] at hb30
            go_wp2_with fail
            go_ret
            exact ⟨by first | rfl | simp, lo22.trans (hb30.mono (show N ≤ M22 by omega))⟩
      · rw [hyz] at C2
        rw [H3.out hxy hyz] at C3
        clear H3
        go_wp2_with (first
          | (refine wpl_load rfl 26 (.tmp 7) rfl b6 rfl 26 6 _ k6 _ u1 u2 szRR ?_)
          | (refine wpl_want' rfl (wpl_load rfl 26 (.tmp 7) rfl b6 rfl 26 6 _ k6 _ u1 u2 szRR ?_))
          | (refine wpl_load rfl 26 (.tmp 8) rfl b7 rfl 26 6 _ k7 _ u1 u2 szRR ?_)
          | (refine wpl_want' rfl (wpl_load rfl 26 (.tmp 8) rfl b7 rfl 26 6 _ k7 _ u1 u2 szRR ?_))
          | fail)
        refine (C1 _ M12 hM12).mono ?_
        rintro e x23 ⟨rfl, y23⟩
        obtain ⟨M23, hM23⟩ := sz_some x23
        have g23 := below_sz y23 hM12 hM23
        have k6 := k6.below y23 (k6.ltN hM12)
        have k7 := k7.below y23 (k7.ltN hM12)
        have k8 := k8.below y23 (k8.ltN hM12)
        have k10 := k10.below y23 (k10.ltN hM12)
        have lo23 := lo12.trans (y23.mono (show N ≤ M12 by omega))
        go_wp2_with (first
          | (refine wpl_load rfl 26 (.tmp 8) rfl b7 rfl 26 6 _ k7 _ u1 u2 szRR ?_)
          | (refine wpl_want' rfl (wpl_load rfl 26 (.tmp 8) rfl b7 rfl 26 6 _ k7 _ u1 u2 szRR ?_))
          | (refine wpl_load rfl 26 (.tmp 9) rfl b8 rfl 26 6 _ k8 _ u1 u2 szRR ?_)
          | (refine wpl_want' rfl (wpl_load rfl 26 (.tmp 9) rfl b8 rfl 26 6 _ k8 _ u1 u2 szRR ?_))
          | fail)
        refine (C2 _ M23 hM23).mono ?_
        rintro e x24 ⟨rfl, y24⟩
        obtain ⟨M24, hM24⟩ := sz_some x24
        have g24 := below_sz y24 hM23 hM24
        have k6 := k6.below y24 (k6.ltN hM23)
        have k7 := k7.below y24 (k7.ltN hM23)
        have k8 := k8.below y24 (k8.ltN hM23)
        have k10 := k10.below y24 (k10.ltN hM23)
        have lo24 := lo23.trans (y24.mono (show N ≤ M23 by omega))
        go_wp2_with (first
          | (refine wpl_load rfl 26 (.tmp 7) rfl b6 rfl 26 6 _ k6 _ u1 u2 szRR ?_)
          | (refine wpl_want' rfl (wpl_load rfl 26 (.tmp 7) rfl b6 rfl 26 6 _ k6 _ u1 u2 szRR ?_))
          | (refine wpl_load rfl 26 (.tmp 9) rfl b8 rfl 26 6 _ k8 _ u1 u2 szRR ?_)
          | (refine wpl_want' rfl (wpl_load rfl 26 (.tmp 9) rfl b8 rfl 26 6 _ k8 _ u1 u2 szRR ?_))
          | fail)
        refine (C3 _ M24 hM24).mono ?_
        rintro e x25 ⟨rfl, y25⟩
        obtain ⟨M25, hM25⟩ := sz_some x25
        have g25 := below_sz y25 hM24 hM25
        have k6 := k6.below y25 (k6.ltN hM24)
        have k7 := k7.below y25 (k7.ltN hM24)
        have k8 := k8.below y25 (k8.ltN hM24)
        have k10 := k10.below y25 (k10.ltN hM24)
        have lo25 := lo24.trans (y25.mono (show N ≤ M24 by omega))
        cases hzx : rWithin z x
        · rw [hzx] at HZ C4
          have E := HZ.out
          have C6 := fun w M hM => Within_any z (rCommon x y) w M hM
          rw [E] at C6
          clear E
          go_upto_region 7 with fail
          refine wp_region_later M25 (by kernel_rfl) (by kernel_rfl) ?_
          try simp only [Act.put, List.setIfInBounds_toArray, List.set_cons_succ, List.set_cons_zero]
          refine later_val (fun q => run_ld 26 (.tmp 9) rfl b8 rfl 26 6 _ (Later.has hM25 k8 q) _ u1 u2 szRR) (by rfl) ?_; simp only [Act.put, List.setIfInBounds_toArray, List.set_cons_succ, List.set_cons_zero]
          refine later_val (fun q => run_ld 26 (.tmp 10) rfl M9 rfl 26 6 _ (Later.has hM25 k10 q) _ u1 u2 szRR) (by rfl) ?_; simp only [Act.put, List.setIfInBounds_toArray, List.set_cons_succ, List.set_cons_zero]
          go_big_quiet_step ((go_at_call 17; exact later_of hM25 _ (fun K hK hKN => C6 _ K hK)))
          refine later_val (fun q => run_ld 26 (.tmp 9) rfl b8 rfl 26 6 _ (Later.has hM25 k8 q) _ u1 u2 szRR) (by rfl) ?_; simp only [Act.put, List.setIfInBounds_toArray, List.set_cons_succ, List.set_cons_zero]
          refine later_val (fun q => run_ld 26 (.tmp 7) rfl b6 rfl 26 6 _ (Later.has hM25 k6 q) _ u1 u2 szRR) (by rfl) ?_; simp only [Act.put, List.setIfInBounds_toArray, List.set_cons_succ, List.set_cons_zero]
          go_big_quiet_step ((go_at_call 17; exact later_of hM25 _ (fun K hK hKN => C4 _ K hK)))
          go_big_quiet_step (fail)
          go_big_quiet_step (fail)
          go_big_quiet_step (fail)
          go_big_quiet_step (fail)
          go_big_quiet_step (fail)
          go_big_quiet_step (fail)
          go_big_quiet_step (fail)
          refine wpQuiet_nil ?_
          rintro w30 ⟨q30, e30⟩
          have hb30 := q30.b
          rw [← e30] at hb30
          go_wp2_with fail
          go_ret
          exact ⟨by first | rfl | simp, lo25.trans (hb30.mono (show N ≤ M25 by omega))⟩
        · rw [hzx] at HZ C4
          cases hzy : rWithin z y
          · rw [hzy] at HZ C5
            have E := HZ.out
            have C6 := fun w M hM => Within_any z (rCommon x y) w M hM
            rw [E] at C6
            clear E
            go_upto_region 7 with fail
            refine wp_region_later M25 (by kernel_rfl) (by kernel_rfl) ?_
            try simp only [Act.put, List.setIfInBounds_toArray, List.set_cons_succ, List.set_cons_zero]
            refine later_val (fun q => run_ld 26 (.tmp 9) rfl b8 rfl 26 6 _ (Later.has hM25 k8 q) _ u1 u2 szRR) (by rfl) ?_; simp only [Act.put, List.setIfInBounds_toArray, List.set_cons_succ, List.set_cons_zero]
            refine later_val (fun q => run_ld 26 (.tmp 10) rfl M9 rfl 26 6 _ (Later.has hM25 k10 q) _ u1 u2 szRR) (by rfl) ?_; simp only [Act.put, List.setIfInBounds_toArray, List.set_cons_succ, List.set_cons_zero]
            go_big_quiet_step ((go_at_call 17; exact later_of hM25 _ (fun K hK hKN => C6 _ K hK)))
            refine later_val (fun q => run_ld 26 (.tmp 9) rfl b8 rfl 26 6 _ (Later.has hM25 k8 q) _ u1 u2 szRR) (by rfl) ?_; simp only [Act.put, List.setIfInBounds_toArray, List.set_cons_succ, List.set_cons_zero]
            refine later_val (fun q => run_ld 26 (.tmp 7) rfl b6 rfl 26 6 _ (Later.has hM25 k6 q) _ u1 u2 szRR) (by rfl) ?_; simp only [Act.put, List.setIfInBounds_toArray, List.set_cons_succ, List.set_cons_zero]
            go_big_quiet_step ((go_at_call 17; exact later_of hM25 _ (fun K hK hKN => C4 _ K hK)))
            go_big_quiet_step (fail)
            refine later_val (fun q => run_ld 26 (.tmp 9) rfl b8 rfl 26 6 _ (Later.has hM25 k8 q) _ u1 u2 szRR) (by rfl) ?_; simp only [Act.put, List.setIfInBounds_toArray, List.set_cons_succ, List.set_cons_zero]
            refine later_val (fun q => run_ld 26 (.tmp 8) rfl b7 rfl 26 6 _ (Later.has hM25 k7 q) _ u1 u2 szRR) (by rfl) ?_; simp only [Act.put, List.setIfInBounds_toArray, List.set_cons_succ, List.set_cons_zero]
            go_big_quiet_step ((go_at_call 17; exact later_of hM25 _ (fun K hK hKN => C5 _ K hK)))
            go_big_quiet_step (fail)
            go_big_quiet_step (fail)
            go_big_quiet_step (fail)
            refine wpQuiet_nil ?_
            rintro w30 ⟨q30, e30⟩
            have hb30 := q30.b
            rw [← e30] at hb30
            go_wp2_with fail
            go_ret
            exact ⟨by first | rfl | simp, lo25.trans (hb30.mono (show N ≤ M25 by omega))⟩
          · rw [hzy] at HZ C5
            have E := HZ.out
            have C6 := fun w M hM => Within_any z (rCommon x y) w M hM
            rw [E] at C6
            clear E
            go_upto_region 7 with fail
            refine wp_region_later M25 (by kernel_rfl) (by kernel_rfl) ?_
            try simp only [Act.put, List.setIfInBounds_toArray, List.set_cons_succ, List.set_cons_zero]
            refine later_val (fun q => run_ld 26 (.tmp 9) rfl b8 rfl 26 6 _ (Later.has hM25 k8 q) _ u1 u2 szRR) (by rfl) ?_; simp only [Act.put, List.setIfInBounds_toArray, List.set_cons_succ, List.set_cons_zero]
            refine later_val (fun q => run_ld 26 (.tmp 10) rfl M9 rfl 26 6 _ (Later.has hM25 k10 q) _ u1 u2 szRR) (by rfl) ?_; simp only [Act.put, List.setIfInBounds_toArray, List.set_cons_succ, List.set_cons_zero]
            go_big_quiet_step ((go_at_call 17; exact later_of hM25 _ (fun K hK hKN => C6 _ K hK)))
            refine later_val (fun q => run_ld 26 (.tmp 9) rfl b8 rfl 26 6 _ (Later.has hM25 k8 q) _ u1 u2 szRR) (by rfl) ?_; simp only [Act.put, List.setIfInBounds_toArray, List.set_cons_succ, List.set_cons_zero]
            refine later_val (fun q => run_ld 26 (.tmp 7) rfl b6 rfl 26 6 _ (Later.has hM25 k6 q) _ u1 u2 szRR) (by rfl) ?_; simp only [Act.put, List.setIfInBounds_toArray, List.set_cons_succ, List.set_cons_zero]
            go_big_quiet_step ((go_at_call 17; exact later_of hM25 _ (fun K hK hKN => C4 _ K hK)))
            go_big_quiet_step (fail)
            refine later_val (fun q => run_ld 26 (.tmp 9) rfl b8 rfl 26 6 _ (Later.has hM25 k8 q) _ u1 u2 szRR) (by rfl) ?_; simp only [Act.put, List.setIfInBounds_toArray, List.set_cons_succ, List.set_cons_zero]
            refine later_val (fun q => run_ld 26 (.tmp 8) rfl b7 rfl 26 6 _ (Later.has hM25 k7 q) _ u1 u2 szRR) (by rfl) ?_; simp only [Act.put, List.setIfInBounds_toArray, List.set_cons_succ, List.set_cons_zero]
            go_big_quiet_step ((go_at_call 17; exact later_of hM25 _ (fun K hK hKN => C5 _ K hK)))
            go_big_quiet_step (fail)
            go_big_quiet_step (fail)
            go_big_quiet_step (fail)
            refine wpQuiet_nil ?_
            rintro w30 ⟨q30, e30⟩
            have hb30 := q30.b
            rw [← e30] at hb30
            go_wp2_with fail
            go_ret
            exact ⟨by first | rfl | simp, lo25.trans (hb30.mono (show N ≤ M25 by omega))⟩
end Go.Proofs.YtcbcnhkalchpbaaDoor
