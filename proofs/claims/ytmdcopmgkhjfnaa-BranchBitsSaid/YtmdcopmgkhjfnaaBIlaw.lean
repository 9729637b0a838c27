/- BranchBits: the walk. -/
import Derived.Test.YtmdcopmgkhjfnaaBr24
import Derived.Test.YtmdcopmgkhjfnaaYv
namespace Go.Proofs.Ytmdcopmgkhjfnaa
open Go Go.RowKit
theorem tells_any (w : World) (N : Nat) (hN : Sz w N) : Calls Try.prog 35 #[] w fun e w' => e = .returned (.bool true) ∧ Below N w w' := by
 have := Tells_any w N hN
 rwa [tells_true] at this
set_option maxRecDepth 100000 in
set_option maxHeartbeats 8000000 in
theorem law_bbits_t (x : W) (y : W) (w : World) (N : Nat) (hN : Sz w N) (hx : Hid (x.toNat < 256)) (hy : Hid (y.toNat < 256)) (HH : Hid (((x &&& y) != 0#64) = true)) : Calls Try.prog 15 #[(Yv x), (Yv y)] w fun e w' => e = .returned (.bool true) ∧ Below N w w' := by
 have RI := hid (ref_in (op := 4) (l := true) (h := true) (byte_in hx.out) (cR_in y) HH.out)
 have RJ := hid (ref_in (op := 1) (l := true) (h := true) (byte_in hy.out) (cR_in y) (by show (y == y) = true; simp))
 have RN := hid (ref_nar RI.out.1)
 have RM := hid (ref_nar RJ.out.1)
 have F0 := hid (show (refF 4 true (lowR1 (obR tAny)) (cR y) true).2.2 = true from RI.out.1)
 have F1 := hid (show (sHas (refF 4 true (lowR1 (obR tAny)) (cR y) true).1 x) = true from RI.out.2.1.has)
 have F2 := hid (show (refF 1 true (lowR1 (obR tAny)) (cR y) true).2.2 = true from RJ.out.1)
 have F3 := hid (show (sHas (refF 1 true (lowR1 (obR tAny)) (cR y) true).1 y) = true from RJ.out.2.1.has)
 have F4 := hid (show (sWithin (refF 1 true (lowR1 (obR tAny)) (cR y) true).1 (lowR1 (obR tAny))) = true from nar_iff.2 RM.out.1)
 have F5 := hid (show (sWithin (refF 4 true (lowR1 (obR tAny)) (cR y) true).1 (lowR1 (obR tAny))) = true from nar_iff.2 RN.out.1)
 go_enter Try.func15, Try.ntmps15
 have lo0 : Below N w w := Below.refl N w
 go_upto_region 1 with fail
 refine wp_region_lit ?_
 try simp only [pA]
 change wpList _ _ _ ((_ :: _ :: []) ++ (_ :: _ :: [])) _ _
 refine wpList_prefix (C := fun w' => ∃ x : Later N w, w' = x.w') _ _ _ _ ⟨⟨_, Below.refl _ _⟩, rfl⟩ ?_
 go_big_quiet_step ((go_at_call 33; exact later_of hN _ (fun K hK hKN => SAny_any  _ K hK)))
 go_big_quiet_step ((go_at_call 31; exact later_of hN _ (fun K hK hKN => SLow_1 (obR tAny) _ K hK)))
 refine wpQuiet_nil (laterE hN ?_)
 intro xw1 M2 hbxw1 hM2 lM2
 have lo3 := lo0.trans (hbxw1.mono (by omega))
 clear lo0 hbxw1
 obtain ⟨b_xw4, eb_xw4⟩ : ∃ b_xw4, b_xw4 = M2 := ⟨_, rfl⟩
 have hzb_xw4 : Sz xw1 b_xw4 := by rw [eb_xw4]; exact hM2
 have lob_xw4 : M2 ≤ b_xw4 := by omega
 have upb_xw4 : b_xw4 ≤ M2 := by omega
 clear eb_xw4
 refine wpl_alloc rfl 41 rfl 6 (rC zeroR) zeR b_xw4 hzb_xw4 ?_
 intro xw4 hMxw4 hbxw4 hhxw4; simp only [pA]
 have lo5 := lo3.trans (hbxw4.mono (by omega))
 clear lo3 hbxw4 hzb_xw4
 obtain ⟨M6, eM6⟩ : ∃ M6, M6 = b_xw4 + 1 := ⟨_, rfl⟩
 rw [← eM6] at hMxw4
 have loM6 : b_xw4 + 1 ≤ M6 := by omega
 have upM6 : M6 ≤ b_xw4 + 1 := by omega
 clear eM6
 refine wpl_store rfl 41 (.tmp 5) (.tmp 14) rfl b_xw4 6 (rC (lowR1 (obR tAny))) rfl rfl 41 _ hhxw4 szR (fun j _ => rC_one _ j) ?_
 intro xw7 t8 k9; try simp only [pA]
 have lo10 := t8.below lo5 (by omega)
 have h11 := t8.sz hMxw4
 clear hhxw4 lo5 hMxw4 t8
 obtain ⟨M12, hM12⟩ := sz_some xw7
 have lt_13 := k9.ltN hM12
 go_upto_region 2 with fail
 refine wp_region_later1 (M12) ?_
 try simp only [pA]
 iterate 2 (go_big_quiet_step (fail))
 refine later_b (x := (.tmp 15)) (y := (.tmp 16)) rfl (bin_yand _ x y hy.out hx.out) rfl rfl (by rfl) ?_; simp only [pA]
 refine later_b (x := (.tmp 17)) (y := (.const (.int .u8 0))) rfl (BinRun.is HH.out (bin_yneq0 _ (x &&& y))) rfl rfl (by rfl) ?_; simp only [pA]
 go_big_quiet_step (fail)
 refine wpQuiet_nil (laterE hM12 ?_)
 intro xw14 M15 hbxw14 hM15 lM15
 have k16 := k9.below hbxw14 (by omega)
 have lo17 := lo10.trans (hbxw14.mono (by omega))
 clear k9 lo10 hbxw14
 have CS18 := fun w N hN => Refine_all 4 true (lowR1 (obR tAny)) (cR y) true w N hN
 rw [F0.out] at CS18
 go_upto_region 3 with fail
 refine wp_mid (fun ac (zb : Nat × Nat) => (((((((((((((ac.put (some 20) (Value.agg (cellsOf (rC (lowR1 (obR tAny))) 6))).put (some 21) (Yv y)).put (some 22) (Q y)).put (some 23) (Value.agg (cellsOf (rC (cR y)) 6))).put (some 24) (Value.bool true)).put (some 25) (Value.tuple #[(Value.agg (cellsOf (rC (refF 4 true (lowR1 (obR tAny)) (cR y) true).1) 6)), (Value.agg (cellsOf (rC (refF 4 true (lowR1 (obR tAny)) (cR y) true).2.1) 6)), (Value.bool true)])).put (some 19) (Value.tuple #[(Value.agg (cellsOf (rC (refF 4 true (lowR1 (obR tAny)) (cR y) true).1) 6)), (Value.agg (cellsOf (rC (refF 4 true (lowR1 (obR tAny)) (cR y) true).2.1) 6)), (Value.bool true)])).put (some 26) (Value.agg (cellsOf (rC (refF 4 true (lowR1 (obR tAny)) (cR y) true).1) 6))).put (some 27) (Value.agg (cellsOf (rC (refF 4 true (lowR1 (obR tAny)) (cR y) true).2.1) 6))).put (some 28) (Value.bool true)).put (some 7) (.pointer (some ⟨zb.1, 0, none⟩))).put (some 8) (.pointer (some ⟨zb.2, 0, none⟩))).put (some 9) (Value.bool true))) (fun zb w' => Has w' zb.1 41 6 (rC (refF 4 true (lowR1 (obR tAny)) (cR y) true).1) ∧ Has w' zb.2 41 6 (rC (refF 4 true (lowR1 (obR tAny)) (cR y) true).2.1) ∧ zb.2 ≠ zb.1 ∧ M15 ≤ zb.1 ∧ M15 ≤ zb.2 ∧ Has w' b_xw4 41 6 (rC (lowR1 (obR tAny))) ∧ Below N w w') ?_ ?_
 ·refine wp_region_any (by kernel_rfl) ?_
  replace k16 : Has xw14.drew b_xw4 41 6 (rC (lowR1 (obR tAny))) := k16
  replace hM15 : Sz xw14.drew M15 := hM15
  replace lo17 : Below N w xw14.drew := lo17.drew
  change wpAny _ _ _ _ _ _ _ (World.drew _)
  generalize xw14.drew = xw20 at *
  refine wpAny_potL (lt := [8, 9]) (rem := [0, 1, 2, 3, 4, 5, 6, 7, 8, 9, 10, 11]) (FG M15 (fun j => if j = 0 then some (Value.agg (cellsOf (rC (lowR1 (obR tAny))) 6)) else if j = 1 then some (Yv y) else if j = 2 then some (Q y) else if j = 3 then some (Value.agg (cellsOf (rC (cR y)) 6)) else if j = 4 then some (Value.bool true) else if j = 5 then some (Value.tuple #[(Value.agg (cellsOf (rC (refF 4 true (lowR1 (obR tAny)) (cR y) true).1) 6)), (Value.agg (cellsOf (rC (refF 4 true (lowR1 (obR tAny)) (cR y) true).2.1) 6)), (Value.bool true)]) else if j = 6 then some (Value.tuple #[(Value.agg (cellsOf (rC (refF 4 true (lowR1 (obR tAny)) (cR y) true).1) 6)), (Value.agg (cellsOf (rC (refF 4 true (lowR1 (obR tAny)) (cR y) true).2.1) 6)), (Value.bool true)]) else if j = 7 then some (Value.agg (cellsOf (rC (refF 4 true (lowR1 (obR tAny)) (cR y) true).1) 6)) else if j = 8 then some (Value.agg (cellsOf (rC (refF 4 true (lowR1 (obR tAny)) (cR y) true).2.1) 6)) else if j = 9 then some (Value.bool true) else if j = 10 then none else none) (fun j => if j = 10 then (41, 6, rC zeroR) else (41, 6, rC zeroR))) (TwoN (fun j => if j = 0 then some (Value.agg (cellsOf (rC (lowR1 (obR tAny))) 6)) else if j = 1 then some (Yv y) else if j = 2 then some (Q y) else if j = 3 then some (Value.agg (cellsOf (rC (cR y)) 6)) else if j = 4 then some (Value.bool true) else if j = 5 then some (Value.tuple #[(Value.agg (cellsOf (rC (refF 4 true (lowR1 (obR tAny)) (cR y) true).1) 6)), (Value.agg (cellsOf (rC (refF 4 true (lowR1 (obR tAny)) (cR y) true).2.1) 6)), (Value.bool true)]) else if j = 6 then some (Value.tuple #[(Value.agg (cellsOf (rC (refF 4 true (lowR1 (obR tAny)) (cR y) true).1) 6)), (Value.agg (cellsOf (rC (refF 4 true (lowR1 (obR tAny)) (cR y) true).2.1) 6)), (Value.bool true)]) else if j = 7 then some (Value.agg (cellsOf (rC (refF 4 true (lowR1 (obR tAny)) (cR y) true).1) 6)) else if j = 8 then some (Value.agg (cellsOf (rC (refF 4 true (lowR1 (obR tAny)) (cR y) true).2.1) 6)) else if j = 9 then some (Value.bool true) else if j = 10 then none else none)) (Below M15 xw20) _ _ _ _ (by kernel_rfl) (size_dstG (by kernel_rfl)) (Below.refl _ _) ?_ ?_
  ·intro i hi ac wa hI ha hv
   simp only [List.mem_cons, List.not_mem_nil, or_false] at hi
   rcases hi with rfl | rfl | rfl | rfl | rfl | rfl | rfl | rfl | rfl | rfl | rfl | rfl
   ·exact potg_run rfl rfl (Value.agg (cellsOf (rC (lowR1 (obR tAny))) 6)) rfl (run_rw 41 (.tmp 5) rfl b_xw4 (ha 5 (not_dstG (by kernel_rfl))) 41 6 _ (Has.below k16 hI (Has.ltN k16 hM15)) undR szR) hM15 hI
   ·exact potg_run rfl rfl (Yv y) rfl (run_mv (x := (.tmp 1)) rfl _ (ha 1 (not_dstG (by kernel_rfl)))) hM15 hI
   ·obtain ⟨v1, hv1a, hv1b⟩ := hv 1 (by simp) (by kernel_rfl)
    have ev1 := hv1b.val rfl
    subst ev1
    exact potg_run rfl rfl (Q y) rfl (run_yu (x := (.tmp 21)) rfl undY und64 (hv1a 21 rfl) wa) hM15 hI
   ·obtain ⟨v2, hv2a, hv2b⟩ := hv 2 (by simp) (by kernel_rfl)
    have ev2 := hv2b.val rfl
    subst ev2
    exact potg_cl rfl rfl 28 _ _ rfl #[(Q y)] (by simp only [List.map_toArray, List.map_cons, List.map_nil, (show ac.eval (.tmp 22) = (Q y) from (hv2a 22 rfl))] <;> rfl) (by kernel_rfl) (Value.agg (cellsOf (rC (cR y)) 6)) (fun K hK => SConst_any y wa K hK) rfl hM15 hI
   ·exact potg_run rfl rfl (Value.bool true) rfl (run_mv (x := (.tmp 6)) rfl _ (ha 6 (not_dstG (by kernel_rfl)))) hM15 hI
   ·obtain ⟨v0, hv0a, hv0b⟩ := hv 0 (by simp) (by kernel_rfl)
    have ev0 := hv0b.val rfl
    subst ev0
    obtain ⟨v3, hv3a, hv3b⟩ := hv 3 (by simp) (by kernel_rfl)
    have ev3 := hv3b.val rfl
    subst ev3
    obtain ⟨v4, hv4a, hv4b⟩ := hv 4 (by simp) (by kernel_rfl)
    have ev4 := hv4b.val rfl
    subst ev4
    exact potg_cl rfl rfl 40 _ _ rfl #[(Value.int .i64 4), (Value.bool true), (Value.agg (cellsOf (rC (lowR1 (obR tAny))) 6)), (Value.agg (cellsOf (rC (cR y)) 6)), (Value.bool true)] (by simp only [List.map_toArray, List.map_cons, List.map_nil, (show ac.eval (.tmp 20) = (Value.agg (cellsOf (rC (lowR1 (obR tAny))) 6)) from (hv0a 20 rfl)), (show ac.eval (.tmp 23) = (Value.agg (cellsOf (rC (cR y)) 6)) from (hv3a 23 rfl)), (show ac.eval (.tmp 24) = (Value.bool true) from (hv4a 24 rfl))] <;> rfl) (by kernel_rfl) (Value.tuple #[(Value.agg (cellsOf (rC (refF 4 true (lowR1 (obR tAny)) (cR y) true).1) 6)), (Value.agg (cellsOf (rC (refF 4 true (lowR1 (obR tAny)) (cR y) true).2.1) 6)), (Value.bool true)]) (fun K hK => CS18 wa K hK) rfl hM15 hI
   ·obtain ⟨v5, hv5a, hv5b⟩ := hv 5 (by simp) (by kernel_rfl)
    have ev5 := hv5b.val rfl
    subst ev5
    exact potg_run rfl rfl (Value.tuple #[(Value.agg (cellsOf (rC (refF 4 true (lowR1 (obR tAny)) (cR y) true).1) 6)), (Value.agg (cellsOf (rC (refF 4 true (lowR1 (obR tAny)) (cR y) true).2.1) 6)), (Value.bool true)]) rfl (run_mv (x := (.tmp 25)) rfl _ (hv5a 25 rfl)) hM15 hI
   ·obtain ⟨v6, hv6a, hv6b⟩ := hv 6 (by simp) (by kernel_rfl)
    have ev6 := hv6b.val rfl
    subst ev6
    exact potg_run rfl rfl (Value.agg (cellsOf (rC (refF 4 true (lowR1 (obR tAny)) (cR y) true).1) 6)) rfl (run_ex (x := (.tmp 19)) rfl _ (hv6a 19 rfl) rfl) hM15 hI
   ·obtain ⟨v6, hv6a, hv6b⟩ := hv 6 (by simp) (by kernel_rfl)
    have ev6 := hv6b.val rfl
    subst ev6
    exact potg_run rfl rfl (Value.agg (cellsOf (rC (refF 4 true (lowR1 (obR tAny)) (cR y) true).2.1) 6)) rfl (run_ex (x := (.tmp 19)) rfl _ (hv6a 19 rfl) rfl) hM15 hI
   ·obtain ⟨v6, hv6a, hv6b⟩ := hv 6 (by simp) (by kernel_rfl)
    have ev6 := hv6b.val rfl
    subst ev6
    exact potg_run rfl rfl (Value.bool true) rfl (run_ex (x := (.tmp 19)) rfl _ (hv6a 19 rfl) rfl) hM15 hI
   ·exact potg_al rfl rfl rfl zeR rfl rfl hM15 hI
   ·exact potg_al rfl rfl rfl zeR rfl rfl hM15 hI
  ·intro L vals w5_19_ hb5_19_ hF hG hL
   have l0 := hL 0 (by simp) rfl
   have l1 := hL 1 (by simp) rfl
   have l2 := hL 2 (by simp) rfl
   have l3 := hL 3 (by simp) rfl
   have l4 := hL 4 (by simp) rfl
   have l5 := hL 5 (by simp) rfl
   have l6 := hL 6 (by simp) rfl
   have l7 := hL 7 (by simp) rfl
   have l10 := hL 10 (by simp) rfl
   have l11 := hL 11 (by simp) rfl
   clear hL
   cases c8 : L 8
   ·cases c9 : L 9
    ·have e_19_0 := (hF 0 (by simp) l0).val rfl
     have e_19_1 := (hF 1 (by simp) l1).val rfl
     have e_19_2 := (hF 2 (by simp) l2).val rfl
     have e_19_3 := (hF 3 (by simp) l3).val rfl
     have e_19_4 := (hF 4 (by simp) l4).val rfl
     have e_19_5 := (hF 5 (by simp) l5).val rfl
     have e_19_6 := (hF 6 (by simp) l6).val rfl
     have e_19_7 := (hF 7 (by simp) l7).val rfl
     obtain ⟨b_19_10, bl_19_10, e_19_10, h_19_10⟩ := (hF 10 (by simp) l10).al rfl rfl
     obtain ⟨b_19_11, bl_19_11, e_19_11, h_19_11⟩ := (hF 11 (by simp) l11).al rfl rfl
     have n_19_10_11 := hG 10 (by simp) 11 (by simp) (by omega) l10 l11 rfl rfl b_19_10 b_19_11 e_19_10 e_19_11
     clear hF hG
     rw [show left L [0, 1, 2, 3, 4, 5, 6, 7, 8, 9, 10, 11] = 2 from by simp [left, l0, l1, l2, l3, l4, l5, l6, l7, l10, l11, c8, c9]]
     refine wpAny_fuel (n := 5) (by kernel_rfl) ?_
     simp only [marks, puts, l0, l1, l2, l3, l4, l5, l6, l7, l10, l11, c8, c9, if_true, if_false, Bool.false_eq_true, dstOf, List.getElem?_toArray, List.getElem?_cons_succ, List.getElem?_cons_zero, Option.bind_some, Act.put, List.setIfInBounds_toArray, List.set_cons_succ, List.set_cons_zero, e_19_0, e_19_1, e_19_2, e_19_3, e_19_4, e_19_5, e_19_6, e_19_7, e_19_10, e_19_11]
     clear e_19_0 e_19_1 e_19_2 e_19_3 e_19_4 e_19_5 e_19_6 e_19_7 e_19_10 e_19_11 l0 l1 l2 l3 l4 l5 l6 l7 l10 l11 c8 c9
     have k21 := k16.below hb5_19_ (by omega)
     have lo22 := lo17.trans (hb5_19_.mono (by omega))
     obtain ⟨M5, hM5⟩ := sz_some w5_19_
     have lM5 := below_sz hb5_19_ hM15 hM5
     clear k16 lo17 hb5_19_
     refine wpAny_of_held (S := fun _ => True) _ _ _ _ ?_
     refine held_take (i := 8) (v := (Value.agg (cellsOf (rC (refF 4 true (lowR1 (obR tAny)) (cR y) true).2.1) 6))) (d := some 27) rfl (by kernel_rfl) (by kernel_rfl) (by kernel_rfl) (by kernel_rfl) (fun _ _ _ h => by cases h.1) (Or.inl ⟨by rfl, fun wq _ => run_ex (x := (.tmp 19)) rfl wq rfl rfl⟩) trivial ?_; simp only [pA]
     refine held_take (i := 9) (v := (Value.bool true)) (d := some 28) rfl (by kernel_rfl) (by kernel_rfl) (by kernel_rfl) (by kernel_rfl) (fun _ _ _ h => by cases h.1) (Or.inl ⟨by rfl, fun wq _ => run_ex (x := (.tmp 19)) rfl wq rfl rfl⟩) trivial ?_; simp only [pA]
     refine wpAnyH_all (rs := [12]) (by kernel_rfl) (by simp) ?_
     intro iq hiq; simp only [List.mem_singleton] at hiq; subst hiq
     refine opg_list rfl ?_
     refine wpl_storeN (by rfl) (by kernel_rfl) 41 (.tmp 7) (.tmp 26) rfl b_19_10 6 (rC (refF 4 true (lowR1 (obR tAny)) (cR y) true).1) rfl rfl 41 _ h_19_10 szR (fun j _ => rC_one _ j) ?_
     intro xw23 t24 k25; try simp only [pA]
     have k26 := k21.touch t24 (by omega)
     have k27 := h_19_11.touch t24 (by omega)
     have lo28 := t24.below lo22 (by omega)
     have h29 := t24.sz hM5
     clear h_19_10 k21 h_19_11 lo22 hM5 t24
     refine ⟨trivial, ?_⟩
     refine wpAnyH_all (rs := [13]) (by kernel_rfl) (by simp) ?_
     intro iq hiq; simp only [List.mem_singleton] at hiq; subst hiq
     refine opg_list rfl ?_
     refine wpl_storeN (by rfl) (by kernel_rfl) 41 (.tmp 8) (.tmp 27) rfl b_19_11 6 (rC (refF 4 true (lowR1 (obR tAny)) (cR y) true).2.1) rfl rfl 41 _ k27 szR (fun j _ => rC_one _ j) ?_
     intro xw30 t31 k32; try simp only [pA]
     have k33 := k26.touch t31 (by omega)
     have k34 := k25.touch t31 (by omega)
     have lo35 := t31.below lo28 (by omega)
     have h36 := t31.sz h29
     clear k27 k26 k25 lo28 h29 t31
     refine ⟨trivial, ?_⟩
     refine wpAnyH_all (rs := [14]) (by kernel_rfl) (by simp) ?_
     intro iq hiq; simp only [List.mem_singleton] at hiq; subst hiq
     refine opg_list rfl ?_
     refine wpl_runD rfl (d := some 9) rfl (Value.bool true) (run_as (x := (.tmp 28)) rfl _ rfl) ?_; simp only [pA]
     refine ⟨trivial, ?_⟩
     refine wpAnyH_done (by kernel_rfl) ?_ _
     refine ⟨rfl, (b_19_10, b_19_11), (by simp only [pA]), k34, k32, (Ne.symm n_19_10_11), bl_19_10, bl_19_11, k33, lo35⟩
    ·have e_19_0 := (hF 0 (by simp) l0).val rfl
     have e_19_1 := (hF 1 (by simp) l1).val rfl
     have e_19_2 := (hF 2 (by simp) l2).val rfl
     have e_19_3 := (hF 3 (by simp) l3).val rfl
     have e_19_4 := (hF 4 (by simp) l4).val rfl
     have e_19_5 := (hF 5 (by simp) l5).val rfl
     have e_19_6 := (hF 6 (by simp) l6).val rfl
     have e_19_7 := (hF 7 (by simp) l7).val rfl
     have e_19_9 := (hF 9 (by simp) c9).val rfl
     obtain ⟨b_19_10, bl_19_10, e_19_10, h_19_10⟩ := (hF 10 (by simp) l10).al rfl rfl
     obtain ⟨b_19_11, bl_19_11, e_19_11, h_19_11⟩ := (hF 11 (by simp) l11).al rfl rfl
     have n_19_10_11 := hG 10 (by simp) 11 (by simp) (by omega) l10 l11 rfl rfl b_19_10 b_19_11 e_19_10 e_19_11
     clear hF hG
     rw [show left L [0, 1, 2, 3, 4, 5, 6, 7, 8, 9, 10, 11] = 1 from by simp [left, l0, l1, l2, l3, l4, l5, l6, l7, l10, l11, c8, c9]]
     refine wpAny_fuel (n := 4) (by kernel_rfl) ?_
     simp only [marks, puts, l0, l1, l2, l3, l4, l5, l6, l7, l10, l11, c8, c9, if_true, if_false, Bool.false_eq_true, dstOf, List.getElem?_toArray, List.getElem?_cons_succ, List.getElem?_cons_zero, Option.bind_some, Act.put, List.setIfInBounds_toArray, List.set_cons_succ, List.set_cons_zero, e_19_0, e_19_1, e_19_2, e_19_3, e_19_4, e_19_5, e_19_6, e_19_7, e_19_9, e_19_10, e_19_11]
     clear e_19_0 e_19_1 e_19_2 e_19_3 e_19_4 e_19_5 e_19_6 e_19_7 e_19_9 e_19_10 e_19_11 l0 l1 l2 l3 l4 l5 l6 l7 l10 l11 c8 c9
     have k21 := k16.below hb5_19_ (by omega)
     have lo22 := lo17.trans (hb5_19_.mono (by omega))
     obtain ⟨M5, hM5⟩ := sz_some w5_19_
     have lM5 := below_sz hb5_19_ hM15 hM5
     clear k16 lo17 hb5_19_
     refine wpAny_of_held (S := fun _ => True) _ _ _ _ ?_
     refine held_take (i := 8) (v := (Value.agg (cellsOf (rC (refF 4 true (lowR1 (obR tAny)) (cR y) true).2.1) 6))) (d := some 27) rfl (by kernel_rfl) (by kernel_rfl) (by kernel_rfl) (by kernel_rfl) (fun _ _ _ h => by cases h.1) (Or.inl ⟨by rfl, fun wq _ => run_ex (x := (.tmp 19)) rfl wq rfl rfl⟩) trivial ?_; simp only [pA]
     refine wpAnyH_all (rs := [12]) (by kernel_rfl) (by simp) ?_
     intro iq hiq; simp only [List.mem_singleton] at hiq; subst hiq
     refine opg_list rfl ?_
     refine wpl_storeN (by rfl) (by kernel_rfl) 41 (.tmp 7) (.tmp 26) rfl b_19_10 6 (rC (refF 4 true (lowR1 (obR tAny)) (cR y) true).1) rfl rfl 41 _ h_19_10 szR (fun j _ => rC_one _ j) ?_
     intro xw23 t24 k25; try simp only [pA]
     have k26 := k21.touch t24 (by omega)
     have k27 := h_19_11.touch t24 (by omega)
     have lo28 := t24.below lo22 (by omega)
     have h29 := t24.sz hM5
     clear h_19_10 k21 h_19_11 lo22 hM5 t24
     refine ⟨trivial, ?_⟩
     refine wpAnyH_all (rs := [13]) (by kernel_rfl) (by simp) ?_
     intro iq hiq; simp only [List.mem_singleton] at hiq; subst hiq
     refine opg_list rfl ?_
     refine wpl_storeN (by rfl) (by kernel_rfl) 41 (.tmp 8) (.tmp 27) rfl b_19_11 6 (rC (refF 4 true (lowR1 (obR tAny)) (cR y) true).2.1) rfl rfl 41 _ k27 szR (fun j _ => rC_one _ j) ?_
     intro xw30 t31 k32; try simp only [pA]
     have k33 := k26.touch t31 (by omega)
     have k34 := k25.touch t31 (by omega)
     have lo35 := t31.below lo28 (by omega)
     have h36 := t31.sz h29
     clear k27 k26 k25 lo28 h29 t31
     refine ⟨trivial, ?_⟩
     refine wpAnyH_all (rs := [14]) (by kernel_rfl) (by simp) ?_
     intro iq hiq; simp only [List.mem_singleton] at hiq; subst hiq
     refine opg_list rfl ?_
     refine wpl_runD rfl (d := some 9) rfl (Value.bool true) (run_as (x := (.tmp 28)) rfl _ rfl) ?_; simp only [pA]
     refine ⟨trivial, ?_⟩
     refine wpAnyH_done (by kernel_rfl) ?_ _
     refine ⟨rfl, (b_19_10, b_19_11), (by simp only [pA]), k34, k32, (Ne.symm n_19_10_11), bl_19_10, bl_19_11, k33, lo35⟩
   ·cases c9 : L 9
    ·have e_19_0 := (hF 0 (by simp) l0).val rfl
     have e_19_1 := (hF 1 (by simp) l1).val rfl
     have e_19_2 := (hF 2 (by simp) l2).val rfl
     have e_19_3 := (hF 3 (by simp) l3).val rfl
     have e_19_4 := (hF 4 (by simp) l4).val rfl
     have e_19_5 := (hF 5 (by simp) l5).val rfl
     have e_19_6 := (hF 6 (by simp) l6).val rfl
     have e_19_7 := (hF 7 (by simp) l7).val rfl
     have e_19_8 := (hF 8 (by simp) c8).val rfl
     obtain ⟨b_19_10, bl_19_10, e_19_10, h_19_10⟩ := (hF 10 (by simp) l10).al rfl rfl
     obtain ⟨b_19_11, bl_19_11, e_19_11, h_19_11⟩ := (hF 11 (by simp) l11).al rfl rfl
     have n_19_10_11 := hG 10 (by simp) 11 (by simp) (by omega) l10 l11 rfl rfl b_19_10 b_19_11 e_19_10 e_19_11
     clear hF hG
     rw [show left L [0, 1, 2, 3, 4, 5, 6, 7, 8, 9, 10, 11] = 1 from by simp [left, l0, l1, l2, l3, l4, l5, l6, l7, l10, l11, c8, c9]]
     refine wpAny_fuel (n := 4) (by kernel_rfl) ?_
     simp only [marks, puts, l0, l1, l2, l3, l4, l5, l6, l7, l10, l11, c8, c9, if_true, if_false, Bool.false_eq_true, dstOf, List.getElem?_toArray, List.getElem?_cons_succ, List.getElem?_cons_zero, Option.bind_some, Act.put, List.setIfInBounds_toArray, List.set_cons_succ, List.set_cons_zero, e_19_0, e_19_1, e_19_2, e_19_3, e_19_4, e_19_5, e_19_6, e_19_7, e_19_8, e_19_10, e_19_11]
     clear e_19_0 e_19_1 e_19_2 e_19_3 e_19_4 e_19_5 e_19_6 e_19_7 e_19_8 e_19_10 e_19_11 l0 l1 l2 l3 l4 l5 l6 l7 l10 l11 c8 c9
     have k21 := k16.below hb5_19_ (by omega)
     have lo22 := lo17.trans (hb5_19_.mono (by omega))
     obtain ⟨M5, hM5⟩ := sz_some w5_19_
     have lM5 := below_sz hb5_19_ hM15 hM5
     clear k16 lo17 hb5_19_
     refine wpAny_of_held (S := fun _ => True) _ _ _ _ ?_
     refine held_take (i := 9) (v := (Value.bool true)) (d := some 28) rfl (by kernel_rfl) (by kernel_rfl) (by kernel_rfl) (by kernel_rfl) (fun _ _ _ h => by cases h.1) (Or.inl ⟨by rfl, fun wq _ => run_ex (x := (.tmp 19)) rfl wq rfl rfl⟩) trivial ?_; simp only [pA]
     refine wpAnyH_all (rs := [12]) (by kernel_rfl) (by simp) ?_
     intro iq hiq; simp only [List.mem_singleton] at hiq; subst hiq
     refine opg_list rfl ?_
     refine wpl_storeN (by rfl) (by kernel_rfl) 41 (.tmp 7) (.tmp 26) rfl b_19_10 6 (rC (refF 4 true (lowR1 (obR tAny)) (cR y) true).1) rfl rfl 41 _ h_19_10 szR (fun j _ => rC_one _ j) ?_
     intro xw23 t24 k25; try simp only [pA]
     have k26 := k21.touch t24 (by omega)
     have k27 := h_19_11.touch t24 (by omega)
     have lo28 := t24.below lo22 (by omega)
     have h29 := t24.sz hM5
     clear h_19_10 k21 h_19_11 lo22 hM5 t24
     refine ⟨trivial, ?_⟩
     refine wpAnyH_all (rs := [13]) (by kernel_rfl) (by simp) ?_
     intro iq hiq; simp only [List.mem_singleton] at hiq; subst hiq
     refine opg_list rfl ?_
     refine wpl_storeN (by rfl) (by kernel_rfl) 41 (.tmp 8) (.tmp 27) rfl b_19_11 6 (rC (refF 4 true (lowR1 (obR tAny)) (cR y) true).2.1) rfl rfl 41 _ k27 szR (fun j _ => rC_one _ j) ?_
     intro xw30 t31 k32; try simp only [pA]
     have k33 := k26.touch t31 (by omega)
     have k34 := k25.touch t31 (by omega)
     have lo35 := t31.below lo28 (by omega)
     have h36 := t31.sz h29
     clear k27 k26 k25 lo28 h29 t31
     refine ⟨trivial, ?_⟩
     refine wpAnyH_all (rs := [14]) (by kernel_rfl) (by simp) ?_
     intro iq hiq; simp only [List.mem_singleton] at hiq; subst hiq
     refine opg_list rfl ?_
     refine wpl_runD rfl (d := some 9) rfl (Value.bool true) (run_as (x := (.tmp 28)) rfl _ rfl) ?_; simp only [pA]
     refine ⟨trivial, ?_⟩
     refine wpAnyH_done (by kernel_rfl) ?_ _
     refine ⟨rfl, (b_19_10, b_19_11), (by simp only [pA]), k34, k32, (Ne.symm n_19_10_11), bl_19_10, bl_19_11, k33, lo35⟩
    ·have e_19_0 := (hF 0 (by simp) l0).val rfl
     have e_19_1 := (hF 1 (by simp) l1).val rfl
     have e_19_2 := (hF 2 (by simp) l2).val rfl
     have e_19_3 := (hF 3 (by simp) l3).val rfl
     have e_19_4 := (hF 4 (by simp) l4).val rfl
     have e_19_5 := (hF 5 (by simp) l5).val rfl
     have e_19_6 := (hF 6 (by simp) l6).val rfl
     have e_19_7 := (hF 7 (by simp) l7).val rfl
     have e_19_8 := (hF 8 (by simp) c8).val rfl
     have e_19_9 := (hF 9 (by simp) c9).val rfl
     obtain ⟨b_19_10, bl_19_10, e_19_10, h_19_10⟩ := (hF 10 (by simp) l10).al rfl rfl
     obtain ⟨b_19_11, bl_19_11, e_19_11, h_19_11⟩ := (hF 11 (by simp) l11).al rfl rfl
     have n_19_10_11 := hG 10 (by simp) 11 (by simp) (by omega) l10 l11 rfl rfl b_19_10 b_19_11 e_19_10 e_19_11
     clear hF hG
     rw [show left L [0, 1, 2, 3, 4, 5, 6, 7, 8, 9, 10, 11] = 0 from by simp [left, l0, l1, l2, l3, l4, l5, l6, l7, l10, l11, c8, c9]]
     refine wpAny_fuel (n := 3) (by kernel_rfl) ?_
     simp only [marks, puts, l0, l1, l2, l3, l4, l5, l6, l7, l10, l11, c8, c9, if_true, if_false, Bool.false_eq_true, dstOf, List.getElem?_toArray, List.getElem?_cons_succ, List.getElem?_cons_zero, Option.bind_some, Act.put, List.setIfInBounds_toArray, List.set_cons_succ, List.set_cons_zero, e_19_0, e_19_1, e_19_2, e_19_3, e_19_4, e_19_5, e_19_6, e_19_7, e_19_8, e_19_9, e_19_10, e_19_11]
     clear e_19_0 e_19_1 e_19_2 e_19_3 e_19_4 e_19_5 e_19_6 e_19_7 e_19_8 e_19_9 e_19_10 e_19_11 l0 l1 l2 l3 l4 l5 l6 l7 l10 l11 c8 c9
     have k21 := k16.below hb5_19_ (by omega)
     have lo22 := lo17.trans (hb5_19_.mono (by omega))
     obtain ⟨M5, hM5⟩ := sz_some w5_19_
     have lM5 := below_sz hb5_19_ hM15 hM5
     clear k16 lo17 hb5_19_
     refine wpAny_of_held (S := fun _ => True) _ _ _ _ ?_
     refine wpAnyH_all (rs := [12]) (by kernel_rfl) (by simp) ?_
     intro iq hiq; simp only [List.mem_singleton] at hiq; subst hiq
     refine opg_list rfl ?_
     refine wpl_storeN (by rfl) (by kernel_rfl) 41 (.tmp 7) (.tmp 26) rfl b_19_10 6 (rC (refF 4 true (lowR1 (obR tAny)) (cR y) true).1) rfl rfl 41 _ h_19_10 szR (fun j _ => rC_one _ j) ?_
     intro xw23 t24 k25; try simp only [pA]
     have k26 := k21.touch t24 (by omega)
     have k27 := h_19_11.touch t24 (by omega)
     have lo28 := t24.below lo22 (by omega)
     have h29 := t24.sz hM5
     clear h_19_10 k21 h_19_11 lo22 hM5 t24
     refine ⟨trivial, ?_⟩
     refine wpAnyH_all (rs := [13]) (by kernel_rfl) (by simp) ?_
     intro iq hiq; simp only [List.mem_singleton] at hiq; subst hiq
     refine opg_list rfl ?_
     refine wpl_storeN (by rfl) (by kernel_rfl) 41 (.tmp 8) (.tmp 27) rfl b_19_11 6 (rC (refF 4 true (lowR1 (obR tAny)) (cR y) true).2.1) rfl rfl 41 _ k27 szR (fun j _ => rC_one _ j) ?_
     intro xw30 t31 k32; try simp only [pA]
     have k33 := k26.touch t31 (by omega)
     have k34 := k25.touch t31 (by omega)
     have lo35 := t31.below lo28 (by omega)
     have h36 := t31.sz h29
     clear k27 k26 k25 lo28 h29 t31
     refine ⟨trivial, ?_⟩
     refine wpAnyH_all (rs := [14]) (by kernel_rfl) (by simp) ?_
     intro iq hiq; simp only [List.mem_singleton] at hiq; subst hiq
     refine opg_list rfl ?_
     refine wpl_runD rfl (d := some 9) rfl (Value.bool true) (run_as (x := (.tmp 28)) rfl _ rfl) ?_; simp only [pA]
     refine ⟨trivial, ?_⟩
     refine wpAnyH_done (by kernel_rfl) ?_ _
     refine ⟨rfl, (b_19_10, b_19_11), (by simp only [pA]), k34, k32, (Ne.symm n_19_10_11), bl_19_10, bl_19_11, k33, lo35⟩
 ·clear k16 lo17
  rintro ⟨b_19_x0, b_19_x1⟩ xw24 ⟨k20, k21, ne25, lb_19_x0, lb_19_x1, k22, lo23⟩
  try dsimp only at *
  try simp only [pA]
  obtain ⟨M26, hM26⟩ := sz_some xw24
  have lt_27 := k22.ltN hM26
  have lt_28 := k20.ltN hM26
  have lt_29 := k21.ltN hM26
  have CS30 := fun w N hN => Refine_all 1 true (lowR1 (obR tAny)) (cR y) true w N hN
  rw [F2.out] at CS30
  go_upto_region 4 with fail
  refine wp_mid (fun ac (zb : Nat × Nat) => ((((((((((((ac.put (some 30) (Value.agg (cellsOf (rC (lowR1 (obR tAny))) 6))).put (some 31) (Yv y)).put (some 32) (Q y)).put (some 33) (Value.agg (cellsOf (rC (cR y)) 6))).put (some 34) (Value.tuple #[(Value.agg (cellsOf (rC (refF 1 true (lowR1 (obR tAny)) (cR y) true).1) 6)), (Value.agg (cellsOf (rC (refF 1 true (lowR1 (obR tAny)) (cR y) true).2.1) 6)), (Value.bool true)])).put (some 29) (Value.tuple #[(Value.agg (cellsOf (rC (refF 1 true (lowR1 (obR tAny)) (cR y) true).1) 6)), (Value.agg (cellsOf (rC (refF 1 true (lowR1 (obR tAny)) (cR y) true).2.1) 6)), (Value.bool true)])).put (some 35) (Value.agg (cellsOf (rC (refF 1 true (lowR1 (obR tAny)) (cR y) true).1) 6))).put (some 36) (Value.agg (cellsOf (rC (refF 1 true (lowR1 (obR tAny)) (cR y) true).2.1) 6))).put (some 37) (Value.bool true)).put (some 10) (.pointer (some ⟨zb.1, 0, none⟩))).put (some 11) (.pointer (some ⟨zb.2, 0, none⟩))).put (some 12) (Value.bool true))) (fun zb w' => Has w' zb.1 41 6 (rC (refF 1 true (lowR1 (obR tAny)) (cR y) true).1) ∧ Has w' zb.2 41 6 (rC (refF 1 true (lowR1 (obR tAny)) (cR y) true).2.1) ∧ zb.2 ≠ zb.1 ∧ M26 ≤ zb.1 ∧ M26 ≤ zb.2 ∧ Has w' b_xw4 41 6 (rC (lowR1 (obR tAny))) ∧ Has w' b_19_x0 41 6 (rC (refF 4 true (lowR1 (obR tAny)) (cR y) true).1) ∧ Has w' b_19_x1 41 6 (rC (refF 4 true (lowR1 (obR tAny)) (cR y) true).2.1) ∧ Below N w w') ?_ ?_
  ·refine wp_region_any (by kernel_rfl) ?_
   replace k22 : Has xw24.drew b_xw4 41 6 (rC (lowR1 (obR tAny))) := k22
   replace k20 : Has xw24.drew b_19_x0 41 6 (rC (refF 4 true (lowR1 (obR tAny)) (cR y) true).1) := k20
   replace k21 : Has xw24.drew b_19_x1 41 6 (rC (refF 4 true (lowR1 (obR tAny)) (cR y) true).2.1) := k21
   replace hM26 : Sz xw24.drew M26 := hM26
   replace lo23 : Below N w xw24.drew := lo23.drew
   change wpAny _ _ _ _ _ _ _ (World.drew _)
   generalize xw24.drew = xw32 at *
   refine wpAny_potL (lt := [7, 8]) (rem := [0, 1, 2, 3, 4, 5, 6, 7, 8, 9, 10]) (FG M26 (fun j => if j = 0 then some (Value.agg (cellsOf (rC (lowR1 (obR tAny))) 6)) else if j = 1 then some (Yv y) else if j = 2 then some (Q y) else if j = 3 then some (Value.agg (cellsOf (rC (cR y)) 6)) else if j = 4 then some (Value.tuple #[(Value.agg (cellsOf (rC (refF 1 true (lowR1 (obR tAny)) (cR y) true).1) 6)), (Value.agg (cellsOf (rC (refF 1 true (lowR1 (obR tAny)) (cR y) true).2.1) 6)), (Value.bool true)]) else if j = 5 then some (Value.tuple #[(Value.agg (cellsOf (rC (refF 1 true (lowR1 (obR tAny)) (cR y) true).1) 6)), (Value.agg (cellsOf (rC (refF 1 true (lowR1 (obR tAny)) (cR y) true).2.1) 6)), (Value.bool true)]) else if j = 6 then some (Value.agg (cellsOf (rC (refF 1 true (lowR1 (obR tAny)) (cR y) true).1) 6)) else if j = 7 then some (Value.agg (cellsOf (rC (refF 1 true (lowR1 (obR tAny)) (cR y) true).2.1) 6)) else if j = 8 then some (Value.bool true) else if j = 9 then none else none) (fun j => if j = 9 then (41, 6, rC zeroR) else (41, 6, rC zeroR))) (TwoN (fun j => if j = 0 then some (Value.agg (cellsOf (rC (lowR1 (obR tAny))) 6)) else if j = 1 then some (Yv y) else if j = 2 then some (Q y) else if j = 3 then some (Value.agg (cellsOf (rC (cR y)) 6)) else if j = 4 then some (Value.tuple #[(Value.agg (cellsOf (rC (refF 1 true (lowR1 (obR tAny)) (cR y) true).1) 6)), (Value.agg (cellsOf (rC (refF 1 true (lowR1 (obR tAny)) (cR y) true).2.1) 6)), (Value.bool true)]) else if j = 5 then some (Value.tuple #[(Value.agg (cellsOf (rC (refF 1 true (lowR1 (obR tAny)) (cR y) true).1) 6)), (Value.agg (cellsOf (rC (refF 1 true (lowR1 (obR tAny)) (cR y) true).2.1) 6)), (Value.bool true)]) else if j = 6 then some (Value.agg (cellsOf (rC (refF 1 true (lowR1 (obR tAny)) (cR y) true).1) 6)) else if j = 7 then some (Value.agg (cellsOf (rC (refF 1 true (lowR1 (obR tAny)) (cR y) true).2.1) 6)) else if j = 8 then some (Value.bool true) else if j = 9 then none else none)) (Below M26 xw32) _ _ _ _ (by kernel_rfl) (size_dstG (by kernel_rfl)) (Below.refl _ _) ?_ ?_
   ·intro i hi ac wa hI ha hv
    simp only [List.mem_cons, List.not_mem_nil, or_false] at hi
    rcases hi with rfl | rfl | rfl | rfl | rfl | rfl | rfl | rfl | rfl | rfl | rfl
    ·exact potg_run rfl rfl (Value.agg (cellsOf (rC (lowR1 (obR tAny))) 6)) rfl (run_rw 41 (.tmp 5) rfl b_xw4 (ha 5 (not_dstG (by kernel_rfl))) 41 6 _ (Has.below k22 hI (Has.ltN k22 hM26)) undR szR) hM26 hI
    ·exact potg_run rfl rfl (Yv y) rfl (run_mv (x := (.tmp 1)) rfl _ (ha 1 (not_dstG (by kernel_rfl)))) hM26 hI
    ·obtain ⟨v1, hv1a, hv1b⟩ := hv 1 (by simp) (by kernel_rfl)
     have ev1 := hv1b.val rfl
     subst ev1
     exact potg_run rfl rfl (Q y) rfl (run_yu (x := (.tmp 31)) rfl undY und64 (hv1a 31 rfl) wa) hM26 hI
    ·obtain ⟨v2, hv2a, hv2b⟩ := hv 2 (by simp) (by kernel_rfl)
     have ev2 := hv2b.val rfl
     subst ev2
     exact potg_cl rfl rfl 28 _ _ rfl #[(Q y)] (by simp only [List.map_toArray, List.map_cons, List.map_nil, (show ac.eval (.tmp 32) = (Q y) from (hv2a 32 rfl))] <;> rfl) (by kernel_rfl) (Value.agg (cellsOf (rC (cR y)) 6)) (fun K hK => SConst_any y wa K hK) rfl hM26 hI
    ·obtain ⟨v0, hv0a, hv0b⟩ := hv 0 (by simp) (by kernel_rfl)
     have ev0 := hv0b.val rfl
     subst ev0
     obtain ⟨v3, hv3a, hv3b⟩ := hv 3 (by simp) (by kernel_rfl)
     have ev3 := hv3b.val rfl
     subst ev3
     exact potg_cl rfl rfl 40 _ _ rfl #[(Value.int .i64 1), (Value.bool true), (Value.agg (cellsOf (rC (lowR1 (obR tAny))) 6)), (Value.agg (cellsOf (rC (cR y)) 6)), (Value.bool true)] (by simp only [List.map_toArray, List.map_cons, List.map_nil, (show ac.eval (.tmp 30) = (Value.agg (cellsOf (rC (lowR1 (obR tAny))) 6)) from (hv0a 30 rfl)), (show ac.eval (.tmp 33) = (Value.agg (cellsOf (rC (cR y)) 6)) from (hv3a 33 rfl))] <;> rfl) (by kernel_rfl) (Value.tuple #[(Value.agg (cellsOf (rC (refF 1 true (lowR1 (obR tAny)) (cR y) true).1) 6)), (Value.agg (cellsOf (rC (refF 1 true (lowR1 (obR tAny)) (cR y) true).2.1) 6)), (Value.bool true)]) (fun K hK => CS30 wa K hK) rfl hM26 hI
    ·obtain ⟨v4, hv4a, hv4b⟩ := hv 4 (by simp) (by kernel_rfl)
     have ev4 := hv4b.val rfl
     subst ev4
     exact potg_run rfl rfl (Value.tuple #[(Value.agg (cellsOf (rC (refF 1 true (lowR1 (obR tAny)) (cR y) true).1) 6)), (Value.agg (cellsOf (rC (refF 1 true (lowR1 (obR tAny)) (cR y) true).2.1) 6)), (Value.bool true)]) rfl (run_mv (x := (.tmp 34)) rfl _ (hv4a 34 rfl)) hM26 hI
    ·obtain ⟨v5, hv5a, hv5b⟩ := hv 5 (by simp) (by kernel_rfl)
     have ev5 := hv5b.val rfl
     subst ev5
     exact potg_run rfl rfl (Value.agg (cellsOf (rC (refF 1 true (lowR1 (obR tAny)) (cR y) true).1) 6)) rfl (run_ex (x := (.tmp 29)) rfl _ (hv5a 29 rfl) rfl) hM26 hI
    ·obtain ⟨v5, hv5a, hv5b⟩ := hv 5 (by simp) (by kernel_rfl)
     have ev5 := hv5b.val rfl
     subst ev5
     exact potg_run rfl rfl (Value.agg (cellsOf (rC (refF 1 true (lowR1 (obR tAny)) (cR y) true).2.1) 6)) rfl (run_ex (x := (.tmp 29)) rfl _ (hv5a 29 rfl) rfl) hM26 hI
    ·obtain ⟨v5, hv5a, hv5b⟩ := hv 5 (by simp) (by kernel_rfl)
     have ev5 := hv5b.val rfl
     subst ev5
     exact potg_run rfl rfl (Value.bool true) rfl (run_ex (x := (.tmp 29)) rfl _ (hv5a 29 rfl) rfl) hM26 hI
    ·exact potg_al rfl rfl rfl zeR rfl rfl hM26 hI
    ·exact potg_al rfl rfl rfl zeR rfl rfl hM26 hI
   ·intro L vals w5_31_ hb5_31_ hF hG hL
    have l0 := hL 0 (by simp) rfl
    have l1 := hL 1 (by simp) rfl
    have l2 := hL 2 (by simp) rfl
    have l3 := hL 3 (by simp) rfl
    have l4 := hL 4 (by simp) rfl
    have l5 := hL 5 (by simp) rfl
    have l6 := hL 6 (by simp) rfl
    have l9 := hL 9 (by simp) rfl
    have l10 := hL 10 (by simp) rfl
    clear hL
    cases c7 : L 7
    ·cases c8 : L 8
     ·have e_31_0 := (hF 0 (by simp) l0).val rfl
      have e_31_1 := (hF 1 (by simp) l1).val rfl
      have e_31_2 := (hF 2 (by simp) l2).val rfl
      have e_31_3 := (hF 3 (by simp) l3).val rfl
      have e_31_4 := (hF 4 (by simp) l4).val rfl
      have e_31_5 := (hF 5 (by simp) l5).val rfl
      have e_31_6 := (hF 6 (by simp) l6).val rfl
      obtain ⟨b_31_9, bl_31_9, e_31_9, h_31_9⟩ := (hF 9 (by simp) l9).al rfl rfl
      obtain ⟨b_31_10, bl_31_10, e_31_10, h_31_10⟩ := (hF 10 (by simp) l10).al rfl rfl
      have n_31_9_10 := hG 9 (by simp) 10 (by simp) (by omega) l9 l10 rfl rfl b_31_9 b_31_10 e_31_9 e_31_10
      clear hF hG
      rw [show left L [0, 1, 2, 3, 4, 5, 6, 7, 8, 9, 10] = 2 from by simp [left, l0, l1, l2, l3, l4, l5, l6, l9, l10, c7, c8]]
      refine wpAny_fuel (n := 5) (by kernel_rfl) ?_
      simp only [marks, puts, l0, l1, l2, l3, l4, l5, l6, l9, l10, c7, c8, if_true, if_false, Bool.false_eq_true, dstOf, List.getElem?_toArray, List.getElem?_cons_succ, List.getElem?_cons_zero, Option.bind_some, Act.put, List.setIfInBounds_toArray, List.set_cons_succ, List.set_cons_zero, e_31_0, e_31_1, e_31_2, e_31_3, e_31_4, e_31_5, e_31_6, e_31_9, e_31_10]
      clear e_31_0 e_31_1 e_31_2 e_31_3 e_31_4 e_31_5 e_31_6 e_31_9 e_31_10 l0 l1 l2 l3 l4 l5 l6 l9 l10 c7 c8
      have k33 := k22.below hb5_31_ (by omega)
      have k34 := k20.below hb5_31_ (by omega)
      have k35 := k21.below hb5_31_ (by omega)
      have lo36 := lo23.trans (hb5_31_.mono (by omega))
      obtain ⟨M5, hM5⟩ := sz_some w5_31_
      have lM5 := below_sz hb5_31_ hM26 hM5
      clear k22 k20 k21 lo23 hb5_31_
      refine wpAny_of_held (S := fun _ => True) _ _ _ _ ?_
      refine held_take (i := 7) (v := (Value.agg (cellsOf (rC (refF 1 true (lowR1 (obR tAny)) (cR y) true).2.1) 6))) (d := some 36) rfl (by kernel_rfl) (by kernel_rfl) (by kernel_rfl) (by kernel_rfl) (fun _ _ _ h => by cases h.1) (Or.inl ⟨by rfl, fun wq _ => run_ex (x := (.tmp 29)) rfl wq rfl rfl⟩) trivial ?_; simp only [pA]
      refine held_take (i := 8) (v := (Value.bool true)) (d := some 37) rfl (by kernel_rfl) (by kernel_rfl) (by kernel_rfl) (by kernel_rfl) (fun _ _ _ h => by cases h.1) (Or.inl ⟨by rfl, fun wq _ => run_ex (x := (.tmp 29)) rfl wq rfl rfl⟩) trivial ?_; simp only [pA]
      refine wpAnyH_all (rs := [11]) (by kernel_rfl) (by simp) ?_
      intro iq hiq; simp only [List.mem_singleton] at hiq; subst hiq
      refine opg_list rfl ?_
      refine wpl_storeN (by rfl) (by kernel_rfl) 41 (.tmp 10) (.tmp 35) rfl b_31_9 6 (rC (refF 1 true (lowR1 (obR tAny)) (cR y) true).1) rfl rfl 41 _ h_31_9 szR (fun j _ => rC_one _ j) ?_
      intro xw37 t38 k39; try simp only [pA]
      have k40 := k33.touch t38 (by omega)
      have k41 := k34.touch t38 (by omega)
      have k42 := k35.touch t38 (by omega)
      have k43 := h_31_10.touch t38 (by omega)
      have lo44 := t38.below lo36 (by omega)
      have h45 := t38.sz hM5
      clear h_31_9 k33 k34 k35 h_31_10 lo36 hM5 t38
      refine ⟨trivial, ?_⟩
      refine wpAnyH_all (rs := [12]) (by kernel_rfl) (by simp) ?_
      intro iq hiq; simp only [List.mem_singleton] at hiq; subst hiq
      refine opg_list rfl ?_
      refine wpl_storeN (by rfl) (by kernel_rfl) 41 (.tmp 11) (.tmp 36) rfl b_31_10 6 (rC (refF 1 true (lowR1 (obR tAny)) (cR y) true).2.1) rfl rfl 41 _ k43 szR (fun j _ => rC_one _ j) ?_
      intro xw46 t47 k48; try simp only [pA]
      have k49 := k40.touch t47 (by omega)
      have k50 := k41.touch t47 (by omega)
      have k51 := k42.touch t47 (by omega)
      have k52 := k39.touch t47 (by omega)
      have lo53 := t47.below lo44 (by omega)
      have h54 := t47.sz h45
      clear k43 k40 k41 k42 k39 lo44 h45 t47
      refine ⟨trivial, ?_⟩
      refine wpAnyH_all (rs := [13]) (by kernel_rfl) (by simp) ?_
      intro iq hiq; simp only [List.mem_singleton] at hiq; subst hiq
      refine opg_list rfl ?_
      refine wpl_runD rfl (d := some 12) rfl (Value.bool true) (run_as (x := (.tmp 37)) rfl _ rfl) ?_; simp only [pA]
      refine ⟨trivial, ?_⟩
      refine wpAnyH_done (by kernel_rfl) ?_ _
      refine ⟨rfl, (b_31_9, b_31_10), (by simp only [pA]), k52, k48, (Ne.symm n_31_9_10), bl_31_9, bl_31_10, k49, k50, k51, lo53⟩
     ·have e_31_0 := (hF 0 (by simp) l0).val rfl
      have e_31_1 := (hF 1 (by simp) l1).val rfl
      have e_31_2 := (hF 2 (by simp) l2).val rfl
      have e_31_3 := (hF 3 (by simp) l3).val rfl
      have e_31_4 := (hF 4 (by simp) l4).val rfl
      have e_31_5 := (hF 5 (by simp) l5).val rfl
      have e_31_6 := (hF 6 (by simp) l6).val rfl
      have e_31_8 := (hF 8 (by simp) c8).val rfl
      obtain ⟨b_31_9, bl_31_9, e_31_9, h_31_9⟩ := (hF 9 (by simp) l9).al rfl rfl
      obtain ⟨b_31_10, bl_31_10, e_31_10, h_31_10⟩ := (hF 10 (by simp) l10).al rfl rfl
      have n_31_9_10 := hG 9 (by simp) 10 (by simp) (by omega) l9 l10 rfl rfl b_31_9 b_31_10 e_31_9 e_31_10
      clear hF hG
      rw [show left L [0, 1, 2, 3, 4, 5, 6, 7, 8, 9, 10] = 1 from by simp [left, l0, l1, l2, l3, l4, l5, l6, l9, l10, c7, c8]]
      refine wpAny_fuel (n := 4) (by kernel_rfl) ?_
      simp only [marks, puts, l0, l1, l2, l3, l4, l5, l6, l9, l10, c7, c8, if_true, if_false, Bool.false_eq_true, dstOf, List.getElem?_toArray, List.getElem?_cons_succ, List.getElem?_cons_zero, Option.bind_some, Act.put, List.setIfInBounds_toArray, List.set_cons_succ, List.set_cons_zero, e_31_0, e_31_1, e_31_2, e_31_3, e_31_4, e_31_5, e_31_6, e_31_8, e_31_9, e_31_10]
      clear e_31_0 e_31_1 e_31_2 e_31_3 e_31_4 e_31_5 e_31_6 e_31_8 e_31_9 e_31_10 l0 l1 l2 l3 l4 l5 l6 l9 l10 c7 c8
      have k33 := k22.below hb5_31_ (by omega)
      have k34 := k20.below hb5_31_ (by omega)
      have k35 := k21.below hb5_31_ (by omega)
      have lo36 := lo23.trans (hb5_31_.mono (by omega))
      obtain ⟨M5, hM5⟩ := sz_some w5_31_
      have lM5 := below_sz hb5_31_ hM26 hM5
      clear k22 k20 k21 lo23 hb5_31_
      refine wpAny_of_held (S := fun _ => True) _ _ _ _ ?_
      refine held_take (i := 7) (v := (Value.agg (cellsOf (rC (refF 1 true (lowR1 (obR tAny)) (cR y) true).2.1) 6))) (d := some 36) rfl (by kernel_rfl) (by kernel_rfl) (by kernel_rfl) (by kernel_rfl) (fun _ _ _ h => by cases h.1) (Or.inl ⟨by rfl, fun wq _ => run_ex (x := (.tmp 29)) rfl wq rfl rfl⟩) trivial ?_; simp only [pA]
      refine wpAnyH_all (rs := [11]) (by kernel_rfl) (by simp) ?_
      intro iq hiq; simp only [List.mem_singleton] at hiq; subst hiq
      refine opg_list rfl ?_
      refine wpl_storeN (by rfl) (by kernel_rfl) 41 (.tmp 10) (.tmp 35) rfl b_31_9 6 (rC (refF 1 true (lowR1 (obR tAny)) (cR y) true).1) rfl rfl 41 _ h_31_9 szR (fun j _ => rC_one _ j) ?_
      intro xw37 t38 k39; try simp only [pA]
      have k40 := k33.touch t38 (by omega)
      have k41 := k34.touch t38 (by omega)
      have k42 := k35.touch t38 (by omega)
      have k43 := h_31_10.touch t38 (by omega)
      have lo44 := t38.below lo36 (by omega)
      have h45 := t38.sz hM5
      clear h_31_9 k33 k34 k35 h_31_10 lo36 hM5 t38
      refine ⟨trivial, ?_⟩
      refine wpAnyH_all (rs := [12]) (by kernel_rfl) (by simp) ?_
      intro iq hiq; simp only [List.mem_singleton] at hiq; subst hiq
      refine opg_list rfl ?_
      refine wpl_storeN (by rfl) (by kernel_rfl) 41 (.tmp 11) (.tmp 36) rfl b_31_10 6 (rC (refF 1 true (lowR1 (obR tAny)) (cR y) true).2.1) rfl rfl 41 _ k43 szR (fun j _ => rC_one _ j) ?_
      intro xw46 t47 k48; try simp only [pA]
      have k49 := k40.touch t47 (by omega)
      have k50 := k41.touch t47 (by omega)
      have k51 := k42.touch t47 (by omega)
      have k52 := k39.touch t47 (by omega)
      have lo53 := t47.below lo44 (by omega)
      have h54 := t47.sz h45
      clear k43 k40 k41 k42 k39 lo44 h45 t47
      refine ⟨trivial, ?_⟩
      refine wpAnyH_all (rs := [13]) (by kernel_rfl) (by simp) ?_
      intro iq hiq; simp only [List.mem_singleton] at hiq; subst hiq
      refine opg_list rfl ?_
      refine wpl_runD rfl (d := some 12) rfl (Value.bool true) (run_as (x := (.tmp 37)) rfl _ rfl) ?_; simp only [pA]
      refine ⟨trivial, ?_⟩
      refine wpAnyH_done (by kernel_rfl) ?_ _
      refine ⟨rfl, (b_31_9, b_31_10), (by simp only [pA]), k52, k48, (Ne.symm n_31_9_10), bl_31_9, bl_31_10, k49, k50, k51, lo53⟩
    ·cases c8 : L 8
     ·have e_31_0 := (hF 0 (by simp) l0).val rfl
      have e_31_1 := (hF 1 (by simp) l1).val rfl
      have e_31_2 := (hF 2 (by simp) l2).val rfl
      have e_31_3 := (hF 3 (by simp) l3).val rfl
      have e_31_4 := (hF 4 (by simp) l4).val rfl
      have e_31_5 := (hF 5 (by simp) l5).val rfl
      have e_31_6 := (hF 6 (by simp) l6).val rfl
      have e_31_7 := (hF 7 (by simp) c7).val rfl
      obtain ⟨b_31_9, bl_31_9, e_31_9, h_31_9⟩ := (hF 9 (by simp) l9).al rfl rfl
      obtain ⟨b_31_10, bl_31_10, e_31_10, h_31_10⟩ := (hF 10 (by simp) l10).al rfl rfl
      have n_31_9_10 := hG 9 (by simp) 10 (by simp) (by omega) l9 l10 rfl rfl b_31_9 b_31_10 e_31_9 e_31_10
      clear hF hG
      rw [show left L [0, 1, 2, 3, 4, 5, 6, 7, 8, 9, 10] = 1 from by simp [left, l0, l1, l2, l3, l4, l5, l6, l9, l10, c7, c8]]
      refine wpAny_fuel (n := 4) (by kernel_rfl) ?_
      simp only [marks, puts, l0, l1, l2, l3, l4, l5, l6, l9, l10, c7, c8, if_true, if_false, Bool.false_eq_true, dstOf, List.getElem?_toArray, List.getElem?_cons_succ, List.getElem?_cons_zero, Option.bind_some, Act.put, List.setIfInBounds_toArray, List.set_cons_succ, List.set_cons_zero, e_31_0, e_31_1, e_31_2, e_31_3, e_31_4, e_31_5, e_31_6, e_31_7, e_31_9, e_31_10]
      clear e_31_0 e_31_1 e_31_2 e_31_3 e_31_4 e_31_5 e_31_6 e_31_7 e_31_9 e_31_10 l0 l1 l2 l3 l4 l5 l6 l9 l10 c7 c8
      have k33 := k22.below hb5_31_ (by omega)
      have k34 := k20.below hb5_31_ (by omega)
      have k35 := k21.below hb5_31_ (by omega)
      have lo36 := lo23.trans (hb5_31_.mono (by omega))
      obtain ⟨M5, hM5⟩ := sz_some w5_31_
      have lM5 := below_sz hb5_31_ hM26 hM5
      clear k22 k20 k21 lo23 hb5_31_
      refine wpAny_of_held (S := fun _ => True) _ _ _ _ ?_
      refine held_take (i := 8) (v := (Value.bool true)) (d := some 37) rfl (by kernel_rfl) (by kernel_rfl) (by kernel_rfl) (by kernel_rfl) (fun _ _ _ h => by cases h.1) (Or.inl ⟨by rfl, fun wq _ => run_ex (x := (.tmp 29)) rfl wq rfl rfl⟩) trivial ?_; simp only [pA]
      refine wpAnyH_all (rs := [11]) (by kernel_rfl) (by simp) ?_
      intro iq hiq; simp only [List.mem_singleton] at hiq; subst hiq
      refine opg_list rfl ?_
      refine wpl_storeN (by rfl) (by kernel_rfl) 41 (.tmp 10) (.tmp 35) rfl b_31_9 6 (rC (refF 1 true (lowR1 (obR tAny)) (cR y) true).1) rfl rfl 41 _ h_31_9 szR (fun j _ => rC_one _ j) ?_
      intro xw37 t38 k39; try simp only [pA]
      have k40 := k33.touch t38 (by omega)
      have k41 := k34.touch t38 (by omega)
      have k42 := k35.touch t38 (by omega)
      have k43 := h_31_10.touch t38 (by omega)
      have lo44 := t38.below lo36 (by omega)
      have h45 := t38.sz hM5
      clear h_31_9 k33 k34 k35 h_31_10 lo36 hM5 t38
      refine ⟨trivial, ?_⟩
      refine wpAnyH_all (rs := [12]) (by kernel_rfl) (by simp) ?_
      intro iq hiq; simp only [List.mem_singleton] at hiq; subst hiq
      refine opg_list rfl ?_
      refine wpl_storeN (by rfl) (by kernel_rfl) 41 (.tmp 11) (.tmp 36) rfl b_31_10 6 (rC (refF 1 true (lowR1 (obR tAny)) (cR y) true).2.1) rfl rfl 41 _ k43 szR (fun j _ => rC_one _ j) ?_
      intro xw46 t47 k48; try simp only [pA]
      have k49 := k40.touch t47 (by omega)
      have k50 := k41.touch t47 (by omega)
      have k51 := k42.touch t47 (by omega)
      have k52 := k39.touch t47 (by omega)
      have lo53 := t47.below lo44 (by omega)
      have h54 := t47.sz h45
      clear k43 k40 k41 k42 k39 lo44 h45 t47
      refine ⟨trivial, ?_⟩
      refine wpAnyH_all (rs := [13]) (by kernel_rfl) (by simp) ?_
      intro iq hiq; simp only [List.mem_singleton] at hiq; subst hiq
      refine opg_list rfl ?_
      refine wpl_runD rfl (d := some 12) rfl (Value.bool true) (run_as (x := (.tmp 37)) rfl _ rfl) ?_; simp only [pA]
      refine ⟨trivial, ?_⟩
      refine wpAnyH_done (by kernel_rfl) ?_ _
      refine ⟨rfl, (b_31_9, b_31_10), (by simp only [pA]), k52, k48, (Ne.symm n_31_9_10), bl_31_9, bl_31_10, k49, k50, k51, lo53⟩
     ·have e_31_0 := (hF 0 (by simp) l0).val rfl
      have e_31_1 := (hF 1 (by simp) l1).val rfl
      have e_31_2 := (hF 2 (by simp) l2).val rfl
      have e_31_3 := (hF 3 (by simp) l3).val rfl
      have e_31_4 := (hF 4 (by simp) l4).val rfl
      have e_31_5 := (hF 5 (by simp) l5).val rfl
      have e_31_6 := (hF 6 (by simp) l6).val rfl
      have e_31_7 := (hF 7 (by simp) c7).val rfl
      have e_31_8 := (hF 8 (by simp) c8).val rfl
      obtain ⟨b_31_9, bl_31_9, e_31_9, h_31_9⟩ := (hF 9 (by simp) l9).al rfl rfl
      obtain ⟨b_31_10, bl_31_10, e_31_10, h_31_10⟩ := (hF 10 (by simp) l10).al rfl rfl
      have n_31_9_10 := hG 9 (by simp) 10 (by simp) (by omega) l9 l10 rfl rfl b_31_9 b_31_10 e_31_9 e_31_10
      clear hF hG
      rw [show left L [0, 1, 2, 3, 4, 5, 6, 7, 8, 9, 10] = 0 from by simp [left, l0, l1, l2, l3, l4, l5, l6, l9, l10, c7, c8]]
      refine wpAny_fuel (n := 3) (by kernel_rfl) ?_
      simp only [marks, puts, l0, l1, l2, l3, l4, l5, l6, l9, l10, c7, c8, if_true, if_false, Bool.false_eq_true, dstOf, List.getElem?_toArray, List.getElem?_cons_succ, List.getElem?_cons_zero, Option.bind_some, Act.put, List.setIfInBounds_toArray, List.set_cons_succ, List.set_cons_zero, e_31_0, e_31_1, e_31_2, e_31_3, e_31_4, e_31_5, e_31_6, e_31_7, e_31_8, e_31_9, e_31_10]
      clear e_31_0 e_31_1 e_31_2 e_31_3 e_31_4 e_31_5 e_31_6 e_31_7 e_31_8 e_31_9 e_31_10 l0 l1 l2 l3 l4 l5 l6 l9 l10 c7 c8
      have k33 := k22.below hb5_31_ (by omega)
      have k34 := k20.below hb5_31_ (by omega)
      have k35 := k21.below hb5_31_ (by omega)
      have lo36 := lo23.trans (hb5_31_.mono (by omega))
      obtain ⟨M5, hM5⟩ := sz_some w5_31_
      have lM5 := below_sz hb5_31_ hM26 hM5
      clear k22 k20 k21 lo23 hb5_31_
      refine wpAny_of_held (S := fun _ => True) _ _ _ _ ?_
      refine wpAnyH_all (rs := [11]) (by kernel_rfl) (by simp) ?_
      intro iq hiq; simp only [List.mem_singleton] at hiq; subst hiq
      refine opg_list rfl ?_
      refine wpl_storeN (by rfl) (by kernel_rfl) 41 (.tmp 10) (.tmp 35) rfl b_31_9 6 (rC (refF 1 true (lowR1 (obR tAny)) (cR y) true).1) rfl rfl 41 _ h_31_9 szR (fun j _ => rC_one _ j) ?_
      intro xw37 t38 k39; try simp only [pA]
      have k40 := k33.touch t38 (by omega)
      have k41 := k34.touch t38 (by omega)
      have k42 := k35.touch t38 (by omega)
      have k43 := h_31_10.touch t38 (by omega)
      have lo44 := t38.below lo36 (by omega)
      have h45 := t38.sz hM5
      clear h_31_9 k33 k34 k35 h_31_10 lo36 hM5 t38
      refine ⟨trivial, ?_⟩
      refine wpAnyH_all (rs := [12]) (by kernel_rfl) (by simp) ?_
      intro iq hiq; simp only [List.mem_singleton] at hiq; subst hiq
      refine opg_list rfl ?_
      refine wpl_storeN (by rfl) (by kernel_rfl) 41 (.tmp 11) (.tmp 36) rfl b_31_10 6 (rC (refF 1 true (lowR1 (obR tAny)) (cR y) true).2.1) rfl rfl 41 _ k43 szR (fun j _ => rC_one _ j) ?_
      intro xw46 t47 k48; try simp only [pA]
      have k49 := k40.touch t47 (by omega)
      have k50 := k41.touch t47 (by omega)
      have k51 := k42.touch t47 (by omega)
      have k52 := k39.touch t47 (by omega)
      have lo53 := t47.below lo44 (by omega)
      have h54 := t47.sz h45
      clear k43 k40 k41 k42 k39 lo44 h45 t47
      refine ⟨trivial, ?_⟩
      refine wpAnyH_all (rs := [13]) (by kernel_rfl) (by simp) ?_
      intro iq hiq; simp only [List.mem_singleton] at hiq; subst hiq
      refine opg_list rfl ?_
      refine wpl_runD rfl (d := some 12) rfl (Value.bool true) (run_as (x := (.tmp 37)) rfl _ rfl) ?_; simp only [pA]
      refine ⟨trivial, ?_⟩
      refine wpAnyH_done (by kernel_rfl) ?_ _
      refine ⟨rfl, (b_31_9, b_31_10), (by simp only [pA]), k52, k48, (Ne.symm n_31_9_10), bl_31_9, bl_31_10, k49, k50, k51, lo53⟩
  ·clear k22 k20 k21 lo23
   rintro ⟨b_31_x0, b_31_x1⟩ xw38 ⟨k32, k33, ne39, lb_31_x0, lb_31_x1, k34, k35, k36, lo37⟩
   try dsimp only at *
   try simp only [pA]
   obtain ⟨M40, hM40⟩ := sz_some xw38
   have lt_41 := k34.ltN hM40
   have lt_42 := k35.ltN hM40
   have lt_43 := k36.ltN hM40
   have lt_44 := k32.ltN hM40
   have lt_45 := k33.ltN hM40
   go_upto_region 5 with fail
   refine wp_region_later1 (M40) ?_
   try simp only [pA]
   go_big_quiet_step ((go_at_call 35; exact later_of hM40 _ (fun K hK hKN => tells_any _ K hK)))
   iterate 4 (go_big_quiet_step (fail))
   refine later_row hM40 41 (.tmp 7) rfl (b_19_x0) rfl 41 6 _ k35 undR szR (by rfl) ?_; simp only [pA]
   go_big_quiet_step (fail)
   refine later_val (fun q => run_yu (x := (.tmp 44)) rfl undY und64 rfl q.w') (by rfl) ?_; simp only [pA]
   go_big_quiet_step ((go_at_call 25; exact later_of hM40 _ (fun K hK hKN => ret_is F1.out (SHas_any (refF 4 true (lowR1 (obR tAny)) (cR y) true).1 x) _ K hK)))
   iterate 5 (go_big_quiet_step (fail))
   refine later_row hM40 41 (.tmp 10) rfl (b_31_x0) rfl 41 6 _ k32 undR szR (by rfl) ?_; simp only [pA]
   go_big_quiet_step (fail)
   refine later_val (fun q => run_yu (x := (.tmp 53)) rfl undY und64 rfl q.w') (by rfl) ?_; simp only [pA]
   go_big_quiet_step ((go_at_call 25; exact later_of hM40 _ (fun K hK hKN => ret_is F3.out (SHas_any (refF 1 true (lowR1 (obR tAny)) (cR y) true).1 y) _ K hK)))
   iterate 2 (go_big_quiet_step (fail))
   refine later_row hM40 41 (.tmp 10) rfl (b_31_x0) rfl 41 6 _ k32 undR szR (by rfl) ?_; simp only [pA]
   refine later_row hM40 41 (.tmp 5) rfl (b_xw4) rfl 41 6 _ k34 undR szR (by rfl) ?_; simp only [pA]
   go_big_quiet_step ((go_at_call 32; exact later_of hM40 _ (fun K hK hKN => ret_is F4.out (SWithin_any (refF 1 true (lowR1 (obR tAny)) (cR y) true).1 (lowR1 (obR tAny))) _ K hK)))
   iterate 10 (go_big_quiet_step (fail))
   refine wpQuiet_nil (laterE hM40 ?_)
   intro xw46 M47 hbxw46 hM47 lM47
   have k48 := k34.below hbxw46 (by omega)
   have k49 := k35.below hbxw46 (by omega)
   have k50 := k36.below hbxw46 (by omega)
   have k51 := k32.below hbxw46 (by omega)
   have k52 := k33.below hbxw46 (by omega)
   have lo53 := lo37.trans (hbxw46.mono (by omega))
   clear k34 k35 k36 k32 k33 lo37 hbxw46
   go_wp2_with fail
   go_ret
   exact ⟨rfl, lo53⟩
set_option maxRecDepth 100000 in
set_option maxHeartbeats 8000000 in
theorem law_bbits_f (x : W) (y : W) (w : World) (N : Nat) (hN : Sz w N) (hx : Hid (x.toNat < 256)) (hy : Hid (y.toNat < 256)) (HH : Hid (((x &&& y) != 0#64) = false)) : Calls Try.prog 15 #[(Yv x), (Yv y)] w fun e w' => e = .returned (.bool true) ∧ Below N w w' := by
 have RI := hid (ref_in (op := 4) (l := true) (h := false) (byte_in hx.out) (cR_in y) HH.out)
 have RJ := hid (ref_in (op := 1) (l := true) (h := true) (byte_in hy.out) (cR_in y) (by show (y == y) = true; simp))
 have RN := hid (ref_nar RI.out.1)
 have RM := hid (ref_nar RJ.out.1)
 have F0 := hid (show (refF 4 true (lowR1 (obR tAny)) (cR y) false).2.2 = true from RI.out.1)
 have F1 := hid (show (sHas (refF 4 true (lowR1 (obR tAny)) (cR y) false).1 x) = true from RI.out.2.1.has)
 have F2 := hid (show (refF 1 true (lowR1 (obR tAny)) (cR y) true).2.2 = true from RJ.out.1)
 have F3 := hid (show (sHas (refF 1 true (lowR1 (obR tAny)) (cR y) true).1 y) = true from RJ.out.2.1.has)
 have F4 := hid (show (sWithin (refF 1 true (lowR1 (obR tAny)) (cR y) true).1 (lowR1 (obR tAny))) = true from nar_iff.2 RM.out.1)
 have F5 := hid (show (sWithin (refF 4 true (lowR1 (obR tAny)) (cR y) false).1 (lowR1 (obR tAny))) = true from nar_iff.2 RN.out.1)
 go_enter Try.func15, Try.ntmps15
 have lo0 : Below N w w := Below.refl N w
 go_upto_region 1 with fail
 refine wp_region_lit ?_
 try simp only [pA]
 change wpList _ _ _ ((_ :: _ :: []) ++ (_ :: _ :: [])) _ _
 refine wpList_prefix (C := fun w' => ∃ x : Later N w, w' = x.w') _ _ _ _ ⟨⟨_, Below.refl _ _⟩, rfl⟩ ?_
 go_big_quiet_step ((go_at_call 33; exact later_of hN _ (fun K hK hKN => SAny_any  _ K hK)))
 go_big_quiet_step ((go_at_call 31; exact later_of hN _ (fun K hK hKN => SLow_1 (obR tAny) _ K hK)))
 refine wpQuiet_nil (laterE hN ?_)
 intro xw1 M2 hbxw1 hM2 lM2
 have lo3 := lo0.trans (hbxw1.mono (by omega))
 clear lo0 hbxw1
 obtain ⟨b_xw4, eb_xw4⟩ : ∃ b_xw4, b_xw4 = M2 := ⟨_, rfl⟩
 have hzb_xw4 : Sz xw1 b_xw4 := by rw [eb_xw4]; exact hM2
 have lob_xw4 : M2 ≤ b_xw4 := by omega
 have upb_xw4 : b_xw4 ≤ M2 := by omega
 clear eb_xw4
 refine wpl_alloc rfl 41 rfl 6 (rC zeroR) zeR b_xw4 hzb_xw4 ?_
 intro xw4 hMxw4 hbxw4 hhxw4; simp only [pA]
 have lo5 := lo3.trans (hbxw4.mono (by omega))
 clear lo3 hbxw4 hzb_xw4
 obtain ⟨M6, eM6⟩ : ∃ M6, M6 = b_xw4 + 1 := ⟨_, rfl⟩
 rw [← eM6] at hMxw4
 have loM6 : b_xw4 + 1 ≤ M6 := by omega
 have upM6 : M6 ≤ b_xw4 + 1 := by omega
 clear eM6
 refine wpl_store rfl 41 (.tmp 5) (.tmp 14) rfl b_xw4 6 (rC (lowR1 (obR tAny))) rfl rfl 41 _ hhxw4 szR (fun j _ => rC_one _ j) ?_
 intro xw7 t8 k9; try simp only [pA]
 have lo10 := t8.below lo5 (by omega)
 have h11 := t8.sz hMxw4
 clear hhxw4 lo5 hMxw4 t8
 obtain ⟨M12, hM12⟩ := sz_some xw7
 have lt_13 := k9.ltN hM12
 go_upto_region 2 with fail
 refine wp_region_later1 (M12) ?_
 try simp only [pA]
 iterate 2 (go_big_quiet_step (fail))
 refine later_b (x := (.tmp 15)) (y := (.tmp 16)) rfl (bin_yand _ x y hy.out hx.out) rfl rfl (by rfl) ?_; simp only [pA]
 refine later_b (x := (.tmp 17)) (y := (.const (.int .u8 0))) rfl (BinRun.is HH.out (bin_yneq0 _ (x &&& y))) rfl rfl (by rfl) ?_; simp only [pA]
 go_big_quiet_step (fail)
 refine wpQuiet_nil (laterE hM12 ?_)
 intro xw14 M15 hbxw14 hM15 lM15
 have k16 := k9.below hbxw14 (by omega)
 have lo17 := lo10.trans (hbxw14.mono (by omega))
 clear k9 lo10 hbxw14
 have CS18 := fun w N hN => Refine_all 4 true (lowR1 (obR tAny)) (cR y) false w N hN
 rw [F0.out] at CS18
 go_upto_region 3 with fail
 refine wp_mid (fun ac (zb : Nat × Nat) => (((((((((((((ac.put (some 20) (Value.agg (cellsOf (rC (lowR1 (obR tAny))) 6))).put (some 21) (Yv y)).put (some 22) (Q y)).put (some 23) (Value.agg (cellsOf (rC (cR y)) 6))).put (some 24) (Value.bool false)).put (some 25) (Value.tuple #[(Value.agg (cellsOf (rC (refF 4 true (lowR1 (obR tAny)) (cR y) false).1) 6)), (Value.agg (cellsOf (rC (refF 4 true (lowR1 (obR tAny)) (cR y) false).2.1) 6)), (Value.bool true)])).put (some 19) (Value.tuple #[(Value.agg (cellsOf (rC (refF 4 true (lowR1 (obR tAny)) (cR y) false).1) 6)), (Value.agg (cellsOf (rC (refF 4 true (lowR1 (obR tAny)) (cR y) false).2.1) 6)), (Value.bool true)])).put (some 26) (Value.agg (cellsOf (rC (refF 4 true (lowR1 (obR tAny)) (cR y) false).1) 6))).put (some 27) (Value.agg (cellsOf (rC (refF 4 true (lowR1 (obR tAny)) (cR y) false).2.1) 6))).put (some 28) (Value.bool true)).put (some 7) (.pointer (some ⟨zb.1, 0, none⟩))).put (some 8) (.pointer (some ⟨zb.2, 0, none⟩))).put (some 9) (Value.bool true))) (fun zb w' => Has w' zb.1 41 6 (rC (refF 4 true (lowR1 (obR tAny)) (cR y) false).1) ∧ Has w' zb.2 41 6 (rC (refF 4 true (lowR1 (obR tAny)) (cR y) false).2.1) ∧ zb.2 ≠ zb.1 ∧ M15 ≤ zb.1 ∧ M15 ≤ zb.2 ∧ Has w' b_xw4 41 6 (rC (lowR1 (obR tAny))) ∧ Below N w w') ?_ ?_
 ·refine wp_region_any (by kernel_rfl) ?_
  replace k16 : Has xw14.drew b_xw4 41 6 (rC (lowR1 (obR tAny))) := k16
  replace hM15 : Sz xw14.drew M15 := hM15
  replace lo17 : Below N w xw14.drew := lo17.drew
  change wpAny _ _ _ _ _ _ _ (World.drew _)
  generalize xw14.drew = xw20 at *
  refine wpAny_potL (lt := [8, 9]) (rem := [0, 1, 2, 3, 4, 5, 6, 7, 8, 9, 10, 11]) (FG M15 (fun j => if j = 0 then some (Value.agg (cellsOf (rC (lowR1 (obR tAny))) 6)) else if j = 1 then some (Yv y) else if j = 2 then some (Q y) else if j = 3 then some (Value.agg (cellsOf (rC (cR y)) 6)) else if j = 4 then some (Value.bool false) else if j = 5 then some (Value.tuple #[(Value.agg (cellsOf (rC (refF 4 true (lowR1 (obR tAny)) (cR y) false).1) 6)), (Value.agg (cellsOf (rC (refF 4 true (lowR1 (obR tAny)) (cR y) false).2.1) 6)), (Value.bool true)]) else if j = 6 then some (Value.tuple #[(Value.agg (cellsOf (rC (refF 4 true (lowR1 (obR tAny)) (cR y) false).1) 6)), (Value.agg (cellsOf (rC (refF 4 true (lowR1 (obR tAny)) (cR y) false).2.1) 6)), (Value.bool true)]) else if j = 7 then some (Value.agg (cellsOf (rC (refF 4 true (lowR1 (obR tAny)) (cR y) false).1) 6)) else if j = 8 then some (Value.agg (cellsOf (rC (refF 4 true (lowR1 (obR tAny)) (cR y) false).2.1) 6)) else if j = 9 then some (Value.bool true) else if j = 10 then none else none) (fun j => if j = 10 then (41, 6, rC zeroR) else (41, 6, rC zeroR))) (TwoN (fun j => if j = 0 then some (Value.agg (cellsOf (rC (lowR1 (obR tAny))) 6)) else if j = 1 then some (Yv y) else if j = 2 then some (Q y) else if j = 3 then some (Value.agg (cellsOf (rC (cR y)) 6)) else if j = 4 then some (Value.bool false) else if j = 5 then some (Value.tuple #[(Value.agg (cellsOf (rC (refF 4 true (lowR1 (obR tAny)) (cR y) false).1) 6)), (Value.agg (cellsOf (rC (refF 4 true (lowR1 (obR tAny)) (cR y) false).2.1) 6)), (Value.bool true)]) else if j = 6 then some (Value.tuple #[(Value.agg (cellsOf (rC (refF 4 true (lowR1 (obR tAny)) (cR y) false).1) 6)), (Value.agg (cellsOf (rC (refF 4 true (lowR1 (obR tAny)) (cR y) false).2.1) 6)), (Value.bool true)]) else if j = 7 then some (Value.agg (cellsOf (rC (refF 4 true (lowR1 (obR tAny)) (cR y) false).1) 6)) else if j = 8 then some (Value.agg (cellsOf (rC (refF 4 true (lowR1 (obR tAny)) (cR y) false).2.1) 6)) else if j = 9 then some (Value.bool true) else if j = 10 then none else none)) (Below M15 xw20) _ _ _ _ (by kernel_rfl) (size_dstG (by kernel_rfl)) (Below.refl _ _) ?_ ?_
  ·intro i hi ac wa hI ha hv
   simp only [List.mem_cons, List.not_mem_nil, or_false] at hi
   rcases hi with rfl | rfl | rfl | rfl | rfl | rfl | rfl | rfl | rfl | rfl | rfl | rfl
   ·exact potg_run rfl rfl (Value.agg (cellsOf (rC (lowR1 (obR tAny))) 6)) rfl (run_rw 41 (.tmp 5) rfl b_xw4 (ha 5 (not_dstG (by kernel_rfl))) 41 6 _ (Has.below k16 hI (Has.ltN k16 hM15)) undR szR) hM15 hI
   ·exact potg_run rfl rfl (Yv y) rfl (run_mv (x := (.tmp 1)) rfl _ (ha 1 (not_dstG (by kernel_rfl)))) hM15 hI
   ·obtain ⟨v1, hv1a, hv1b⟩ := hv 1 (by simp) (by kernel_rfl)
    have ev1 := hv1b.val rfl
    subst ev1
    exact potg_run rfl rfl (Q y) rfl (run_yu (x := (.tmp 21)) rfl undY und64 (hv1a 21 rfl) wa) hM15 hI
   ·obtain ⟨v2, hv2a, hv2b⟩ := hv 2 (by simp) (by kernel_rfl)
    have ev2 := hv2b.val rfl
    subst ev2
    exact potg_cl rfl rfl 28 _ _ rfl #[(Q y)] (by simp only [List.map_toArray, List.map_cons, List.map_nil, (show ac.eval (.tmp 22) = (Q y) from (hv2a 22 rfl))] <;> rfl) (by kernel_rfl) (Value.agg (cellsOf (rC (cR y)) 6)) (fun K hK => SConst_any y wa K hK) rfl hM15 hI
   ·exact potg_run rfl rfl (Value.bool false) rfl (run_mv (x := (.tmp 6)) rfl _ (ha 6 (not_dstG (by kernel_rfl)))) hM15 hI
   ·obtain ⟨v0, hv0a, hv0b⟩ := hv 0 (by simp) (by kernel_rfl)
    have ev0 := hv0b.val rfl
    subst ev0
    obtain ⟨v3, hv3a, hv3b⟩ := hv 3 (by simp) (by kernel_rfl)
    have ev3 := hv3b.val rfl
    subst ev3
    obtain ⟨v4, hv4a, hv4b⟩ := hv 4 (by simp) (by kernel_rfl)
    have ev4 := hv4b.val rfl
    subst ev4
    exact potg_cl rfl rfl 40 _ _ rfl #[(Value.int .i64 4), (Value.bool true), (Value.agg (cellsOf (rC (lowR1 (obR tAny))) 6)), (Value.agg (cellsOf (rC (cR y)) 6)), (Value.bool false)] (by simp only [List.map_toArray, List.map_cons, List.map_nil, (show ac.eval (.tmp 20) = (Value.agg (cellsOf (rC (lowR1 (obR tAny))) 6)) from (hv0a 20 rfl)), (show ac.eval (.tmp 23) = (Value.agg (cellsOf (rC (cR y)) 6)) from (hv3a 23 rfl)), (show ac.eval (.tmp 24) = (Value.bool false) from (hv4a 24 rfl))] <;> rfl) (by kernel_rfl) (Value.tuple #[(Value.agg (cellsOf (rC (refF 4 true (lowR1 (obR tAny)) (cR y) false).1) 6)), (Value.agg (cellsOf (rC (refF 4 true (lowR1 (obR tAny)) (cR y) false).2.1) 6)), (Value.bool true)]) (fun K hK => CS18 wa K hK) rfl hM15 hI
   ·obtain ⟨v5, hv5a, hv5b⟩ := hv 5 (by simp) (by kernel_rfl)
    have ev5 := hv5b.val rfl
    subst ev5
    exact potg_run rfl rfl (Value.tuple #[(Value.agg (cellsOf (rC (refF 4 true (lowR1 (obR tAny)) (cR y) false).1) 6)), (Value.agg (cellsOf (rC (refF 4 true (lowR1 (obR tAny)) (cR y) false).2.1) 6)), (Value.bool true)]) rfl (run_mv (x := (.tmp 25)) rfl _ (hv5a 25 rfl)) hM15 hI
   ·obtain ⟨v6, hv6a, hv6b⟩ := hv 6 (by simp) (by kernel_rfl)
    have ev6 := hv6b.val rfl
    subst ev6
    exact potg_run rfl rfl (Value.agg (cellsOf (rC (refF 4 true (lowR1 (obR tAny)) (cR y) false).1) 6)) rfl (run_ex (x := (.tmp 19)) rfl _ (hv6a 19 rfl) rfl) hM15 hI
   ·obtain ⟨v6, hv6a, hv6b⟩ := hv 6 (by simp) (by kernel_rfl)
    have ev6 := hv6b.val rfl
    subst ev6
    exact potg_run rfl rfl (Value.agg (cellsOf (rC (refF 4 true (lowR1 (obR tAny)) (cR y) false).2.1) 6)) rfl (run_ex (x := (.tmp 19)) rfl _ (hv6a 19 rfl) rfl) hM15 hI
   ·obtain ⟨v6, hv6a, hv6b⟩ := hv 6 (by simp) (by kernel_rfl)
    have ev6 := hv6b.val rfl
    subst ev6
    exact potg_run rfl rfl (Value.bool true) rfl (run_ex (x := (.tmp 19)) rfl _ (hv6a 19 rfl) rfl) hM15 hI
   ·exact potg_al rfl rfl rfl zeR rfl rfl hM15 hI
   ·exact potg_al rfl rfl rfl zeR rfl rfl hM15 hI
  ·intro L vals w5_19_ hb5_19_ hF hG hL
   have l0 := hL 0 (by simp) rfl
   have l1 := hL 1 (by simp) rfl
   have l2 := hL 2 (by simp) rfl
   have l3 := hL 3 (by simp) rfl
   have l4 := hL 4 (by simp) rfl
   have l5 := hL 5 (by simp) rfl
   have l6 := hL 6 (by simp) rfl
   have l7 := hL 7 (by simp) rfl
   have l10 := hL 10 (by simp) rfl
   have l11 := hL 11 (by simp) rfl
   clear hL
   cases c8 : L 8
   ·cases c9 : L 9
    ·have e_19_0 := (hF 0 (by simp) l0).val rfl
     have e_19_1 := (hF 1 (by simp) l1).val rfl
     have e_19_2 := (hF 2 (by simp) l2).val rfl
     have e_19_3 := (hF 3 (by simp) l3).val rfl
     have e_19_4 := (hF 4 (by simp) l4).val rfl
     have e_19_5 := (hF 5 (by simp) l5).val rfl
     have e_19_6 := (hF 6 (by simp) l6).val rfl
     have e_19_7 := (hF 7 (by simp) l7).val rfl
     obtain ⟨b_19_10, bl_19_10, e_19_10, h_19_10⟩ := (hF 10 (by simp) l10).al rfl rfl
     obtain ⟨b_19_11, bl_19_11, e_19_11, h_19_11⟩ := (hF 11 (by simp) l11).al rfl rfl
     have n_19_10_11 := hG 10 (by simp) 11 (by simp) (by omega) l10 l11 rfl rfl b_19_10 b_19_11 e_19_10 e_19_11
     clear hF hG
     rw [show left L [0, 1, 2, 3, 4, 5, 6, 7, 8, 9, 10, 11] = 2 from by simp [left, l0, l1, l2, l3, l4, l5, l6, l7, l10, l11, c8, c9]]
     refine wpAny_fuel (n := 5) (by kernel_rfl) ?_
     simp only [marks, puts, l0, l1, l2, l3, l4, l5, l6, l7, l10, l11, c8, c9, if_true, if_false, Bool.false_eq_true, dstOf, List.getElem?_toArray, List.getElem?_cons_succ, List.getElem?_cons_zero, Option.bind_some, Act.put, List.setIfInBounds_toArray, List.set_cons_succ, List.set_cons_zero, e_19_0, e_19_1, e_19_2, e_19_3, e_19_4, e_19_5, e_19_6, e_19_7, e_19_10, e_19_11]
     clear e_19_0 e_19_1 e_19_2 e_19_3 e_19_4 e_19_5 e_19_6 e_19_7 e_19_10 e_19_11 l0 l1 l2 l3 l4 l5 l6 l7 l10 l11 c8 c9
     have k21 := k16.below hb5_19_ (by omega)
     have lo22 := lo17.trans (hb5_19_.mono (by omega))
     obtain ⟨M5, hM5⟩ := sz_some w5_19_
     have lM5 := below_sz hb5_19_ hM15 hM5
     clear k16 lo17 hb5_19_
     refine wpAny_of_held (S := fun _ => True) _ _ _ _ ?_
     refine held_take (i := 8) (v := (Value.agg (cellsOf (rC (refF 4 true (lowR1 (obR tAny)) (cR y) false).2.1) 6))) (d := some 27) rfl (by kernel_rfl) (by kernel_rfl) (by kernel_rfl) (by kernel_rfl) (fun _ _ _ h => by cases h.1) (Or.inl ⟨by rfl, fun wq _ => run_ex (x := (.tmp 19)) rfl wq rfl rfl⟩) trivial ?_; simp only [pA]
     refine held_take (i := 9) (v := (Value.bool true)) (d := some 28) rfl (by kernel_rfl) (by kernel_rfl) (by kernel_rfl) (by kernel_rfl) (fun _ _ _ h => by cases h.1) (Or.inl ⟨by rfl, fun wq _ => run_ex (x := (.tmp 19)) rfl wq rfl rfl⟩) trivial ?_; simp only [pA]
     refine wpAnyH_all (rs := [12]) (by kernel_rfl) (by simp) ?_
     intro iq hiq; simp only [List.mem_singleton] at hiq; subst hiq
     refine opg_list rfl ?_
     refine wpl_storeN (by rfl) (by kernel_rfl) 41 (.tmp 7) (.tmp 26) rfl b_19_10 6 (rC (refF 4 true (lowR1 (obR tAny)) (cR y) false).1) rfl rfl 41 _ h_19_10 szR (fun j _ => rC_one _ j) ?_
     intro xw23 t24 k25; try simp only [pA]
     have k26 := k21.touch t24 (by omega)
     have k27 := h_19_11.touch t24 (by omega)
     have lo28 := t24.below lo22 (by omega)
     have h29 := t24.sz hM5
     clear h_19_10 k21 h_19_11 lo22 hM5 t24
     refine ⟨trivial, ?_⟩
     refine wpAnyH_all (rs := [13]) (by kernel_rfl) (by simp) ?_
     intro iq hiq; simp only [List.mem_singleton] at hiq; subst hiq
     refine opg_list rfl ?_
     refine wpl_storeN (by rfl) (by kernel_rfl) 41 (.tmp 8) (.tmp 27) rfl b_19_11 6 (rC (refF 4 true (lowR1 (obR tAny)) (cR y) false).2.1) rfl rfl 41 _ k27 szR (fun j _ => rC_one _ j) ?_
     intro xw30 t31 k32; try simp only [pA]
     have k33 := k26.touch t31 (by omega)
     have k34 := k25.touch t31 (by omega)
     have lo35 := t31.below lo28 (by omega)
     have h36 := t31.sz h29
     clear k27 k26 k25 lo28 h29 t31
     refine ⟨trivial, ?_⟩
     refine wpAnyH_all (rs := [14]) (by kernel_rfl) (by simp) ?_
     intro iq hiq; simp only [List.mem_singleton] at hiq; subst hiq
     refine opg_list rfl ?_
     refine wpl_runD rfl (d := some 9) rfl (Value.bool true) (run_as (x := (.tmp 28)) rfl _ rfl) ?_; simp only [pA]
     refine ⟨trivial, ?_⟩
     refine wpAnyH_done (by kernel_rfl) ?_ _
     refine ⟨rfl, (b_19_10, b_19_11), (by simp only [pA]), k34, k32, (Ne.symm n_19_10_11), bl_19_10, bl_19_11, k33, lo35⟩
    ·have e_19_0 := (hF 0 (by simp) l0).val rfl
     have e_19_1 := (hF 1 (by simp) l1).val rfl
     have e_19_2 := (hF 2 (by simp) l2).val rfl
     have e_19_3 := (hF 3 (by simp) l3).val rfl
     have e_19_4 := (hF 4 (by simp) l4).val rfl
     have e_19_5 := (hF 5 (by simp) l5).val rfl
     have e_19_6 := (hF 6 (by simp) l6).val rfl
     have e_19_7 := (hF 7 (by simp) l7).val rfl
     have e_19_9 := (hF 9 (by simp) c9).val rfl
     obtain ⟨b_19_10, bl_19_10, e_19_10, h_19_10⟩ := (hF 10 (by simp) l10).al rfl rfl
     obtain ⟨b_19_11, bl_19_11, e_19_11, h_19_11⟩ := (hF 11 (by simp) l11).al rfl rfl
     have n_19_10_11 := hG 10 (by simp) 11 (by simp) (by omega) l10 l11 rfl rfl b_19_10 b_19_11 e_19_10 e_19_11
     clear hF hG
     rw [show left L [0, 1, 2, 3, 4, 5, 6, 7, 8, 9, 10, 11] = 1 from by simp [left, l0, l1, l2, l3, l4, l5, l6, l7, l10, l11, c8, c9]]
     refine wpAny_fuel (n := 4) (by kernel_rfl) ?_
     simp only [marks, puts, l0, l1, l2, l3, l4, l5, l6, l7, l10, l11, c8, c9, if_true, if_false, Bool.false_eq_true, dstOf, List.getElem?_toArray, List.getElem?_cons_succ, List.getElem?_cons_zero, Option.bind_some, Act.put, List.setIfInBounds_toArray, List.set_cons_succ, List.set_cons_zero, e_19_0, e_19_1, e_19_2, e_19_3, e_19_4, e_19_5, e_19_6, e_19_7, e_19_9, e_19_10, e_19_11]
     clear e_19_0 e_19_1 e_19_2 e_19_3 e_19_4 e_19_5 e_19_6 e_19_7 e_19_9 e_19_10 e_19_11 l0 l1 l2 l3 l4 l5 l6 l7 l10 l11 c8 c9
     have k21 := k16.below hb5_19_ (by omega)
     have lo22 := lo17.trans (hb5_19_.mono (by omega))
     obtain ⟨M5, hM5⟩ := sz_some w5_19_
     have lM5 := below_sz hb5_19_ hM15 hM5
     clear k16 lo17 hb5_19_
     refine wpAny_of_held (S := fun _ => True) _ _ _ _ ?_
     refine held_take (i := 8) (v := (Value.agg (cellsOf (rC (refF 4 true (lowR1 (obR tAny)) (cR y) false).2.1) 6))) (d := some 27) rfl (by kernel_rfl) (by kernel_rfl) (by kernel_rfl) (by kernel_rfl) (fun _ _ _ h => by cases h.1) (Or.inl ⟨by rfl, fun wq _ => run_ex (x := (.tmp 19)) rfl wq rfl rfl⟩) trivial ?_; simp only [pA]
     refine wpAnyH_all (rs := [12]) (by kernel_rfl) (by simp) ?_
     intro iq hiq; simp only [List.mem_singleton] at hiq; subst hiq
     refine opg_list rfl ?_
     refine wpl_storeN (by rfl) (by kernel_rfl) 41 (.tmp 7) (.tmp 26) rfl b_19_10 6 (rC (refF 4 true (lowR1 (obR tAny)) (cR y) false).1) rfl rfl 41 _ h_19_10 szR (fun j _ => rC_one _ j) ?_
     intro xw23 t24 k25; try simp only [pA]
     have k26 := k21.touch t24 (by omega)
     have k27 := h_19_11.touch t24 (by omega)
     have lo28 := t24.below lo22 (by omega)
     have h29 := t24.sz hM5
     clear h_19_10 k21 h_19_11 lo22 hM5 t24
     refine ⟨trivial, ?_⟩
     refine wpAnyH_all (rs := [13]) (by kernel_rfl) (by simp) ?_
     intro iq hiq; simp only [List.mem_singleton] at hiq; subst hiq
     refine opg_list rfl ?_
     refine wpl_storeN (by rfl) (by kernel_rfl) 41 (.tmp 8) (.tmp 27) rfl b_19_11 6 (rC (refF 4 true (lowR1 (obR tAny)) (cR y) false).2.1) rfl rfl 41 _ k27 szR (fun j _ => rC_one _ j) ?_
     intro xw30 t31 k32; try simp only [pA]
     have k33 := k26.touch t31 (by omega)
     have k34 := k25.touch t31 (by omega)
     have lo35 := t31.below lo28 (by omega)
     have h36 := t31.sz h29
     clear k27 k26 k25 lo28 h29 t31
     refine ⟨trivial, ?_⟩
     refine wpAnyH_all (rs := [14]) (by kernel_rfl) (by simp) ?_
     intro iq hiq; simp only [List.mem_singleton] at hiq; subst hiq
     refine opg_list rfl ?_
     refine wpl_runD rfl (d := some 9) rfl (Value.bool true) (run_as (x := (.tmp 28)) rfl _ rfl) ?_; simp only [pA]
     refine ⟨trivial, ?_⟩
     refine wpAnyH_done (by kernel_rfl) ?_ _
     refine ⟨rfl, (b_19_10, b_19_11), (by simp only [pA]), k34, k32, (Ne.symm n_19_10_11), bl_19_10, bl_19_11, k33, lo35⟩
   ·cases c9 : L 9
    ·have e_19_0 := (hF 0 (by simp) l0).val rfl
     have e_19_1 := (hF 1 (by simp) l1).val rfl
     have e_19_2 := (hF 2 (by simp) l2).val rfl
     have e_19_3 := (hF 3 (by simp) l3).val rfl
     have e_19_4 := (hF 4 (by simp) l4).val rfl
     have e_19_5 := (hF 5 (by simp) l5).val rfl
     have e_19_6 := (hF 6 (by simp) l6).val rfl
     have e_19_7 := (hF 7 (by simp) l7).val rfl
     have e_19_8 := (hF 8 (by simp) c8).val rfl
     obtain ⟨b_19_10, bl_19_10, e_19_10, h_19_10⟩ := (hF 10 (by simp) l10).al rfl rfl
     obtain ⟨b_19_11, bl_19_11, e_19_11, h_19_11⟩ := (hF 11 (by simp) l11).al rfl rfl
     have n_19_10_11 := hG 10 (by simp) 11 (by simp) (by omega) l10 l11 rfl rfl b_19_10 b_19_11 e_19_10 e_19_11
     clear hF hG
     rw [show left L [0, 1, 2, 3, 4, 5, 6, 7, 8, 9, 10, 11] = 1 from by simp [left, l0, l1, l2, l3, l4, l5, l6, l7, l10, l11, c8, c9]]
     refine wpAny_fuel (n := 4) (by kernel_rfl) ?_
     simp only [marks, puts, l0, l1, l2, l3, l4, l5, l6, l7, l10, l11, c8, c9, if_true, if_false, Bool.false_eq_true, dstOf, List.getElem?_toArray, List.getElem?_cons_succ, List.getElem?_cons_zero, Option.bind_some, Act.put, List.setIfInBounds_toArray, List.set_cons_succ, List.set_cons_zero, e_19_0, e_19_1, e_19_2, e_19_3, e_19_4, e_19_5, e_19_6, e_19_7, e_19_8, e_19_10, e_19_11]
     clear e_19_0 e_19_1 e_19_2 e_19_3 e_19_4 e_19_5 e_19_6 e_19_7 e_19_8 e_19_10 e_19_11 l0 l1 l2 l3 l4 l5 l6 l7 l10 l11 c8 c9
     have k21 := k16.below hb5_19_ (by omega)
     have lo22 := lo17.trans (hb5_19_.mono (by omega))
     obtain ⟨M5, hM5⟩ := sz_some w5_19_
     have lM5 := below_sz hb5_19_ hM15 hM5
     clear k16 lo17 hb5_19_
     refine wpAny_of_held (S := fun _ => True) _ _ _ _ ?_
     refine held_take (i := 9) (v := (Value.bool true)) (d := some 28) rfl (by kernel_rfl) (by kernel_rfl) (by kernel_rfl) (by kernel_rfl) (fun _ _ _ h => by cases h.1) (Or.inl ⟨by rfl, fun wq _ => run_ex (x := (.tmp 19)) rfl wq rfl rfl⟩) trivial ?_; simp only [pA]
     refine wpAnyH_all (rs := [12]) (by kernel_rfl) (by simp) ?_
     intro iq hiq; simp only [List.mem_singleton] at hiq; subst hiq
     refine opg_list rfl ?_
     refine wpl_storeN (by rfl) (by kernel_rfl) 41 (.tmp 7) (.tmp 26) rfl b_19_10 6 (rC (refF 4 true (lowR1 (obR tAny)) (cR y) false).1) rfl rfl 41 _ h_19_10 szR (fun j _ => rC_one _ j) ?_
     intro xw23 t24 k25; try simp only [pA]
     have k26 := k21.touch t24 (by omega)
     have k27 := h_19_11.touch t24 (by omega)
     have lo28 := t24.below lo22 (by omega)
     have h29 := t24.sz hM5
     clear h_19_10 k21 h_19_11 lo22 hM5 t24
     refine ⟨trivial, ?_⟩
     refine wpAnyH_all (rs := [13]) (by kernel_rfl) (by simp) ?_
     intro iq hiq; simp only [List.mem_singleton] at hiq; subst hiq
     refine opg_list rfl ?_
     refine wpl_storeN (by rfl) (by kernel_rfl) 41 (.tmp 8) (.tmp 27) rfl b_19_11 6 (rC (refF 4 true (lowR1 (obR tAny)) (cR y) false).2.1) rfl rfl 41 _ k27 szR (fun j _ => rC_one _ j) ?_
     intro xw30 t31 k32; try simp only [pA]
     have k33 := k26.touch t31 (by omega)
     have k34 := k25.touch t31 (by omega)
     have lo35 := t31.below lo28 (by omega)
     have h36 := t31.sz h29
     clear k27 k26 k25 lo28 h29 t31
     refine ⟨trivial, ?_⟩
     refine wpAnyH_all (rs := [14]) (by kernel_rfl) (by simp) ?_
     intro iq hiq; simp only [List.mem_singleton] at hiq; subst hiq
     refine opg_list rfl ?_
     refine wpl_runD rfl (d := some 9) rfl (Value.bool true) (run_as (x := (.tmp 28)) rfl _ rfl) ?_; simp only [pA]
     refine ⟨trivial, ?_⟩
     refine wpAnyH_done (by kernel_rfl) ?_ _
     refine ⟨rfl, (b_19_10, b_19_11), (by simp only [pA]), k34, k32, (Ne.symm n_19_10_11), bl_19_10, bl_19_11, k33, lo35⟩
    ·have e_19_0 := (hF 0 (by simp) l0).val rfl
     have e_19_1 := (hF 1 (by simp) l1).val rfl
     have e_19_2 := (hF 2 (by simp) l2).val rfl
     have e_19_3 := (hF 3 (by simp) l3).val rfl
     have e_19_4 := (hF 4 (by simp) l4).val rfl
     have e_19_5 := (hF 5 (by simp) l5).val rfl
     have e_19_6 := (hF 6 (by simp) l6).val rfl
     have e_19_7 := (hF 7 (by simp) l7).val rfl
     have e_19_8 := (hF 8 (by simp) c8).val rfl
     have e_19_9 := (hF 9 (by simp) c9).val rfl
     obtain ⟨b_19_10, bl_19_10, e_19_10, h_19_10⟩ := (hF 10 (by simp) l10).al rfl rfl
     obtain ⟨b_19_11, bl_19_11, e_19_11, h_19_11⟩ := (hF 11 (by simp) l11).al rfl rfl
     have n_19_10_11 := hG 10 (by simp) 11 (by simp) (by omega) l10 l11 rfl rfl b_19_10 b_19_11 e_19_10 e_19_11
     clear hF hG
     rw [show left L [0, 1, 2, 3, 4, 5, 6, 7, 8, 9, 10, 11] = 0 from by simp [left, l0, l1, l2, l3, l4, l5, l6, l7, l10, l11, c8, c9]]
     refine wpAny_fuel (n := 3) (by kernel_rfl) ?_
     simp only [marks, puts, l0, l1, l2, l3, l4, l5, l6, l7, l10, l11, c8, c9, if_true, if_false, Bool.false_eq_true, dstOf, List.getElem?_toArray, List.getElem?_cons_succ, List.getElem?_cons_zero, Option.bind_some, Act.put, List.setIfInBounds_toArray, List.set_cons_succ, List.set_cons_zero, e_19_0, e_19_1, e_19_2, e_19_3, e_19_4, e_19_5, e_19_6, e_19_7, e_19_8, e_19_9, e_19_10, e_19_11]
     clear e_19_0 e_19_1 e_19_2 e_19_3 e_19_4 e_19_5 e_19_6 e_19_7 e_19_8 e_19_9 e_19_10 e_19_11 l0 l1 l2 l3 l4 l5 l6 l7 l10 l11 c8 c9
     have k21 := k16.below hb5_19_ (by omega)
     have lo22 := lo17.trans (hb5_19_.mono (by omega))
     obtain ⟨M5, hM5⟩ := sz_some w5_19_
     have lM5 := below_sz hb5_19_ hM15 hM5
     clear k16 lo17 hb5_19_
     refine wpAny_of_held (S := fun _ => True) _ _ _ _ ?_
     refine wpAnyH_all (rs := [12]) (by kernel_rfl) (by simp) ?_
     intro iq hiq; simp only [List.mem_singleton] at hiq; subst hiq
     refine opg_list rfl ?_
     refine wpl_storeN (by rfl) (by kernel_rfl) 41 (.tmp 7) (.tmp 26) rfl b_19_10 6 (rC (refF 4 true (lowR1 (obR tAny)) (cR y) false).1) rfl rfl 41 _ h_19_10 szR (fun j _ => rC_one _ j) ?_
     intro xw23 t24 k25; try simp only [pA]
     have k26 := k21.touch t24 (by omega)
     have k27 := h_19_11.touch t24 (by omega)
     have lo28 := t24.below lo22 (by omega)
     have h29 := t24.sz hM5
     clear h_19_10 k21 h_19_11 lo22 hM5 t24
     refine ⟨trivial, ?_⟩
     refine wpAnyH_all (rs := [13]) (by kernel_rfl) (by simp) ?_
     intro iq hiq; simp only [List.mem_singleton] at hiq; subst hiq
     refine opg_list rfl ?_
     refine wpl_storeN (by rfl) (by kernel_rfl) 41 (.tmp 8) (.tmp 27) rfl b_19_11 6 (rC (refF 4 true (lowR1 (obR tAny)) (cR y) false).2.1) rfl rfl 41 _ k27 szR (fun j _ => rC_one _ j) ?_
     intro xw30 t31 k32; try simp only [pA]
     have k33 := k26.touch t31 (by omega)
     have k34 := k25.touch t31 (by omega)
     have lo35 := t31.below lo28 (by omega)
     have h36 := t31.sz h29
     clear k27 k26 k25 lo28 h29 t31
     refine ⟨trivial, ?_⟩
     refine wpAnyH_all (rs := [14]) (by kernel_rfl) (by simp) ?_
     intro iq hiq; simp only [List.mem_singleton] at hiq; subst hiq
     refine opg_list rfl ?_
     refine wpl_runD rfl (d := some 9) rfl (Value.bool true) (run_as (x := (.tmp 28)) rfl _ rfl) ?_; simp only [pA]
     refine ⟨trivial, ?_⟩
     refine wpAnyH_done (by kernel_rfl) ?_ _
     refine ⟨rfl, (b_19_10, b_19_11), (by simp only [pA]), k34, k32, (Ne.symm n_19_10_11), bl_19_10, bl_19_11, k33, lo35⟩
 ·clear k16 lo17
  rintro ⟨b_19_x0, b_19_x1⟩ xw24 ⟨k20, k21, ne25, lb_19_x0, lb_19_x1, k22, lo23⟩
  try dsimp only at *
  try simp only [pA]
  obtain ⟨M26, hM26⟩ := sz_some xw24
  have lt_27 := k22.ltN hM26
  have lt_28 := k20.ltN hM26
  have lt_29 := k21.ltN hM26
  have CS30 := fun w N hN => Refine_all 1 true (lowR1 (obR tAny)) (cR y) true w N hN
  rw [F2.out] at CS30
  go_upto_region 4 with fail
  refine wp_mid (fun ac (zb : Nat × Nat) => ((((((((((((ac.put (some 30) (Value.agg (cellsOf (rC (lowR1 (obR tAny))) 6))).put (some 31) (Yv y)).put (some 32) (Q y)).put (some 33) (Value.agg (cellsOf (rC (cR y)) 6))).put (some 34) (Value.tuple #[(Value.agg (cellsOf (rC (refF 1 true (lowR1 (obR tAny)) (cR y) true).1) 6)), (Value.agg (cellsOf (rC (refF 1 true (lowR1 (obR tAny)) (cR y) true).2.1) 6)), (Value.bool true)])).put (some 29) (Value.tuple #[(Value.agg (cellsOf (rC (refF 1 true (lowR1 (obR tAny)) (cR y) true).1) 6)), (Value.agg (cellsOf (rC (refF 1 true (lowR1 (obR tAny)) (cR y) true).2.1) 6)), (Value.bool true)])).put (some 35) (Value.agg (cellsOf (rC (refF 1 true (lowR1 (obR tAny)) (cR y) true).1) 6))).put (some 36) (Value.agg (cellsOf (rC (refF 1 true (lowR1 (obR tAny)) (cR y) true).2.1) 6))).put (some 37) (Value.bool true)).put (some 10) (.pointer (some ⟨zb.1, 0, none⟩))).put (some 11) (.pointer (some ⟨zb.2, 0, none⟩))).put (some 12) (Value.bool true))) (fun zb w' => Has w' zb.1 41 6 (rC (refF 1 true (lowR1 (obR tAny)) (cR y) true).1) ∧ Has w' zb.2 41 6 (rC (refF 1 true (lowR1 (obR tAny)) (cR y) true).2.1) ∧ zb.2 ≠ zb.1 ∧ M26 ≤ zb.1 ∧ M26 ≤ zb.2 ∧ Has w' b_xw4 41 6 (rC (lowR1 (obR tAny))) ∧ Has w' b_19_x0 41 6 (rC (refF 4 true (lowR1 (obR tAny)) (cR y) false).1) ∧ Has w' b_19_x1 41 6 (rC (refF 4 true (lowR1 (obR tAny)) (cR y) false).2.1) ∧ Below N w w') ?_ ?_
  ·refine wp_region_any (by kernel_rfl) ?_
   replace k22 : Has xw24.drew b_xw4 41 6 (rC (lowR1 (obR tAny))) := k22
   replace k20 : Has xw24.drew b_19_x0 41 6 (rC (refF 4 true (lowR1 (obR tAny)) (cR y) false).1) := k20
   replace k21 : Has xw24.drew b_19_x1 41 6 (rC (refF 4 true (lowR1 (obR tAny)) (cR y) false).2.1) := k21
   replace hM26 : Sz xw24.drew M26 := hM26
   replace lo23 : Below N w xw24.drew := lo23.drew
   change wpAny _ _ _ _ _ _ _ (World.drew _)
   generalize xw24.drew = xw32 at *
   refine wpAny_potL (lt := [7, 8]) (rem := [0, 1, 2, 3, 4, 5, 6, 7, 8, 9, 10]) (FG M26 (fun j => if j = 0 then some (Value.agg (cellsOf (rC (lowR1 (obR tAny))) 6)) else if j = 1 then some (Yv y) else if j = 2 then some (Q y) else if j = 3 then some (Value.agg (cellsOf (rC (cR y)) 6)) else if j = 4 then some (Value.tuple #[(Value.agg (cellsOf (rC (refF 1 true (lowR1 (obR tAny)) (cR y) true).1) 6)), (Value.agg (cellsOf (rC (refF 1 true (lowR1 (obR tAny)) (cR y) true).2.1) 6)), (Value.bool true)]) else if j = 5 then some (Value.tuple #[(Value.agg (cellsOf (rC (refF 1 true (lowR1 (obR tAny)) (cR y) true).1) 6)), (Value.agg (cellsOf (rC (refF 1 true (lowR1 (obR tAny)) (cR y) true).2.1) 6)), (Value.bool true)]) else if j = 6 then some (Value.agg (cellsOf (rC (refF 1 true (lowR1 (obR tAny)) (cR y) true).1) 6)) else if j = 7 then some (Value.agg (cellsOf (rC (refF 1 true (lowR1 (obR tAny)) (cR y) true).2.1) 6)) else if j = 8 then some (Value.bool true) else if j = 9 then none else none) (fun j => if j = 9 then (41, 6, rC zeroR) else (41, 6, rC zeroR))) (TwoN (fun j => if j = 0 then some (Value.agg (cellsOf (rC (lowR1 (obR tAny))) 6)) else if j = 1 then some (Yv y) else if j = 2 then some (Q y) else if j = 3 then some (Value.agg (cellsOf (rC (cR y)) 6)) else if j = 4 then some (Value.tuple #[(Value.agg (cellsOf (rC (refF 1 true (lowR1 (obR tAny)) (cR y) true).1) 6)), (Value.agg (cellsOf (rC (refF 1 true (lowR1 (obR tAny)) (cR y) true).2.1) 6)), (Value.bool true)]) else if j = 5 then some (Value.tuple #[(Value.agg (cellsOf (rC (refF 1 true (lowR1 (obR tAny)) (cR y) true).1) 6)), (Value.agg (cellsOf (rC (refF 1 true (lowR1 (obR tAny)) (cR y) true).2.1) 6)), (Value.bool true)]) else if j = 6 then some (Value.agg (cellsOf (rC (refF 1 true (lowR1 (obR tAny)) (cR y) true).1) 6)) else if j = 7 then some (Value.agg (cellsOf (rC (refF 1 true (lowR1 (obR tAny)) (cR y) true).2.1) 6)) else if j = 8 then some (Value.bool true) else if j = 9 then none else none)) (Below M26 xw32) _ _ _ _ (by kernel_rfl) (size_dstG (by kernel_rfl)) (Below.refl _ _) ?_ ?_
   ·intro i hi ac wa hI ha hv
    simp only [List.mem_cons, List.not_mem_nil, or_false] at hi
    rcases hi with rfl | rfl | rfl | rfl | rfl | rfl | rfl | rfl | rfl | rfl | rfl
    ·exact potg_run rfl rfl (Value.agg (cellsOf (rC (lowR1 (obR tAny))) 6)) rfl (run_rw 41 (.tmp 5) rfl b_xw4 (ha 5 (not_dstG (by kernel_rfl))) 41 6 _ (Has.below k22 hI (Has.ltN k22 hM26)) undR szR) hM26 hI
    ·exact potg_run rfl rfl (Yv y) rfl (run_mv (x := (.tmp 1)) rfl _ (ha 1 (not_dstG (by kernel_rfl)))) hM26 hI
    ·obtain ⟨v1, hv1a, hv1b⟩ := hv 1 (by simp) (by kernel_rfl)
     have ev1 := hv1b.val rfl
     subst ev1
     exact potg_run rfl rfl (Q y) rfl (run_yu (x := (.tmp 31)) rfl undY und64 (hv1a 31 rfl) wa) hM26 hI
    ·obtain ⟨v2, hv2a, hv2b⟩ := hv 2 (by simp) (by kernel_rfl)
     have ev2 := hv2b.val rfl
     subst ev2
     exact potg_cl rfl rfl 28 _ _ rfl #[(Q y)] (by simp only [List.map_toArray, List.map_cons, List.map_nil, (show ac.eval (.tmp 32) = (Q y) from (hv2a 32 rfl))] <;> rfl) (by kernel_rfl) (Value.agg (cellsOf (rC (cR y)) 6)) (fun K hK => SConst_any y wa K hK) rfl hM26 hI
    ·obtain ⟨v0, hv0a, hv0b⟩ := hv 0 (by simp) (by kernel_rfl)
     have ev0 := hv0b.val rfl
     subst ev0
     obtain ⟨v3, hv3a, hv3b⟩ := hv 3 (by simp) (by kernel_rfl)
     have ev3 := hv3b.val rfl
     subst ev3
     exact potg_cl rfl rfl 40 _ _ rfl #[(Value.int .i64 1), (Value.bool true), (Value.agg (cellsOf (rC (lowR1 (obR tAny))) 6)), (Value.agg (cellsOf (rC (cR y)) 6)), (Value.bool true)] (by simp only [List.map_toArray, List.map_cons, List.map_nil, (show ac.eval (.tmp 30) = (Value.agg (cellsOf (rC (lowR1 (obR tAny))) 6)) from (hv0a 30 rfl)), (show ac.eval (.tmp 33) = (Value.agg (cellsOf (rC (cR y)) 6)) from (hv3a 33 rfl))] <;> rfl) (by kernel_rfl) (Value.tuple #[(Value.agg (cellsOf (rC (refF 1 true (lowR1 (obR tAny)) (cR y) true).1) 6)), (Value.agg (cellsOf (rC (refF 1 true (lowR1 (obR tAny)) (cR y) true).2.1) 6)), (Value.bool true)]) (fun K hK => CS30 wa K hK) rfl hM26 hI
    ·obtain ⟨v4, hv4a, hv4b⟩ := hv 4 (by simp) (by kernel_rfl)
     have ev4 := hv4b.val rfl
     subst ev4
     exact potg_run rfl rfl (Value.tuple #[(Value.agg (cellsOf (rC (refF 1 true (lowR1 (obR tAny)) (cR y) true).1) 6)), (Value.agg (cellsOf (rC (refF 1 true (lowR1 (obR tAny)) (cR y) true).2.1) 6)), (Value.bool true)]) rfl (run_mv (x := (.tmp 34)) rfl _ (hv4a 34 rfl)) hM26 hI
    ·obtain ⟨v5, hv5a, hv5b⟩ := hv 5 (by simp) (by kernel_rfl)
     have ev5 := hv5b.val rfl
     subst ev5
     exact potg_run rfl rfl (Value.agg (cellsOf (rC (refF 1 true (lowR1 (obR tAny)) (cR y) true).1) 6)) rfl (run_ex (x := (.tmp 29)) rfl _ (hv5a 29 rfl) rfl) hM26 hI
    ·obtain ⟨v5, hv5a, hv5b⟩ := hv 5 (by simp) (by kernel_rfl)
     have ev5 := hv5b.val rfl
     subst ev5
     exact potg_run rfl rfl (Value.agg (cellsOf (rC (refF 1 true (lowR1 (obR tAny)) (cR y) true).2.1) 6)) rfl (run_ex (x := (.tmp 29)) rfl _ (hv5a 29 rfl) rfl) hM26 hI
    ·obtain ⟨v5, hv5a, hv5b⟩ := hv 5 (by simp) (by kernel_rfl)
     have ev5 := hv5b.val rfl
     subst ev5
     exact potg_run rfl rfl (Value.bool true) rfl (run_ex (x := (.tmp 29)) rfl _ (hv5a 29 rfl) rfl) hM26 hI
    ·exact potg_al rfl rfl rfl zeR rfl rfl hM26 hI
    ·exact potg_al rfl rfl rfl zeR rfl rfl hM26 hI
   ·intro L vals w5_31_ hb5_31_ hF hG hL
    have l0 := hL 0 (by simp) rfl
    have l1 := hL 1 (by simp) rfl
    have l2 := hL 2 (by simp) rfl
    have l3 := hL 3 (by simp) rfl
    have l4 := hL 4 (by simp) rfl
    have l5 := hL 5 (by simp) rfl
    have l6 := hL 6 (by simp) rfl
    have l9 := hL 9 (by simp) rfl
    have l10 := hL 10 (by simp) rfl
    clear hL
    cases c7 : L 7
    ·cases c8 : L 8
     ·have e_31_0 := (hF 0 (by simp) l0).val rfl
      have e_31_1 := (hF 1 (by simp) l1).val rfl
      have e_31_2 := (hF 2 (by simp) l2).val rfl
      have e_31_3 := (hF 3 (by simp) l3).val rfl
      have e_31_4 := (hF 4 (by simp) l4).val rfl
      have e_31_5 := (hF 5 (by simp) l5).val rfl
      have e_31_6 := (hF 6 (by simp) l6).val rfl
      obtain ⟨b_31_9, bl_31_9, e_31_9, h_31_9⟩ := (hF 9 (by simp) l9).al rfl rfl
      obtain ⟨b_31_10, bl_31_10, e_31_10, h_31_10⟩ := (hF 10 (by simp) l10).al rfl rfl
      have n_31_9_10 := hG 9 (by simp) 10 (by simp) (by omega) l9 l10 rfl rfl b_31_9 b_31_10 e_31_9 e_31_10
      clear hF hG
      rw [show left L [0, 1, 2, 3, 4, 5, 6, 7, 8, 9, 10] = 2 from by simp [left, l0, l1, l2, l3, l4, l5, l6, l9, l10, c7, c8]]
      refine wpAny_fuel (n := 5) (by kernel_rfl) ?_
      simp only [marks, puts, l0, l1, l2, l3, l4, l5, l6, l9, l10, c7, c8, if_true, if_false, Bool.false_eq_true, dstOf, List.getElem?_toArray, List.getElem?_cons_succ, List.getElem?_cons_zero, Option.bind_some, Act.put, List.setIfInBounds_toArray, List.set_cons_succ, List.set_cons_zero, e_31_0, e_31_1, e_31_2, e_31_3, e_31_4, e_31_5, e_31_6, e_31_9, e_31_10]
      clear e_31_0 e_31_1 e_31_2 e_31_3 e_31_4 e_31_5 e_31_6 e_31_9 e_31_10 l0 l1 l2 l3 l4 l5 l6 l9 l10 c7 c8
      have k33 := k22.below hb5_31_ (by omega)
      have k34 := k20.below hb5_31_ (by omega)
      have k35 := k21.below hb5_31_ (by omega)
      have lo36 := lo23.trans (hb5_31_.mono (by omega))
      obtain ⟨M5, hM5⟩ := sz_some w5_31_
      have lM5 := below_sz hb5_31_ hM26 hM5
      clear k22 k20 k21 lo23 hb5_31_
      refine wpAny_of_held (S := fun _ => True) _ _ _ _ ?_
      refine held_take (i := 7) (v := (Value.agg (cellsOf (rC (refF 1 true (lowR1 (obR tAny)) (cR y) true).2.1) 6))) (d := some 36) rfl (by kernel_rfl) (by kernel_rfl) (by kernel_rfl) (by kernel_rfl) (fun _ _ _ h => by cases h.1) (Or.inl ⟨by rfl, fun wq _ => run_ex (x := (.tmp 29)) rfl wq rfl rfl⟩) trivial ?_; simp only [pA]
      refine held_take (i := 8) (v := (Value.bool true)) (d := some 37) rfl (by kernel_rfl) (by kernel_rfl) (by kernel_rfl) (by kernel_rfl) (fun _ _ _ h => by cases h.1) (Or.inl ⟨by rfl, fun wq _ => run_ex (x := (.tmp 29)) rfl wq rfl rfl⟩) trivial ?_; simp only [pA]
      refine wpAnyH_all (rs := [11]) (by kernel_rfl) (by simp) ?_
      intro iq hiq; simp only [List.mem_singleton] at hiq; subst hiq
      refine opg_list rfl ?_
      refine wpl_storeN (by rfl) (by kernel_rfl) 41 (.tmp 10) (.tmp 35) rfl b_31_9 6 (rC (refF 1 true (lowR1 (obR tAny)) (cR y) true).1) rfl rfl 41 _ h_31_9 szR (fun j _ => rC_one _ j) ?_
      intro xw37 t38 k39; try simp only [pA]
      have k40 := k33.touch t38 (by omega)
      have k41 := k34.touch t38 (by omega)
      have k42 := k35.touch t38 (by omega)
      have k43 := h_31_10.touch t38 (by omega)
      have lo44 := t38.below lo36 (by omega)
      have h45 := t38.sz hM5
      clear h_31_9 k33 k34 k35 h_31_10 lo36 hM5 t38
      refine ⟨trivial, ?_⟩
      refine wpAnyH_all (rs := [12]) (by kernel_rfl) (by simp) ?_
      intro iq hiq; simp only [List.mem_singleton] at hiq; subst hiq
      refine opg_list rfl ?_
      refine wpl_storeN (by rfl) (by kernel_rfl) 41 (.tmp 11) (.tmp 36) rfl b_31_10 6 (rC (refF 1 true (lowR1 (obR tAny)) (cR y) true).2.1) rfl rfl 41 _ k43 szR (fun j _ => rC_one _ j) ?_
      intro xw46 t47 k48; try simp only [pA]
      have k49 := k40.touch t47 (by omega)
      have k50 := k41.touch t47 (by omega)
      have k51 := k42.touch t47 (by omega)
      have k52 := k39.touch t47 (by omega)
      have lo53 := t47.below lo44 (by omega)
      have h54 := t47.sz h45
      clear k43 k40 k41 k42 k39 lo44 h45 t47
      refine ⟨trivial, ?_⟩
      refine wpAnyH_all (rs := [13]) (by kernel_rfl) (by simp) ?_
      intro iq hiq; simp only [List.mem_singleton] at hiq; subst hiq
      refine opg_list rfl ?_
      refine wpl_runD rfl (d := some 12) rfl (Value.bool true) (run_as (x := (.tmp 37)) rfl _ rfl) ?_; simp only [pA]
      refine ⟨trivial, ?_⟩
      refine wpAnyH_done (by kernel_rfl) ?_ _
      refine ⟨rfl, (b_31_9, b_31_10), (by simp only [pA]), k52, k48, (Ne.symm n_31_9_10), bl_31_9, bl_31_10, k49, k50, k51, lo53⟩
     ·have e_31_0 := (hF 0 (by simp) l0).val rfl
      have e_31_1 := (hF 1 (by simp) l1).val rfl
      have e_31_2 := (hF 2 (by simp) l2).val rfl
      have e_31_3 := (hF 3 (by simp) l3).val rfl
      have e_31_4 := (hF 4 (by simp) l4).val rfl
      have e_31_5 := (hF 5 (by simp) l5).val rfl
      have e_31_6 := (hF 6 (by simp) l6).val rfl
      have e_31_8 := (hF 8 (by simp) c8).val rfl
      obtain ⟨b_31_9, bl_31_9, e_31_9, h_31_9⟩ := (hF 9 (by simp) l9).al rfl rfl
      obtain ⟨b_31_10, bl_31_10, e_31_10, h_31_10⟩ := (hF 10 (by simp) l10).al rfl rfl
      have n_31_9_10 := hG 9 (by simp) 10 (by simp) (by omega) l9 l10 rfl rfl b_31_9 b_31_10 e_31_9 e_31_10
      clear hF hG
      rw [show left L [0, 1, 2, 3, 4, 5, 6, 7, 8, 9, 10] = 1 from by simp [left, l0, l1, l2, l3, l4, l5, l6, l9, l10, c7, c8]]
      refine wpAny_fuel (n := 4) (by kernel_rfl) ?_
      simp only [marks, puts, l0, l1, l2, l3, l4, l5, l6, l9, l10, c7, c8, if_true, if_false, Bool.false_eq_true, dstOf, List.getElem?_toArray, List.getElem?_cons_succ, List.getElem?_cons_zero, Option.bind_some, Act.put, List.setIfInBounds_toArray, List.set_cons_succ, List.set_cons_zero, e_31_0, e_31_1, e_31_2, e_31_3, e_31_4, e_31_5, e_31_6, e_31_8, e_31_9, e_31_10]
      clear e_31_0 e_31_1 e_31_2 e_31_3 e_31_4 e_31_5 e_31_6 e_31_8 e_31_9 e_31_10 l0 l1 l2 l3 l4 l5 l6 l9 l10 c7 c8
      have k33 := k22.below hb5_31_ (by omega)
      have k34 := k20.below hb5_31_ (by omega)
      have k35 := k21.below hb5_31_ (by omega)
      have lo36 := lo23.trans (hb5_31_.mono (by omega))
      obtain ⟨M5, hM5⟩ := sz_some w5_31_
      have lM5 := below_sz hb5_31_ hM26 hM5
      clear k22 k20 k21 lo23 hb5_31_
      refine wpAny_of_held (S := fun _ => True) _ _ _ _ ?_
      refine held_take (i := 7) (v := (Value.agg (cellsOf (rC (refF 1 true (lowR1 (obR tAny)) (cR y) true).2.1) 6))) (d := some 36) rfl (by kernel_rfl) (by kernel_rfl) (by kernel_rfl) (by kernel_rfl) (fun _ _ _ h => by cases h.1) (Or.inl ⟨by rfl, fun wq _ => run_ex (x := (.tmp 29)) rfl wq rfl rfl⟩) trivial ?_; simp only [pA]
      refine wpAnyH_all (rs := [11]) (by kernel_rfl) (by simp) ?_
      intro iq hiq; simp only [List.mem_singleton] at hiq; subst hiq
      refine opg_list rfl ?_
      refine wpl_storeN (by rfl) (by kernel_rfl) 41 (.tmp 10) (.tmp 35) rfl b_31_9 6 (rC (refF 1 true (lowR1 (obR tAny)) (cR y) true).1) rfl rfl 41 _ h_31_9 szR (fun j _ => rC_one _ j) ?_
      intro xw37 t38 k39; try simp only [pA]
      have k40 := k33.touch t38 (by omega)
      have k41 := k34.touch t38 (by omega)
      have k42 := k35.touch t38 (by omega)
      have k43 := h_31_10.touch t38 (by omega)
      have lo44 := t38.below lo36 (by omega)
      have h45 := t38.sz hM5
      clear h_31_9 k33 k34 k35 h_31_10 lo36 hM5 t38
      refine ⟨trivial, ?_⟩
      refine wpAnyH_all (rs := [12]) (by kernel_rfl) (by simp) ?_
      intro iq hiq; simp only [List.mem_singleton] at hiq; subst hiq
      refine opg_list rfl ?_
      refine wpl_storeN (by rfl) (by kernel_rfl) 41 (.tmp 11) (.tmp 36) rfl b_31_10 6 (rC (refF 1 true (lowR1 (obR tAny)) (cR y) true).2.1) rfl rfl 41 _ k43 szR (fun j _ => rC_one _ j) ?_
      intro xw46 t47 k48; try simp only [pA]
      have k49 := k40.touch t47 (by omega)
      have k50 := k41.touch t47 (by omega)
      have k51 := k42.touch t47 (by omega)
      have k52 := k39.touch t47 (by omega)
      have lo53 := t47.below lo44 (by omega)
      have h54 := t47.sz h45
      clear k43 k40 k41 k42 k39 lo44 h45 t47
      refine ⟨trivial, ?_⟩
      refine wpAnyH_all (rs := [13]) (by kernel_rfl) (by simp) ?_
      intro iq hiq; simp only [List.mem_singleton] at hiq; subst hiq
      refine opg_list rfl ?_
      refine wpl_runD rfl (d := some 12) rfl (Value.bool true) (run_as (x := (.tmp 37)) rfl _ rfl) ?_; simp only [pA]
      refine ⟨trivial, ?_⟩
      refine wpAnyH_done (by kernel_rfl) ?_ _
      refine ⟨rfl, (b_31_9, b_31_10), (by simp only [pA]), k52, k48, (Ne.symm n_31_9_10), bl_31_9, bl_31_10, k49, k50, k51, lo53⟩
    ·cases c8 : L 8
     ·have e_31_0 := (hF 0 (by simp) l0).val rfl
      have e_31_1 := (hF 1 (by simp) l1).val rfl
      have e_31_2 := (hF 2 (by simp) l2).val rfl
      have e_31_3 := (hF 3 (by simp) l3).val rfl
      have e_31_4 := (hF 4 (by simp) l4).val rfl
      have e_31_5 := (hF 5 (by simp) l5).val rfl
      have e_31_6 := (hF 6 (by simp) l6).val rfl
      have e_31_7 := (hF 7 (by simp) c7).val rfl
      obtain ⟨b_31_9, bl_31_9, e_31_9, h_31_9⟩ := (hF 9 (by simp) l9).al rfl rfl
      obtain ⟨b_31_10, bl_31_10, e_31_10, h_31_10⟩ := (hF 10 (by simp) l10).al rfl rfl
      have n_31_9_10 := hG 9 (by simp) 10 (by simp) (by omega) l9 l10 rfl rfl b_31_9 b_31_10 e_31_9 e_31_10
      clear hF hG
      rw [show left L [0, 1, 2, 3, 4, 5, 6, 7, 8, 9, 10] = 1 from by simp [left, l0, l1, l2, l3, l4, l5, l6, l9, l10, c7, c8]]
      refine wpAny_fuel (n := 4) (by kernel_rfl) ?_
      simp only [marks, puts, l0, l1, l2, l3, l4, l5, l6, l9, l10, c7, c8, if_true, if_false, Bool.false_eq_true, dstOf, List.getElem?_toArray, List.getElem?_cons_succ, List.getElem?_cons_zero, Option.bind_some, Act.put, List.setIfInBounds_toArray, List.set_cons_succ, List.set_cons_zero, e_31_0, e_31_1, e_31_2, e_31_3, e_31_4, e_31_5, e_31_6, e_31_7, e_31_9, e_31_10]
      clear e_31_0 e_31_1 e_31_2 e_31_3 e_31_4 e_31_5 e_31_6 e_31_7 e_31_9 e_31_10 l0 l1 l2 l3 l4 l5 l6 l9 l10 c7 c8
      have k33 := k22.below hb5_31_ (by omega)
      have k34 := k20.below hb5_31_ (by omega)
      have k35 := k21.below hb5_31_ (by omega)
      have lo36 := lo23.trans (hb5_31_.mono (by omega))
      obtain ⟨M5, hM5⟩ := sz_some w5_31_
      have lM5 := below_sz hb5_31_ hM26 hM5
      clear k22 k20 k21 lo23 hb5_31_
      refine wpAny_of_held (S := fun _ => True) _ _ _ _ ?_
      refine held_take (i := 8) (v := (Value.bool true)) (d := some 37) rfl (by kernel_rfl) (by kernel_rfl) (by kernel_rfl) (by kernel_rfl) (fun _ _ _ h => by cases h.1) (Or.inl ⟨by rfl, fun wq _ => run_ex (x := (.tmp 29)) rfl wq rfl rfl⟩) trivial ?_; simp only [pA]
      refine wpAnyH_all (rs := [11]) (by kernel_rfl) (by simp) ?_
      intro iq hiq; simp only [List.mem_singleton] at hiq; subst hiq
      refine opg_list rfl ?_
      refine wpl_storeN (by rfl) (by kernel_rfl) 41 (.tmp 10) (.tmp 35) rfl b_31_9 6 (rC (refF 1 true (lowR1 (obR tAny)) (cR y) true).1) rfl rfl 41 _ h_31_9 szR (fun j _ => rC_one _ j) ?_
      intro xw37 t38 k39; try simp only [pA]
      have k40 := k33.touch t38 (by omega)
      have k41 := k34.touch t38 (by omega)
      have k42 := k35.touch t38 (by omega)
      have k43 := h_31_10.touch t38 (by omega)
      have lo44 := t38.below lo36 (by omega)
      have h45 := t38.sz hM5
      clear h_31_9 k33 k34 k35 h_31_10 lo36 hM5 t38
      refine ⟨trivial, ?_⟩
      refine wpAnyH_all (rs := [12]) (by kernel_rfl) (by simp) ?_
      intro iq hiq; simp only [List.mem_singleton] at hiq; subst hiq
      refine opg_list rfl ?_
      refine wpl_storeN (by rfl) (by kernel_rfl) 41 (.tmp 11) (.tmp 36) rfl b_31_10 6 (rC (refF 1 true (lowR1 (obR tAny)) (cR y) true).2.1) rfl rfl 41 _ k43 szR (fun j _ => rC_one _ j) ?_
      intro xw46 t47 k48; try simp only [pA]
      have k49 := k40.touch t47 (by omega)
      have k50 := k41.touch t47 (by omega)
      have k51 := k42.touch t47 (by omega)
      have k52 := k39.touch t47 (by omega)
      have lo53 := t47.below lo44 (by omega)
      have h54 := t47.sz h45
      clear k43 k40 k41 k42 k39 lo44 h45 t47
      refine ⟨trivial, ?_⟩
      refine wpAnyH_all (rs := [13]) (by kernel_rfl) (by simp) ?_
      intro iq hiq; simp only [List.mem_singleton] at hiq; subst hiq
      refine opg_list rfl ?_
      refine wpl_runD rfl (d := some 12) rfl (Value.bool true) (run_as (x := (.tmp 37)) rfl _ rfl) ?_; simp only [pA]
      refine ⟨trivial, ?_⟩
      refine wpAnyH_done (by kernel_rfl) ?_ _
      refine ⟨rfl, (b_31_9, b_31_10), (by simp only [pA]), k52, k48, (Ne.symm n_31_9_10), bl_31_9, bl_31_10, k49, k50, k51, lo53⟩
     ·have e_31_0 := (hF 0 (by simp) l0).val rfl
      have e_31_1 := (hF 1 (by simp) l1).val rfl
      have e_31_2 := (hF 2 (by simp) l2).val rfl
      have e_31_3 := (hF 3 (by simp) l3).val rfl
      have e_31_4 := (hF 4 (by simp) l4).val rfl
      have e_31_5 := (hF 5 (by simp) l5).val rfl
      have e_31_6 := (hF 6 (by simp) l6).val rfl
      have e_31_7 := (hF 7 (by simp) c7).val rfl
      have e_31_8 := (hF 8 (by simp) c8).val rfl
      obtain ⟨b_31_9, bl_31_9, e_31_9, h_31_9⟩ := (hF 9 (by simp) l9).al rfl rfl
      obtain ⟨b_31_10, bl_31_10, e_31_10, h_31_10⟩ := (hF 10 (by simp) l10).al rfl rfl
      have n_31_9_10 := hG 9 (by simp) 10 (by simp) (by omega) l9 l10 rfl rfl b_31_9 b_31_10 e_31_9 e_31_10
      clear hF hG
      rw [show left L [0, 1, 2, 3, 4, 5, 6, 7, 8, 9, 10] = 0 from by simp [left, l0, l1, l2, l3, l4, l5, l6, l9, l10, c7, c8]]
      refine wpAny_fuel (n := 3) (by kernel_rfl) ?_
      simp only [marks, puts, l0, l1, l2, l3, l4, l5, l6, l9, l10, c7, c8, if_true, if_false, Bool.false_eq_true, dstOf, List.getElem?_toArray, List.getElem?_cons_succ, List.getElem?_cons_zero, Option.bind_some, Act.put, List.setIfInBounds_toArray, List.set_cons_succ, List.set_cons_zero, e_31_0, e_31_1, e_31_2, e_31_3, e_31_4, e_31_5, e_31_6, e_31_7, e_31_8, e_31_9, e_31_10]
      clear e_31_0 e_31_1 e_31_2 e_31_3 e_31_4 e_31_5 e_31_6 e_31_7 e_31_8 e_31_9 e_31_10 l0 l1 l2 l3 l4 l5 l6 l9 l10 c7 c8
      have k33 := k22.below hb5_31_ (by omega)
      have k34 := k20.below hb5_31_ (by omega)
      have k35 := k21.below hb5_31_ (by omega)
      have lo36 := lo23.trans (hb5_31_.mono (by omega))
      obtain ⟨M5, hM5⟩ := sz_some w5_31_
      have lM5 := below_sz hb5_31_ hM26 hM5
      clear k22 k20 k21 lo23 hb5_31_
      refine wpAny_of_held (S := fun _ => True) _ _ _ _ ?_
      refine wpAnyH_all (rs := [11]) (by kernel_rfl) (by simp) ?_
      intro iq hiq; simp only [List.mem_singleton] at hiq; subst hiq
      refine opg_list rfl ?_
      refine wpl_storeN (by rfl) (by kernel_rfl) 41 (.tmp 10) (.tmp 35) rfl b_31_9 6 (rC (refF 1 true (lowR1 (obR tAny)) (cR y) true).1) rfl rfl 41 _ h_31_9 szR (fun j _ => rC_one _ j) ?_
      intro xw37 t38 k39; try simp only [pA]
      have k40 := k33.touch t38 (by omega)
      have k41 := k34.touch t38 (by omega)
      have k42 := k35.touch t38 (by omega)
      have k43 := h_31_10.touch t38 (by omega)
      have lo44 := t38.below lo36 (by omega)
      have h45 := t38.sz hM5
      clear h_31_9 k33 k34 k35 h_31_10 lo36 hM5 t38
      refine ⟨trivial, ?_⟩
      refine wpAnyH_all (rs := [12]) (by kernel_rfl) (by simp) ?_
      intro iq hiq; simp only [List.mem_singleton] at hiq; subst hiq
      refine opg_list rfl ?_
      refine wpl_storeN (by rfl) (by kernel_rfl) 41 (.tmp 11) (.tmp 36) rfl b_31_10 6 (rC (refF 1 true (lowR1 (obR tAny)) (cR y) true).2.1) rfl rfl 41 _ k43 szR (fun j _ => rC_one _ j) ?_
      intro xw46 t47 k48; try simp only [pA]
      have k49 := k40.touch t47 (by omega)
      have k50 := k41.touch t47 (by omega)
      have k51 := k42.touch t47 (by omega)
      have k52 := k39.touch t47 (by omega)
      have lo53 := t47.below lo44 (by omega)
      have h54 := t47.sz h45
      clear k43 k40 k41 k42 k39 lo44 h45 t47
      refine ⟨trivial, ?_⟩
      refine wpAnyH_all (rs := [13]) (by kernel_rfl) (by simp) ?_
      intro iq hiq; simp only [List.mem_singleton] at hiq; subst hiq
      refine opg_list rfl ?_
      refine wpl_runD rfl (d := some 12) rfl (Value.bool true) (run_as (x := (.tmp 37)) rfl _ rfl) ?_; simp only [pA]
      refine ⟨trivial, ?_⟩
      refine wpAnyH_done (by kernel_rfl) ?_ _
      refine ⟨rfl, (b_31_9, b_31_10), (by simp only [pA]), k52, k48, (Ne.symm n_31_9_10), bl_31_9, bl_31_10, k49, k50, k51, lo53⟩
  ·clear k22 k20 k21 lo23
   rintro ⟨b_31_x0, b_31_x1⟩ xw38 ⟨k32, k33, ne39, lb_31_x0, lb_31_x1, k34, k35, k36, lo37⟩
   try dsimp only at *
   try simp only [pA]
   obtain ⟨M40, hM40⟩ := sz_some xw38
   have lt_41 := k34.ltN hM40
   have lt_42 := k35.ltN hM40
   have lt_43 := k36.ltN hM40
   have lt_44 := k32.ltN hM40
   have lt_45 := k33.ltN hM40
   go_upto_region 5 with fail
   refine wp_region_later1 (M40) ?_
   try simp only [pA]
   go_big_quiet_step ((go_at_call 35; exact later_of hM40 _ (fun K hK hKN => tells_any _ K hK)))
   iterate 4 (go_big_quiet_step (fail))
   refine later_row hM40 41 (.tmp 7) rfl (b_19_x0) rfl 41 6 _ k35 undR szR (by rfl) ?_; simp only [pA]
   go_big_quiet_step (fail)
   refine later_val (fun q => run_yu (x := (.tmp 44)) rfl undY und64 rfl q.w') (by rfl) ?_; simp only [pA]
   go_big_quiet_step ((go_at_call 25; exact later_of hM40 _ (fun K hK hKN => ret_is F1.out (SHas_any (refF 4 true (lowR1 (obR tAny)) (cR y) false).1 x) _ K hK)))
   iterate 5 (go_big_quiet_step (fail))
   refine later_row hM40 41 (.tmp 10) rfl (b_31_x0) rfl 41 6 _ k32 undR szR (by rfl) ?_; simp only [pA]
   go_big_quiet_step (fail)
   refine later_val (fun q => run_yu (x := (.tmp 53)) rfl undY und64 rfl q.w') (by rfl) ?_; simp only [pA]
   go_big_quiet_step ((go_at_call 25; exact later_of hM40 _ (fun K hK hKN => ret_is F3.out (SHas_any (refF 1 true (lowR1 (obR tAny)) (cR y) true).1 y) _ K hK)))
   iterate 2 (go_big_quiet_step (fail))
   refine later_row hM40 41 (.tmp 10) rfl (b_31_x0) rfl 41 6 _ k32 undR szR (by rfl) ?_; simp only [pA]
   refine later_row hM40 41 (.tmp 5) rfl (b_xw4) rfl 41 6 _ k34 undR szR (by rfl) ?_; simp only [pA]
   go_big_quiet_step ((go_at_call 32; exact later_of hM40 _ (fun K hK hKN => ret_is F4.out (SWithin_any (refF 1 true (lowR1 (obR tAny)) (cR y) true).1 (lowR1 (obR tAny))) _ K hK)))
   iterate 4 (go_big_quiet_step (fail))
   refine later_row hM40 41 (.tmp 7) rfl (b_19_x0) rfl 41 6 _ k35 undR szR (by rfl) ?_; simp only [pA]
   refine later_row hM40 41 (.tmp 5) rfl (b_xw4) rfl 41 6 _ k34 undR szR (by rfl) ?_; simp only [pA]
   go_big_quiet_step ((go_at_call 32; exact later_of hM40 _ (fun K hK hKN => ret_is F5.out (SWithin_any (refF 4 true (lowR1 (obR tAny)) (cR y) false).1 (lowR1 (obR tAny))) _ K hK)))
   iterate 3 (go_big_quiet_step (fail))
   refine wpQuiet_nil (laterE hM40 ?_)
   intro xw46 M47 hbxw46 hM47 lM47
   have k48 := k34.below hbxw46 (by omega)
   have k49 := k35.below hbxw46 (by omega)
   have k50 := k36.below hbxw46 (by omega)
   have k51 := k32.below hbxw46 (by omega)
   have k52 := k33.below hbxw46 (by omega)
   have lo53 := lo37.trans (hbxw46.mono (by omega))
   clear k34 k35 k36 k32 k33 lo37 hbxw46
   go_wp2_with fail
   go_ret
   exact ⟨rfl, lo53⟩
theorem law_bbits (x : W) (y : W) (w : World) (N : Nat) (hN : Sz w N) (hx : Hid (x.toNat < 256)) (hy : Hid (y.toNat < 256)) : Calls Try.prog 15 #[(Yv x), (Yv y)] w fun e w' => e = .returned (.bool true) ∧ Below N w w' := by
 rcases Bool.eq_false_or_eq_true ((x &&& y) != 0#64) with h | h
 ·exact law_bbits_t x y w N hN hx hy (hid h)
 ·exact law_bbits_f x y w N hN hx hy (hid h)
end Go.Proofs.Ytmdcopmgkhjfnaa
