/- BranchAlone: the walk. -/
import Derived.Test.YtmdcopmgkhjfnaaBr24
namespace Go.Proofs.Ytmdcopmgkhjfnaa
open Go Go.RowKit
theorem tells_any (w : World) (N : Nat) (hN : Sz w N) : Calls Try.prog 35 #[] w fun e w' => e = .returned (.bool true) ∧ Below N w w' := by
 have := Tells_any w N hN
 rwa [tells_true] at this
set_option maxRecDepth 100000 in
set_option maxHeartbeats 8000000 in
theorem law_balone_t (op : Int) (l : Bool) (d : Nat → W) (w : World) (N : Nat) (hN : Sz w N) (HH : Hid ((holF (ops11 (rm op 11)) l (d 0) (d 1)) = true)) : Calls Try.prog 11 #[(Value.int .i64 op), (Value.bool l), (Value.agg (cellsOf (dC d) 2))] w fun e w' => e = .returned (.bool true) ∧ Below N w w' := by
 have OV := hid (ops11_ok (rm op 11) (rm_lt op 11 (by decide)))
 have F0 := hid (show (refF (ops11 (rm op 11)) l (cR (d 0)) (cR (d 1)) true).2.2 = true from by rw [ref_alone (Or.inr OV.out), HH.out]; rfl)
 have F1 := hid (show (refF (ops11 (rm op 11)) l (cR (d 0)) (cR (d 1)) false).2.2 = false from by rw [ref_alone (Or.inl rfl), HH.out]; rfl)
 have F2 := hid (show (holF (ops11 (rm op 11)) l (d 0) (d 1)) = true from HH.out)
 have F5 := hid (show ((refF (ops11 (rm op 11)) l (cR (d 0)) (cR (d 1)) false).2.2 == false) = true from by rw [F1.out]; rfl)
 have F6 := hid (show ((refF (ops11 (rm op 11)) l (cR (d 0)) (cR (d 1)) true).2.2 == true) = true from by rw [F0.out]; rfl)
 have F3 := hid (show (refF (ops11 (rm op 11)) l (cR (d 0)) (cR (d 1)) true).1 = cR (d 0) from by rw [ref_alone (Or.inr OV.out), HH.out]; rfl)
 have F4 := hid (show (refF (ops11 (rm op 11)) l (cR (d 0)) (cR (d 1)) true).2.1 = cR (d 1) from by rw [ref_alone (Or.inr OV.out), HH.out]; rfl)
 go_enter Try.func11, Try.ntmps11
 go_upto_region 1 with (first
  | (refine wpl_box rfl 23 (.tmp 2) rfl 2 _ rfl (N) hN ?_; intro w1 hN1 hb1 hh1)
  | fail)
 have lo0 : Below N w w1 := hb1
 have k1 := hh1
 clear hh1 hb1
 go_upto_region 1 with fail
 refine wp_region_lit ?_
 try simp only [pA]
 refine wpl_bsT rfl 60 3 11 1 (fun j => .int .i64 (ops11 j : Int)) (by omega) (fun w => by kernel_rfl) (N + 1) hN1 ?_
 intro xw2 hMxw2 hbxw2 hhxw2; simp only [pA]
 have k3 := k1.below hbxw2 (by omega)
 have lo4 := lo0.trans (hbxw2.mono (by omega))
 clear k1 lo0 hbxw2
 have LT : Ats xw2 (some ⟨(N + 1), 0, none⟩) 11 (fun j => .int .i64 (ops11 j : Int)) := (own_has hhxw2).ats
 clear hhxw2
 refine wpl_run rfl (.slice (some ⟨(N + 1), 0, none⟩) 11 11) _ (run_as (x := .tmp 16) rfl _ rfl) ?_; simp only [pA]
 obtain ⟨M5, hM5⟩ := sz_some xw2
 have lt_6 := k3.ltN hM5
 have lN_7 := below_sz lo4 hN hM5
 go_upto_region 2 with fail
 refine wp_region_later1 (M5) ?_
 try simp only [pA]
 iterate 2 (go_big_quiet_step (fail))
 refine later_val (fun q => run_iu (x := (.tmp 18)) rfl undInt und64 rfl q.w') (by rfl) ?_; simp only [pA]
 refine later_b (x := (.tmp 19)) (y := (.const (.int .u64 11))) rfl (bin_rem _ (BitVec.ofInt 64 op) 11#64 (by decide)) rfl rfl (by rfl) ?_; simp only [pA]
 refine later_val (fun q => run_rm (x := (.tmp 20)) rfl und64 undInt (z := op) (m := 11) (by omega) rfl q.w') (by rfl) ?_; simp only [pA]
 refine later_val (fun q => run_ixL 60 3 undSI szI1 (.tmp 17) (.tmp 21) rfl rfl rfl (k := (rm op 11)) (rm_lt _ _ (by omega)) q.w') (by rfl) ?_; simp only [pA]
 refine later_c1 hM5 3 (.tmp 22) rfl rfl undInt rfl (at_L LT (rm_lt _ _ (by omega))) (by rfl) ?_; simp only [pA]
 go_big_quiet_step (fail)
 refine wpQuiet_nil ?_
 rintro xw8 ⟨qxw8, exw8⟩
 have hbxw8 := qxw8.b
 rw [← exw8] at hbxw8
 clear qxw8 exw8
 have LT2 := LT.below hM5 hbxw8
 clear LT
 have LT := LT2
 clear LT2
 obtain ⟨M9, hM9⟩ := sz_some xw8
 have lM9 := below_sz hbxw8 hM5 hM9
 have k10 := k3.below hbxw8 (by omega)
 have lo11 := lo4.trans (hbxw8.mono (by omega))
 clear k3 lo4 hbxw8
 clear LT
 go_upto_region 3 with fail
 obtain ⟨c12, c13⟩ := d_cells k10
 refine wp_region_later1 (M9) ?_
 try simp only [pA]
 iterate 3 (go_big_quiet_step (fail))
 refine later_c1 hM9 22 (.tmp 26) rfl rfl und64 rfl c12 (by rfl) ?_; simp only [pA]
 go_big_quiet_step (fail)
 refine later_c1 hM9 22 (.tmp 28) rfl rfl und64 rfl c13 (by rfl) ?_; simp only [pA]
 go_big_quiet_step ((go_at_call 37; exact later_of hM9 _ (fun K hK hKN => ret_is F2.out (RHol_h (ops11 (rm op 11)) l (d 0) (d 1)) _ K hK)))
 go_big_quiet_step (fail)
 refine wpQuiet_nil (laterE hM9 ?_)
 intro xw14 M15 hbxw14 hM15 lM15
 have k16 := k10.below hbxw14 (by omega)
 have lo17 := lo11.trans (hbxw14.mono (by omega))
 clear k10 c12 c13 lo11 hbxw14
 have CS18 := fun w N hN => Refine_all (ops11 (rm op 11)) l (cR (d 0)) (cR (d 1)) true w N hN
 rw [F0.out] at CS18
 go_upto_region 4 with fail
 refine wp_mid (fun ac (zb : Nat × Nat) => ((((((((((((((((ac.put (some 32) (Value.int .i64 ((ops11 (rm op 11)) : Int))).put (some 33) (Value.bool l)).put (some 34) (Value.pointer (some ⟨N, 0, none⟩))).put (some 35) (Q (d 0))).put (some 36) (Value.agg (cellsOf (rC (cR (d 0))) 6))).put (some 37) (Value.pointer (some ⟨N, 1, none⟩))).put (some 38) (Q (d 1))).put (some 39) (Value.agg (cellsOf (rC (cR (d 1))) 6))).put (some 40) (Value.tuple #[(Value.agg (cellsOf (rC (refF (ops11 (rm op 11)) l (cR (d 0)) (cR (d 1)) true).1) 6)), (Value.agg (cellsOf (rC (refF (ops11 (rm op 11)) l (cR (d 0)) (cR (d 1)) true).2.1) 6)), (Value.bool true)])).put (some 31) (Value.tuple #[(Value.agg (cellsOf (rC (refF (ops11 (rm op 11)) l (cR (d 0)) (cR (d 1)) true).1) 6)), (Value.agg (cellsOf (rC (refF (ops11 (rm op 11)) l (cR (d 0)) (cR (d 1)) true).2.1) 6)), (Value.bool true)])).put (some 41) (Value.agg (cellsOf (rC (refF (ops11 (rm op 11)) l (cR (d 0)) (cR (d 1)) true).1) 6))).put (some 42) (Value.agg (cellsOf (rC (refF (ops11 (rm op 11)) l (cR (d 0)) (cR (d 1)) true).2.1) 6))).put (some 43) (Value.bool true)).put (some 10) (.pointer (some ⟨zb.1, 0, none⟩))).put (some 11) (.pointer (some ⟨zb.2, 0, none⟩))).put (some 12) (Value.bool true))) (fun zb w' => Has w' zb.1 41 6 (rC (refF (ops11 (rm op 11)) l (cR (d 0)) (cR (d 1)) true).1) ∧ Has w' zb.2 41 6 (rC (refF (ops11 (rm op 11)) l (cR (d 0)) (cR (d 1)) true).2.1) ∧ zb.2 ≠ zb.1 ∧ M15 ≤ zb.1 ∧ M15 ≤ zb.2 ∧ Has w' N 23 2 (dC d) ∧ Below N w w') ?_ ?_
 ·refine wp_region_any (by kernel_rfl) ?_
  replace k16 : Has xw14.drew N 23 2 (dC d) := k16
  replace hM15 : Sz xw14.drew M15 := hM15
  replace lo17 : Below N w xw14.drew := lo17.drew
  change wpAny _ _ _ _ _ _ _ (World.drew _)
  generalize xw14.drew = xw20 at *
  obtain ⟨c21, c22⟩ := d_cells k16
  refine wpAny_potL (lt := [11, 12]) (rem := [0, 1, 2, 3, 4, 5, 6, 7, 8, 9, 10, 11, 12, 13, 14]) (FG M15 (fun j => if j = 0 then some (Value.int .i64 ((ops11 (rm op 11)) : Int)) else if j = 1 then some (Value.bool l) else if j = 2 then some (Value.pointer (some ⟨N, 0, none⟩)) else if j = 3 then some (Q (d 0)) else if j = 4 then some (Value.agg (cellsOf (rC (cR (d 0))) 6)) else if j = 5 then some (Value.pointer (some ⟨N, 1, none⟩)) else if j = 6 then some (Q (d 1)) else if j = 7 then some (Value.agg (cellsOf (rC (cR (d 1))) 6)) else if j = 8 then some (Value.tuple #[(Value.agg (cellsOf (rC (refF (ops11 (rm op 11)) l (cR (d 0)) (cR (d 1)) true).1) 6)), (Value.agg (cellsOf (rC (refF (ops11 (rm op 11)) l (cR (d 0)) (cR (d 1)) true).2.1) 6)), (Value.bool true)]) else if j = 9 then some (Value.tuple #[(Value.agg (cellsOf (rC (refF (ops11 (rm op 11)) l (cR (d 0)) (cR (d 1)) true).1) 6)), (Value.agg (cellsOf (rC (refF (ops11 (rm op 11)) l (cR (d 0)) (cR (d 1)) true).2.1) 6)), (Value.bool true)]) else if j = 10 then some (Value.agg (cellsOf (rC (refF (ops11 (rm op 11)) l (cR (d 0)) (cR (d 1)) true).1) 6)) else if j = 11 then some (Value.agg (cellsOf (rC (refF (ops11 (rm op 11)) l (cR (d 0)) (cR (d 1)) true).2.1) 6)) else if j = 12 then some (Value.bool true) else if j = 13 then none else none) (fun j => if j = 13 then (41, 6, rC zeroR) else (41, 6, rC zeroR))) (TwoN (fun j => if j = 0 then some (Value.int .i64 ((ops11 (rm op 11)) : Int)) else if j = 1 then some (Value.bool l) else if j = 2 then some (Value.pointer (some ⟨N, 0, none⟩)) else if j = 3 then some (Q (d 0)) else if j = 4 then some (Value.agg (cellsOf (rC (cR (d 0))) 6)) else if j = 5 then some (Value.pointer (some ⟨N, 1, none⟩)) else if j = 6 then some (Q (d 1)) else if j = 7 then some (Value.agg (cellsOf (rC (cR (d 1))) 6)) else if j = 8 then some (Value.tuple #[(Value.agg (cellsOf (rC (refF (ops11 (rm op 11)) l (cR (d 0)) (cR (d 1)) true).1) 6)), (Value.agg (cellsOf (rC (refF (ops11 (rm op 11)) l (cR (d 0)) (cR (d 1)) true).2.1) 6)), (Value.bool true)]) else if j = 9 then some (Value.tuple #[(Value.agg (cellsOf (rC (refF (ops11 (rm op 11)) l (cR (d 0)) (cR (d 1)) true).1) 6)), (Value.agg (cellsOf (rC (refF (ops11 (rm op 11)) l (cR (d 0)) (cR (d 1)) true).2.1) 6)), (Value.bool true)]) else if j = 10 then some (Value.agg (cellsOf (rC (refF (ops11 (rm op 11)) l (cR (d 0)) (cR (d 1)) true).1) 6)) else if j = 11 then some (Value.agg (cellsOf (rC (refF (ops11 (rm op 11)) l (cR (d 0)) (cR (d 1)) true).2.1) 6)) else if j = 12 then some (Value.bool true) else if j = 13 then none else none)) (Below M15 xw20) _ _ _ _ (by kernel_rfl) (size_dstG (by kernel_rfl)) (Below.refl _ _) ?_ ?_
  ·intro i hi ac wa hI ha hv
   simp only [List.mem_cons, List.not_mem_nil, or_false] at hi
   rcases hi with rfl | rfl | rfl | rfl | rfl | rfl | rfl | rfl | rfl | rfl | rfl | rfl | rfl | rfl | rfl
   ·exact potg_run rfl rfl (Value.int .i64 ((ops11 (rm op 11)) : Int)) rfl (run_mv (x := (.tmp 8)) rfl _ (ha 8 (not_dstG (by kernel_rfl)))) hM15 hI
   ·exact potg_run rfl rfl (Value.bool l) rfl (run_mv (x := (.tmp 1)) rfl _ (ha 1 (not_dstG (by kernel_rfl)))) hM15 hI
   ·exact potg_run rfl rfl (Value.pointer (some ⟨N, 0, none⟩)) rfl (run_ia 23 (.tmp 5) (.const (.int .i64 0)) 0 rfl (ha 5 (not_dstG (by kernel_rfl))) rfl iaD0) hM15 hI
   ·obtain ⟨v2, hv2a, hv2b⟩ := hv 2 (by simp) (by kernel_rfl)
    have ev2 := hv2b.val rfl
    subst ev2
    exact potg_run rfl rfl (Q (d 0)) rfl (run_c1 22 (.tmp 34) rfl ⟨N, 0, none⟩ (hv2a 34 rfl) und64 rfl (keep_c hI hM15 c21)) hM15 hI
   ·obtain ⟨v3, hv3a, hv3b⟩ := hv 3 (by simp) (by kernel_rfl)
    have ev3 := hv3b.val rfl
    subst ev3
    exact potg_cl rfl rfl 28 _ _ rfl #[(Q (d 0))] (by simp only [List.map_toArray, List.map_cons, List.map_nil, (show ac.eval (.tmp 35) = (Q (d 0)) from (hv3a 35 rfl))] <;> rfl) (by kernel_rfl) (Value.agg (cellsOf (rC (cR (d 0))) 6)) (fun K hK => SConst_any (d 0) wa K hK) rfl hM15 hI
   ·exact potg_run rfl rfl (Value.pointer (some ⟨N, 1, none⟩)) rfl (run_ia 23 (.tmp 5) (.const (.int .i64 1)) 1 rfl (ha 5 (not_dstG (by kernel_rfl))) rfl iaD1) hM15 hI
   ·obtain ⟨v5, hv5a, hv5b⟩ := hv 5 (by simp) (by kernel_rfl)
    have ev5 := hv5b.val rfl
    subst ev5
    exact potg_run rfl rfl (Q (d 1)) rfl (run_c1 22 (.tmp 37) rfl ⟨N, 1, none⟩ (hv5a 37 rfl) und64 rfl (keep_c hI hM15 c22)) hM15 hI
   ·obtain ⟨v6, hv6a, hv6b⟩ := hv 6 (by simp) (by kernel_rfl)
    have ev6 := hv6b.val rfl
    subst ev6
    exact potg_cl rfl rfl 28 _ _ rfl #[(Q (d 1))] (by simp only [List.map_toArray, List.map_cons, List.map_nil, (show ac.eval (.tmp 38) = (Q (d 1)) from (hv6a 38 rfl))] <;> rfl) (by kernel_rfl) (Value.agg (cellsOf (rC (cR (d 1))) 6)) (fun K hK => SConst_any (d 1) wa K hK) rfl hM15 hI
   ·obtain ⟨v0, hv0a, hv0b⟩ := hv 0 (by simp) (by kernel_rfl)
    have ev0 := hv0b.val rfl
    subst ev0
    obtain ⟨v1, hv1a, hv1b⟩ := hv 1 (by simp) (by kernel_rfl)
    have ev1 := hv1b.val rfl
    subst ev1
    obtain ⟨v4, hv4a, hv4b⟩ := hv 4 (by simp) (by kernel_rfl)
    have ev4 := hv4b.val rfl
    subst ev4
    obtain ⟨v7, hv7a, hv7b⟩ := hv 7 (by simp) (by kernel_rfl)
    have ev7 := hv7b.val rfl
    subst ev7
    exact potg_cl rfl rfl 40 _ _ rfl #[(Value.int .i64 ((ops11 (rm op 11)) : Int)), (Value.bool l), (Value.agg (cellsOf (rC (cR (d 0))) 6)), (Value.agg (cellsOf (rC (cR (d 1))) 6)), (Value.bool true)] (by simp only [List.map_toArray, List.map_cons, List.map_nil, (show ac.eval (.tmp 32) = (Value.int .i64 ((ops11 (rm op 11)) : Int)) from (hv0a 32 rfl)), (show ac.eval (.tmp 33) = (Value.bool l) from (hv1a 33 rfl)), (show ac.eval (.tmp 36) = (Value.agg (cellsOf (rC (cR (d 0))) 6)) from (hv4a 36 rfl)), (show ac.eval (.tmp 39) = (Value.agg (cellsOf (rC (cR (d 1))) 6)) from (hv7a 39 rfl))] <;> rfl) (by kernel_rfl) (Value.tuple #[(Value.agg (cellsOf (rC (refF (ops11 (rm op 11)) l (cR (d 0)) (cR (d 1)) true).1) 6)), (Value.agg (cellsOf (rC (refF (ops11 (rm op 11)) l (cR (d 0)) (cR (d 1)) true).2.1) 6)), (Value.bool true)]) (fun K hK => CS18 wa K hK) rfl hM15 hI
   ·obtain ⟨v8, hv8a, hv8b⟩ := hv 8 (by simp) (by kernel_rfl)
    have ev8 := hv8b.val rfl
    subst ev8
    exact potg_run rfl rfl (Value.tuple #[(Value.agg (cellsOf (rC (refF (ops11 (rm op 11)) l (cR (d 0)) (cR (d 1)) true).1) 6)), (Value.agg (cellsOf (rC (refF (ops11 (rm op 11)) l (cR (d 0)) (cR (d 1)) true).2.1) 6)), (Value.bool true)]) rfl (run_mv (x := (.tmp 40)) rfl _ (hv8a 40 rfl)) hM15 hI
   ·obtain ⟨v9, hv9a, hv9b⟩ := hv 9 (by simp) (by kernel_rfl)
    have ev9 := hv9b.val rfl
    subst ev9
    exact potg_run rfl rfl (Value.agg (cellsOf (rC (refF (ops11 (rm op 11)) l (cR (d 0)) (cR (d 1)) true).1) 6)) rfl (run_ex (x := (.tmp 31)) rfl _ (hv9a 31 rfl) rfl) hM15 hI
   ·obtain ⟨v9, hv9a, hv9b⟩ := hv 9 (by simp) (by kernel_rfl)
    have ev9 := hv9b.val rfl
    subst ev9
    exact potg_run rfl rfl (Value.agg (cellsOf (rC (refF (ops11 (rm op 11)) l (cR (d 0)) (cR (d 1)) true).2.1) 6)) rfl (run_ex (x := (.tmp 31)) rfl _ (hv9a 31 rfl) rfl) hM15 hI
   ·obtain ⟨v9, hv9a, hv9b⟩ := hv 9 (by simp) (by kernel_rfl)
    have ev9 := hv9b.val rfl
    subst ev9
    exact potg_run rfl rfl (Value.bool true) rfl (run_ex (x := (.tmp 31)) rfl _ (hv9a 31 rfl) rfl) hM15 hI
   ·exact potg_al rfl rfl rfl zeR rfl rfl hM15 hI
   ·exact potg_al rfl rfl rfl zeR rfl rfl hM15 hI
  ·intro L vals w5_19_ hb5_19_ hF hG hL
   have l0 := hL 0 (by simp) rfl
   have l1 := hL 1 (by simp) rfl
   have l2 := hL 2 (by simp) rfl
   have l3 := hL 3 (by simp) rfl
   have l4 := hL 4 (by simp) rfl
   have l5 := hL 5 (by simp) rfl
   have l6 := hL 6 (by simp) rfl
   have l7 := hL 7 (by simp) rfl
   have l8 := hL 8 (by simp) rfl
   have l9 := hL 9 (by simp) rfl
   have l10 := hL 10 (by simp) rfl
   have l13 := hL 13 (by simp) rfl
   have l14 := hL 14 (by simp) rfl
   clear hL
   cases c11 : L 11
   ·cases c12 : L 12
    ·have e_19_0 := (hF 0 (by simp) l0).val rfl
     have e_19_1 := (hF 1 (by simp) l1).val rfl
     have e_19_2 := (hF 2 (by simp) l2).val rfl
     have e_19_3 := (hF 3 (by simp) l3).val rfl
     have e_19_4 := (hF 4 (by simp) l4).val rfl
     have e_19_5 := (hF 5 (by simp) l5).val rfl
     have e_19_6 := (hF 6 (by simp) l6).val rfl
     have e_19_7 := (hF 7 (by simp) l7).val rfl
     have e_19_8 := (hF 8 (by simp) l8).val rfl
     have e_19_9 := (hF 9 (by simp) l9).val rfl
     have e_19_10 := (hF 10 (by simp) l10).val rfl
     obtain ⟨b_19_13, bl_19_13, e_19_13, h_19_13⟩ := (hF 13 (by simp) l13).al rfl rfl
     obtain ⟨b_19_14, bl_19_14, e_19_14, h_19_14⟩ := (hF 14 (by simp) l14).al rfl rfl
     have n_19_13_14 := hG 13 (by simp) 14 (by simp) (by omega) l13 l14 rfl rfl b_19_13 b_19_14 e_19_13 e_19_14
     clear hF hG
     rw [show left L [0, 1, 2, 3, 4, 5, 6, 7, 8, 9, 10, 11, 12, 13, 14] = 2 from by simp [left, l0, l1, l2, l3, l4, l5, l6, l7, l8, l9, l10, l13, l14, c11, c12]]
     refine wpAny_fuel (n := 5) (by kernel_rfl) ?_
     simp only [marks, puts, l0, l1, l2, l3, l4, l5, l6, l7, l8, l9, l10, l13, l14, c11, c12, if_true, if_false, Bool.false_eq_true, dstOf, List.getElem?_toArray, List.getElem?_cons_succ, List.getElem?_cons_zero, Option.bind_some, Act.put, List.setIfInBounds_toArray, List.set_cons_succ, List.set_cons_zero, e_19_0, e_19_1, e_19_2, e_19_3, e_19_4, e_19_5, e_19_6, e_19_7, e_19_8, e_19_9, e_19_10, e_19_13, e_19_14]
     clear e_19_0 e_19_1 e_19_2 e_19_3 e_19_4 e_19_5 e_19_6 e_19_7 e_19_8 e_19_9 e_19_10 e_19_13 e_19_14 l0 l1 l2 l3 l4 l5 l6 l7 l8 l9 l10 l13 l14 c11 c12
     have k23 := k16.below hb5_19_ (by omega)
     have lo24 := lo17.trans (hb5_19_.mono (by omega))
     obtain ⟨M5, hM5⟩ := sz_some w5_19_
     have lM5 := below_sz hb5_19_ hM15 hM5
     clear k16 c21 c22 lo17 hb5_19_
     refine wpAny_of_held (S := fun _ => True) _ _ _ _ ?_
     refine held_take (i := 11) (v := (Value.agg (cellsOf (rC (refF (ops11 (rm op 11)) l (cR (d 0)) (cR (d 1)) true).2.1) 6))) (d := some 42) rfl (by kernel_rfl) (by kernel_rfl) (by kernel_rfl) (by kernel_rfl) (fun _ _ _ h => by cases h.1) (Or.inl ⟨by rfl, fun wq _ => run_ex (x := (.tmp 31)) rfl wq rfl rfl⟩) trivial ?_; simp only [pA]
     refine held_take (i := 12) (v := (Value.bool true)) (d := some 43) rfl (by kernel_rfl) (by kernel_rfl) (by kernel_rfl) (by kernel_rfl) (fun _ _ _ h => by cases h.1) (Or.inl ⟨by rfl, fun wq _ => run_ex (x := (.tmp 31)) rfl wq rfl rfl⟩) trivial ?_; simp only [pA]
     refine wpAnyH_all (rs := [15]) (by kernel_rfl) (by simp) ?_
     intro iq hiq; simp only [List.mem_singleton] at hiq; subst hiq
     refine opg_list rfl ?_
     refine wpl_storeN (by rfl) (by kernel_rfl) 41 (.tmp 10) (.tmp 41) rfl b_19_13 6 (rC (refF (ops11 (rm op 11)) l (cR (d 0)) (cR (d 1)) true).1) rfl rfl 41 _ h_19_13 szR (fun j _ => rC_one _ j) ?_
     intro xw25 t26 k27; try simp only [pA]
     have k28 := k23.touch t26 (by omega)
     have k29 := h_19_14.touch t26 (by omega)
     have lo30 := t26.below lo24 (by omega)
     have h31 := t26.sz hM5
     clear h_19_13 k23 h_19_14 lo24 hM5 t26
     refine ⟨trivial, ?_⟩
     refine wpAnyH_all (rs := [16]) (by kernel_rfl) (by simp) ?_
     intro iq hiq; simp only [List.mem_singleton] at hiq; subst hiq
     refine opg_list rfl ?_
     refine wpl_storeN (by rfl) (by kernel_rfl) 41 (.tmp 11) (.tmp 42) rfl b_19_14 6 (rC (refF (ops11 (rm op 11)) l (cR (d 0)) (cR (d 1)) true).2.1) rfl rfl 41 _ k29 szR (fun j _ => rC_one _ j) ?_
     intro xw32 t33 k34; try simp only [pA]
     have k35 := k28.touch t33 (by omega)
     have k36 := k27.touch t33 (by omega)
     have lo37 := t33.below lo30 (by omega)
     have h38 := t33.sz h31
     clear k29 k28 k27 lo30 h31 t33
     refine ⟨trivial, ?_⟩
     refine wpAnyH_all (rs := [17]) (by kernel_rfl) (by simp) ?_
     intro iq hiq; simp only [List.mem_singleton] at hiq; subst hiq
     refine opg_list rfl ?_
     refine wpl_runD rfl (d := some 12) rfl (Value.bool true) (run_as (x := (.tmp 43)) rfl _ rfl) ?_; simp only [pA]
     refine ⟨trivial, ?_⟩
     refine wpAnyH_done (by kernel_rfl) ?_ _
     refine ⟨rfl, (b_19_13, b_19_14), (by simp only [pA]), k36, k34, (Ne.symm n_19_13_14), bl_19_13, bl_19_14, k35, lo37⟩
    ·have e_19_0 := (hF 0 (by simp) l0).val rfl
     have e_19_1 := (hF 1 (by simp) l1).val rfl
     have e_19_2 := (hF 2 (by simp) l2).val rfl
     have e_19_3 := (hF 3 (by simp) l3).val rfl
     have e_19_4 := (hF 4 (by simp) l4).val rfl
     have e_19_5 := (hF 5 (by simp) l5).val rfl
     have e_19_6 := (hF 6 (by simp) l6).val rfl
     have e_19_7 := (hF 7 (by simp) l7).val rfl
     have e_19_8 := (hF 8 (by simp) l8).val rfl
     have e_19_9 := (hF 9 (by simp) l9).val rfl
     have e_19_10 := (hF 10 (by simp) l10).val rfl
     have e_19_12 := (hF 12 (by simp) c12).val rfl
     obtain ⟨b_19_13, bl_19_13, e_19_13, h_19_13⟩ := (hF 13 (by simp) l13).al rfl rfl
     obtain ⟨b_19_14, bl_19_14, e_19_14, h_19_14⟩ := (hF 14 (by simp) l14).al rfl rfl
     have n_19_13_14 := hG 13 (by simp) 14 (by simp) (by omega) l13 l14 rfl rfl b_19_13 b_19_14 e_19_13 e_19_14
     clear hF hG
     rw [show left L [0, 1, 2, 3, 4, 5, 6, 7, 8, 9, 10, 11, 12, 13, 14] = 1 from by simp [left, l0, l1, l2, l3, l4, l5, l6, l7, l8, l9, l10, l13, l14, c11, c12]]
     refine wpAny_fuel (n := 4) (by kernel_rfl) ?_
     simp only [marks, puts, l0, l1, l2, l3, l4, l5, l6, l7, l8, l9, l10, l13, l14, c11, c12, if_true, if_false, Bool.false_eq_true, dstOf, List.getElem?_toArray, List.getElem?_cons_succ, List.getElem?_cons_zero, Option.bind_some, Act.put, List.setIfInBounds_toArray, List.set_cons_succ, List.set_cons_zero, e_19_0, e_19_1, e_19_2, e_19_3, e_19_4, e_19_5, e_19_6, e_19_7, e_19_8, e_19_9, e_19_10, e_19_12, e_19_13, e_19_14]
     clear e_19_0 e_19_1 e_19_2 e_19_3 e_19_4 e_19_5 e_19_6 e_19_7 e_19_8 e_19_9 e_19_10 e_19_12 e_19_13 e_19_14 l0 l1 l2 l3 l4 l5 l6 l7 l8 l9 l10 l13 l14 c11 c12
     have k23 := k16.below hb5_19_ (by omega)
     have lo24 := lo17.trans (hb5_19_.mono (by omega))
     obtain ⟨M5, hM5⟩ := sz_some w5_19_
     have lM5 := below_sz hb5_19_ hM15 hM5
     clear k16 c21 c22 lo17 hb5_19_
     refine wpAny_of_held (S := fun _ => True) _ _ _ _ ?_
     refine held_take (i := 11) (v := (Value.agg (cellsOf (rC (refF (ops11 (rm op 11)) l (cR (d 0)) (cR (d 1)) true).2.1) 6))) (d := some 42) rfl (by kernel_rfl) (by kernel_rfl) (by kernel_rfl) (by kernel_rfl) (fun _ _ _ h => by cases h.1) (Or.inl ⟨by rfl, fun wq _ => run_ex (x := (.tmp 31)) rfl wq rfl rfl⟩) trivial ?_; simp only [pA]
     refine wpAnyH_all (rs := [15]) (by kernel_rfl) (by simp) ?_
     intro iq hiq; simp only [List.mem_singleton] at hiq; subst hiq
     refine opg_list rfl ?_
     refine wpl_storeN (by rfl) (by kernel_rfl) 41 (.tmp 10) (.tmp 41) rfl b_19_13 6 (rC (refF (ops11 (rm op 11)) l (cR (d 0)) (cR (d 1)) true).1) rfl rfl 41 _ h_19_13 szR (fun j _ => rC_one _ j) ?_
     intro xw25 t26 k27; try simp only [pA]
     have k28 := k23.touch t26 (by omega)
     have k29 := h_19_14.touch t26 (by omega)
     have lo30 := t26.below lo24 (by omega)
     have h31 := t26.sz hM5
     clear h_19_13 k23 h_19_14 lo24 hM5 t26
     refine ⟨trivial, ?_⟩
     refine wpAnyH_all (rs := [16]) (by kernel_rfl) (by simp) ?_
     intro iq hiq; simp only [List.mem_singleton] at hiq; subst hiq
     refine opg_list rfl ?_
     refine wpl_storeN (by rfl) (by kernel_rfl) 41 (.tmp 11) (.tmp 42) rfl b_19_14 6 (rC (refF (ops11 (rm op 11)) l (cR (d 0)) (cR (d 1)) true).2.1) rfl rfl 41 _ k29 szR (fun j _ => rC_one _ j) ?_
     intro xw32 t33 k34; try simp only [pA]
     have k35 := k28.touch t33 (by omega)
     have k36 := k27.touch t33 (by omega)
     have lo37 := t33.below lo30 (by omega)
     have h38 := t33.sz h31
     clear k29 k28 k27 lo30 h31 t33
     refine ⟨trivial, ?_⟩
     refine wpAnyH_all (rs := [17]) (by kernel_rfl) (by simp) ?_
     intro iq hiq; simp only [List.mem_singleton] at hiq; subst hiq
     refine opg_list rfl ?_
     refine wpl_runD rfl (d := some 12) rfl (Value.bool true) (run_as (x := (.tmp 43)) rfl _ rfl) ?_; simp only [pA]
     refine ⟨trivial, ?_⟩
     refine wpAnyH_done (by kernel_rfl) ?_ _
     refine ⟨rfl, (b_19_13, b_19_14), (by simp only [pA]), k36, k34, (Ne.symm n_19_13_14), bl_19_13, bl_19_14, k35, lo37⟩
   ·cases c12 : L 12
    ·have e_19_0 := (hF 0 (by simp) l0).val rfl
     have e_19_1 := (hF 1 (by simp) l1).val rfl
     have e_19_2 := (hF 2 (by simp) l2).val rfl
     have e_19_3 := (hF 3 (by simp) l3).val rfl
     have e_19_4 := (hF 4 (by simp) l4).val rfl
     have e_19_5 := (hF 5 (by simp) l5).val rfl
     have e_19_6 := (hF 6 (by simp) l6).val rfl
     have e_19_7 := (hF 7 (by simp) l7).val rfl
     have e_19_8 := (hF 8 (by simp) l8).val rfl
     have e_19_9 := (hF 9 (by simp) l9).val rfl
     have e_19_10 := (hF 10 (by simp) l10).val rfl
     have e_19_11 := (hF 11 (by simp) c11).val rfl
     obtain ⟨b_19_13, bl_19_13, e_19_13, h_19_13⟩ := (hF 13 (by simp) l13).al rfl rfl
     obtain ⟨b_19_14, bl_19_14, e_19_14, h_19_14⟩ := (hF 14 (by simp) l14).al rfl rfl
     have n_19_13_14 := hG 13 (by simp) 14 (by simp) (by omega) l13 l14 rfl rfl b_19_13 b_19_14 e_19_13 e_19_14
     clear hF hG
     rw [show left L [0, 1, 2, 3, 4, 5, 6, 7, 8, 9, 10, 11, 12, 13, 14] = 1 from by simp [left, l0, l1, l2, l3, l4, l5, l6, l7, l8, l9, l10, l13, l14, c11, c12]]
     refine wpAny_fuel (n := 4) (by kernel_rfl) ?_
     simp only [marks, puts, l0, l1, l2, l3, l4, l5, l6, l7, l8, l9, l10, l13, l14, c11, c12, if_true, if_false, Bool.false_eq_true, dstOf, List.getElem?_toArray, List.getElem?_cons_succ, List.getElem?_cons_zero, Option.bind_some, Act.put, List.setIfInBounds_toArray, List.set_cons_succ, List.set_cons_zero, e_19_0, e_19_1, e_19_2, e_19_3, e_19_4, e_19_5, e_19_6, e_19_7, e_19_8, e_19_9, e_19_10, e_19_11, e_19_13, e_19_14]
     clear e_19_0 e_19_1 e_19_2 e_19_3 e_19_4 e_19_5 e_19_6 e_19_7 e_19_8 e_19_9 e_19_10 e_19_11 e_19_13 e_19_14 l0 l1 l2 l3 l4 l5 l6 l7 l8 l9 l10 l13 l14 c11 c12
     have k23 := k16.below hb5_19_ (by omega)
     have lo24 := lo17.trans (hb5_19_.mono (by omega))
     obtain ⟨M5, hM5⟩ := sz_some w5_19_
     have lM5 := below_sz hb5_19_ hM15 hM5
     clear k16 c21 c22 lo17 hb5_19_
     refine wpAny_of_held (S := fun _ => True) _ _ _ _ ?_
     refine held_take (i := 12) (v := (Value.bool true)) (d := some 43) rfl (by kernel_rfl) (by kernel_rfl) (by kernel_rfl) (by kernel_rfl) (fun _ _ _ h => by cases h.1) (Or.inl ⟨by rfl, fun wq _ => run_ex (x := (.tmp 31)) rfl wq rfl rfl⟩) trivial ?_; simp only [pA]
     refine wpAnyH_all (rs := [15]) (by kernel_rfl) (by simp) ?_
     intro iq hiq; simp only [List.mem_singleton] at hiq; subst hiq
     refine opg_list rfl ?_
     refine wpl_storeN (by rfl) (by kernel_rfl) 41 (.tmp 10) (.tmp 41) rfl b_19_13 6 (rC (refF (ops11 (rm op 11)) l (cR (d 0)) (cR (d 1)) true).1) rfl rfl 41 _ h_19_13 szR (fun j _ => rC_one _ j) ?_
     intro xw25 t26 k27; try simp only [pA]
     have k28 := k23.touch t26 (by omega)
     have k29 := h_19_14.touch t26 (by omega)
     have lo30 := t26.below lo24 (by omega)
     have h31 := t26.sz hM5
     clear h_19_13 k23 h_19_14 lo24 hM5 t26
     refine ⟨trivial, ?_⟩
     refine wpAnyH_all (rs := [16]) (by kernel_rfl) (by simp) ?_
     intro iq hiq; simp only [List.mem_singleton] at hiq; subst hiq
     refine opg_list rfl ?_
     refine wpl_storeN (by rfl) (by kernel_rfl) 41 (.tmp 11) (.tmp 42) rfl b_19_14 6 (rC (refF (ops11 (rm op 11)) l (cR (d 0)) (cR (d 1)) true).2.1) rfl rfl 41 _ k29 szR (fun j _ => rC_one _ j) ?_
     intro xw32 t33 k34; try simp only [pA]
     have k35 := k28.touch t33 (by omega)
     have k36 := k27.touch t33 (by omega)
     have lo37 := t33.below lo30 (by omega)
     have h38 := t33.sz h31
     clear k29 k28 k27 lo30 h31 t33
     refine ⟨trivial, ?_⟩
     refine wpAnyH_all (rs := [17]) (by kernel_rfl) (by simp) ?_
     intro iq hiq; simp only [List.mem_singleton] at hiq; subst hiq
     refine opg_list rfl ?_
     refine wpl_runD rfl (d := some 12) rfl (Value.bool true) (run_as (x := (.tmp 43)) rfl _ rfl) ?_; simp only [pA]
     refine ⟨trivial, ?_⟩
     refine wpAnyH_done (by kernel_rfl) ?_ _
     refine ⟨rfl, (b_19_13, b_19_14), (by simp only [pA]), k36, k34, (Ne.symm n_19_13_14), bl_19_13, bl_19_14, k35, lo37⟩
    ·have e_19_0 := (hF 0 (by simp) l0).val rfl
     have e_19_1 := (hF 1 (by simp) l1).val rfl
     have e_19_2 := (hF 2 (by simp) l2).val rfl
     have e_19_3 := (hF 3 (by simp) l3).val rfl
     have e_19_4 := (hF 4 (by simp) l4).val rfl
     have e_19_5 := (hF 5 (by simp) l5).val rfl
     have e_19_6 := (hF 6 (by simp) l6).val rfl
     have e_19_7 := (hF 7 (by simp) l7).val rfl
     have e_19_8 := (hF 8 (by simp) l8).val rfl
     have e_19_9 := (hF 9 (by simp) l9).val rfl
     have e_19_10 := (hF 10 (by simp) l10).val rfl
     have e_19_11 := (hF 11 (by simp) c11).val rfl
     have e_19_12 := (hF 12 (by simp) c12).val rfl
     obtain ⟨b_19_13, bl_19_13, e_19_13, h_19_13⟩ := (hF 13 (by simp) l13).al rfl rfl
     obtain ⟨b_19_14, bl_19_14, e_19_14, h_19_14⟩ := (hF 14 (by simp) l14).al rfl rfl
     have n_19_13_14 := hG 13 (by simp) 14 (by simp) (by omega) l13 l14 rfl rfl b_19_13 b_19_14 e_19_13 e_19_14
     clear hF hG
     rw [show left L [0, 1, 2, 3, 4, 5, 6, 7, 8, 9, 10, 11, 12, 13, 14] = 0 from by simp [left, l0, l1, l2, l3, l4, l5, l6, l7, l8, l9, l10, l13, l14, c11, c12]]
     refine wpAny_fuel (n := 3) (by kernel_rfl) ?_
     simp only [marks, puts, l0, l1, l2, l3, l4, l5, l6, l7, l8, l9, l10, l13, l14, c11, c12, if_true, if_false, Bool.false_eq_true, dstOf, List.getElem?_toArray, List.getElem?_cons_succ, List.getElem?_cons_zero, Option.bind_some, Act.put, List.setIfInBounds_toArray, List.set_cons_succ, List.set_cons_zero, e_19_0, e_19_1, e_19_2, e_19_3, e_19_4, e_19_5, e_19_6, e_19_7, e_19_8, e_19_9, e_19_10, e_19_11, e_19_12, e_19_13, e_19_14]
     clear e_19_0 e_19_1 e_19_2 e_19_3 e_19_4 e_19_5 e_19_6 e_19_7 e_19_8 e_19_9 e_19_10 e_19_11 e_19_12 e_19_13 e_19_14 l0 l1 l2 l3 l4 l5 l6 l7 l8 l9 l10 l13 l14 c11 c12
     have k23 := k16.below hb5_19_ (by omega)
     have lo24 := lo17.trans (hb5_19_.mono (by omega))
     obtain ⟨M5, hM5⟩ := sz_some w5_19_
     have lM5 := below_sz hb5_19_ hM15 hM5
     clear k16 c21 c22 lo17 hb5_19_
     refine wpAny_of_held (S := fun _ => True) _ _ _ _ ?_
     refine wpAnyH_all (rs := [15]) (by kernel_rfl) (by simp) ?_
     intro iq hiq; simp only [List.mem_singleton] at hiq; subst hiq
     refine opg_list rfl ?_
     refine wpl_storeN (by rfl) (by kernel_rfl) 41 (.tmp 10) (.tmp 41) rfl b_19_13 6 (rC (refF (ops11 (rm op 11)) l (cR (d 0)) (cR (d 1)) true).1) rfl rfl 41 _ h_19_13 szR (fun j _ => rC_one _ j) ?_
     intro xw25 t26 k27; try simp only [pA]
     have k28 := k23.touch t26 (by omega)
     have k29 := h_19_14.touch t26 (by omega)
     have lo30 := t26.below lo24 (by omega)
     have h31 := t26.sz hM5
     clear h_19_13 k23 h_19_14 lo24 hM5 t26
     refine ⟨trivial, ?_⟩
     refine wpAnyH_all (rs := [16]) (by kernel_rfl) (by simp) ?_
     intro iq hiq; simp only [List.mem_singleton] at hiq; subst hiq
     refine opg_list rfl ?_
     refine wpl_storeN (by rfl) (by kernel_rfl) 41 (.tmp 11) (.tmp 42) rfl b_19_14 6 (rC (refF (ops11 (rm op 11)) l (cR (d 0)) (cR (d 1)) true).2.1) rfl rfl 41 _ k29 szR (fun j _ => rC_one _ j) ?_
     intro xw32 t33 k34; try simp only [pA]
     have k35 := k28.touch t33 (by omega)
     have k36 := k27.touch t33 (by omega)
     have lo37 := t33.below lo30 (by omega)
     have h38 := t33.sz h31
     clear k29 k28 k27 lo30 h31 t33
     refine ⟨trivial, ?_⟩
     refine wpAnyH_all (rs := [17]) (by kernel_rfl) (by simp) ?_
     intro iq hiq; simp only [List.mem_singleton] at hiq; subst hiq
     refine opg_list rfl ?_
     refine wpl_runD rfl (d := some 12) rfl (Value.bool true) (run_as (x := (.tmp 43)) rfl _ rfl) ?_; simp only [pA]
     refine ⟨trivial, ?_⟩
     refine wpAnyH_done (by kernel_rfl) ?_ _
     refine ⟨rfl, (b_19_13, b_19_14), (by simp only [pA]), k36, k34, (Ne.symm n_19_13_14), bl_19_13, bl_19_14, k35, lo37⟩
 ·clear k16 lo17
  rintro ⟨b_19_x0, b_19_x1⟩ xw24 ⟨k20, k21, ne25, lb_19_x0, lb_19_x1, k22, lo23⟩
  try dsimp only at *
  try simp only [pA]
  obtain ⟨M26, hM26⟩ := sz_some xw24
  have lt_27 := k22.ltN hM26
  have lt_28 := k20.ltN hM26
  have lt_29 := k21.ltN hM26
  go_upto_region 5 with fail
  refine wp_mid (fun ac (zb : Nat × Nat) => ((((((((((((((((ac.put (some 45) (Value.int .i64 ((ops11 (rm op 11)) : Int))).put (some 46) (Value.bool l)).put (some 47) (Value.pointer (some ⟨N, 0, none⟩))).put (some 48) (Q (d 0))).put (some 49) (Value.agg (cellsOf (rC (cR (d 0))) 6))).put (some 50) (Value.pointer (some ⟨N, 1, none⟩))).put (some 51) (Q (d 1))).put (some 52) (Value.agg (cellsOf (rC (cR (d 1))) 6))).put (some 53) (Value.tuple #[(Value.agg (cellsOf (rC (refF (ops11 (rm op 11)) l (cR (d 0)) (cR (d 1)) false).1) 6)), (Value.agg (cellsOf (rC (refF (ops11 (rm op 11)) l (cR (d 0)) (cR (d 1)) false).2.1) 6)), (Value.bool (refF (ops11 (rm op 11)) l (cR (d 0)) (cR (d 1)) false).2.2)])).put (some 44) (Value.tuple #[(Value.agg (cellsOf (rC (refF (ops11 (rm op 11)) l (cR (d 0)) (cR (d 1)) false).1) 6)), (Value.agg (cellsOf (rC (refF (ops11 (rm op 11)) l (cR (d 0)) (cR (d 1)) false).2.1) 6)), (Value.bool (refF (ops11 (rm op 11)) l (cR (d 0)) (cR (d 1)) false).2.2)])).put (some 54) (Value.agg (cellsOf (rC (refF (ops11 (rm op 11)) l (cR (d 0)) (cR (d 1)) false).1) 6))).put (some 55) (Value.agg (cellsOf (rC (refF (ops11 (rm op 11)) l (cR (d 0)) (cR (d 1)) false).2.1) 6))).put (some 56) (Value.bool (refF (ops11 (rm op 11)) l (cR (d 0)) (cR (d 1)) false).2.2)).put (some 13) (.pointer (some ⟨zb.1, 0, none⟩))).put (some 14) (.pointer (some ⟨zb.2, 0, none⟩))).put (some 15) (Value.bool (refF (ops11 (rm op 11)) l (cR (d 0)) (cR (d 1)) false).2.2))) (fun zb w' => Has w' zb.1 41 6 (rC (refF (ops11 (rm op 11)) l (cR (d 0)) (cR (d 1)) false).1) ∧ Has w' zb.2 41 6 (rC (refF (ops11 (rm op 11)) l (cR (d 0)) (cR (d 1)) false).2.1) ∧ zb.2 ≠ zb.1 ∧ M26 ≤ zb.1 ∧ M26 ≤ zb.2 ∧ Has w' N 23 2 (dC d) ∧ Has w' b_19_x0 41 6 (rC (refF (ops11 (rm op 11)) l (cR (d 0)) (cR (d 1)) true).1) ∧ Has w' b_19_x1 41 6 (rC (refF (ops11 (rm op 11)) l (cR (d 0)) (cR (d 1)) true).2.1) ∧ Below N w w') ?_ ?_
  ·refine wp_region_any (by kernel_rfl) ?_
   replace k22 : Has xw24.drew N 23 2 (dC d) := k22
   replace k20 : Has xw24.drew b_19_x0 41 6 (rC (refF (ops11 (rm op 11)) l (cR (d 0)) (cR (d 1)) true).1) := k20
   replace k21 : Has xw24.drew b_19_x1 41 6 (rC (refF (ops11 (rm op 11)) l (cR (d 0)) (cR (d 1)) true).2.1) := k21
   replace hM26 : Sz xw24.drew M26 := hM26
   replace lo23 : Below N w xw24.drew := lo23.drew
   change wpAny _ _ _ _ _ _ _ (World.drew _)
   generalize xw24.drew = xw31 at *
   obtain ⟨c32, c33⟩ := d_cells k22
   refine wpAny_potL (lt := [11, 12]) (rem := [0, 1, 2, 3, 4, 5, 6, 7, 8, 9, 10, 11, 12, 13, 14]) (FG M26 (fun j => if j = 0 then some (Value.int .i64 ((ops11 (rm op 11)) : Int)) else if j = 1 then some (Value.bool l) else if j = 2 then some (Value.pointer (some ⟨N, 0, none⟩)) else if j = 3 then some (Q (d 0)) else if j = 4 then some (Value.agg (cellsOf (rC (cR (d 0))) 6)) else if j = 5 then some (Value.pointer (some ⟨N, 1, none⟩)) else if j = 6 then some (Q (d 1)) else if j = 7 then some (Value.agg (cellsOf (rC (cR (d 1))) 6)) else if j = 8 then some (Value.tuple #[(Value.agg (cellsOf (rC (refF (ops11 (rm op 11)) l (cR (d 0)) (cR (d 1)) false).1) 6)), (Value.agg (cellsOf (rC (refF (ops11 (rm op 11)) l (cR (d 0)) (cR (d 1)) false).2.1) 6)), (Value.bool (refF (ops11 (rm op 11)) l (cR (d 0)) (cR (d 1)) false).2.2)]) else if j = 9 then some (Value.tuple #[(Value.agg (cellsOf (rC (refF (ops11 (rm op 11)) l (cR (d 0)) (cR (d 1)) false).1) 6)), (Value.agg (cellsOf (rC (refF (ops11 (rm op 11)) l (cR (d 0)) (cR (d 1)) false).2.1) 6)), (Value.bool (refF (ops11 (rm op 11)) l (cR (d 0)) (cR (d 1)) false).2.2)]) else if j = 10 then some (Value.agg (cellsOf (rC (refF (ops11 (rm op 11)) l (cR (d 0)) (cR (d 1)) false).1) 6)) else if j = 11 then some (Value.agg (cellsOf (rC (refF (ops11 (rm op 11)) l (cR (d 0)) (cR (d 1)) false).2.1) 6)) else if j = 12 then some (Value.bool (refF (ops11 (rm op 11)) l (cR (d 0)) (cR (d 1)) false).2.2) else if j = 13 then none else none) (fun j => if j = 13 then (41, 6, rC zeroR) else (41, 6, rC zeroR))) (TwoN (fun j => if j = 0 then some (Value.int .i64 ((ops11 (rm op 11)) : Int)) else if j = 1 then some (Value.bool l) else if j = 2 then some (Value.pointer (some ⟨N, 0, none⟩)) else if j = 3 then some (Q (d 0)) else if j = 4 then some (Value.agg (cellsOf (rC (cR (d 0))) 6)) else if j = 5 then some (Value.pointer (some ⟨N, 1, none⟩)) else if j = 6 then some (Q (d 1)) else if j = 7 then some (Value.agg (cellsOf (rC (cR (d 1))) 6)) else if j = 8 then some (Value.tuple #[(Value.agg (cellsOf (rC (refF (ops11 (rm op 11)) l (cR (d 0)) (cR (d 1)) false).1) 6)), (Value.agg (cellsOf (rC (refF (ops11 (rm op 11)) l (cR (d 0)) (cR (d 1)) false).2.1) 6)), (Value.bool (refF (ops11 (rm op 11)) l (cR (d 0)) (cR (d 1)) false).2.2)]) else if j = 9 then some (Value.tuple #[(Value.agg (cellsOf (rC (refF (ops11 (rm op 11)) l (cR (d 0)) (cR (d 1)) false).1) 6)), (Value.agg (cellsOf (rC (refF (ops11 (rm op 11)) l (cR (d 0)) (cR (d 1)) false).2.1) 6)), (Value.bool (refF (ops11 (rm op 11)) l (cR (d 0)) (cR (d 1)) false).2.2)]) else if j = 10 then some (Value.agg (cellsOf (rC (refF (ops11 (rm op 11)) l (cR (d 0)) (cR (d 1)) false).1) 6)) else if j = 11 then some (Value.agg (cellsOf (rC (refF (ops11 (rm op 11)) l (cR (d 0)) (cR (d 1)) false).2.1) 6)) else if j = 12 then some (Value.bool (refF (ops11 (rm op 11)) l (cR (d 0)) (cR (d 1)) false).2.2) else if j = 13 then none else none)) (Below M26 xw31) _ _ _ _ (by kernel_rfl) (size_dstG (by kernel_rfl)) (Below.refl _ _) ?_ ?_
   ·intro i hi ac wa hI ha hv
    simp only [List.mem_cons, List.not_mem_nil, or_false] at hi
    rcases hi with rfl | rfl | rfl | rfl | rfl | rfl | rfl | rfl | rfl | rfl | rfl | rfl | rfl | rfl | rfl
    ·exact potg_run rfl rfl (Value.int .i64 ((ops11 (rm op 11)) : Int)) rfl (run_mv (x := (.tmp 8)) rfl _ (ha 8 (not_dstG (by kernel_rfl)))) hM26 hI
    ·exact potg_run rfl rfl (Value.bool l) rfl (run_mv (x := (.tmp 1)) rfl _ (ha 1 (not_dstG (by kernel_rfl)))) hM26 hI
    ·exact potg_run rfl rfl (Value.pointer (some ⟨N, 0, none⟩)) rfl (run_ia 23 (.tmp 5) (.const (.int .i64 0)) 0 rfl (ha 5 (not_dstG (by kernel_rfl))) rfl iaD0) hM26 hI
    ·obtain ⟨v2, hv2a, hv2b⟩ := hv 2 (by simp) (by kernel_rfl)
     have ev2 := hv2b.val rfl
     subst ev2
     exact potg_run rfl rfl (Q (d 0)) rfl (run_c1 22 (.tmp 47) rfl ⟨N, 0, none⟩ (hv2a 47 rfl) und64 rfl (keep_c hI hM26 c32)) hM26 hI
    ·obtain ⟨v3, hv3a, hv3b⟩ := hv 3 (by simp) (by kernel_rfl)
     have ev3 := hv3b.val rfl
     subst ev3
     exact potg_cl rfl rfl 28 _ _ rfl #[(Q (d 0))] (by simp only [List.map_toArray, List.map_cons, List.map_nil, (show ac.eval (.tmp 48) = (Q (d 0)) from (hv3a 48 rfl))] <;> rfl) (by kernel_rfl) (Value.agg (cellsOf (rC (cR (d 0))) 6)) (fun K hK => SConst_any (d 0) wa K hK) rfl hM26 hI
    ·exact potg_run rfl rfl (Value.pointer (some ⟨N, 1, none⟩)) rfl (run_ia 23 (.tmp 5) (.const (.int .i64 1)) 1 rfl (ha 5 (not_dstG (by kernel_rfl))) rfl iaD1) hM26 hI
    ·obtain ⟨v5, hv5a, hv5b⟩ := hv 5 (by simp) (by kernel_rfl)
     have ev5 := hv5b.val rfl
     subst ev5
     exact potg_run rfl rfl (Q (d 1)) rfl (run_c1 22 (.tmp 50) rfl ⟨N, 1, none⟩ (hv5a 50 rfl) und64 rfl (keep_c hI hM26 c33)) hM26 hI
    ·obtain ⟨v6, hv6a, hv6b⟩ := hv 6 (by simp) (by kernel_rfl)
     have ev6 := hv6b.val rfl
     subst ev6
     exact potg_cl rfl rfl 28 _ _ rfl #[(Q (d 1))] (by simp only [List.map_toArray, List.map_cons, List.map_nil, (show ac.eval (.tmp 51) = (Q (d 1)) from (hv6a 51 rfl))] <;> rfl) (by kernel_rfl) (Value.agg (cellsOf (rC (cR (d 1))) 6)) (fun K hK => SConst_any (d 1) wa K hK) rfl hM26 hI
    ·obtain ⟨v0, hv0a, hv0b⟩ := hv 0 (by simp) (by kernel_rfl)
     have ev0 := hv0b.val rfl
     subst ev0
     obtain ⟨v1, hv1a, hv1b⟩ := hv 1 (by simp) (by kernel_rfl)
     have ev1 := hv1b.val rfl
     subst ev1
     obtain ⟨v4, hv4a, hv4b⟩ := hv 4 (by simp) (by kernel_rfl)
     have ev4 := hv4b.val rfl
     subst ev4
     obtain ⟨v7, hv7a, hv7b⟩ := hv 7 (by simp) (by kernel_rfl)
     have ev7 := hv7b.val rfl
     subst ev7
     exact potg_cl rfl rfl 40 _ _ rfl #[(Value.int .i64 ((ops11 (rm op 11)) : Int)), (Value.bool l), (Value.agg (cellsOf (rC (cR (d 0))) 6)), (Value.agg (cellsOf (rC (cR (d 1))) 6)), (Value.bool false)] (by simp only [List.map_toArray, List.map_cons, List.map_nil, (show ac.eval (.tmp 45) = (Value.int .i64 ((ops11 (rm op 11)) : Int)) from (hv0a 45 rfl)), (show ac.eval (.tmp 46) = (Value.bool l) from (hv1a 46 rfl)), (show ac.eval (.tmp 49) = (Value.agg (cellsOf (rC (cR (d 0))) 6)) from (hv4a 49 rfl)), (show ac.eval (.tmp 52) = (Value.agg (cellsOf (rC (cR (d 1))) 6)) from (hv7a 52 rfl))] <;> rfl) (by kernel_rfl) (Value.tuple #[(Value.agg (cellsOf (rC (refF (ops11 (rm op 11)) l (cR (d 0)) (cR (d 1)) false).1) 6)), (Value.agg (cellsOf (rC (refF (ops11 (rm op 11)) l (cR (d 0)) (cR (d 1)) false).2.1) 6)), (Value.bool (refF (ops11 (rm op 11)) l (cR (d 0)) (cR (d 1)) false).2.2)]) (fun K hK => Refine_all (ops11 (rm op 11)) l (cR (d 0)) (cR (d 1)) false wa K hK) rfl hM26 hI
    ·obtain ⟨v8, hv8a, hv8b⟩ := hv 8 (by simp) (by kernel_rfl)
     have ev8 := hv8b.val rfl
     subst ev8
     exact potg_run rfl rfl (Value.tuple #[(Value.agg (cellsOf (rC (refF (ops11 (rm op 11)) l (cR (d 0)) (cR (d 1)) false).1) 6)), (Value.agg (cellsOf (rC (refF (ops11 (rm op 11)) l (cR (d 0)) (cR (d 1)) false).2.1) 6)), (Value.bool (refF (ops11 (rm op 11)) l (cR (d 0)) (cR (d 1)) false).2.2)]) rfl (run_mv (x := (.tmp 53)) rfl _ (hv8a 53 rfl)) hM26 hI
    ·obtain ⟨v9, hv9a, hv9b⟩ := hv 9 (by simp) (by kernel_rfl)
     have ev9 := hv9b.val rfl
     subst ev9
     exact potg_run rfl rfl (Value.agg (cellsOf (rC (refF (ops11 (rm op 11)) l (cR (d 0)) (cR (d 1)) false).1) 6)) rfl (run_ex (x := (.tmp 44)) rfl _ (hv9a 44 rfl) rfl) hM26 hI
    ·obtain ⟨v9, hv9a, hv9b⟩ := hv 9 (by simp) (by kernel_rfl)
     have ev9 := hv9b.val rfl
     subst ev9
     exact potg_run rfl rfl (Value.agg (cellsOf (rC (refF (ops11 (rm op 11)) l (cR (d 0)) (cR (d 1)) false).2.1) 6)) rfl (run_ex (x := (.tmp 44)) rfl _ (hv9a 44 rfl) rfl) hM26 hI
    ·obtain ⟨v9, hv9a, hv9b⟩ := hv 9 (by simp) (by kernel_rfl)
     have ev9 := hv9b.val rfl
     subst ev9
     exact potg_run rfl rfl (Value.bool (refF (ops11 (rm op 11)) l (cR (d 0)) (cR (d 1)) false).2.2) rfl (run_ex (x := (.tmp 44)) rfl _ (hv9a 44 rfl) rfl) hM26 hI
    ·exact potg_al rfl rfl rfl zeR rfl rfl hM26 hI
    ·exact potg_al rfl rfl rfl zeR rfl rfl hM26 hI
   ·intro L vals w5_30_ hb5_30_ hF hG hL
    have l0 := hL 0 (by simp) rfl
    have l1 := hL 1 (by simp) rfl
    have l2 := hL 2 (by simp) rfl
    have l3 := hL 3 (by simp) rfl
    have l4 := hL 4 (by simp) rfl
    have l5 := hL 5 (by simp) rfl
    have l6 := hL 6 (by simp) rfl
    have l7 := hL 7 (by simp) rfl
    have l8 := hL 8 (by simp) rfl
    have l9 := hL 9 (by simp) rfl
    have l10 := hL 10 (by simp) rfl
    have l13 := hL 13 (by simp) rfl
    have l14 := hL 14 (by simp) rfl
    clear hL
    cases c11 : L 11
    ·cases c12 : L 12
     ·have e_30_0 := (hF 0 (by simp) l0).val rfl
      have e_30_1 := (hF 1 (by simp) l1).val rfl
      have e_30_2 := (hF 2 (by simp) l2).val rfl
      have e_30_3 := (hF 3 (by simp) l3).val rfl
      have e_30_4 := (hF 4 (by simp) l4).val rfl
      have e_30_5 := (hF 5 (by simp) l5).val rfl
      have e_30_6 := (hF 6 (by simp) l6).val rfl
      have e_30_7 := (hF 7 (by simp) l7).val rfl
      have e_30_8 := (hF 8 (by simp) l8).val rfl
      have e_30_9 := (hF 9 (by simp) l9).val rfl
      have e_30_10 := (hF 10 (by simp) l10).val rfl
      obtain ⟨b_30_13, bl_30_13, e_30_13, h_30_13⟩ := (hF 13 (by simp) l13).al rfl rfl
      obtain ⟨b_30_14, bl_30_14, e_30_14, h_30_14⟩ := (hF 14 (by simp) l14).al rfl rfl
      have n_30_13_14 := hG 13 (by simp) 14 (by simp) (by omega) l13 l14 rfl rfl b_30_13 b_30_14 e_30_13 e_30_14
      clear hF hG
      rw [show left L [0, 1, 2, 3, 4, 5, 6, 7, 8, 9, 10, 11, 12, 13, 14] = 2 from by simp [left, l0, l1, l2, l3, l4, l5, l6, l7, l8, l9, l10, l13, l14, c11, c12]]
      refine wpAny_fuel (n := 5) (by kernel_rfl) ?_
      simp only [marks, puts, l0, l1, l2, l3, l4, l5, l6, l7, l8, l9, l10, l13, l14, c11, c12, if_true, if_false, Bool.false_eq_true, dstOf, List.getElem?_toArray, List.getElem?_cons_succ, List.getElem?_cons_zero, Option.bind_some, Act.put, List.setIfInBounds_toArray, List.set_cons_succ, List.set_cons_zero, e_30_0, e_30_1, e_30_2, e_30_3, e_30_4, e_30_5, e_30_6, e_30_7, e_30_8, e_30_9, e_30_10, e_30_13, e_30_14]
      clear e_30_0 e_30_1 e_30_2 e_30_3 e_30_4 e_30_5 e_30_6 e_30_7 e_30_8 e_30_9 e_30_10 e_30_13 e_30_14 l0 l1 l2 l3 l4 l5 l6 l7 l8 l9 l10 l13 l14 c11 c12
      have k34 := k22.below hb5_30_ (by omega)
      have k35 := k20.below hb5_30_ (by omega)
      have k36 := k21.below hb5_30_ (by omega)
      have lo37 := lo23.trans (hb5_30_.mono (by omega))
      obtain ⟨M5, hM5⟩ := sz_some w5_30_
      have lM5 := below_sz hb5_30_ hM26 hM5
      clear k22 c32 c33 k20 k21 lo23 hb5_30_
      refine wpAny_of_held (S := fun _ => True) _ _ _ _ ?_
      refine held_take (i := 11) (v := (Value.agg (cellsOf (rC (refF (ops11 (rm op 11)) l (cR (d 0)) (cR (d 1)) false).2.1) 6))) (d := some 55) rfl (by kernel_rfl) (by kernel_rfl) (by kernel_rfl) (by kernel_rfl) (fun _ _ _ h => by cases h.1) (Or.inl ⟨by rfl, fun wq _ => run_ex (x := (.tmp 44)) rfl wq rfl rfl⟩) trivial ?_; simp only [pA]
      refine held_take (i := 12) (v := (Value.bool (refF (ops11 (rm op 11)) l (cR (d 0)) (cR (d 1)) false).2.2)) (d := some 56) rfl (by kernel_rfl) (by kernel_rfl) (by kernel_rfl) (by kernel_rfl) (fun _ _ _ h => by cases h.1) (Or.inl ⟨by rfl, fun wq _ => run_ex (x := (.tmp 44)) rfl wq rfl rfl⟩) trivial ?_; simp only [pA]
      refine wpAnyH_all (rs := [15]) (by kernel_rfl) (by simp) ?_
      intro iq hiq; simp only [List.mem_singleton] at hiq; subst hiq
      refine opg_list rfl ?_
      refine wpl_storeN (by rfl) (by kernel_rfl) 41 (.tmp 13) (.tmp 54) rfl b_30_13 6 (rC (refF (ops11 (rm op 11)) l (cR (d 0)) (cR (d 1)) false).1) rfl rfl 41 _ h_30_13 szR (fun j _ => rC_one _ j) ?_
      intro xw38 t39 k40; try simp only [pA]
      have k41 := k34.touch t39 (by omega)
      have k42 := k35.touch t39 (by omega)
      have k43 := k36.touch t39 (by omega)
      have k44 := h_30_14.touch t39 (by omega)
      have lo45 := t39.below lo37 (by omega)
      have h46 := t39.sz hM5
      clear h_30_13 k34 k35 k36 h_30_14 lo37 hM5 t39
      refine ⟨trivial, ?_⟩
      refine wpAnyH_all (rs := [16]) (by kernel_rfl) (by simp) ?_
      intro iq hiq; simp only [List.mem_singleton] at hiq; subst hiq
      refine opg_list rfl ?_
      refine wpl_storeN (by rfl) (by kernel_rfl) 41 (.tmp 14) (.tmp 55) rfl b_30_14 6 (rC (refF (ops11 (rm op 11)) l (cR (d 0)) (cR (d 1)) false).2.1) rfl rfl 41 _ k44 szR (fun j _ => rC_one _ j) ?_
      intro xw47 t48 k49; try simp only [pA]
      have k50 := k41.touch t48 (by omega)
      have k51 := k42.touch t48 (by omega)
      have k52 := k43.touch t48 (by omega)
      have k53 := k40.touch t48 (by omega)
      have lo54 := t48.below lo45 (by omega)
      have h55 := t48.sz h46
      clear k44 k41 k42 k43 k40 lo45 h46 t48
      refine ⟨trivial, ?_⟩
      refine wpAnyH_all (rs := [17]) (by kernel_rfl) (by simp) ?_
      intro iq hiq; simp only [List.mem_singleton] at hiq; subst hiq
      refine opg_list rfl ?_
      refine wpl_runD rfl (d := some 15) rfl (Value.bool (refF (ops11 (rm op 11)) l (cR (d 0)) (cR (d 1)) false).2.2) (run_as (x := (.tmp 56)) rfl _ rfl) ?_; simp only [pA]
      refine ⟨trivial, ?_⟩
      refine wpAnyH_done (by kernel_rfl) ?_ _
      refine ⟨rfl, (b_30_13, b_30_14), (by simp only [pA]), k53, k49, (Ne.symm n_30_13_14), bl_30_13, bl_30_14, k50, k51, k52, lo54⟩
     ·have e_30_0 := (hF 0 (by simp) l0).val rfl
      have e_30_1 := (hF 1 (by simp) l1).val rfl
      have e_30_2 := (hF 2 (by simp) l2).val rfl
      have e_30_3 := (hF 3 (by simp) l3).val rfl
      have e_30_4 := (hF 4 (by simp) l4).val rfl
      have e_30_5 := (hF 5 (by simp) l5).val rfl
      have e_30_6 := (hF 6 (by simp) l6).val rfl
      have e_30_7 := (hF 7 (by simp) l7).val rfl
      have e_30_8 := (hF 8 (by simp) l8).val rfl
      have e_30_9 := (hF 9 (by simp) l9).val rfl
      have e_30_10 := (hF 10 (by simp) l10).val rfl
      have e_30_12 := (hF 12 (by simp) c12).val rfl
      obtain ⟨b_30_13, bl_30_13, e_30_13, h_30_13⟩ := (hF 13 (by simp) l13).al rfl rfl
      obtain ⟨b_30_14, bl_30_14, e_30_14, h_30_14⟩ := (hF 14 (by simp) l14).al rfl rfl
      have n_30_13_14 := hG 13 (by simp) 14 (by simp) (by omega) l13 l14 rfl rfl b_30_13 b_30_14 e_30_13 e_30_14
      clear hF hG
      rw [show left L [0, 1, 2, 3, 4, 5, 6, 7, 8, 9, 10, 11, 12, 13, 14] = 1 from by simp [left, l0, l1, l2, l3, l4, l5, l6, l7, l8, l9, l10, l13, l14, c11, c12]]
      refine wpAny_fuel (n := 4) (by kernel_rfl) ?_
      simp only [marks, puts, l0, l1, l2, l3, l4, l5, l6, l7, l8, l9, l10, l13, l14, c11, c12, if_true, if_false, Bool.false_eq_true, dstOf, List.getElem?_toArray, List.getElem?_cons_succ, List.getElem?_cons_zero, Option.bind_some, Act.put, List.setIfInBounds_toArray, List.set_cons_succ, List.set_cons_zero, e_30_0, e_30_1, e_30_2, e_30_3, e_30_4, e_30_5, e_30_6, e_30_7, e_30_8, e_30_9, e_30_10, e_30_12, e_30_13, e_30_14]
      clear e_30_0 e_30_1 e_30_2 e_30_3 e_30_4 e_30_5 e_30_6 e_30_7 e_30_8 e_30_9 e_30_10 e_30_12 e_30_13 e_30_14 l0 l1 l2 l3 l4 l5 l6 l7 l8 l9 l10 l13 l14 c11 c12
      have k34 := k22.below hb5_30_ (by omega)
      have k35 := k20.below hb5_30_ (by omega)
      have k36 := k21.below hb5_30_ (by omega)
      have lo37 := lo23.trans (hb5_30_.mono (by omega))
      obtain ⟨M5, hM5⟩ := sz_some w5_30_
      have lM5 := below_sz hb5_30_ hM26 hM5
      clear k22 c32 c33 k20 k21 lo23 hb5_30_
      refine wpAny_of_held (S := fun _ => True) _ _ _ _ ?_
      refine held_take (i := 11) (v := (Value.agg (cellsOf (rC (refF (ops11 (rm op 11)) l (cR (d 0)) (cR (d 1)) false).2.1) 6))) (d := some 55) rfl (by kernel_rfl) (by kernel_rfl) (by kernel_rfl) (by kernel_rfl) (fun _ _ _ h => by cases h.1) (Or.inl ⟨by rfl, fun wq _ => run_ex (x := (.tmp 44)) rfl wq rfl rfl⟩) trivial ?_; simp only [pA]
      refine wpAnyH_all (rs := [15]) (by kernel_rfl) (by simp) ?_
      intro iq hiq; simp only [List.mem_singleton] at hiq; subst hiq
      refine opg_list rfl ?_
      refine wpl_storeN (by rfl) (by kernel_rfl) 41 (.tmp 13) (.tmp 54) rfl b_30_13 6 (rC (refF (ops11 (rm op 11)) l (cR (d 0)) (cR (d 1)) false).1) rfl rfl 41 _ h_30_13 szR (fun j _ => rC_one _ j) ?_
      intro xw38 t39 k40; try simp only [pA]
      have k41 := k34.touch t39 (by omega)
      have k42 := k35.touch t39 (by omega)
      have k43 := k36.touch t39 (by omega)
      have k44 := h_30_14.touch t39 (by omega)
      have lo45 := t39.below lo37 (by omega)
      have h46 := t39.sz hM5
      clear h_30_13 k34 k35 k36 h_30_14 lo37 hM5 t39
      refine ⟨trivial, ?_⟩
      refine wpAnyH_all (rs := [16]) (by kernel_rfl) (by simp) ?_
      intro iq hiq; simp only [List.mem_singleton] at hiq; subst hiq
      refine opg_list rfl ?_
      refine wpl_storeN (by rfl) (by kernel_rfl) 41 (.tmp 14) (.tmp 55) rfl b_30_14 6 (rC (refF (ops11 (rm op 11)) l (cR (d 0)) (cR (d 1)) false).2.1) rfl rfl 41 _ k44 szR (fun j _ => rC_one _ j) ?_
      intro xw47 t48 k49; try simp only [pA]
      have k50 := k41.touch t48 (by omega)
      have k51 := k42.touch t48 (by omega)
      have k52 := k43.touch t48 (by omega)
      have k53 := k40.touch t48 (by omega)
      have lo54 := t48.below lo45 (by omega)
      have h55 := t48.sz h46
      clear k44 k41 k42 k43 k40 lo45 h46 t48
      refine ⟨trivial, ?_⟩
      refine wpAnyH_all (rs := [17]) (by kernel_rfl) (by simp) ?_
      intro iq hiq; simp only [List.mem_singleton] at hiq; subst hiq
      refine opg_list rfl ?_
      refine wpl_runD rfl (d := some 15) rfl (Value.bool (refF (ops11 (rm op 11)) l (cR (d 0)) (cR (d 1)) false).2.2) (run_as (x := (.tmp 56)) rfl _ rfl) ?_; simp only [pA]
      refine ⟨trivial, ?_⟩
      refine wpAnyH_done (by kernel_rfl) ?_ _
      refine ⟨rfl, (b_30_13, b_30_14), (by simp only [pA]), k53, k49, (Ne.symm n_30_13_14), bl_30_13, bl_30_14, k50, k51, k52, lo54⟩
    ·cases c12 : L 12
     ·have e_30_0 := (hF 0 (by simp) l0).val rfl
      have e_30_1 := (hF 1 (by simp) l1).val rfl
      have e_30_2 := (hF 2 (by simp) l2).val rfl
      have e_30_3 := (hF 3 (by simp) l3).val rfl
      have e_30_4 := (hF 4 (by simp) l4).val rfl
      have e_30_5 := (hF 5 (by simp) l5).val rfl
      have e_30_6 := (hF 6 (by simp) l6).val rfl
      have e_30_7 := (hF 7 (by simp) l7).val rfl
      have e_30_8 := (hF 8 (by simp) l8).val rfl
      have e_30_9 := (hF 9 (by simp) l9).val rfl
      have e_30_10 := (hF 10 (by simp) l10).val rfl
      have e_30_11 := (hF 11 (by simp) c11).val rfl
      obtain ⟨b_30_13, bl_30_13, e_30_13, h_30_13⟩ := (hF 13 (by simp) l13).al rfl rfl
      obtain ⟨b_30_14, bl_30_14, e_30_14, h_30_14⟩ := (hF 14 (by simp) l14).al rfl rfl
      have n_30_13_14 := hG 13 (by simp) 14 (by simp) (by omega) l13 l14 rfl rfl b_30_13 b_30_14 e_30_13 e_30_14
      clear hF hG
      rw [show left L [0, 1, 2, 3, 4, 5, 6, 7, 8, 9, 10, 11, 12, 13, 14] = 1 from by simp [left, l0, l1, l2, l3, l4, l5, l6, l7, l8, l9, l10, l13, l14, c11, c12]]
      refine wpAny_fuel (n := 4) (by kernel_rfl) ?_
      simp only [marks, puts, l0, l1, l2, l3, l4, l5, l6, l7, l8, l9, l10, l13, l14, c11, c12, if_true, if_false, Bool.false_eq_true, dstOf, List.getElem?_toArray, List.getElem?_cons_succ, List.getElem?_cons_zero, Option.bind_some, Act.put, List.setIfInBounds_toArray, List.set_cons_succ, List.set_cons_zero, e_30_0, e_30_1, e_30_2, e_30_3, e_30_4, e_30_5, e_30_6, e_30_7, e_30_8, e_30_9, e_30_10, e_30_11, e_30_13, e_30_14]
      clear e_30_0 e_30_1 e_30_2 e_30_3 e_30_4 e_30_5 e_30_6 e_30_7 e_30_8 e_30_9 e_30_10 e_30_11 e_30_13 e_30_14 l0 l1 l2 l3 l4 l5 l6 l7 l8 l9 l10 l13 l14 c11 c12
      have k34 := k22.below hb5_30_ (by omega)
      have k35 := k20.below hb5_30_ (by omega)
      have k36 := k21.below hb5_30_ (by omega)
      have lo37 := lo23.trans (hb5_30_.mono (by omega))
      obtain ⟨M5, hM5⟩ := sz_some w5_30_
      have lM5 := below_sz hb5_30_ hM26 hM5
      clear k22 c32 c33 k20 k21 lo23 hb5_30_
      refine wpAny_of_held (S := fun _ => True) _ _ _ _ ?_
      refine held_take (i := 12) (v := (Value.bool (refF (ops11 (rm op 11)) l (cR (d 0)) (cR (d 1)) false).2.2)) (d := some 56) rfl (by kernel_rfl) (by kernel_rfl) (by kernel_rfl) (by kernel_rfl) (fun _ _ _ h => by cases h.1) (Or.inl ⟨by rfl, fun wq _ => run_ex (x := (.tmp 44)) rfl wq rfl rfl⟩) trivial ?_; simp only [pA]
      refine wpAnyH_all (rs := [15]) (by kernel_rfl) (by simp) ?_
      intro iq hiq; simp only [List.mem_singleton] at hiq; subst hiq
      refine opg_list rfl ?_
      refine wpl_storeN (by rfl) (by kernel_rfl) 41 (.tmp 13) (.tmp 54) rfl b_30_13 6 (rC (refF (ops11 (rm op 11)) l (cR (d 0)) (cR (d 1)) false).1) rfl rfl 41 _ h_30_13 szR (fun j _ => rC_one _ j) ?_
      intro xw38 t39 k40; try simp only [pA]
      have k41 := k34.touch t39 (by omega)
      have k42 := k35.touch t39 (by omega)
      have k43 := k36.touch t39 (by omega)
      have k44 := h_30_14.touch t39 (by omega)
      have lo45 := t39.below lo37 (by omega)
      have h46 := t39.sz hM5
      clear h_30_13 k34 k35 k36 h_30_14 lo37 hM5 t39
      refine ⟨trivial, ?_⟩
      refine wpAnyH_all (rs := [16]) (by kernel_rfl) (by simp) ?_
      intro iq hiq; simp only [List.mem_singleton] at hiq; subst hiq
      refine opg_list rfl ?_
      refine wpl_storeN (by rfl) (by kernel_rfl) 41 (.tmp 14) (.tmp 55) rfl b_30_14 6 (rC (refF (ops11 (rm op 11)) l (cR (d 0)) (cR (d 1)) false).2.1) rfl rfl 41 _ k44 szR (fun j _ => rC_one _ j) ?_
      intro xw47 t48 k49; try simp only [pA]
      have k50 := k41.touch t48 (by omega)
      have k51 := k42.touch t48 (by omega)
      have k52 := k43.touch t48 (by omega)
      have k53 := k40.touch t48 (by omega)
      have lo54 := t48.below lo45 (by omega)
      have h55 := t48.sz h46
      clear k44 k41 k42 k43 k40 lo45 h46 t48
      refine ⟨trivial, ?_⟩
      refine wpAnyH_all (rs := [17]) (by kernel_rfl) (by simp) ?_
      intro iq hiq; simp only [List.mem_singleton] at hiq; subst hiq
      refine opg_list rfl ?_
      refine wpl_runD rfl (d := some 15) rfl (Value.bool (refF (ops11 (rm op 11)) l (cR (d 0)) (cR (d 1)) false).2.2) (run_as (x := (.tmp 56)) rfl _ rfl) ?_; simp only [pA]
      refine ⟨trivial, ?_⟩
      refine wpAnyH_done (by kernel_rfl) ?_ _
      refine ⟨rfl, (b_30_13, b_30_14), (by simp only [pA]), k53, k49, (Ne.symm n_30_13_14), bl_30_13, bl_30_14, k50, k51, k52, lo54⟩
     ·have e_30_0 := (hF 0 (by simp) l0).val rfl
      have e_30_1 := (hF 1 (by simp) l1).val rfl
      have e_30_2 := (hF 2 (by simp) l2).val rfl
      have e_30_3 := (hF 3 (by simp) l3).val rfl
      have e_30_4 := (hF 4 (by simp) l4).val rfl
      have e_30_5 := (hF 5 (by simp) l5).val rfl
      have e_30_6 := (hF 6 (by simp) l6).val rfl
      have e_30_7 := (hF 7 (by simp) l7).val rfl
      have e_30_8 := (hF 8 (by simp) l8).val rfl
      have e_30_9 := (hF 9 (by simp) l9).val rfl
      have e_30_10 := (hF 10 (by simp) l10).val rfl
      have e_30_11 := (hF 11 (by simp) c11).val rfl
      have e_30_12 := (hF 12 (by simp) c12).val rfl
      obtain ⟨b_30_13, bl_30_13, e_30_13, h_30_13⟩ := (hF 13 (by simp) l13).al rfl rfl
      obtain ⟨b_30_14, bl_30_14, e_30_14, h_30_14⟩ := (hF 14 (by simp) l14).al rfl rfl
      have n_30_13_14 := hG 13 (by simp) 14 (by simp) (by omega) l13 l14 rfl rfl b_30_13 b_30_14 e_30_13 e_30_14
      clear hF hG
      rw [show left L [0, 1, 2, 3, 4, 5, 6, 7, 8, 9, 10, 11, 12, 13, 14] = 0 from by simp [left, l0, l1, l2, l3, l4, l5, l6, l7, l8, l9, l10, l13, l14, c11, c12]]
      refine wpAny_fuel (n := 3) (by kernel_rfl) ?_
      simp only [marks, puts, l0, l1, l2, l3, l4, l5, l6, l7, l8, l9, l10, l13, l14, c11, c12, if_true, if_false, Bool.false_eq_true, dstOf, List.getElem?_toArray, List.getElem?_cons_succ, List.getElem?_cons_zero, Option.bind_some, Act.put, List.setIfInBounds_toArray, List.set_cons_succ, List.set_cons_zero, e_30_0, e_30_1, e_30_2, e_30_3, e_30_4, e_30_5, e_30_6, e_30_7, e_30_8, e_30_9, e_30_10, e_30_11, e_30_12, e_30_13, e_30_14]
      clear e_30_0 e_30_1 e_30_2 e_30_3 e_30_4 e_30_5 e_30_6 e_30_7 e_30_8 e_30_9 e_30_10 e_30_11 e_30_12 e_30_13 e_30_14 l0 l1 l2 l3 l4 l5 l6 l7 l8 l9 l10 l13 l14 c11 c12
      have k34 := k22.below hb5_30_ (by omega)
      have k35 := k20.below hb5_30_ (by omega)
      have k36 := k21.below hb5_30_ (by omega)
      have lo37 := lo23.trans (hb5_30_.mono (by omega))
      obtain ⟨M5, hM5⟩ := sz_some w5_30_
      have lM5 := below_sz hb5_30_ hM26 hM5
      clear k22 c32 c33 k20 k21 lo23 hb5_30_
      refine wpAny_of_held (S := fun _ => True) _ _ _ _ ?_
      refine wpAnyH_all (rs := [15]) (by kernel_rfl) (by simp) ?_
      intro iq hiq; simp only [List.mem_singleton] at hiq; subst hiq
      refine opg_list rfl ?_
      refine wpl_storeN (by rfl) (by kernel_rfl) 41 (.tmp 13) (.tmp 54) rfl b_30_13 6 (rC (refF (ops11 (rm op 11)) l (cR (d 0)) (cR (d 1)) false).1) rfl rfl 41 _ h_30_13 szR (fun j _ => rC_one _ j) ?_
      intro xw38 t39 k40; try simp only [pA]
      have k41 := k34.touch t39 (by omega)
      have k42 := k35.touch t39 (by omega)
      have k43 := k36.touch t39 (by omega)
      have k44 := h_30_14.touch t39 (by omega)
      have lo45 := t39.below lo37 (by omega)
      have h46 := t39.sz hM5
      clear h_30_13 k34 k35 k36 h_30_14 lo37 hM5 t39
      refine ⟨trivial, ?_⟩
      refine wpAnyH_all (rs := [16]) (by kernel_rfl) (by simp) ?_
      intro iq hiq; simp only [List.mem_singleton] at hiq; subst hiq
      refine opg_list rfl ?_
      refine wpl_storeN (by rfl) (by kernel_rfl) 41 (.tmp 14) (.tmp 55) rfl b_30_14 6 (rC (refF (ops11 (rm op 11)) l (cR (d 0)) (cR (d 1)) false).2.1) rfl rfl 41 _ k44 szR (fun j _ => rC_one _ j) ?_
      intro xw47 t48 k49; try simp only [pA]
      have k50 := k41.touch t48 (by omega)
      have k51 := k42.touch t48 (by omega)
      have k52 := k43.touch t48 (by omega)
      have k53 := k40.touch t48 (by omega)
      have lo54 := t48.below lo45 (by omega)
      have h55 := t48.sz h46
      clear k44 k41 k42 k43 k40 lo45 h46 t48
      refine ⟨trivial, ?_⟩
      refine wpAnyH_all (rs := [17]) (by kernel_rfl) (by simp) ?_
      intro iq hiq; simp only [List.mem_singleton] at hiq; subst hiq
      refine opg_list rfl ?_
      refine wpl_runD rfl (d := some 15) rfl (Value.bool (refF (ops11 (rm op 11)) l (cR (d 0)) (cR (d 1)) false).2.2) (run_as (x := (.tmp 56)) rfl _ rfl) ?_; simp only [pA]
      refine ⟨trivial, ?_⟩
      refine wpAnyH_done (by kernel_rfl) ?_ _
      refine ⟨rfl, (b_30_13, b_30_14), (by simp only [pA]), k53, k49, (Ne.symm n_30_13_14), bl_30_13, bl_30_14, k50, k51, k52, lo54⟩
  ·clear k22 k20 k21 lo23
   rintro ⟨b_30_x0, b_30_x1⟩ xw37 ⟨k31, k32, ne38, lb_30_x0, lb_30_x1, k33, k34, k35, lo36⟩
   try dsimp only at *
   try simp only [pA]
   obtain ⟨M39, hM39⟩ := sz_some xw37
   have lt_40 := k33.ltN hM39
   have lt_41 := k34.ltN hM39
   have lt_42 := k35.ltN hM39
   have lt_43 := k31.ltN hM39
   have lt_44 := k32.ltN hM39
   go_upto_region 6 with fail
   obtain ⟨c45, c46⟩ := d_cells k33
   refine wp_region_later (M39) (by kernel_rfl) (by kernel_rfl) ?_
   try simp only [pA]
   go_big_quiet_step ((go_at_call 35; exact later_of hM39 _ (fun K hK hKN => tells_any _ K hK)))
   iterate 9 (go_big_quiet_step (fail))
   refine later_val (fun q => run_eqb 4 4 (.tmp 64) (.tmp 66) rfl undBool (p := (refF (ops11 (rm op 11)) l (cR (d 0)) (cR (d 1)) false).2.2) (q := false) (r := true) rfl rfl F5.out) (by rfl) ?_; simp only [pA]
   iterate 5 (go_big_quiet_step (fail))
   refine later_row hM39 41 (.tmp 10) rfl (b_19_x0) rfl 41 6 _ k34 undR szR (by rfl) ?_; simp only [pA]
   go_big_quiet_step (fail)
   refine later_c1 hM39 22 (.tmp 74) rfl rfl und64 rfl c45 (by rfl) ?_; simp only [pA]
   go_big_quiet_step ((go_at_call 28; exact later_of hM39 _ (fun K hK hKN => SConst_any (d 0) _ K hK)))
   refine later_val (fun q => run_eql_op 41 41 (.tmp 73) (.tmp 76) rfl _ _ rfl rfl true (by kernel_rfl) (run_eqR_t F3.out q.w')) (by rfl) ?_; simp only [pA]
   go_big_quiet_step (fail)
   refine later_row hM39 41 (.tmp 11) rfl (b_19_x1) rfl 41 6 _ k35 undR szR (by rfl) ?_; simp only [pA]
   go_big_quiet_step (fail)
   refine later_c1 hM39 22 (.tmp 80) rfl rfl und64 rfl c46 (by rfl) ?_; simp only [pA]
   go_big_quiet_step ((go_at_call 28; exact later_of hM39 _ (fun K hK hKN => SConst_any (d 1) _ K hK)))
   refine later_val (fun q => run_eql_op 41 41 (.tmp 79) (.tmp 82) rfl _ _ rfl rfl true (by kernel_rfl) (run_eqR_t F4.out q.w')) (by rfl) ?_; simp only [pA]
   iterate 4 (go_big_quiet_step (fail))
   refine wpQuiet_nil (laterE hM39 ?_)
   intro xw47 M48 hbxw47 hM48 lM48
   have k49 := k33.below hbxw47 (by omega)
   have k50 := k34.below hbxw47 (by omega)
   have k51 := k35.below hbxw47 (by omega)
   have k52 := k31.below hbxw47 (by omega)
   have k53 := k32.below hbxw47 (by omega)
   have lo54 := lo36.trans (hbxw47.mono (by omega))
   clear k33 c45 c46 k34 k35 k31 k32 lo36 hbxw47
   go_wp2_with fail
   go_ret
   exact ⟨rfl, lo54⟩
set_option maxRecDepth 100000 in
set_option maxHeartbeats 8000000 in
theorem law_balone_f (op : Int) (l : Bool) (d : Nat → W) (w : World) (N : Nat) (hN : Sz w N) (HH : Hid ((holF (ops11 (rm op 11)) l (d 0) (d 1)) = false)) : Calls Try.prog 11 #[(Value.int .i64 op), (Value.bool l), (Value.agg (cellsOf (dC d) 2))] w fun e w' => e = .returned (.bool true) ∧ Below N w w' := by
 have OV := hid (ops11_ok (rm op 11) (rm_lt op 11 (by decide)))
 have F0 := hid (show (refF (ops11 (rm op 11)) l (cR (d 0)) (cR (d 1)) true).2.2 = false from by rw [ref_alone (Or.inr OV.out), HH.out]; rfl)
 have F1 := hid (show (refF (ops11 (rm op 11)) l (cR (d 0)) (cR (d 1)) false).2.2 = true from by rw [ref_alone (Or.inl rfl), HH.out]; rfl)
 have F2 := hid (show (holF (ops11 (rm op 11)) l (d 0) (d 1)) = false from HH.out)
 have F5 := hid (show ((refF (ops11 (rm op 11)) l (cR (d 0)) (cR (d 1)) false).2.2 == true) = true from by rw [F1.out]; rfl)
 have F6 := hid (show ((refF (ops11 (rm op 11)) l (cR (d 0)) (cR (d 1)) true).2.2 == false) = true from by rw [F0.out]; rfl)
 go_enter Try.func11, Try.ntmps11
 go_upto_region 1 with (first
  | (refine wpl_box rfl 23 (.tmp 2) rfl 2 _ rfl (N) hN ?_; intro w1 hN1 hb1 hh1)
  | fail)
 have lo0 : Below N w w1 := hb1
 have k1 := hh1
 clear hh1 hb1
 go_upto_region 1 with fail
 refine wp_region_lit ?_
 try simp only [pA]
 refine wpl_bsT rfl 60 3 11 1 (fun j => .int .i64 (ops11 j : Int)) (by omega) (fun w => by kernel_rfl) (N + 1) hN1 ?_
 intro xw2 hMxw2 hbxw2 hhxw2; simp only [pA]
 have k3 := k1.below hbxw2 (by omega)
 have lo4 := lo0.trans (hbxw2.mono (by omega))
 clear k1 lo0 hbxw2
 have LT : Ats xw2 (some ⟨(N + 1), 0, none⟩) 11 (fun j => .int .i64 (ops11 j : Int)) := (own_has hhxw2).ats
 clear hhxw2
 refine wpl_run rfl (.slice (some ⟨(N + 1), 0, none⟩) 11 11) _ (run_as (x := .tmp 16) rfl _ rfl) ?_; simp only [pA]
 obtain ⟨M5, hM5⟩ := sz_some xw2
 have lt_6 := k3.ltN hM5
 have lN_7 := below_sz lo4 hN hM5
 go_upto_region 2 with fail
 refine wp_region_later1 (M5) ?_
 try simp only [pA]
 iterate 2 (go_big_quiet_step (fail))
 refine later_val (fun q => run_iu (x := (.tmp 18)) rfl undInt und64 rfl q.w') (by rfl) ?_; simp only [pA]
 refine later_b (x := (.tmp 19)) (y := (.const (.int .u64 11))) rfl (bin_rem _ (BitVec.ofInt 64 op) 11#64 (by decide)) rfl rfl (by rfl) ?_; simp only [pA]
 refine later_val (fun q => run_rm (x := (.tmp 20)) rfl und64 undInt (z := op) (m := 11) (by omega) rfl q.w') (by rfl) ?_; simp only [pA]
 refine later_val (fun q => run_ixL 60 3 undSI szI1 (.tmp 17) (.tmp 21) rfl rfl rfl (k := (rm op 11)) (rm_lt _ _ (by omega)) q.w') (by rfl) ?_; simp only [pA]
 refine later_c1 hM5 3 (.tmp 22) rfl rfl undInt rfl (at_L LT (rm_lt _ _ (by omega))) (by rfl) ?_; simp only [pA]
 go_big_quiet_step (fail)
 refine wpQuiet_nil ?_
 rintro xw8 ⟨qxw8, exw8⟩
 have hbxw8 := qxw8.b
 rw [← exw8] at hbxw8
 clear qxw8 exw8
 have LT2 := LT.below hM5 hbxw8
 clear LT
 have LT := LT2
 clear LT2
 obtain ⟨M9, hM9⟩ := sz_some xw8
 have lM9 := below_sz hbxw8 hM5 hM9
 have k10 := k3.below hbxw8 (by omega)
 have lo11 := lo4.trans (hbxw8.mono (by omega))
 clear k3 lo4 hbxw8
 clear LT
 go_upto_region 3 with fail
 obtain ⟨c12, c13⟩ := d_cells k10
 refine wp_region_later1 (M9) ?_
 try simp only [pA]
 iterate 3 (go_big_quiet_step (fail))
 refine later_c1 hM9 22 (.tmp 26) rfl rfl und64 rfl c12 (by rfl) ?_; simp only [pA]
 go_big_quiet_step (fail)
 refine later_c1 hM9 22 (.tmp 28) rfl rfl und64 rfl c13 (by rfl) ?_; simp only [pA]
 go_big_quiet_step ((go_at_call 37; exact later_of hM9 _ (fun K hK hKN => ret_is F2.out (RHol_h (ops11 (rm op 11)) l (d 0) (d 1)) _ K hK)))
 go_big_quiet_step (fail)
 refine wpQuiet_nil (laterE hM9 ?_)
 intro xw14 M15 hbxw14 hM15 lM15
 have k16 := k10.below hbxw14 (by omega)
 have lo17 := lo11.trans (hbxw14.mono (by omega))
 clear k10 c12 c13 lo11 hbxw14
 have CS18 := fun w N hN => Refine_all (ops11 (rm op 11)) l (cR (d 0)) (cR (d 1)) true w N hN
 rw [F0.out] at CS18
 go_upto_region 4 with fail
 refine wp_mid (fun ac (zb : Nat × Nat) => ((((((((((((((((ac.put (some 32) (Value.int .i64 ((ops11 (rm op 11)) : Int))).put (some 33) (Value.bool l)).put (some 34) (Value.pointer (some ⟨N, 0, none⟩))).put (some 35) (Q (d 0))).put (some 36) (Value.agg (cellsOf (rC (cR (d 0))) 6))).put (some 37) (Value.pointer (some ⟨N, 1, none⟩))).put (some 38) (Q (d 1))).put (some 39) (Value.agg (cellsOf (rC (cR (d 1))) 6))).put (some 40) (Value.tuple #[(Value.agg (cellsOf (rC (refF (ops11 (rm op 11)) l (cR (d 0)) (cR (d 1)) true).1) 6)), (Value.agg (cellsOf (rC (refF (ops11 (rm op 11)) l (cR (d 0)) (cR (d 1)) true).2.1) 6)), (Value.bool false)])).put (some 31) (Value.tuple #[(Value.agg (cellsOf (rC (refF (ops11 (rm op 11)) l (cR (d 0)) (cR (d 1)) true).1) 6)), (Value.agg (cellsOf (rC (refF (ops11 (rm op 11)) l (cR (d 0)) (cR (d 1)) true).2.1) 6)), (Value.bool false)])).put (some 41) (Value.agg (cellsOf (rC (refF (ops11 (rm op 11)) l (cR (d 0)) (cR (d 1)) true).1) 6))).put (some 42) (Value.agg (cellsOf (rC (refF (ops11 (rm op 11)) l (cR (d 0)) (cR (d 1)) true).2.1) 6))).put (some 43) (Value.bool false)).put (some 10) (.pointer (some ⟨zb.1, 0, none⟩))).put (some 11) (.pointer (some ⟨zb.2, 0, none⟩))).put (some 12) (Value.bool false))) (fun zb w' => Has w' zb.1 41 6 (rC (refF (ops11 (rm op 11)) l (cR (d 0)) (cR (d 1)) true).1) ∧ Has w' zb.2 41 6 (rC (refF (ops11 (rm op 11)) l (cR (d 0)) (cR (d 1)) true).2.1) ∧ zb.2 ≠ zb.1 ∧ M15 ≤ zb.1 ∧ M15 ≤ zb.2 ∧ Has w' N 23 2 (dC d) ∧ Below N w w') ?_ ?_
 ·refine wp_region_any (by kernel_rfl) ?_
  replace k16 : Has xw14.drew N 23 2 (dC d) := k16
  replace hM15 : Sz xw14.drew M15 := hM15
  replace lo17 : Below N w xw14.drew := lo17.drew
  change wpAny _ _ _ _ _ _ _ (World.drew _)
  generalize xw14.drew = xw20 at *
  obtain ⟨c21, c22⟩ := d_cells k16
  refine wpAny_potL (lt := [11, 12]) (rem := [0, 1, 2, 3, 4, 5, 6, 7, 8, 9, 10, 11, 12, 13, 14]) (FG M15 (fun j => if j = 0 then some (Value.int .i64 ((ops11 (rm op 11)) : Int)) else if j = 1 then some (Value.bool l) else if j = 2 then some (Value.pointer (some ⟨N, 0, none⟩)) else if j = 3 then some (Q (d 0)) else if j = 4 then some (Value.agg (cellsOf (rC (cR (d 0))) 6)) else if j = 5 then some (Value.pointer (some ⟨N, 1, none⟩)) else if j = 6 then some (Q (d 1)) else if j = 7 then some (Value.agg (cellsOf (rC (cR (d 1))) 6)) else if j = 8 then some (Value.tuple #[(Value.agg (cellsOf (rC (refF (ops11 (rm op 11)) l (cR (d 0)) (cR (d 1)) true).1) 6)), (Value.agg (cellsOf (rC (refF (ops11 (rm op 11)) l (cR (d 0)) (cR (d 1)) true).2.1) 6)), (Value.bool false)]) else if j = 9 then some (Value.tuple #[(Value.agg (cellsOf (rC (refF (ops11 (rm op 11)) l (cR (d 0)) (cR (d 1)) true).1) 6)), (Value.agg (cellsOf (rC (refF (ops11 (rm op 11)) l (cR (d 0)) (cR (d 1)) true).2.1) 6)), (Value.bool false)]) else if j = 10 then some (Value.agg (cellsOf (rC (refF (ops11 (rm op 11)) l (cR (d 0)) (cR (d 1)) true).1) 6)) else if j = 11 then some (Value.agg (cellsOf (rC (refF (ops11 (rm op 11)) l (cR (d 0)) (cR (d 1)) true).2.1) 6)) else if j = 12 then some (Value.bool false) else if j = 13 then none else none) (fun j => if j = 13 then (41, 6, rC zeroR) else (41, 6, rC zeroR))) (TwoN (fun j => if j = 0 then some (Value.int .i64 ((ops11 (rm op 11)) : Int)) else if j = 1 then some (Value.bool l) else if j = 2 then some (Value.pointer (some ⟨N, 0, none⟩)) else if j = 3 then some (Q (d 0)) else if j = 4 then some (Value.agg (cellsOf (rC (cR (d 0))) 6)) else if j = 5 then some (Value.pointer (some ⟨N, 1, none⟩)) else if j = 6 then some (Q (d 1)) else if j = 7 then some (Value.agg (cellsOf (rC (cR (d 1))) 6)) else if j = 8 then some (Value.tuple #[(Value.agg (cellsOf (rC (refF (ops11 (rm op 11)) l (cR (d 0)) (cR (d 1)) true).1) 6)), (Value.agg (cellsOf (rC (refF (ops11 (rm op 11)) l (cR (d 0)) (cR (d 1)) true).2.1) 6)), (Value.bool false)]) else if j = 9 then some (Value.tuple #[(Value.agg (cellsOf (rC (refF (ops11 (rm op 11)) l (cR (d 0)) (cR (d 1)) true).1) 6)), (Value.agg (cellsOf (rC (refF (ops11 (rm op 11)) l (cR (d 0)) (cR (d 1)) true).2.1) 6)), (Value.bool false)]) else if j = 10 then some (Value.agg (cellsOf (rC (refF (ops11 (rm op 11)) l (cR (d 0)) (cR (d 1)) true).1) 6)) else if j = 11 then some (Value.agg (cellsOf (rC (refF (ops11 (rm op 11)) l (cR (d 0)) (cR (d 1)) true).2.1) 6)) else if j = 12 then some (Value.bool false) else if j = 13 then none else none)) (Below M15 xw20) _ _ _ _ (by kernel_rfl) (size_dstG (by kernel_rfl)) (Below.refl _ _) ?_ ?_
  ·intro i hi ac wa hI ha hv
   simp only [List.mem_cons, List.not_mem_nil, or_false] at hi
   rcases hi with rfl | rfl | rfl | rfl | rfl | rfl | rfl | rfl | rfl | rfl | rfl | rfl | rfl | rfl | rfl
   ·exact potg_run rfl rfl (Value.int .i64 ((ops11 (rm op 11)) : Int)) rfl (run_mv (x := (.tmp 8)) rfl _ (ha 8 (not_dstG (by kernel_rfl)))) hM15 hI
   ·exact potg_run rfl rfl (Value.bool l) rfl (run_mv (x := (.tmp 1)) rfl _ (ha 1 (not_dstG (by kernel_rfl)))) hM15 hI
   ·exact potg_run rfl rfl (Value.pointer (some ⟨N, 0, none⟩)) rfl (run_ia 23 (.tmp 5) (.const (.int .i64 0)) 0 rfl (ha 5 (not_dstG (by kernel_rfl))) rfl iaD0) hM15 hI
   ·obtain ⟨v2, hv2a, hv2b⟩ := hv 2 (by simp) (by kernel_rfl)
    have ev2 := hv2b.val rfl
    subst ev2
    exact potg_run rfl rfl (Q (d 0)) rfl (run_c1 22 (.tmp 34) rfl ⟨N, 0, none⟩ (hv2a 34 rfl) und64 rfl (keep_c hI hM15 c21)) hM15 hI
   ·obtain ⟨v3, hv3a, hv3b⟩ := hv 3 (by simp) (by kernel_rfl)
    have ev3 := hv3b.val rfl
    subst ev3
    exact potg_cl rfl rfl 28 _ _ rfl #[(Q (d 0))] (by simp only [List.map_toArray, List.map_cons, List.map_nil, (show ac.eval (.tmp 35) = (Q (d 0)) from (hv3a 35 rfl))] <;> rfl) (by kernel_rfl) (Value.agg (cellsOf (rC (cR (d 0))) 6)) (fun K hK => SConst_any (d 0) wa K hK) rfl hM15 hI
   ·exact potg_run rfl rfl (Value.pointer (some ⟨N, 1, none⟩)) rfl (run_ia 23 (.tmp 5) (.const (.int .i64 1)) 1 rfl (ha 5 (not_dstG (by kernel_rfl))) rfl iaD1) hM15 hI
   ·obtain ⟨v5, hv5a, hv5b⟩ := hv 5 (by simp) (by kernel_rfl)
    have ev5 := hv5b.val rfl
    subst ev5
    exact potg_run rfl rfl (Q (d 1)) rfl (run_c1 22 (.tmp 37) rfl ⟨N, 1, none⟩ (hv5a 37 rfl) und64 rfl (keep_c hI hM15 c22)) hM15 hI
   ·obtain ⟨v6, hv6a, hv6b⟩ := hv 6 (by simp) (by kernel_rfl)
    have ev6 := hv6b.val rfl
    subst ev6
    exact potg_cl rfl rfl 28 _ _ rfl #[(Q (d 1))] (by simp only [List.map_toArray, List.map_cons, List.map_nil, (show ac.eval (.tmp 38) = (Q (d 1)) from (hv6a 38 rfl))] <;> rfl) (by kernel_rfl) (Value.agg (cellsOf (rC (cR (d 1))) 6)) (fun K hK => SConst_any (d 1) wa K hK) rfl hM15 hI
   ·obtain ⟨v0, hv0a, hv0b⟩ := hv 0 (by simp) (by kernel_rfl)
    have ev0 := hv0b.val rfl
    subst ev0
    obtain ⟨v1, hv1a, hv1b⟩ := hv 1 (by simp) (by kernel_rfl)
    have ev1 := hv1b.val rfl
    subst ev1
    obtain ⟨v4, hv4a, hv4b⟩ := hv 4 (by simp) (by kernel_rfl)
    have ev4 := hv4b.val rfl
    subst ev4
    obtain ⟨v7, hv7a, hv7b⟩ := hv 7 (by simp) (by kernel_rfl)
    have ev7 := hv7b.val rfl
    subst ev7
    exact potg_cl rfl rfl 40 _ _ rfl #[(Value.int .i64 ((ops11 (rm op 11)) : Int)), (Value.bool l), (Value.agg (cellsOf (rC (cR (d 0))) 6)), (Value.agg (cellsOf (rC (cR (d 1))) 6)), (Value.bool true)] (by simp only [List.map_toArray, List.map_cons, List.map_nil, (show ac.eval (.tmp 32) = (Value.int .i64 ((ops11 (rm op 11)) : Int)) from (hv0a 32 rfl)), (show ac.eval (.tmp 33) = (Value.bool l) from (hv1a 33 rfl)), (show ac.eval (.tmp 36) = (Value.agg (cellsOf (rC (cR (d 0))) 6)) from (hv4a 36 rfl)), (show ac.eval (.tmp 39) = (Value.agg (cellsOf (rC (cR (d 1))) 6)) from (hv7a 39 rfl))] <;> rfl) (by kernel_rfl) (Value.tuple #[(Value.agg (cellsOf (rC (refF (ops11 (rm op 11)) l (cR (d 0)) (cR (d 1)) true).1) 6)), (Value.agg (cellsOf (rC (refF (ops11 (rm op 11)) l (cR (d 0)) (cR (d 1)) true).2.1) 6)), (Value.bool false)]) (fun K hK => CS18 wa K hK) rfl hM15 hI
   ·obtain ⟨v8, hv8a, hv8b⟩ := hv 8 (by simp) (by kernel_rfl)
    have ev8 := hv8b.val rfl
    subst ev8
    exact potg_run rfl rfl (Value.tuple #[(Value.agg (cellsOf (rC (refF (ops11 (rm op 11)) l (cR (d 0)) (cR (d 1)) true).1) 6)), (Value.agg (cellsOf (rC (refF (ops11 (rm op 11)) l (cR (d 0)) (cR (d 1)) true).2.1) 6)), (Value.bool false)]) rfl (run_mv (x := (.tmp 40)) rfl _ (hv8a 40 rfl)) hM15 hI
   ·obtain ⟨v9, hv9a, hv9b⟩ := hv 9 (by simp) (by kernel_rfl)
    have ev9 := hv9b.val rfl
    subst ev9
    exact potg_run rfl rfl (Value.agg (cellsOf (rC (refF (ops11 (rm op 11)) l (cR (d 0)) (cR (d 1)) true).1) 6)) rfl (run_ex (x := (.tmp 31)) rfl _ (hv9a 31 rfl) rfl) hM15 hI
   ·obtain ⟨v9, hv9a, hv9b⟩ := hv 9 (by simp) (by kernel_rfl)
    have ev9 := hv9b.val rfl
    subst ev9
    exact potg_run rfl rfl (Value.agg (cellsOf (rC (refF (ops11 (rm op 11)) l (cR (d 0)) (cR (d 1)) true).2.1) 6)) rfl (run_ex (x := (.tmp 31)) rfl _ (hv9a 31 rfl) rfl) hM15 hI
   ·obtain ⟨v9, hv9a, hv9b⟩ := hv 9 (by simp) (by kernel_rfl)
    have ev9 := hv9b.val rfl
    subst ev9
    exact potg_run rfl rfl (Value.bool false) rfl (run_ex (x := (.tmp 31)) rfl _ (hv9a 31 rfl) rfl) hM15 hI
   ·exact potg_al rfl rfl rfl zeR rfl rfl hM15 hI
   ·exact potg_al rfl rfl rfl zeR rfl rfl hM15 hI
  ·intro L vals w5_19_ hb5_19_ hF hG hL
   have l0 := hL 0 (by simp) rfl
   have l1 := hL 1 (by simp) rfl
   have l2 := hL 2 (by simp) rfl
   have l3 := hL 3 (by simp) rfl
   have l4 := hL 4 (by simp) rfl
   have l5 := hL 5 (by simp) rfl
   have l6 := hL 6 (by simp) rfl
   have l7 := hL 7 (by simp) rfl
   have l8 := hL 8 (by simp) rfl
   have l9 := hL 9 (by simp) rfl
   have l10 := hL 10 (by simp) rfl
   have l13 := hL 13 (by simp) rfl
   have l14 := hL 14 (by simp) rfl
   clear hL
   cases c11 : L 11
   ·cases c12 : L 12
    ·have e_19_0 := (hF 0 (by simp) l0).val rfl
     have e_19_1 := (hF 1 (by simp) l1).val rfl
     have e_19_2 := (hF 2 (by simp) l2).val rfl
     have e_19_3 := (hF 3 (by simp) l3).val rfl
     have e_19_4 := (hF 4 (by simp) l4).val rfl
     have e_19_5 := (hF 5 (by simp) l5).val rfl
     have e_19_6 := (hF 6 (by simp) l6).val rfl
     have e_19_7 := (hF 7 (by simp) l7).val rfl
     have e_19_8 := (hF 8 (by simp) l8).val rfl
     have e_19_9 := (hF 9 (by simp) l9).val rfl
     have e_19_10 := (hF 10 (by simp) l10).val rfl
     obtain ⟨b_19_13, bl_19_13, e_19_13, h_19_13⟩ := (hF 13 (by simp) l13).al rfl rfl
     obtain ⟨b_19_14, bl_19_14, e_19_14, h_19_14⟩ := (hF 14 (by simp) l14).al rfl rfl
     have n_19_13_14 := hG 13 (by simp) 14 (by simp) (by omega) l13 l14 rfl rfl b_19_13 b_19_14 e_19_13 e_19_14
     clear hF hG
     rw [show left L [0, 1, 2, 3, 4, 5, 6, 7, 8, 9, 10, 11, 12, 13, 14] = 2 from by simp [left, l0, l1, l2, l3, l4, l5, l6, l7, l8, l9, l10, l13, l14, c11, c12]]
     refine wpAny_fuel (n := 5) (by kernel_rfl) ?_
     simp only [marks, puts, l0, l1, l2, l3, l4, l5, l6, l7, l8, l9, l10, l13, l14, c11, c12, if_true, if_false, Bool.false_eq_true, dstOf, List.getElem?_toArray, List.getElem?_cons_succ, List.getElem?_cons_zero, Option.bind_some, Act.put, List.setIfInBounds_toArray, List.set_cons_succ, List.set_cons_zero, e_19_0, e_19_1, e_19_2, e_19_3, e_19_4, e_19_5, e_19_6, e_19_7, e_19_8, e_19_9, e_19_10, e_19_13, e_19_14]
     clear e_19_0 e_19_1 e_19_2 e_19_3 e_19_4 e_19_5 e_19_6 e_19_7 e_19_8 e_19_9 e_19_10 e_19_13 e_19_14 l0 l1 l2 l3 l4 l5 l6 l7 l8 l9 l10 l13 l14 c11 c12
     have k23 := k16.below hb5_19_ (by omega)
     have lo24 := lo17.trans (hb5_19_.mono (by omega))
     obtain ⟨M5, hM5⟩ := sz_some w5_19_
     have lM5 := below_sz hb5_19_ hM15 hM5
     clear k16 c21 c22 lo17 hb5_19_
     refine wpAny_of_held (S := fun _ => True) _ _ _ _ ?_
     refine held_take (i := 11) (v := (Value.agg (cellsOf (rC (refF (ops11 (rm op 11)) l (cR (d 0)) (cR (d 1)) true).2.1) 6))) (d := some 42) rfl (by kernel_rfl) (by kernel_rfl) (by kernel_rfl) (by kernel_rfl) (fun _ _ _ h => by cases h.1) (Or.inl ⟨by rfl, fun wq _ => run_ex (x := (.tmp 31)) rfl wq rfl rfl⟩) trivial ?_; simp only [pA]
     refine held_take (i := 12) (v := (Value.bool false)) (d := some 43) rfl (by kernel_rfl) (by kernel_rfl) (by kernel_rfl) (by kernel_rfl) (fun _ _ _ h => by cases h.1) (Or.inl ⟨by rfl, fun wq _ => run_ex (x := (.tmp 31)) rfl wq rfl rfl⟩) trivial ?_; simp only [pA]
     refine wpAnyH_all (rs := [15]) (by kernel_rfl) (by simp) ?_
     intro iq hiq; simp only [List.mem_singleton] at hiq; subst hiq
     refine opg_list rfl ?_
     refine wpl_storeN (by rfl) (by kernel_rfl) 41 (.tmp 10) (.tmp 41) rfl b_19_13 6 (rC (refF (ops11 (rm op 11)) l (cR (d 0)) (cR (d 1)) true).1) rfl rfl 41 _ h_19_13 szR (fun j _ => rC_one _ j) ?_
     intro xw25 t26 k27; try simp only [pA]
     have k28 := k23.touch t26 (by omega)
     have k29 := h_19_14.touch t26 (by omega)
     have lo30 := t26.below lo24 (by omega)
     have h31 := t26.sz hM5
     clear h_19_13 k23 h_19_14 lo24 hM5 t26
     refine ⟨trivial, ?_⟩
     refine wpAnyH_all (rs := [16]) (by kernel_rfl) (by simp) ?_
     intro iq hiq; simp only [List.mem_singleton] at hiq; subst hiq
     refine opg_list rfl ?_
     refine wpl_storeN (by rfl) (by kernel_rfl) 41 (.tmp 11) (.tmp 42) rfl b_19_14 6 (rC (refF (ops11 (rm op 11)) l (cR (d 0)) (cR (d 1)) true).2.1) rfl rfl 41 _ k29 szR (fun j _ => rC_one _ j) ?_
     intro xw32 t33 k34; try simp only [pA]
     have k35 := k28.touch t33 (by omega)
     have k36 := k27.touch t33 (by omega)
     have lo37 := t33.below lo30 (by omega)
     have h38 := t33.sz h31
     clear k29 k28 k27 lo30 h31 t33
     refine ⟨trivial, ?_⟩
     refine wpAnyH_all (rs := [17]) (by kernel_rfl) (by simp) ?_
     intro iq hiq; simp only [List.mem_singleton] at hiq; subst hiq
     refine opg_list rfl ?_
     refine wpl_runD rfl (d := some 12) rfl (Value.bool false) (run_as (x := (.tmp 43)) rfl _ rfl) ?_; simp only [pA]
     refine ⟨trivial, ?_⟩
     refine wpAnyH_done (by kernel_rfl) ?_ _
     refine ⟨rfl, (b_19_13, b_19_14), (by simp only [pA]), k36, k34, (Ne.symm n_19_13_14), bl_19_13, bl_19_14, k35, lo37⟩
    ·have e_19_0 := (hF 0 (by simp) l0).val rfl
     have e_19_1 := (hF 1 (by simp) l1).val rfl
     have e_19_2 := (hF 2 (by simp) l2).val rfl
     have e_19_3 := (hF 3 (by simp) l3).val rfl
     have e_19_4 := (hF 4 (by simp) l4).val rfl
     have e_19_5 := (hF 5 (by simp) l5).val rfl
     have e_19_6 := (hF 6 (by simp) l6).val rfl
     have e_19_7 := (hF 7 (by simp) l7).val rfl
     have e_19_8 := (hF 8 (by simp) l8).val rfl
     have e_19_9 := (hF 9 (by simp) l9).val rfl
     have e_19_10 := (hF 10 (by simp) l10).val rfl
     have e_19_12 := (hF 12 (by simp) c12).val rfl
     obtain ⟨b_19_13, bl_19_13, e_19_13, h_19_13⟩ := (hF 13 (by simp) l13).al rfl rfl
     obtain ⟨b_19_14, bl_19_14, e_19_14, h_19_14⟩ := (hF 14 (by simp) l14).al rfl rfl
     have n_19_13_14 := hG 13 (by simp) 14 (by simp) (by omega) l13 l14 rfl rfl b_19_13 b_19_14 e_19_13 e_19_14
     clear hF hG
     rw [show left L [0, 1, 2, 3, 4, 5, 6, 7, 8, 9, 10, 11, 12, 13, 14] = 1 from by simp [left, l0, l1, l2, l3, l4, l5, l6, l7, l8, l9, l10, l13, l14, c11, c12]]
     refine wpAny_fuel (n := 4) (by kernel_rfl) ?_
     simp only [marks, puts, l0, l1, l2, l3, l4, l5, l6, l7, l8, l9, l10, l13, l14, c11, c12, if_true, if_false, Bool.false_eq_true, dstOf, List.getElem?_toArray, List.getElem?_cons_succ, List.getElem?_cons_zero, Option.bind_some, Act.put, List.setIfInBounds_toArray, List.set_cons_succ, List.set_cons_zero, e_19_0, e_19_1, e_19_2, e_19_3, e_19_4, e_19_5, e_19_6, e_19_7, e_19_8, e_19_9, e_19_10, e_19_12, e_19_13, e_19_14]
     clear e_19_0 e_19_1 e_19_2 e_19_3 e_19_4 e_19_5 e_19_6 e_19_7 e_19_8 e_19_9 e_19_10 e_19_12 e_19_13 e_19_14 l0 l1 l2 l3 l4 l5 l6 l7 l8 l9 l10 l13 l14 c11 c12
     have k23 := k16.below hb5_19_ (by omega)
     have lo24 := lo17.trans (hb5_19_.mono (by omega))
     obtain ⟨M5, hM5⟩ := sz_some w5_19_
     have lM5 := below_sz hb5_19_ hM15 hM5
     clear k16 c21 c22 lo17 hb5_19_
     refine wpAny_of_held (S := fun _ => True) _ _ _ _ ?_
     refine held_take (i := 11) (v := (Value.agg (cellsOf (rC (refF (ops11 (rm op 11)) l (cR (d 0)) (cR (d 1)) true).2.1) 6))) (d := some 42) rfl (by kernel_rfl) (by kernel_rfl) (by kernel_rfl) (by kernel_rfl) (fun _ _ _ h => by cases h.1) (Or.inl ⟨by rfl, fun wq _ => run_ex (x := (.tmp 31)) rfl wq rfl rfl⟩) trivial ?_; simp only [pA]
     refine wpAnyH_all (rs := [15]) (by kernel_rfl) (by simp) ?_
     intro iq hiq; simp only [List.mem_singleton] at hiq; subst hiq
     refine opg_list rfl ?_
     refine wpl_storeN (by rfl) (by kernel_rfl) 41 (.tmp 10) (.tmp 41) rfl b_19_13 6 (rC (refF (ops11 (rm op 11)) l (cR (d 0)) (cR (d 1)) true).1) rfl rfl 41 _ h_19_13 szR (fun j _ => rC_one _ j) ?_
     intro xw25 t26 k27; try simp only [pA]
     have k28 := k23.touch t26 (by omega)
     have k29 := h_19_14.touch t26 (by omega)
     have lo30 := t26.below lo24 (by omega)
     have h31 := t26.sz hM5
     clear h_19_13 k23 h_19_14 lo24 hM5 t26
     refine ⟨trivial, ?_⟩
     refine wpAnyH_all (rs := [16]) (by kernel_rfl) (by simp) ?_
     intro iq hiq; simp only [List.mem_singleton] at hiq; subst hiq
     refine opg_list rfl ?_
     refine wpl_storeN (by rfl) (by kernel_rfl) 41 (.tmp 11) (.tmp 42) rfl b_19_14 6 (rC (refF (ops11 (rm op 11)) l (cR (d 0)) (cR (d 1)) true).2.1) rfl rfl 41 _ k29 szR (fun j _ => rC_one _ j) ?_
     intro xw32 t33 k34; try simp only [pA]
     have k35 := k28.touch t33 (by omega)
     have k36 := k27.touch t33 (by omega)
     have lo37 := t33.below lo30 (by omega)
     have h38 := t33.sz h31
     clear k29 k28 k27 lo30 h31 t33
     refine ⟨trivial, ?_⟩
     refine wpAnyH_all (rs := [17]) (by kernel_rfl) (by simp) ?_
     intro iq hiq; simp only [List.mem_singleton] at hiq; subst hiq
     refine opg_list rfl ?_
     refine wpl_runD rfl (d := some 12) rfl (Value.bool false) (run_as (x := (.tmp 43)) rfl _ rfl) ?_; simp only [pA]
     refine ⟨trivial, ?_⟩
     refine wpAnyH_done (by kernel_rfl) ?_ _
     refine ⟨rfl, (b_19_13, b_19_14), (by simp only [pA]), k36, k34, (Ne.symm n_19_13_14), bl_19_13, bl_19_14, k35, lo37⟩
   ·cases c12 : L 12
    ·have e_19_0 := (hF 0 (by simp) l0).val rfl
     have e_19_1 := (hF 1 (by simp) l1).val rfl
     have e_19_2 := (hF 2 (by simp) l2).val rfl
     have e_19_3 := (hF 3 (by simp) l3).val rfl
     have e_19_4 := (hF 4 (by simp) l4).val rfl
     have e_19_5 := (hF 5 (by simp) l5).val rfl
     have e_19_6 := (hF 6 (by simp) l6).val rfl
     have e_19_7 := (hF 7 (by simp) l7).val rfl
     have e_19_8 := (hF 8 (by simp) l8).val rfl
     have e_19_9 := (hF 9 (by simp) l9).val rfl
     have e_19_10 := (hF 10 (by simp) l10).val rfl
     have e_19_11 := (hF 11 (by simp) c11).val rfl
     obtain ⟨b_19_13, bl_19_13, e_19_13, h_19_13⟩ := (hF 13 (by simp) l13).al rfl rfl
     obtain ⟨b_19_14, bl_19_14, e_19_14, h_19_14⟩ := (hF 14 (by simp) l14).al rfl rfl
     have n_19_13_14 := hG 13 (by simp) 14 (by simp) (by omega) l13 l14 rfl rfl b_19_13 b_19_14 e_19_13 e_19_14
     clear hF hG
     rw [show left L [0, 1, 2, 3, 4, 5, 6, 7, 8, 9, 10, 11, 12, 13, 14] = 1 from by simp [left, l0, l1, l2, l3, l4, l5, l6, l7, l8, l9, l10, l13, l14, c11, c12]]
     refine wpAny_fuel (n := 4) (by kernel_rfl) ?_
     simp only [marks, puts, l0, l1, l2, l3, l4, l5, l6, l7, l8, l9, l10, l13, l14, c11, c12, if_true, if_false, Bool.false_eq_true, dstOf, List.getElem?_toArray, List.getElem?_cons_succ, List.getElem?_cons_zero, Option.bind_some, Act.put, List.setIfInBounds_toArray, List.set_cons_succ, List.set_cons_zero, e_19_0, e_19_1, e_19_2, e_19_3, e_19_4, e_19_5, e_19_6, e_19_7, e_19_8, e_19_9, e_19_10, e_19_11, e_19_13, e_19_14]
     clear e_19_0 e_19_1 e_19_2 e_19_3 e_19_4 e_19_5 e_19_6 e_19_7 e_19_8 e_19_9 e_19_10 e_19_11 e_19_13 e_19_14 l0 l1 l2 l3 l4 l5 l6 l7 l8 l9 l10 l13 l14 c11 c12
     have k23 := k16.below hb5_19_ (by omega)
     have lo24 := lo17.trans (hb5_19_.mono (by omega))
     obtain ⟨M5, hM5⟩ := sz_some w5_19_
     have lM5 := below_sz hb5_19_ hM15 hM5
     clear k16 c21 c22 lo17 hb5_19_
     refine wpAny_of_held (S := fun _ => True) _ _ _ _ ?_
     refine held_take (i := 12) (v := (Value.bool false)) (d := some 43) rfl (by kernel_rfl) (by kernel_rfl) (by kernel_rfl) (by kernel_rfl) (fun _ _ _ h => by cases h.1) (Or.inl ⟨by rfl, fun wq _ => run_ex (x := (.tmp 31)) rfl wq rfl rfl⟩) trivial ?_; simp only [pA]
     refine wpAnyH_all (rs := [15]) (by kernel_rfl) (by simp) ?_
     intro iq hiq; simp only [List.mem_singleton] at hiq; subst hiq
     refine opg_list rfl ?_
     refine wpl_storeN (by rfl) (by kernel_rfl) 41 (.tmp 10) (.tmp 41) rfl b_19_13 6 (rC (refF (ops11 (rm op 11)) l (cR (d 0)) (cR (d 1)) true).1) rfl rfl 41 _ h_19_13 szR (fun j _ => rC_one _ j) ?_
     intro xw25 t26 k27; try simp only [pA]
     have k28 := k23.touch t26 (by omega)
     have k29 := h_19_14.touch t26 (by omega)
     have lo30 := t26.below lo24 (by omega)
     have h31 := t26.sz hM5
     clear h_19_13 k23 h_19_14 lo24 hM5 t26
     refine ⟨trivial, ?_⟩
     refine wpAnyH_all (rs := [16]) (by kernel_rfl) (by simp) ?_
     intro iq hiq; simp only [List.mem_singleton] at hiq; subst hiq
     refine opg_list rfl ?_
     refine wpl_storeN (by rfl) (by kernel_rfl) 41 (.tmp 11) (.tmp 42) rfl b_19_14 6 (rC (refF (ops11 (rm op 11)) l (cR (d 0)) (cR (d 1)) true).2.1) rfl rfl 41 _ k29 szR (fun j _ => rC_one _ j) ?_
     intro xw32 t33 k34; try simp only [pA]
     have k35 := k28.touch t33 (by omega)
     have k36 := k27.touch t33 (by omega)
     have lo37 := t33.below lo30 (by omega)
     have h38 := t33.sz h31
     clear k29 k28 k27 lo30 h31 t33
     refine ⟨trivial, ?_⟩
     refine wpAnyH_all (rs := [17]) (by kernel_rfl) (by simp) ?_
     intro iq hiq; simp only [List.mem_singleton] at hiq; subst hiq
     refine opg_list rfl ?_
     refine wpl_runD rfl (d := some 12) rfl (Value.bool false) (run_as (x := (.tmp 43)) rfl _ rfl) ?_; simp only [pA]
     refine ⟨trivial, ?_⟩
     refine wpAnyH_done (by kernel_rfl) ?_ _
     refine ⟨rfl, (b_19_13, b_19_14), (by simp only [pA]), k36, k34, (Ne.symm n_19_13_14), bl_19_13, bl_19_14, k35, lo37⟩
    ·have e_19_0 := (hF 0 (by simp) l0).val rfl
     have e_19_1 := (hF 1 (by simp) l1).val rfl
     have e_19_2 := (hF 2 (by simp) l2).val rfl
     have e_19_3 := (hF 3 (by simp) l3).val rfl
     have e_19_4 := (hF 4 (by simp) l4).val rfl
     have e_19_5 := (hF 5 (by simp) l5).val rfl
     have e_19_6 := (hF 6 (by simp) l6).val rfl
     have e_19_7 := (hF 7 (by simp) l7).val rfl
     have e_19_8 := (hF 8 (by simp) l8).val rfl
     have e_19_9 := (hF 9 (by simp) l9).val rfl
     have e_19_10 := (hF 10 (by simp) l10).val rfl
     have e_19_11 := (hF 11 (by simp) c11).val rfl
     have e_19_12 := (hF 12 (by simp) c12).val rfl
     obtain ⟨b_19_13, bl_19_13, e_19_13, h_19_13⟩ := (hF 13 (by simp) l13).al rfl rfl
     obtain ⟨b_19_14, bl_19_14, e_19_14, h_19_14⟩ := (hF 14 (by simp) l14).al rfl rfl
     have n_19_13_14 := hG 13 (by simp) 14 (by simp) (by omega) l13 l14 rfl rfl b_19_13 b_19_14 e_19_13 e_19_14
     clear hF hG
     rw [show left L [0, 1, 2, 3, 4, 5, 6, 7, 8, 9, 10, 11, 12, 13, 14] = 0 from by simp [left, l0, l1, l2, l3, l4, l5, l6, l7, l8, l9, l10, l13, l14, c11, c12]]
     refine wpAny_fuel (n := 3) (by kernel_rfl) ?_
     simp only [marks, puts, l0, l1, l2, l3, l4, l5, l6, l7, l8, l9, l10, l13, l14, c11, c12, if_true, if_false, Bool.false_eq_true, dstOf, List.getElem?_toArray, List.getElem?_cons_succ, List.getElem?_cons_zero, Option.bind_some, Act.put, List.setIfInBounds_toArray, List.set_cons_succ, List.set_cons_zero, e_19_0, e_19_1, e_19_2, e_19_3, e_19_4, e_19_5, e_19_6, e_19_7, e_19_8, e_19_9, e_19_10, e_19_11, e_19_12, e_19_13, e_19_14]
     clear e_19_0 e_19_1 e_19_2 e_19_3 e_19_4 e_19_5 e_19_6 e_19_7 e_19_8 e_19_9 e_19_10 e_19_11 e_19_12 e_19_13 e_19_14 l0 l1 l2 l3 l4 l5 l6 l7 l8 l9 l10 l13 l14 c11 c12
     have k23 := k16.below hb5_19_ (by omega)
     have lo24 := lo17.trans (hb5_19_.mono (by omega))
     obtain ⟨M5, hM5⟩ := sz_some w5_19_
     have lM5 := below_sz hb5_19_ hM15 hM5
     clear k16 c21 c22 lo17 hb5_19_
     refine wpAny_of_held (S := fun _ => True) _ _ _ _ ?_
     refine wpAnyH_all (rs := [15]) (by kernel_rfl) (by simp) ?_
     intro iq hiq; simp only [List.mem_singleton] at hiq; subst hiq
     refine opg_list rfl ?_
     refine wpl_storeN (by rfl) (by kernel_rfl) 41 (.tmp 10) (.tmp 41) rfl b_19_13 6 (rC (refF (ops11 (rm op 11)) l (cR (d 0)) (cR (d 1)) true).1) rfl rfl 41 _ h_19_13 szR (fun j _ => rC_one _ j) ?_
     intro xw25 t26 k27; try simp only [pA]
     have k28 := k23.touch t26 (by omega)
     have k29 := h_19_14.touch t26 (by omega)
     have lo30 := t26.below lo24 (by omega)
     have h31 := t26.sz hM5
     clear h_19_13 k23 h_19_14 lo24 hM5 t26
     refine ⟨trivial, ?_⟩
     refine wpAnyH_all (rs := [16]) (by kernel_rfl) (by simp) ?_
     intro iq hiq; simp only [List.mem_singleton] at hiq; subst hiq
     refine opg_list rfl ?_
     refine wpl_storeN (by rfl) (by kernel_rfl) 41 (.tmp 11) (.tmp 42) rfl b_19_14 6 (rC (refF (ops11 (rm op 11)) l (cR (d 0)) (cR (d 1)) true).2.1) rfl rfl 41 _ k29 szR (fun j _ => rC_one _ j) ?_
     intro xw32 t33 k34; try simp only [pA]
     have k35 := k28.touch t33 (by omega)
     have k36 := k27.touch t33 (by omega)
     have lo37 := t33.below lo30 (by omega)
     have h38 := t33.sz h31
     clear k29 k28 k27 lo30 h31 t33
     refine ⟨trivial, ?_⟩
     refine wpAnyH_all (rs := [17]) (by kernel_rfl) (by simp) ?_
     intro iq hiq; simp only [List.mem_singleton] at hiq; subst hiq
     refine opg_list rfl ?_
     refine wpl_runD rfl (d := some 12) rfl (Value.bool false) (run_as (x := (.tmp 43)) rfl _ rfl) ?_; simp only [pA]
     refine ⟨trivial, ?_⟩
     refine wpAnyH_done (by kernel_rfl) ?_ _
     refine ⟨rfl, (b_19_13, b_19_14), (by simp only [pA]), k36, k34, (Ne.symm n_19_13_14), bl_19_13, bl_19_14, k35, lo37⟩
 ·clear k16 lo17
  rintro ⟨b_19_x0, b_19_x1⟩ xw24 ⟨k20, k21, ne25, lb_19_x0, lb_19_x1, k22, lo23⟩
  try dsimp only at *
  try simp only [pA]
  obtain ⟨M26, hM26⟩ := sz_some xw24
  have lt_27 := k22.ltN hM26
  have lt_28 := k20.ltN hM26
  have lt_29 := k21.ltN hM26
  go_upto_region 5 with fail
  refine wp_mid (fun ac (zb : Nat × Nat) => ((((((((((((((((ac.put (some 45) (Value.int .i64 ((ops11 (rm op 11)) : Int))).put (some 46) (Value.bool l)).put (some 47) (Value.pointer (some ⟨N, 0, none⟩))).put (some 48) (Q (d 0))).put (some 49) (Value.agg (cellsOf (rC (cR (d 0))) 6))).put (some 50) (Value.pointer (some ⟨N, 1, none⟩))).put (some 51) (Q (d 1))).put (some 52) (Value.agg (cellsOf (rC (cR (d 1))) 6))).put (some 53) (Value.tuple #[(Value.agg (cellsOf (rC (refF (ops11 (rm op 11)) l (cR (d 0)) (cR (d 1)) false).1) 6)), (Value.agg (cellsOf (rC (refF (ops11 (rm op 11)) l (cR (d 0)) (cR (d 1)) false).2.1) 6)), (Value.bool (refF (ops11 (rm op 11)) l (cR (d 0)) (cR (d 1)) false).2.2)])).put (some 44) (Value.tuple #[(Value.agg (cellsOf (rC (refF (ops11 (rm op 11)) l (cR (d 0)) (cR (d 1)) false).1) 6)), (Value.agg (cellsOf (rC (refF (ops11 (rm op 11)) l (cR (d 0)) (cR (d 1)) false).2.1) 6)), (Value.bool (refF (ops11 (rm op 11)) l (cR (d 0)) (cR (d 1)) false).2.2)])).put (some 54) (Value.agg (cellsOf (rC (refF (ops11 (rm op 11)) l (cR (d 0)) (cR (d 1)) false).1) 6))).put (some 55) (Value.agg (cellsOf (rC (refF (ops11 (rm op 11)) l (cR (d 0)) (cR (d 1)) false).2.1) 6))).put (some 56) (Value.bool (refF (ops11 (rm op 11)) l (cR (d 0)) (cR (d 1)) false).2.2)).put (some 13) (.pointer (some ⟨zb.1, 0, none⟩))).put (some 14) (.pointer (some ⟨zb.2, 0, none⟩))).put (some 15) (Value.bool (refF (ops11 (rm op 11)) l (cR (d 0)) (cR (d 1)) false).2.2))) (fun zb w' => Has w' zb.1 41 6 (rC (refF (ops11 (rm op 11)) l (cR (d 0)) (cR (d 1)) false).1) ∧ Has w' zb.2 41 6 (rC (refF (ops11 (rm op 11)) l (cR (d 0)) (cR (d 1)) false).2.1) ∧ zb.2 ≠ zb.1 ∧ M26 ≤ zb.1 ∧ M26 ≤ zb.2 ∧ Has w' N 23 2 (dC d) ∧ Has w' b_19_x0 41 6 (rC (refF (ops11 (rm op 11)) l (cR (d 0)) (cR (d 1)) true).1) ∧ Has w' b_19_x1 41 6 (rC (refF (ops11 (rm op 11)) l (cR (d 0)) (cR (d 1)) true).2.1) ∧ Below N w w') ?_ ?_
  ·refine wp_region_any (by kernel_rfl) ?_
   replace k22 : Has xw24.drew N 23 2 (dC d) := k22
   replace k20 : Has xw24.drew b_19_x0 41 6 (rC (refF (ops11 (rm op 11)) l (cR (d 0)) (cR (d 1)) true).1) := k20
   replace k21 : Has xw24.drew b_19_x1 41 6 (rC (refF (ops11 (rm op 11)) l (cR (d 0)) (cR (d 1)) true).2.1) := k21
   replace hM26 : Sz xw24.drew M26 := hM26
   replace lo23 : Below N w xw24.drew := lo23.drew
   change wpAny _ _ _ _ _ _ _ (World.drew _)
   generalize xw24.drew = xw31 at *
   obtain ⟨c32, c33⟩ := d_cells k22
   refine wpAny_potL (lt := [11, 12]) (rem := [0, 1, 2, 3, 4, 5, 6, 7, 8, 9, 10, 11, 12, 13, 14]) (FG M26 (fun j => if j = 0 then some (Value.int .i64 ((ops11 (rm op 11)) : Int)) else if j = 1 then some (Value.bool l) else if j = 2 then some (Value.pointer (some ⟨N, 0, none⟩)) else if j = 3 then some (Q (d 0)) else if j = 4 then some (Value.agg (cellsOf (rC (cR (d 0))) 6)) else if j = 5 then some (Value.pointer (some ⟨N, 1, none⟩)) else if j = 6 then some (Q (d 1)) else if j = 7 then some (Value.agg (cellsOf (rC (cR (d 1))) 6)) else if j = 8 then some (Value.tuple #[(Value.agg (cellsOf (rC (refF (ops11 (rm op 11)) l (cR (d 0)) (cR (d 1)) false).1) 6)), (Value.agg (cellsOf (rC (refF (ops11 (rm op 11)) l (cR (d 0)) (cR (d 1)) false).2.1) 6)), (Value.bool (refF (ops11 (rm op 11)) l (cR (d 0)) (cR (d 1)) false).2.2)]) else if j = 9 then some (Value.tuple #[(Value.agg (cellsOf (rC (refF (ops11 (rm op 11)) l (cR (d 0)) (cR (d 1)) false).1) 6)), (Value.agg (cellsOf (rC (refF (ops11 (rm op 11)) l (cR (d 0)) (cR (d 1)) false).2.1) 6)), (Value.bool (refF (ops11 (rm op 11)) l (cR (d 0)) (cR (d 1)) false).2.2)]) else if j = 10 then some (Value.agg (cellsOf (rC (refF (ops11 (rm op 11)) l (cR (d 0)) (cR (d 1)) false).1) 6)) else if j = 11 then some (Value.agg (cellsOf (rC (refF (ops11 (rm op 11)) l (cR (d 0)) (cR (d 1)) false).2.1) 6)) else if j = 12 then some (Value.bool (refF (ops11 (rm op 11)) l (cR (d 0)) (cR (d 1)) false).2.2) else if j = 13 then none else none) (fun j => if j = 13 then (41, 6, rC zeroR) else (41, 6, rC zeroR))) (TwoN (fun j => if j = 0 then some (Value.int .i64 ((ops11 (rm op 11)) : Int)) else if j = 1 then some (Value.bool l) else if j = 2 then some (Value.pointer (some ⟨N, 0, none⟩)) else if j = 3 then some (Q (d 0)) else if j = 4 then some (Value.agg (cellsOf (rC (cR (d 0))) 6)) else if j = 5 then some (Value.pointer (some ⟨N, 1, none⟩)) else if j = 6 then some (Q (d 1)) else if j = 7 then some (Value.agg (cellsOf (rC (cR (d 1))) 6)) else if j = 8 then some (Value.tuple #[(Value.agg (cellsOf (rC (refF (ops11 (rm op 11)) l (cR (d 0)) (cR (d 1)) false).1) 6)), (Value.agg (cellsOf (rC (refF (ops11 (rm op 11)) l (cR (d 0)) (cR (d 1)) false).2.1) 6)), (Value.bool (refF (ops11 (rm op 11)) l (cR (d 0)) (cR (d 1)) false).2.2)]) else if j = 9 then some (Value.tuple #[(Value.agg (cellsOf (rC (refF (ops11 (rm op 11)) l (cR (d 0)) (cR (d 1)) false).1) 6)), (Value.agg (cellsOf (rC (refF (ops11 (rm op 11)) l (cR (d 0)) (cR (d 1)) false).2.1) 6)), (Value.bool (refF (ops11 (rm op 11)) l (cR (d 0)) (cR (d 1)) false).2.2)]) else if j = 10 then some (Value.agg (cellsOf (rC (refF (ops11 (rm op 11)) l (cR (d 0)) (cR (d 1)) false).1) 6)) else if j = 11 then some (Value.agg (cellsOf (rC (refF (ops11 (rm op 11)) l (cR (d 0)) (cR (d 1)) false).2.1) 6)) else if j = 12 then some (Value.bool (refF (ops11 (rm op 11)) l (cR (d 0)) (cR (d 1)) false).2.2) else if j = 13 then none else none)) (Below M26 xw31) _ _ _ _ (by kernel_rfl) (size_dstG (by kernel_rfl)) (Below.refl _ _) ?_ ?_
   ·intro i hi ac wa hI ha hv
    simp only [List.mem_cons, List.not_mem_nil, or_false] at hi
    rcases hi with rfl | rfl | rfl | rfl | rfl | rfl | rfl | rfl | rfl | rfl | rfl | rfl | rfl | rfl | rfl
    ·exact potg_run rfl rfl (Value.int .i64 ((ops11 (rm op 11)) : Int)) rfl (run_mv (x := (.tmp 8)) rfl _ (ha 8 (not_dstG (by kernel_rfl)))) hM26 hI
    ·exact potg_run rfl rfl (Value.bool l) rfl (run_mv (x := (.tmp 1)) rfl _ (ha 1 (not_dstG (by kernel_rfl)))) hM26 hI
    ·exact potg_run rfl rfl (Value.pointer (some ⟨N, 0, none⟩)) rfl (run_ia 23 (.tmp 5) (.const (.int .i64 0)) 0 rfl (ha 5 (not_dstG (by kernel_rfl))) rfl iaD0) hM26 hI
    ·obtain ⟨v2, hv2a, hv2b⟩ := hv 2 (by simp) (by kernel_rfl)
     have ev2 := hv2b.val rfl
     subst ev2
     exact potg_run rfl rfl (Q (d 0)) rfl (run_c1 22 (.tmp 47) rfl ⟨N, 0, none⟩ (hv2a 47 rfl) und64 rfl (keep_c hI hM26 c32)) hM26 hI
    ·obtain ⟨v3, hv3a, hv3b⟩ := hv 3 (by simp) (by kernel_rfl)
     have ev3 := hv3b.val rfl
     subst ev3
     exact potg_cl rfl rfl 28 _ _ rfl #[(Q (d 0))] (by simp only [List.map_toArray, List.map_cons, List.map_nil, (show ac.eval (.tmp 48) = (Q (d 0)) from (hv3a 48 rfl))] <;> rfl) (by kernel_rfl) (Value.agg (cellsOf (rC (cR (d 0))) 6)) (fun K hK => SConst_any (d 0) wa K hK) rfl hM26 hI
    ·exact potg_run rfl rfl (Value.pointer (some ⟨N, 1, none⟩)) rfl (run_ia 23 (.tmp 5) (.const (.int .i64 1)) 1 rfl (ha 5 (not_dstG (by kernel_rfl))) rfl iaD1) hM26 hI
    ·obtain ⟨v5, hv5a, hv5b⟩ := hv 5 (by simp) (by kernel_rfl)
     have ev5 := hv5b.val rfl
     subst ev5
     exact potg_run rfl rfl (Q (d 1)) rfl (run_c1 22 (.tmp 50) rfl ⟨N, 1, none⟩ (hv5a 50 rfl) und64 rfl (keep_c hI hM26 c33)) hM26 hI
    ·obtain ⟨v6, hv6a, hv6b⟩ := hv 6 (by simp) (by kernel_rfl)
     have ev6 := hv6b.val rfl
     subst ev6
     exact potg_cl rfl rfl 28 _ _ rfl #[(Q (d 1))] (by simp only [List.map_toArray, List.map_cons, List.map_nil, (show ac.eval (.tmp 51) = (Q (d 1)) from (hv6a 51 rfl))] <;> rfl) (by kernel_rfl) (Value.agg (cellsOf (rC (cR (d 1))) 6)) (fun K hK => SConst_any (d 1) wa K hK) rfl hM26 hI
    ·obtain ⟨v0, hv0a, hv0b⟩ := hv 0 (by simp) (by kernel_rfl)
     have ev0 := hv0b.val rfl
     subst ev0
     obtain ⟨v1, hv1a, hv1b⟩ := hv 1 (by simp) (by kernel_rfl)
     have ev1 := hv1b.val rfl
     subst ev1
     obtain ⟨v4, hv4a, hv4b⟩ := hv 4 (by simp) (by kernel_rfl)
     have ev4 := hv4b.val rfl
     subst ev4
     obtain ⟨v7, hv7a, hv7b⟩ := hv 7 (by simp) (by kernel_rfl)
     have ev7 := hv7b.val rfl
     subst ev7
     exact potg_cl rfl rfl 40 _ _ rfl #[(Value.int .i64 ((ops11 (rm op 11)) : Int)), (Value.bool l), (Value.agg (cellsOf (rC (cR (d 0))) 6)), (Value.agg (cellsOf (rC (cR (d 1))) 6)), (Value.bool false)] (by simp only [List.map_toArray, List.map_cons, List.map_nil, (show ac.eval (.tmp 45) = (Value.int .i64 ((ops11 (rm op 11)) : Int)) from (hv0a 45 rfl)), (show ac.eval (.tmp 46) = (Value.bool l) from (hv1a 46 rfl)), (show ac.eval (.tmp 49) = (Value.agg (cellsOf (rC (cR (d 0))) 6)) from (hv4a 49 rfl)), (show ac.eval (.tmp 52) = (Value.agg (cellsOf (rC (cR (d 1))) 6)) from (hv7a 52 rfl))] <;> rfl) (by kernel_rfl) (Value.tuple #[(Value.agg (cellsOf (rC (refF (ops11 (rm op 11)) l (cR (d 0)) (cR (d 1)) false).1) 6)), (Value.agg (cellsOf (rC (refF (ops11 (rm op 11)) l (cR (d 0)) (cR (d 1)) false).2.1) 6)), (Value.bool (refF (ops11 (rm op 11)) l (cR (d 0)) (cR (d 1)) false).2.2)]) (fun K hK => Refine_all (ops11 (rm op 11)) l (cR (d 0)) (cR (d 1)) false wa K hK) rfl hM26 hI
    ·obtain ⟨v8, hv8a, hv8b⟩ := hv 8 (by simp) (by kernel_rfl)
     have ev8 := hv8b.val rfl
     subst ev8
     exact potg_run rfl rfl (Value.tuple #[(Value.agg (cellsOf (rC (refF (ops11 (rm op 11)) l (cR (d 0)) (cR (d 1)) false).1) 6)), (Value.agg (cellsOf (rC (refF (ops11 (rm op 11)) l (cR (d 0)) (cR (d 1)) false).2.1) 6)), (Value.bool (refF (ops11 (rm op 11)) l (cR (d 0)) (cR (d 1)) false).2.2)]) rfl (run_mv (x := (.tmp 53)) rfl _ (hv8a 53 rfl)) hM26 hI
    ·obtain ⟨v9, hv9a, hv9b⟩ := hv 9 (by simp) (by kernel_rfl)
     have ev9 := hv9b.val rfl
     subst ev9
     exact potg_run rfl rfl (Value.agg (cellsOf (rC (refF (ops11 (rm op 11)) l (cR (d 0)) (cR (d 1)) false).1) 6)) rfl (run_ex (x := (.tmp 44)) rfl _ (hv9a 44 rfl) rfl) hM26 hI
    ·obtain ⟨v9, hv9a, hv9b⟩ := hv 9 (by simp) (by kernel_rfl)
     have ev9 := hv9b.val rfl
     subst ev9
     exact potg_run rfl rfl (Value.agg (cellsOf (rC (refF (ops11 (rm op 11)) l (cR (d 0)) (cR (d 1)) false).2.1) 6)) rfl (run_ex (x := (.tmp 44)) rfl _ (hv9a 44 rfl) rfl) hM26 hI
    ·obtain ⟨v9, hv9a, hv9b⟩ := hv 9 (by simp) (by kernel_rfl)
     have ev9 := hv9b.val rfl
     subst ev9
     exact potg_run rfl rfl (Value.bool (refF (ops11 (rm op 11)) l (cR (d 0)) (cR (d 1)) false).2.2) rfl (run_ex (x := (.tmp 44)) rfl _ (hv9a 44 rfl) rfl) hM26 hI
    ·exact potg_al rfl rfl rfl zeR rfl rfl hM26 hI
    ·exact potg_al rfl rfl rfl zeR rfl rfl hM26 hI
   ·intro L vals w5_30_ hb5_30_ hF hG hL
    have l0 := hL 0 (by simp) rfl
    have l1 := hL 1 (by simp) rfl
    have l2 := hL 2 (by simp) rfl
    have l3 := hL 3 (by simp) rfl
    have l4 := hL 4 (by simp) rfl
    have l5 := hL 5 (by simp) rfl
    have l6 := hL 6 (by simp) rfl
    have l7 := hL 7 (by simp) rfl
    have l8 := hL 8 (by simp) rfl
    have l9 := hL 9 (by simp) rfl
    have l10 := hL 10 (by simp) rfl
    have l13 := hL 13 (by simp) rfl
    have l14 := hL 14 (by simp) rfl
    clear hL
    cases c11 : L 11
    ·cases c12 : L 12
     ·have e_30_0 := (hF 0 (by simp) l0).val rfl
      have e_30_1 := (hF 1 (by simp) l1).val rfl
      have e_30_2 := (hF 2 (by simp) l2).val rfl
      have e_30_3 := (hF 3 (by simp) l3).val rfl
      have e_30_4 := (hF 4 (by simp) l4).val rfl
      have e_30_5 := (hF 5 (by simp) l5).val rfl
      have e_30_6 := (hF 6 (by simp) l6).val rfl
      have e_30_7 := (hF 7 (by simp) l7).val rfl
      have e_30_8 := (hF 8 (by simp) l8).val rfl
      have e_30_9 := (hF 9 (by simp) l9).val rfl
      have e_30_10 := (hF 10 (by simp) l10).val rfl
      obtain ⟨b_30_13, bl_30_13, e_30_13, h_30_13⟩ := (hF 13 (by simp) l13).al rfl rfl
      obtain ⟨b_30_14, bl_30_14, e_30_14, h_30_14⟩ := (hF 14 (by simp) l14).al rfl rfl
      have n_30_13_14 := hG 13 (by simp) 14 (by simp) (by omega) l13 l14 rfl rfl b_30_13 b_30_14 e_30_13 e_30_14
      clear hF hG
      rw [show left L [0, 1, 2, 3, 4, 5, 6, 7, 8, 9, 10, 11, 12, 13, 14] = 2 from by simp [left, l0, l1, l2, l3, l4, l5, l6, l7, l8, l9, l10, l13, l14, c11, c12]]
      refine wpAny_fuel (n := 5) (by kernel_rfl) ?_
      simp only [marks, puts, l0, l1, l2, l3, l4, l5, l6, l7, l8, l9, l10, l13, l14, c11, c12, if_true, if_false, Bool.false_eq_true, dstOf, List.getElem?_toArray, List.getElem?_cons_succ, List.getElem?_cons_zero, Option.bind_some, Act.put, List.setIfInBounds_toArray, List.set_cons_succ, List.set_cons_zero, e_30_0, e_30_1, e_30_2, e_30_3, e_30_4, e_30_5, e_30_6, e_30_7, e_30_8, e_30_9, e_30_10, e_30_13, e_30_14]
      clear e_30_0 e_30_1 e_30_2 e_30_3 e_30_4 e_30_5 e_30_6 e_30_7 e_30_8 e_30_9 e_30_10 e_30_13 e_30_14 l0 l1 l2 l3 l4 l5 l6 l7 l8 l9 l10 l13 l14 c11 c12
      have k34 := k22.below hb5_30_ (by omega)
      have k35 := k20.below hb5_30_ (by omega)
      have k36 := k21.below hb5_30_ (by omega)
      have lo37 := lo23.trans (hb5_30_.mono (by omega))
      obtain ⟨M5, hM5⟩ := sz_some w5_30_
      have lM5 := below_sz hb5_30_ hM26 hM5
      clear k22 c32 c33 k20 k21 lo23 hb5_30_
      refine wpAny_of_held (S := fun _ => True) _ _ _ _ ?_
      refine held_take (i := 11) (v := (Value.agg (cellsOf (rC (refF (ops11 (rm op 11)) l (cR (d 0)) (cR (d 1)) false).2.1) 6))) (d := some 55) rfl (by kernel_rfl) (by kernel_rfl) (by kernel_rfl) (by kernel_rfl) (fun _ _ _ h => by cases h.1) (Or.inl ⟨by rfl, fun wq _ => run_ex (x := (.tmp 44)) rfl wq rfl rfl⟩) trivial ?_; simp only [pA]
      refine held_take (i := 12) (v := (Value.bool (refF (ops11 (rm op 11)) l (cR (d 0)) (cR (d 1)) false).2.2)) (d := some 56) rfl (by kernel_rfl) (by kernel_rfl) (by kernel_rfl) (by kernel_rfl) (fun _ _ _ h => by cases h.1) (Or.inl ⟨by rfl, fun wq _ => run_ex (x := (.tmp 44)) rfl wq rfl rfl⟩) trivial ?_; simp only [pA]
      refine wpAnyH_all (rs := [15]) (by kernel_rfl) (by simp) ?_
      intro iq hiq; simp only [List.mem_singleton] at hiq; subst hiq
      refine opg_list rfl ?_
      refine wpl_storeN (by rfl) (by kernel_rfl) 41 (.tmp 13) (.tmp 54) rfl b_30_13 6 (rC (refF (ops11 (rm op 11)) l (cR (d 0)) (cR (d 1)) false).1) rfl rfl 41 _ h_30_13 szR (fun j _ => rC_one _ j) ?_
      intro xw38 t39 k40; try simp only [pA]
      have k41 := k34.touch t39 (by omega)
      have k42 := k35.touch t39 (by omega)
      have k43 := k36.touch t39 (by omega)
      have k44 := h_30_14.touch t39 (by omega)
      have lo45 := t39.below lo37 (by omega)
      have h46 := t39.sz hM5
      clear h_30_13 k34 k35 k36 h_30_14 lo37 hM5 t39
      refine ⟨trivial, ?_⟩
      refine wpAnyH_all (rs := [16]) (by kernel_rfl) (by simp) ?_
      intro iq hiq; simp only [List.mem_singleton] at hiq; subst hiq
      refine opg_list rfl ?_
      refine wpl_storeN (by rfl) (by kernel_rfl) 41 (.tmp 14) (.tmp 55) rfl b_30_14 6 (rC (refF (ops11 (rm op 11)) l (cR (d 0)) (cR (d 1)) false).2.1) rfl rfl 41 _ k44 szR (fun j _ => rC_one _ j) ?_
      intro xw47 t48 k49; try simp only [pA]
      have k50 := k41.touch t48 (by omega)
      have k51 := k42.touch t48 (by omega)
      have k52 := k43.touch t48 (by omega)
      have k53 := k40.touch t48 (by omega)
      have lo54 := t48.below lo45 (by omega)
      have h55 := t48.sz h46
      clear k44 k41 k42 k43 k40 lo45 h46 t48
      refine ⟨trivial, ?_⟩
      refine wpAnyH_all (rs := [17]) (by kernel_rfl) (by simp) ?_
      intro iq hiq; simp only [List.mem_singleton] at hiq; subst hiq
      refine opg_list rfl ?_
      refine wpl_runD rfl (d := some 15) rfl (Value.bool (refF (ops11 (rm op 11)) l (cR (d 0)) (cR (d 1)) false).2.2) (run_as (x := (.tmp 56)) rfl _ rfl) ?_; simp only [pA]
      refine ⟨trivial, ?_⟩
      refine wpAnyH_done (by kernel_rfl) ?_ _
      refine ⟨rfl, (b_30_13, b_30_14), (by simp only [pA]), k53, k49, (Ne.symm n_30_13_14), bl_30_13, bl_30_14, k50, k51, k52, lo54⟩
     ·have e_30_0 := (hF 0 (by simp) l0).val rfl
      have e_30_1 := (hF 1 (by simp) l1).val rfl
      have e_30_2 := (hF 2 (by simp) l2).val rfl
      have e_30_3 := (hF 3 (by simp) l3).val rfl
      have e_30_4 := (hF 4 (by simp) l4).val rfl
      have e_30_5 := (hF 5 (by simp) l5).val rfl
      have e_30_6 := (hF 6 (by simp) l6).val rfl
      have e_30_7 := (hF 7 (by simp) l7).val rfl
      have e_30_8 := (hF 8 (by simp) l8).val rfl
      have e_30_9 := (hF 9 (by simp) l9).val rfl
      have e_30_10 := (hF 10 (by simp) l10).val rfl
      have e_30_12 := (hF 12 (by simp) c12).val rfl
      obtain ⟨b_30_13, bl_30_13, e_30_13, h_30_13⟩ := (hF 13 (by simp) l13).al rfl rfl
      obtain ⟨b_30_14, bl_30_14, e_30_14, h_30_14⟩ := (hF 14 (by simp) l14).al rfl rfl
      have n_30_13_14 := hG 13 (by simp) 14 (by simp) (by omega) l13 l14 rfl rfl b_30_13 b_30_14 e_30_13 e_30_14
      clear hF hG
      rw [show left L [0, 1, 2, 3, 4, 5, 6, 7, 8, 9, 10, 11, 12, 13, 14] = 1 from by simp [left, l0, l1, l2, l3, l4, l5, l6, l7, l8, l9, l10, l13, l14, c11, c12]]
      refine wpAny_fuel (n := 4) (by kernel_rfl) ?_
      simp only [marks, puts, l0, l1, l2, l3, l4, l5, l6, l7, l8, l9, l10, l13, l14, c11, c12, if_true, if_false, Bool.false_eq_true, dstOf, List.getElem?_toArray, List.getElem?_cons_succ, List.getElem?_cons_zero, Option.bind_some, Act.put, List.setIfInBounds_toArray, List.set_cons_succ, List.set_cons_zero, e_30_0, e_30_1, e_30_2, e_30_3, e_30_4, e_30_5, e_30_6, e_30_7, e_30_8, e_30_9, e_30_10, e_30_12, e_30_13, e_30_14]
      clear e_30_0 e_30_1 e_30_2 e_30_3 e_30_4 e_30_5 e_30_6 e_30_7 e_30_8 e_30_9 e_30_10 e_30_12 e_30_13 e_30_14 l0 l1 l2 l3 l4 l5 l6 l7 l8 l9 l10 l13 l14 c11 c12
      have k34 := k22.below hb5_30_ (by omega)
      have k35 := k20.below hb5_30_ (by omega)
      have k36 := k21.below hb5_30_ (by omega)
      have lo37 := lo23.trans (hb5_30_.mono (by omega))
      obtain ⟨M5, hM5⟩ := sz_some w5_30_
      have lM5 := below_sz hb5_30_ hM26 hM5
      clear k22 c32 c33 k20 k21 lo23 hb5_30_
      refine wpAny_of_held (S := fun _ => True) _ _ _ _ ?_
      refine held_take (i := 11) (v := (Value.agg (cellsOf (rC (refF (ops11 (rm op 11)) l (cR (d 0)) (cR (d 1)) false).2.1) 6))) (d := some 55) rfl (by kernel_rfl) (by kernel_rfl) (by kernel_rfl) (by kernel_rfl) (fun _ _ _ h => by cases h.1) (Or.inl ⟨by rfl, fun wq _ => run_ex (x := (.tmp 44)) rfl wq rfl rfl⟩) trivial ?_; simp only [pA]
      refine wpAnyH_all (rs := [15]) (by kernel_rfl) (by simp) ?_
      intro iq hiq; simp only [List.mem_singleton] at hiq; subst hiq
      refine opg_list rfl ?_
      refine wpl_storeN (by rfl) (by kernel_rfl) 41 (.tmp 13) (.tmp 54) rfl b_30_13 6 (rC (refF (ops11 (rm op 11)) l (cR (d 0)) (cR (d 1)) false).1) rfl rfl 41 _ h_30_13 szR (fun j _ => rC_one _ j) ?_
      intro xw38 t39 k40; try simp only [pA]
      have k41 := k34.touch t39 (by omega)
      have k42 := k35.touch t39 (by omega)
      have k43 := k36.touch t39 (by omega)
      have k44 := h_30_14.touch t39 (by omega)
      have lo45 := t39.below lo37 (by omega)
      have h46 := t39.sz hM5
      clear h_30_13 k34 k35 k36 h_30_14 lo37 hM5 t39
      refine ⟨trivial, ?_⟩
      refine wpAnyH_all (rs := [16]) (by kernel_rfl) (by simp) ?_
      intro iq hiq; simp only [List.mem_singleton] at hiq; subst hiq
      refine opg_list rfl ?_
      refine wpl_storeN (by rfl) (by kernel_rfl) 41 (.tmp 14) (.tmp 55) rfl b_30_14 6 (rC (refF (ops11 (rm op 11)) l (cR (d 0)) (cR (d 1)) false).2.1) rfl rfl 41 _ k44 szR (fun j _ => rC_one _ j) ?_
      intro xw47 t48 k49; try simp only [pA]
      have k50 := k41.touch t48 (by omega)
      have k51 := k42.touch t48 (by omega)
      have k52 := k43.touch t48 (by omega)
      have k53 := k40.touch t48 (by omega)
      have lo54 := t48.below lo45 (by omega)
      have h55 := t48.sz h46
      clear k44 k41 k42 k43 k40 lo45 h46 t48
      refine ⟨trivial, ?_⟩
      refine wpAnyH_all (rs := [17]) (by kernel_rfl) (by simp) ?_
      intro iq hiq; simp only [List.mem_singleton] at hiq; subst hiq
      refine opg_list rfl ?_
      refine wpl_runD rfl (d := some 15) rfl (Value.bool (refF (ops11 (rm op 11)) l (cR (d 0)) (cR (d 1)) false).2.2) (run_as (x := (.tmp 56)) rfl _ rfl) ?_; simp only [pA]
      refine ⟨trivial, ?_⟩
      refine wpAnyH_done (by kernel_rfl) ?_ _
      refine ⟨rfl, (b_30_13, b_30_14), (by simp only [pA]), k53, k49, (Ne.symm n_30_13_14), bl_30_13, bl_30_14, k50, k51, k52, lo54⟩
    ·cases c12 : L 12
     ·have e_30_0 := (hF 0 (by simp) l0).val rfl
      have e_30_1 := (hF 1 (by simp) l1).val rfl
      have e_30_2 := (hF 2 (by simp) l2).val rfl
      have e_30_3 := (hF 3 (by simp) l3).val rfl
      have e_30_4 := (hF 4 (by simp) l4).val rfl
      have e_30_5 := (hF 5 (by simp) l5).val rfl
      have e_30_6 := (hF 6 (by simp) l6).val rfl
      have e_30_7 := (hF 7 (by simp) l7).val rfl
      have e_30_8 := (hF 8 (by simp) l8).val rfl
      have e_30_9 := (hF 9 (by simp) l9).val rfl
      have e_30_10 := (hF 10 (by simp) l10).val rfl
      have e_30_11 := (hF 11 (by simp) c11).val rfl
      obtain ⟨b_30_13, bl_30_13, e_30_13, h_30_13⟩ := (hF 13 (by simp) l13).al rfl rfl
      obtain ⟨b_30_14, bl_30_14, e_30_14, h_30_14⟩ := (hF 14 (by simp) l14).al rfl rfl
      have n_30_13_14 := hG 13 (by simp) 14 (by simp) (by omega) l13 l14 rfl rfl b_30_13 b_30_14 e_30_13 e_30_14
      clear hF hG
      rw [show left L [0, 1, 2, 3, 4, 5, 6, 7, 8, 9, 10, 11, 12, 13, 14] = 1 from by simp [left, l0, l1, l2, l3, l4, l5, l6, l7, l8, l9, l10, l13, l14, c11, c12]]
      refine wpAny_fuel (n := 4) (by kernel_rfl) ?_
      simp only [marks, puts, l0, l1, l2, l3, l4, l5, l6, l7, l8, l9, l10, l13, l14, c11, c12, if_true, if_false, Bool.false_eq_true, dstOf, List.getElem?_toArray, List.getElem?_cons_succ, List.getElem?_cons_zero, Option.bind_some, Act.put, List.setIfInBounds_toArray, List.set_cons_succ, List.set_cons_zero, e_30_0, e_30_1, e_30_2, e_30_3, e_30_4, e_30_5, e_30_6, e_30_7, e_30_8, e_30_9, e_30_10, e_30_11, e_30_13, e_30_14]
      clear e_30_0 e_30_1 e_30_2 e_30_3 e_30_4 e_30_5 e_30_6 e_30_7 e_30_8 e_30_9 e_30_10 e_30_11 e_30_13 e_30_14 l0 l1 l2 l3 l4 l5 l6 l7 l8 l9 l10 l13 l14 c11 c12
      have k34 := k22.below hb5_30_ (by omega)
      have k35 := k20.below hb5_30_ (by omega)
      have k36 := k21.below hb5_30_ (by omega)
      have lo37 := lo23.trans (hb5_30_.mono (by omega))
      obtain ⟨M5, hM5⟩ := sz_some w5_30_
      have lM5 := below_sz hb5_30_ hM26 hM5
      clear k22 c32 c33 k20 k21 lo23 hb5_30_
      refine wpAny_of_held (S := fun _ => True) _ _ _ _ ?_
      refine held_take (i := 12) (v := (Value.bool (refF (ops11 (rm op 11)) l (cR (d 0)) (cR (d 1)) false).2.2)) (d := some 56) rfl (by kernel_rfl) (by kernel_rfl) (by kernel_rfl) (by kernel_rfl) (fun _ _ _ h => by cases h.1) (Or.inl ⟨by rfl, fun wq _ => run_ex (x := (.tmp 44)) rfl wq rfl rfl⟩) trivial ?_; simp only [pA]
      refine wpAnyH_all (rs := [15]) (by kernel_rfl) (by simp) ?_
      intro iq hiq; simp only [List.mem_singleton] at hiq; subst hiq
      refine opg_list rfl ?_
      refine wpl_storeN (by rfl) (by kernel_rfl) 41 (.tmp 13) (.tmp 54) rfl b_30_13 6 (rC (refF (ops11 (rm op 11)) l (cR (d 0)) (cR (d 1)) false).1) rfl rfl 41 _ h_30_13 szR (fun j _ => rC_one _ j) ?_
      intro xw38 t39 k40; try simp only [pA]
      have k41 := k34.touch t39 (by omega)
      have k42 := k35.touch t39 (by omega)
      have k43 := k36.touch t39 (by omega)
      have k44 := h_30_14.touch t39 (by omega)
      have lo45 := t39.below lo37 (by omega)
      have h46 := t39.sz hM5
      clear h_30_13 k34 k35 k36 h_30_14 lo37 hM5 t39
      refine ⟨trivial, ?_⟩
      refine wpAnyH_all (rs := [16]) (by kernel_rfl) (by simp) ?_
      intro iq hiq; simp only [List.mem_singleton] at hiq; subst hiq
      refine opg_list rfl ?_
      refine wpl_storeN (by rfl) (by kernel_rfl) 41 (.tmp 14) (.tmp 55) rfl b_30_14 6 (rC (refF (ops11 (rm op 11)) l (cR (d 0)) (cR (d 1)) false).2.1) rfl rfl 41 _ k44 szR (fun j _ => rC_one _ j) ?_
      intro xw47 t48 k49; try simp only [pA]
      have k50 := k41.touch t48 (by omega)
      have k51 := k42.touch t48 (by omega)
      have k52 := k43.touch t48 (by omega)
      have k53 := k40.touch t48 (by omega)
      have lo54 := t48.below lo45 (by omega)
      have h55 := t48.sz h46
      clear k44 k41 k42 k43 k40 lo45 h46 t48
      refine ⟨trivial, ?_⟩
      refine wpAnyH_all (rs := [17]) (by kernel_rfl) (by simp) ?_
      intro iq hiq; simp only [List.mem_singleton] at hiq; subst hiq
      refine opg_list rfl ?_
      refine wpl_runD rfl (d := some 15) rfl (Value.bool (refF (ops11 (rm op 11)) l (cR (d 0)) (cR (d 1)) false).2.2) (run_as (x := (.tmp 56)) rfl _ rfl) ?_; simp only [pA]
      refine ⟨trivial, ?_⟩
      refine wpAnyH_done (by kernel_rfl) ?_ _
      refine ⟨rfl, (b_30_13, b_30_14), (by simp only [pA]), k53, k49, (Ne.symm n_30_13_14), bl_30_13, bl_30_14, k50, k51, k52, lo54⟩
     ·have e_30_0 := (hF 0 (by simp) l0).val rfl
      have e_30_1 := (hF 1 (by simp) l1).val rfl
      have e_30_2 := (hF 2 (by simp) l2).val rfl
      have e_30_3 := (hF 3 (by simp) l3).val rfl
      have e_30_4 := (hF 4 (by simp) l4).val rfl
      have e_30_5 := (hF 5 (by simp) l5).val rfl
      have e_30_6 := (hF 6 (by simp) l6).val rfl
      have e_30_7 := (hF 7 (by simp) l7).val rfl
      have e_30_8 := (hF 8 (by simp) l8).val rfl
      have e_30_9 := (hF 9 (by simp) l9).val rfl
      have e_30_10 := (hF 10 (by simp) l10).val rfl
      have e_30_11 := (hF 11 (by simp) c11).val rfl
      have e_30_12 := (hF 12 (by simp) c12).val rfl
      obtain ⟨b_30_13, bl_30_13, e_30_13, h_30_13⟩ := (hF 13 (by simp) l13).al rfl rfl
      obtain ⟨b_30_14, bl_30_14, e_30_14, h_30_14⟩ := (hF 14 (by simp) l14).al rfl rfl
      have n_30_13_14 := hG 13 (by simp) 14 (by simp) (by omega) l13 l14 rfl rfl b_30_13 b_30_14 e_30_13 e_30_14
      clear hF hG
      rw [show left L [0, 1, 2, 3, 4, 5, 6, 7, 8, 9, 10, 11, 12, 13, 14] = 0 from by simp [left, l0, l1, l2, l3, l4, l5, l6, l7, l8, l9, l10, l13, l14, c11, c12]]
      refine wpAny_fuel (n := 3) (by kernel_rfl) ?_
      simp only [marks, puts, l0, l1, l2, l3, l4, l5, l6, l7, l8, l9, l10, l13, l14, c11, c12, if_true, if_false, Bool.false_eq_true, dstOf, List.getElem?_toArray, List.getElem?_cons_succ, List.getElem?_cons_zero, Option.bind_some, Act.put, List.setIfInBounds_toArray, List.set_cons_succ, List.set_cons_zero, e_30_0, e_30_1, e_30_2, e_30_3, e_30_4, e_30_5, e_30_6, e_30_7, e_30_8, e_30_9, e_30_10, e_30_11, e_30_12, e_30_13, e_30_14]
      clear e_30_0 e_30_1 e_30_2 e_30_3 e_30_4 e_30_5 e_30_6 e_30_7 e_30_8 e_30_9 e_30_10 e_30_11 e_30_12 e_30_13 e_30_14 l0 l1 l2 l3 l4 l5 l6 l7 l8 l9 l10 l13 l14 c11 c12
      have k34 := k22.below hb5_30_ (by omega)
      have k35 := k20.below hb5_30_ (by omega)
      have k36 := k21.below hb5_30_ (by omega)
      have lo37 := lo23.trans (hb5_30_.mono (by omega))
      obtain ⟨M5, hM5⟩ := sz_some w5_30_
      have lM5 := below_sz hb5_30_ hM26 hM5
      clear k22 c32 c33 k20 k21 lo23 hb5_30_
      refine wpAny_of_held (S := fun _ => True) _ _ _ _ ?_
      refine wpAnyH_all (rs := [15]) (by kernel_rfl) (by simp) ?_
      intro iq hiq; simp only [List.mem_singleton] at hiq; subst hiq
      refine opg_list rfl ?_
      refine wpl_storeN (by rfl) (by kernel_rfl) 41 (.tmp 13) (.tmp 54) rfl b_30_13 6 (rC (refF (ops11 (rm op 11)) l (cR (d 0)) (cR (d 1)) false).1) rfl rfl 41 _ h_30_13 szR (fun j _ => rC_one _ j) ?_
      intro xw38 t39 k40; try simp only [pA]
      have k41 := k34.touch t39 (by omega)
      have k42 := k35.touch t39 (by omega)
      have k43 := k36.touch t39 (by omega)
      have k44 := h_30_14.touch t39 (by omega)
      have lo45 := t39.below lo37 (by omega)
      have h46 := t39.sz hM5
      clear h_30_13 k34 k35 k36 h_30_14 lo37 hM5 t39
      refine ⟨trivial, ?_⟩
      refine wpAnyH_all (rs := [16]) (by kernel_rfl) (by simp) ?_
      intro iq hiq; simp only [List.mem_singleton] at hiq; subst hiq
      refine opg_list rfl ?_
      refine wpl_storeN (by rfl) (by kernel_rfl) 41 (.tmp 14) (.tmp 55) rfl b_30_14 6 (rC (refF (ops11 (rm op 11)) l (cR (d 0)) (cR (d 1)) false).2.1) rfl rfl 41 _ k44 szR (fun j _ => rC_one _ j) ?_
      intro xw47 t48 k49; try simp only [pA]
      have k50 := k41.touch t48 (by omega)
      have k51 := k42.touch t48 (by omega)
      have k52 := k43.touch t48 (by omega)
      have k53 := k40.touch t48 (by omega)
      have lo54 := t48.below lo45 (by omega)
      have h55 := t48.sz h46
      clear k44 k41 k42 k43 k40 lo45 h46 t48
      refine ⟨trivial, ?_⟩
      refine wpAnyH_all (rs := [17]) (by kernel_rfl) (by simp) ?_
      intro iq hiq; simp only [List.mem_singleton] at hiq; subst hiq
      refine opg_list rfl ?_
      refine wpl_runD rfl (d := some 15) rfl (Value.bool (refF (ops11 (rm op 11)) l (cR (d 0)) (cR (d 1)) false).2.2) (run_as (x := (.tmp 56)) rfl _ rfl) ?_; simp only [pA]
      refine ⟨trivial, ?_⟩
      refine wpAnyH_done (by kernel_rfl) ?_ _
      refine ⟨rfl, (b_30_13, b_30_14), (by simp only [pA]), k53, k49, (Ne.symm n_30_13_14), bl_30_13, bl_30_14, k50, k51, k52, lo54⟩
  ·clear k22 k20 k21 lo23
   rintro ⟨b_30_x0, b_30_x1⟩ xw37 ⟨k31, k32, ne38, lb_30_x0, lb_30_x1, k33, k34, k35, lo36⟩
   try dsimp only at *
   try simp only [pA]
   obtain ⟨M39, hM39⟩ := sz_some xw37
   have lt_40 := k33.ltN hM39
   have lt_41 := k34.ltN hM39
   have lt_42 := k35.ltN hM39
   have lt_43 := k31.ltN hM39
   have lt_44 := k32.ltN hM39
   go_upto_region 6 with fail
   obtain ⟨c45, c46⟩ := d_cells k33
   refine wp_region_later (M39) (by kernel_rfl) (by kernel_rfl) ?_
   try simp only [pA]
   go_big_quiet_step ((go_at_call 35; exact later_of hM39 _ (fun K hK hKN => tells_any _ K hK)))
   iterate 9 (go_big_quiet_step (fail))
   refine later_val (fun q => run_eqb 4 4 (.tmp 64) (.tmp 66) rfl undBool (p := (refF (ops11 (rm op 11)) l (cR (d 0)) (cR (d 1)) false).2.2) (q := true) (r := true) rfl rfl F5.out) (by rfl) ?_; simp only [pA]
   iterate 20 (go_big_quiet_step (fail))
   refine wpQuiet_nil (laterE hM39 ?_)
   intro xw47 M48 hbxw47 hM48 lM48
   have k49 := k33.below hbxw47 (by omega)
   have k50 := k34.below hbxw47 (by omega)
   have k51 := k35.below hbxw47 (by omega)
   have k52 := k31.below hbxw47 (by omega)
   have k53 := k32.below hbxw47 (by omega)
   have lo54 := lo36.trans (hbxw47.mono (by omega))
   clear k33 c45 c46 k34 k35 k31 k32 lo36 hbxw47
   go_wp2_with fail
   go_ret
   exact ⟨rfl, lo54⟩
theorem law_balone (op : Int) (l : Bool) (d : Nat → W) (w : World) (N : Nat) (hN : Sz w N) : Calls Try.prog 11 #[(Value.int .i64 op), (Value.bool l), (Value.agg (cellsOf (dC d) 2))] w fun e w' => e = .returned (.bool true) ∧ Below N w w' := by
 rcases Bool.eq_false_or_eq_true (holF (ops11 (rm op 11)) l (d 0) (d 1)) with h | h
 ·exact law_balone_t op l d w N hN (hid h)
 ·exact law_balone_f op l d w N hN (hid h)
end Go.Proofs.Ytmdcopmgkhjfnaa
