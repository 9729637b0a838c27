/- BranchBytes: the walk. -/
import Derived.Test.YtmdcopmgkhjfnaaBr24
import Derived.Test.YtmdcopmgkhjfnaaYv
namespace Go.Proofs.Ytmdcopmgkhjfnaa
open Go Go.RowKit
theorem tells_any (w : World) (N : Nat) (hN : Sz w N) : Calls Try.prog 35 #[] w fun e w' => e = .returned (.bool true) ∧ Below N w w' := by
 have := Tells_any w N hN
 rwa [tells_true] at this
theorem low_255a : (lowR1 (obR tAny)).hi = 255#64 := by decide +kernel
theorem low_255 : qn (lowR1 (obR tAny)).hi = 255 := by rw [low_255a]; rfl
set_option maxRecDepth 100000 in
set_option maxHeartbeats 8000000 in
theorem law_bbytes (op : Int) (x : W) (y : W) (w : World) (N : Nat) (hN : Sz w N) (hx : Hid (x.toNat < 256)) (hy : Hid (y.toNat < 256)) : Calls Try.prog 14 #[(Value.int .i64 op), (Yv x), (Yv y)] w fun e w' => e = .returned (.bool true) ∧ Below N w w' := by
 have RI := hid (ref_in (op := (ops10 (rm op 10))) (l := true) (h := (holF (ops10 (rm op 10)) true x y)) (byte_in hx.out) (cR_in y) rfl)
 have RN := hid (ref_nar RI.out.1)
 have F0 := hid (show (refF (ops10 (rm op 10)) true (lowR1 (obR tAny)) (cR y) (holF (ops10 (rm op 10)) true x y)).2.2 = true from RI.out.1)
 have F1 := hid (show (sHas (refF (ops10 (rm op 10)) true (lowR1 (obR tAny)) (cR y) (holF (ops10 (rm op 10)) true x y)).1 x) = true from RI.out.2.1.has)
 have F2 := hid (show (sHas (refF (ops10 (rm op 10)) true (lowR1 (obR tAny)) (cR y) (holF (ops10 (rm op 10)) true x y)).2.1 y) = true from RI.out.2.2.has)
 have F3 := hid (show (BitVec.ule (refF (ops10 (rm op 10)) true (lowR1 (obR tAny)) (cR y) (holF (ops10 (rm op 10)) true x y)).1.hi 255#64) = true from by rw [ule_qn, decide_eq_true_eq]; have := RN.out.1.hi; rw [low_255] at this; exact this)
 go_enter Try.func14, Try.ntmps14
 have lo0 : Below N w w := Below.refl N w
 go_upto_region 1 with fail
 refine wp_region_lit ?_
 try simp only [pA]
 refine wpl_bsT rfl 60 3 10 1 (fun j => .int .i64 (ops10 j : Int)) (by omega) (fun w => by kernel_rfl) N hN ?_
 intro xw1 hMxw1 hbxw1 hhxw1; simp only [pA]
 have lo2 := lo0.trans (hbxw1.mono (by omega))
 clear lo0 hbxw1
 have LT : Ats xw1 (some ⟨N, 0, none⟩) 10 (fun j => .int .i64 (ops10 j : Int)) := (own_has hhxw1).ats
 clear hhxw1
 refine wpl_run rfl (.slice (some ⟨N, 0, none⟩) 10 10) _ (run_as (x := .tmp 14) rfl _ rfl) ?_; simp only [pA]
 obtain ⟨M3, hM3⟩ := sz_some xw1
 have lN_4 := below_sz lo2 hN hM3
 go_upto_region 2 with fail
 refine wp_region_later1 (M3) ?_
 try simp only [pA]
 iterate 2 (go_big_quiet_step (fail))
 refine later_val (fun q => run_iu (x := (.tmp 16)) rfl undInt und64 rfl q.w') (by rfl) ?_; simp only [pA]
 refine later_b (x := (.tmp 17)) (y := (.const (.int .u64 10))) rfl (bin_rem _ (BitVec.ofInt 64 op) 10#64 (by decide)) rfl rfl (by rfl) ?_; simp only [pA]
 refine later_val (fun q => run_rm (x := (.tmp 18)) rfl und64 undInt (z := op) (m := 10) (by omega) rfl q.w') (by rfl) ?_; simp only [pA]
 refine later_val (fun q => run_ixL 60 3 undSI szI1 (.tmp 15) (.tmp 19) rfl rfl rfl (k := (rm op 10)) (rm_lt _ _ (by omega)) q.w') (by rfl) ?_; simp only [pA]
 refine later_c1 hM3 3 (.tmp 20) rfl rfl undInt rfl (at_L LT (rm_lt _ _ (by omega))) (by rfl) ?_; simp only [pA]
 go_big_quiet_step (fail)
 refine wpQuiet_nil ?_
 rintro xw5 ⟨qxw5, exw5⟩
 have hbxw5 := qxw5.b
 rw [← exw5] at hbxw5
 clear qxw5 exw5
 have LT2 := LT.below hM3 hbxw5
 clear LT
 have LT := LT2
 clear LT2
 obtain ⟨M6, hM6⟩ := sz_some xw5
 have lM6 := below_sz hbxw5 hM3 hM6
 have lo7 := lo2.trans (hbxw5.mono (by omega))
 clear lo2 hbxw5
 clear LT
 go_upto_region 3 with fail
 refine wp_region_lit ?_
 try simp only [pA]
 change wpList _ _ _ ((_ :: _ :: []) ++ (_ :: _ :: [])) _ _
 refine wpList_prefix (C := fun w' => ∃ x : Later M6 xw5, w' = x.w') _ _ _ _ ⟨⟨_, Below.refl _ _⟩, rfl⟩ ?_
 go_big_quiet_step ((go_at_call 33; exact later_of hM6 _ (fun K hK hKN => SAny_any  _ K hK)))
 go_big_quiet_step ((go_at_call 31; exact later_of hM6 _ (fun K hK hKN => SLow_1 (obR tAny) _ K hK)))
 refine wpQuiet_nil (laterE hM6 ?_)
 intro xw8 M9 hbxw8 hM9 lM9
 have lo10 := lo7.trans (hbxw8.mono (by omega))
 clear lo7 hbxw8
 obtain ⟨b_xw11, eb_xw11⟩ : ∃ b_xw11, b_xw11 = M9 := ⟨_, rfl⟩
 have hzb_xw11 : Sz xw8 b_xw11 := by rw [eb_xw11]; exact hM9
 have lob_xw11 : M9 ≤ b_xw11 := by omega
 have upb_xw11 : b_xw11 ≤ M9 := by omega
 clear eb_xw11
 refine wpl_alloc rfl 41 rfl 6 (rC zeroR) zeR b_xw11 hzb_xw11 ?_
 intro xw11 hMxw11 hbxw11 hhxw11; simp only [pA]
 have lo12 := lo10.trans (hbxw11.mono (by omega))
 clear lo10 hbxw11 hzb_xw11
 obtain ⟨M13, eM13⟩ : ∃ M13, M13 = b_xw11 + 1 := ⟨_, rfl⟩
 rw [← eM13] at hMxw11
 have loM13 : b_xw11 + 1 ≤ M13 := by omega
 have upM13 : M13 ≤ b_xw11 + 1 := by omega
 clear eM13
 refine wpl_store rfl 41 (.tmp 9) (.tmp 23) rfl b_xw11 6 (rC (lowR1 (obR tAny))) rfl rfl 41 _ hhxw11 szR (fun j _ => rC_one _ j) ?_
 intro xw14 t15 k16; try simp only [pA]
 have lo17 := t15.below lo12 (by omega)
 have h18 := t15.sz hMxw11
 clear hhxw11 lo12 hMxw11 t15
 obtain ⟨M19, hM19⟩ := sz_some xw14
 have lt_20 := k16.ltN hM19
 go_upto_region 4 with fail
 refine wp_region_later1 (M19) ?_
 try simp only [pA]
 iterate 2 (go_big_quiet_step (fail))
 refine later_val (fun q => run_yu (x := (.tmp 25)) rfl undY und64 rfl q.w') (by rfl) ?_; simp only [pA]
 go_big_quiet_step (fail)
 refine later_val (fun q => run_yu (x := (.tmp 27)) rfl undY und64 rfl q.w') (by rfl) ?_; simp only [pA]
 go_big_quiet_step ((go_at_call 37; exact later_of hM19 _ (fun K hK hKN => RHol_h (ops10 (rm op 10)) true x y _ K hK)))
 go_big_quiet_step (fail)
 refine wpQuiet_nil (laterE hM19 ?_)
 intro xw21 M22 hbxw21 hM22 lM22
 have k23 := k16.below hbxw21 (by omega)
 have lo24 := lo17.trans (hbxw21.mono (by omega))
 clear k16 lo17 hbxw21
 have CS25 := fun w N hN => Refine_all (ops10 (rm op 10)) true (lowR1 (obR tAny)) (cR y) (holF (ops10 (rm op 10)) true x y) w N hN
 rw [F0.out] at CS25
 go_upto_region 5 with fail
 refine wp_mid (fun ac (zb : Nat × Nat) => ((((((((((((((ac.put (some 31) (Value.int .i64 ((ops10 (rm op 10)) : Int))).put (some 32) (Value.agg (cellsOf (rC (lowR1 (obR tAny))) 6))).put (some 33) (Yv y)).put (some 34) (Q y)).put (some 35) (Value.agg (cellsOf (rC (cR y)) 6))).put (some 36) (Value.bool (holF (ops10 (rm op 10)) true x y))).put (some 37) (Value.tuple #[(Value.agg (cellsOf (rC (refF (ops10 (rm op 10)) true (lowR1 (obR tAny)) (cR y) (holF (ops10 (rm op 10)) true x y)).1) 6)), (Value.agg (cellsOf (rC (refF (ops10 (rm op 10)) true (lowR1 (obR tAny)) (cR y) (holF (ops10 (rm op 10)) true x y)).2.1) 6)), (Value.bool true)])).put (some 30) (Value.tuple #[(Value.agg (cellsOf (rC (refF (ops10 (rm op 10)) true (lowR1 (obR tAny)) (cR y) (holF (ops10 (rm op 10)) true x y)).1) 6)), (Value.agg (cellsOf (rC (refF (ops10 (rm op 10)) true (lowR1 (obR tAny)) (cR y) (holF (ops10 (rm op 10)) true x y)).2.1) 6)), (Value.bool true)])).put (some 38) (Value.agg (cellsOf (rC (refF (ops10 (rm op 10)) true (lowR1 (obR tAny)) (cR y) (holF (ops10 (rm op 10)) true x y)).1) 6))).put (some 39) (Value.agg (cellsOf (rC (refF (ops10 (rm op 10)) true (lowR1 (obR tAny)) (cR y) (holF (ops10 (rm op 10)) true x y)).2.1) 6))).put (some 40) (Value.bool true)).put (some 11) (.pointer (some ⟨zb.1, 0, none⟩))).put (some 12) (.pointer (some ⟨zb.2, 0, none⟩))).put (some 13) (Value.bool true))) (fun zb w' => Has w' zb.1 41 6 (rC (refF (ops10 (rm op 10)) true (lowR1 (obR tAny)) (cR y) (holF (ops10 (rm op 10)) true x y)).1) ∧ Has w' zb.2 41 6 (rC (refF (ops10 (rm op 10)) true (lowR1 (obR tAny)) (cR y) (holF (ops10 (rm op 10)) true x y)).2.1) ∧ zb.2 ≠ zb.1 ∧ M22 ≤ zb.1 ∧ M22 ≤ zb.2 ∧ Has w' b_xw11 41 6 (rC (lowR1 (obR tAny))) ∧ Below N w w') ?_ ?_
 ·refine wp_region_any (by kernel_rfl) ?_
  replace k23 : Has xw21.drew b_xw11 41 6 (rC (lowR1 (obR tAny))) := k23
  replace hM22 : Sz xw21.drew M22 := hM22
  replace lo24 : Below N w xw21.drew := lo24.drew
  change wpAny _ _ _ _ _ _ _ (World.drew _)
  generalize xw21.drew = xw27 at *
  refine wpAny_potL (lt := [9, 10]) (rem := [0, 1, 2, 3, 4, 5, 6, 7, 8, 9, 10, 11, 12]) (FG M22 (fun j => if j = 0 then some (Value.int .i64 ((ops10 (rm op 10)) : Int)) else if j = 1 then some (Value.agg (cellsOf (rC (lowR1 (obR tAny))) 6)) else if j = 2 then some (Yv y) else if j = 3 then some (Q y) else if j = 4 then some (Value.agg (cellsOf (rC (cR y)) 6)) else if j = 5 then some (Value.bool (holF (ops10 (rm op 10)) true x y)) else if j = 6 then some (Value.tuple #[(Value.agg (cellsOf (rC (refF (ops10 (rm op 10)) true (lowR1 (obR tAny)) (cR y) (holF (ops10 (rm op 10)) true x y)).1) 6)), (Value.agg (cellsOf (rC (refF (ops10 (rm op 10)) true (lowR1 (obR tAny)) (cR y) (holF (ops10 (rm op 10)) true x y)).2.1) 6)), (Value.bool true)]) else if j = 7 then some (Value.tuple #[(Value.agg (cellsOf (rC (refF (ops10 (rm op 10)) true (lowR1 (obR tAny)) (cR y) (holF (ops10 (rm op 10)) true x y)).1) 6)), (Value.agg (cellsOf (rC (refF (ops10 (rm op 10)) true (lowR1 (obR tAny)) (cR y) (holF (ops10 (rm op 10)) true x y)).2.1) 6)), (Value.bool true)]) else if j = 8 then some (Value.agg (cellsOf (rC (refF (ops10 (rm op 10)) true (lowR1 (obR tAny)) (cR y) (holF (ops10 (rm op 10)) true x y)).1) 6)) else if j = 9 then some (Value.agg (cellsOf (rC (refF (ops10 (rm op 10)) true (lowR1 (obR tAny)) (cR y) (holF (ops10 (rm op 10)) true x y)).2.1) 6)) else if j = 10 then some (Value.bool true) else if j = 11 then none else none) (fun j => if j = 11 then (41, 6, rC zeroR) else (41, 6, rC zeroR))) (TwoN (fun j => if j = 0 then some (Value.int .i64 ((ops10 (rm op 10)) : Int)) else if j = 1 then some (Value.agg (cellsOf (rC (lowR1 (obR tAny))) 6)) else if j = 2 then some (Yv y) else if j = 3 then some (Q y) else if j = 4 then some (Value.agg (cellsOf (rC (cR y)) 6)) else if j = 5 then some (Value.bool (holF (ops10 (rm op 10)) true x y)) else if j = 6 then some (Value.tuple #[(Value.agg (cellsOf (rC (refF (ops10 (rm op 10)) true (lowR1 (obR tAny)) (cR y) (holF (ops10 (rm op 10)) true x y)).1) 6)), (Value.agg (cellsOf (rC (refF (ops10 (rm op 10)) true (lowR1 (obR tAny)) (cR y) (holF (ops10 (rm op 10)) true x y)).2.1) 6)), (Value.bool true)]) else if j = 7 then some (Value.tuple #[(Value.agg (cellsOf (rC (refF (ops10 (rm op 10)) true (lowR1 (obR tAny)) (cR y) (holF (ops10 (rm op 10)) true x y)).1) 6)), (Value.agg (cellsOf (rC (refF (ops10 (rm op 10)) true (lowR1 (obR tAny)) (cR y) (holF (ops10 (rm op 10)) true x y)).2.1) 6)), (Value.bool true)]) else if j = 8 then some (Value.agg (cellsOf (rC (refF (ops10 (rm op 10)) true (lowR1 (obR tAny)) (cR y) (holF (ops10 (rm op 10)) true x y)).1) 6)) else if j = 9 then some (Value.agg (cellsOf (rC (refF (ops10 (rm op 10)) true (lowR1 (obR tAny)) (cR y) (holF (ops10 (rm op 10)) true x y)).2.1) 6)) else if j = 10 then some (Value.bool true) else if j = 11 then none else none)) (Below M22 xw27) _ _ _ _ (by kernel_rfl) (size_dstG (by kernel_rfl)) (Below.refl _ _) ?_ ?_
  ·intro i hi ac wa hI ha hv
   simp only [List.mem_cons, List.not_mem_nil, or_false] at hi
   rcases hi with rfl | rfl | rfl | rfl | rfl | rfl | rfl | rfl | rfl | rfl | rfl | rfl | rfl
   ·exact potg_run rfl rfl (Value.int .i64 ((ops10 (rm op 10)) : Int)) rfl (run_mv (x := (.tmp 8)) rfl _ (ha 8 (not_dstG (by kernel_rfl)))) hM22 hI
   ·exact potg_run rfl rfl (Value.agg (cellsOf (rC (lowR1 (obR tAny))) 6)) rfl (run_rw 41 (.tmp 9) rfl b_xw11 (ha 9 (not_dstG (by kernel_rfl))) 41 6 _ (Has.below k23 hI (Has.ltN k23 hM22)) undR szR) hM22 hI
   ·exact potg_run rfl rfl (Yv y) rfl (run_mv (x := (.tmp 2)) rfl _ (ha 2 (not_dstG (by kernel_rfl)))) hM22 hI
   ·obtain ⟨v2, hv2a, hv2b⟩ := hv 2 (by simp) (by kernel_rfl)
    have ev2 := hv2b.val rfl
    subst ev2
    exact potg_run rfl rfl (Q y) rfl (run_yu (x := (.tmp 33)) rfl undY und64 (hv2a 33 rfl) wa) hM22 hI
   ·obtain ⟨v3, hv3a, hv3b⟩ := hv 3 (by simp) (by kernel_rfl)
    have ev3 := hv3b.val rfl
    subst ev3
    exact potg_cl rfl rfl 28 _ _ rfl #[(Q y)] (by simp only [List.map_toArray, List.map_cons, List.map_nil, (show ac.eval (.tmp 34) = (Q y) from (hv3a 34 rfl))] <;> rfl) (by kernel_rfl) (Value.agg (cellsOf (rC (cR y)) 6)) (fun K hK => SConst_any y wa K hK) rfl hM22 hI
   ·exact potg_run rfl rfl (Value.bool (holF (ops10 (rm op 10)) true x y)) rfl (run_mv (x := (.tmp 10)) rfl _ (ha 10 (not_dstG (by kernel_rfl)))) hM22 hI
   ·obtain ⟨v0, hv0a, hv0b⟩ := hv 0 (by simp) (by kernel_rfl)
    have ev0 := hv0b.val rfl
    subst ev0
    obtain ⟨v1, hv1a, hv1b⟩ := hv 1 (by simp) (by kernel_rfl)
    have ev1 := hv1b.val rfl
    subst ev1
    obtain ⟨v4, hv4a, hv4b⟩ := hv 4 (by simp) (by kernel_rfl)
    have ev4 := hv4b.val rfl
    subst ev4
    obtain ⟨v5, hv5a, hv5b⟩ := hv 5 (by simp) (by kernel_rfl)
    have ev5 := hv5b.val rfl
    subst ev5
    exact potg_cl rfl rfl 40 _ _ rfl #[(Value.int .i64 ((ops10 (rm op 10)) : Int)), (Value.bool true), (Value.agg (cellsOf (rC (lowR1 (obR tAny))) 6)), (Value.agg (cellsOf (rC (cR y)) 6)), (Value.bool (holF (ops10 (rm op 10)) true x y))] (by simp only [List.map_toArray, List.map_cons, List.map_nil, (show ac.eval (.tmp 31) = (Value.int .i64 ((ops10 (rm op 10)) : Int)) from (hv0a 31 rfl)), (show ac.eval (.tmp 32) = (Value.agg (cellsOf (rC (lowR1 (obR tAny))) 6)) from (hv1a 32 rfl)), (show ac.eval (.tmp 35) = (Value.agg (cellsOf (rC (cR y)) 6)) from (hv4a 35 rfl)), (show ac.eval (.tmp 36) = (Value.bool (holF (ops10 (rm op 10)) true x y)) from (hv5a 36 rfl))] <;> rfl) (by kernel_rfl) (Value.tuple #[(Value.agg (cellsOf (rC (refF (ops10 (rm op 10)) true (lowR1 (obR tAny)) (cR y) (holF (ops10 (rm op 10)) true x y)).1) 6)), (Value.agg (cellsOf (rC (refF (ops10 (rm op 10)) true (lowR1 (obR tAny)) (cR y) (holF (ops10 (rm op 10)) true x y)).2.1) 6)), (Value.bool true)]) (fun K hK => CS25 wa K hK) rfl hM22 hI
   ·obtain ⟨v6, hv6a, hv6b⟩ := hv 6 (by simp) (by kernel_rfl)
    have ev6 := hv6b.val rfl
    subst ev6
    exact potg_run rfl rfl (Value.tuple #[(Value.agg (cellsOf (rC (refF (ops10 (rm op 10)) true (lowR1 (obR tAny)) (cR y) (holF (ops10 (rm op 10)) true x y)).1) 6)), (Value.agg (cellsOf (rC (refF (ops10 (rm op 10)) true (lowR1 (obR tAny)) (cR y) (holF (ops10 (rm op 10)) true x y)).2.1) 6)), (Value.bool true)]) rfl (run_mv (x := (.tmp 37)) rfl _ (hv6a 37 rfl)) hM22 hI
   ·obtain ⟨v7, hv7a, hv7b⟩ := hv 7 (by simp) (by kernel_rfl)
    have ev7 := hv7b.val rfl
    subst ev7
    exact potg_run rfl rfl (Value.agg (cellsOf (rC (refF (ops10 (rm op 10)) true (lowR1 (obR tAny)) (cR y) (holF (ops10 (rm op 10)) true x y)).1) 6)) rfl (run_ex (x := (.tmp 30)) rfl _ (hv7a 30 rfl) rfl) hM22 hI
   ·obtain ⟨v7, hv7a, hv7b⟩ := hv 7 (by simp) (by kernel_rfl)
    have ev7 := hv7b.val rfl
    subst ev7
    exact potg_run rfl rfl (Value.agg (cellsOf (rC (refF (ops10 (rm op 10)) true (lowR1 (obR tAny)) (cR y) (holF (ops10 (rm op 10)) true x y)).2.1) 6)) rfl (run_ex (x := (.tmp 30)) rfl _ (hv7a 30 rfl) rfl) hM22 hI
   ·obtain ⟨v7, hv7a, hv7b⟩ := hv 7 (by simp) (by kernel_rfl)
    have ev7 := hv7b.val rfl
    subst ev7
    exact potg_run rfl rfl (Value.bool true) rfl (run_ex (x := (.tmp 30)) rfl _ (hv7a 30 rfl) rfl) hM22 hI
   ·exact potg_al rfl rfl rfl zeR rfl rfl hM22 hI
   ·exact potg_al rfl rfl rfl zeR rfl rfl hM22 hI
  ·intro L vals w5_26_ hb5_26_ hF hG hL
   have l0 := hL 0 (by simp) rfl
   have l1 := hL 1 (by simp) rfl
   have l2 := hL 2 (by simp) rfl
   have l3 := hL 3 (by simp) rfl
   have l4 := hL 4 (by simp) rfl
   have l5 := hL 5 (by simp) rfl
   have l6 := hL 6 (by simp) rfl
   have l7 := hL 7 (by simp) rfl
   have l8 := hL 8 (by simp) rfl
   have l11 := hL 11 (by simp) rfl
   have l12 := hL 12 (by simp) rfl
   clear hL
   cases c9 : L 9
   ·cases c10 : L 10
    ·have e_26_0 := (hF 0 (by simp) l0).val rfl
     have e_26_1 := (hF 1 (by simp) l1).val rfl
     have e_26_2 := (hF 2 (by simp) l2).val rfl
     have e_26_3 := (hF 3 (by simp) l3).val rfl
     have e_26_4 := (hF 4 (by simp) l4).val rfl
     have e_26_5 := (hF 5 (by simp) l5).val rfl
     have e_26_6 := (hF 6 (by simp) l6).val rfl
     have e_26_7 := (hF 7 (by simp) l7).val rfl
     have e_26_8 := (hF 8 (by simp) l8).val rfl
     obtain ⟨b_26_11, bl_26_11, e_26_11, h_26_11⟩ := (hF 11 (by simp) l11).al rfl rfl
     obtain ⟨b_26_12, bl_26_12, e_26_12, h_26_12⟩ := (hF 12 (by simp) l12).al rfl rfl
     have n_26_11_12 := hG 11 (by simp) 12 (by simp) (by omega) l11 l12 rfl rfl b_26_11 b_26_12 e_26_11 e_26_12
     clear hF hG
     rw [show left L [0, 1, 2, 3, 4, 5, 6, 7, 8, 9, 10, 11, 12] = 2 from by simp [left, l0, l1, l2, l3, l4, l5, l6, l7, l8, l11, l12, c9, c10]]
     refine wpAny_fuel (n := 5) (by kernel_rfl) ?_
     simp only [marks, puts, l0, l1, l2, l3, l4, l5, l6, l7, l8, l11, l12, c9, c10, if_true, if_false, Bool.false_eq_true, dstOf, List.getElem?_toArray, List.getElem?_cons_succ, List.getElem?_cons_zero, Option.bind_some, Act.put, List.setIfInBounds_toArray, List.set_cons_succ, List.set_cons_zero, e_26_0, e_26_1, e_26_2, e_26_3, e_26_4, e_26_5, e_26_6, e_26_7, e_26_8, e_26_11, e_26_12]
     clear e_26_0 e_26_1 e_26_2 e_26_3 e_26_4 e_26_5 e_26_6 e_26_7 e_26_8 e_26_11 e_26_12 l0 l1 l2 l3 l4 l5 l6 l7 l8 l11 l12 c9 c10
     have k28 := k23.below hb5_26_ (by omega)
     have lo29 := lo24.trans (hb5_26_.mono (by omega))
     obtain ⟨M5, hM5⟩ := sz_some w5_26_
     have lM5 := below_sz hb5_26_ hM22 hM5
     clear k23 lo24 hb5_26_
     refine wpAny_of_held (S := fun _ => True) _ _ _ _ ?_
     refine held_take (i := 9) (v := (Value.agg (cellsOf (rC (refF (ops10 (rm op 10)) true (lowR1 (obR tAny)) (cR y) (holF (ops10 (rm op 10)) true x y)).2.1) 6))) (d := some 39) rfl (by kernel_rfl) (by kernel_rfl) (by kernel_rfl) (by kernel_rfl) (fun _ _ _ h => by cases h.1) (Or.inl ⟨by rfl, fun wq _ => run_ex (x := (.tmp 30)) rfl wq rfl rfl⟩) trivial ?_; simp only [pA]
     refine held_take (i := 10) (v := (Value.bool true)) (d := some 40) rfl (by kernel_rfl) (by kernel_rfl) (by kernel_rfl) (by kernel_rfl) (fun _ _ _ h => by cases h.1) (Or.inl ⟨by rfl, fun wq _ => run_ex (x := (.tmp 30)) rfl wq rfl rfl⟩) trivial ?_; simp only [pA]
     refine wpAnyH_all (rs := [13]) (by kernel_rfl) (by simp) ?_
     intro iq hiq; simp only [List.mem_singleton] at hiq; subst hiq
     refine opg_list rfl ?_
     refine wpl_storeN (by rfl) (by kernel_rfl) 41 (.tmp 11) (.tmp 38) rfl b_26_11 6 (rC (refF (ops10 (rm op 10)) true (lowR1 (obR tAny)) (cR y) (holF (ops10 (rm op 10)) true x y)).1) rfl rfl 41 _ h_26_11 szR (fun j _ => rC_one _ j) ?_
     intro xw30 t31 k32; try simp only [pA]
     have k33 := k28.touch t31 (by omega)
     have k34 := h_26_12.touch t31 (by omega)
     have lo35 := t31.below lo29 (by omega)
     have h36 := t31.sz hM5
     clear h_26_11 k28 h_26_12 lo29 hM5 t31
     refine ⟨trivial, ?_⟩
     refine wpAnyH_all (rs := [14]) (by kernel_rfl) (by simp) ?_
     intro iq hiq; simp only [List.mem_singleton] at hiq; subst hiq
     refine opg_list rfl ?_
     refine wpl_storeN (by rfl) (by kernel_rfl) 41 (.tmp 12) (.tmp 39) rfl b_26_12 6 (rC (refF (ops10 (rm op 10)) true (lowR1 (obR tAny)) (cR y) (holF (ops10 (rm op 10)) true x y)).2.1) rfl rfl 41 _ k34 szR (fun j _ => rC_one _ j) ?_
     intro xw37 t38 k39; try simp only [pA]
     have k40 := k33.touch t38 (by omega)
     have k41 := k32.touch t38 (by omega)
     have lo42 := t38.below lo35 (by omega)
     have h43 := t38.sz h36
     clear k34 k33 k32 lo35 h36 t38
     refine ⟨trivial, ?_⟩
     refine wpAnyH_all (rs := [15]) (by kernel_rfl) (by simp) ?_
     intro iq hiq; simp only [List.mem_singleton] at hiq; subst hiq
     refine opg_list rfl ?_
     refine wpl_runD rfl (d := some 13) rfl (Value.bool true) (run_as (x := (.tmp 40)) rfl _ rfl) ?_; simp only [pA]
     refine ⟨trivial, ?_⟩
     refine wpAnyH_done (by kernel_rfl) ?_ _
     refine ⟨rfl, (b_26_11, b_26_12), (by simp only [pA]), k41, k39, (Ne.symm n_26_11_12), bl_26_11, bl_26_12, k40, lo42⟩
    ·have e_26_0 := (hF 0 (by simp) l0).val rfl
     have e_26_1 := (hF 1 (by simp) l1).val rfl
     have e_26_2 := (hF 2 (by simp) l2).val rfl
     have e_26_3 := (hF 3 (by simp) l3).val rfl
     have e_26_4 := (hF 4 (by simp) l4).val rfl
     have e_26_5 := (hF 5 (by simp) l5).val rfl
     have e_26_6 := (hF 6 (by simp) l6).val rfl
     have e_26_7 := (hF 7 (by simp) l7).val rfl
     have e_26_8 := (hF 8 (by simp) l8).val rfl
     have e_26_10 := (hF 10 (by simp) c10).val rfl
     obtain ⟨b_26_11, bl_26_11, e_26_11, h_26_11⟩ := (hF 11 (by simp) l11).al rfl rfl
     obtain ⟨b_26_12, bl_26_12, e_26_12, h_26_12⟩ := (hF 12 (by simp) l12).al rfl rfl
     have n_26_11_12 := hG 11 (by simp) 12 (by simp) (by omega) l11 l12 rfl rfl b_26_11 b_26_12 e_26_11 e_26_12
     clear hF hG
     rw [show left L [0, 1, 2, 3, 4, 5, 6, 7, 8, 9, 10, 11, 12] = 1 from by simp [left, l0, l1, l2, l3, l4, l5, l6, l7, l8, l11, l12, c9, c10]]
     refine wpAny_fuel (n := 4) (by kernel_rfl) ?_
     simp only [marks, puts, l0, l1, l2, l3, l4, l5, l6, l7, l8, l11, l12, c9, c10, if_true, if_false, Bool.false_eq_true, dstOf, List.getElem?_toArray, List.getElem?_cons_succ, List.getElem?_cons_zero, Option.bind_some, Act.put, List.setIfInBounds_toArray, List.set_cons_succ, List.set_cons_zero, e_26_0, e_26_1, e_26_2, e_26_3, e_26_4, e_26_5, e_26_6, e_26_7, e_26_8, e_26_10, e_26_11, e_26_12]
     clear e_26_0 e_26_1 e_26_2 e_26_3 e_26_4 e_26_5 e_26_6 e_26_7 e_26_8 e_26_10 e_26_11 e_26_12 l0 l1 l2 l3 l4 l5 l6 l7 l8 l11 l12 c9 c10
     have k28 := k23.below hb5_26_ (by omega)
     have lo29 := lo24.trans (hb5_26_.mono (by omega))
     obtain ⟨M5, hM5⟩ := sz_some w5_26_
     have lM5 := below_sz hb5_26_ hM22 hM5
     clear k23 lo24 hb5_26_
     refine wpAny_of_held (S := fun _ => True) _ _ _ _ ?_
     refine held_take (i := 9) (v := (Value.agg (cellsOf (rC (refF (ops10 (rm op 10)) true (lowR1 (obR tAny)) (cR y) (holF (ops10 (rm op 10)) true x y)).2.1) 6))) (d := some 39) rfl (by kernel_rfl) (by kernel_rfl) (by kernel_rfl) (by kernel_rfl) (fun _ _ _ h => by cases h.1) (Or.inl ⟨by rfl, fun wq _ => run_ex (x := (.tmp 30)) rfl wq rfl rfl⟩) trivial ?_; simp only [pA]
     refine wpAnyH_all (rs := [13]) (by kernel_rfl) (by simp) ?_
     intro iq hiq; simp only [List.mem_singleton] at hiq; subst hiq
     refine opg_list rfl ?_
     refine wpl_storeN (by rfl) (by kernel_rfl) 41 (.tmp 11) (.tmp 38) rfl b_26_11 6 (rC (refF (ops10 (rm op 10)) true (lowR1 (obR tAny)) (cR y) (holF (ops10 (rm op 10)) true x y)).1) rfl rfl 41 _ h_26_11 szR (fun j _ => rC_one _ j) ?_
     intro xw30 t31 k32; try simp only [pA]
     have k33 := k28.touch t31 (by omega)
     have k34 := h_26_12.touch t31 (by omega)
     have lo35 := t31.below lo29 (by omega)
     have h36 := t31.sz hM5
     clear h_26_11 k28 h_26_12 lo29 hM5 t31
     refine ⟨trivial, ?_⟩
     refine wpAnyH_all (rs := [14]) (by kernel_rfl) (by simp) ?_
     intro iq hiq; simp only [List.mem_singleton] at hiq; subst hiq
     refine opg_list rfl ?_
     refine wpl_storeN (by rfl) (by kernel_rfl) 41 (.tmp 12) (.tmp 39) rfl b_26_12 6 (rC (refF (ops10 (rm op 10)) true (lowR1 (obR tAny)) (cR y) (holF (ops10 (rm op 10)) true x y)).2.1) rfl rfl 41 _ k34 szR (fun j _ => rC_one _ j) ?_
     intro xw37 t38 k39; try simp only [pA]
     have k40 := k33.touch t38 (by omega)
     have k41 := k32.touch t38 (by omega)
     have lo42 := t38.below lo35 (by omega)
     have h43 := t38.sz h36
     clear k34 k33 k32 lo35 h36 t38
     refine ⟨trivial, ?_⟩
     refine wpAnyH_all (rs := [15]) (by kernel_rfl) (by simp) ?_
     intro iq hiq; simp only [List.mem_singleton] at hiq; subst hiq
     refine opg_list rfl ?_
     refine wpl_runD rfl (d := some 13) rfl (Value.bool true) (run_as (x := (.tmp 40)) rfl _ rfl) ?_; simp only [pA]
     refine ⟨trivial, ?_⟩
     refine wpAnyH_done (by kernel_rfl) ?_ _
     refine ⟨rfl, (b_26_11, b_26_12), (by simp only [pA]), k41, k39, (Ne.symm n_26_11_12), bl_26_11, bl_26_12, k40, lo42⟩
   ·cases c10 : L 10
    ·have e_26_0 := (hF 0 (by simp) l0).val rfl
     have e_26_1 := (hF 1 (by simp) l1).val rfl
     have e_26_2 := (hF 2 (by simp) l2).val rfl
     have e_26_3 := (hF 3 (by simp) l3).val rfl
     have e_26_4 := (hF 4 (by simp) l4).val rfl
     have e_26_5 := (hF 5 (by simp) l5).val rfl
     have e_26_6 := (hF 6 (by simp) l6).val rfl
     have e_26_7 := (hF 7 (by simp) l7).val rfl
     have e_26_8 := (hF 8 (by simp) l8).val rfl
     have e_26_9 := (hF 9 (by simp) c9).val rfl
     obtain ⟨b_26_11, bl_26_11, e_26_11, h_26_11⟩ := (hF 11 (by simp) l11).al rfl rfl
     obtain ⟨b_26_12, bl_26_12, e_26_12, h_26_12⟩ := (hF 12 (by simp) l12).al rfl rfl
     have n_26_11_12 := hG 11 (by simp) 12 (by simp) (by omega) l11 l12 rfl rfl b_26_11 b_26_12 e_26_11 e_26_12
     clear hF hG
     rw [show left L [0, 1, 2, 3, 4, 5, 6, 7, 8, 9, 10, 11, 12] = 1 from by simp [left, l0, l1, l2, l3, l4, l5, l6, l7, l8, l11, l12, c9, c10]]
     refine wpAny_fuel (n := 4) (by kernel_rfl) ?_
     simp only [marks, puts, l0, l1, l2, l3, l4, l5, l6, l7, l8, l11, l12, c9, c10, if_true, if_false, Bool.false_eq_true, dstOf, List.getElem?_toArray, List.getElem?_cons_succ, List.getElem?_cons_zero, Option.bind_some, Act.put, List.setIfInBounds_toArray, List.set_cons_succ, List.set_cons_zero, e_26_0, e_26_1, e_26_2, e_26_3, e_26_4, e_26_5, e_26_6, e_26_7, e_26_8, e_26_9, e_26_11, e_26_12]
     clear e_26_0 e_26_1 e_26_2 e_26_3 e_26_4 e_26_5 e_26_6 e_26_7 e_26_8 e_26_9 e_26_11 e_26_12 l0 l1 l2 l3 l4 l5 l6 l7 l8 l11 l12 c9 c10
     have k28 := k23.below hb5_26_ (by omega)
     have lo29 := lo24.trans (hb5_26_.mono (by omega))
     obtain ⟨M5, hM5⟩ := sz_some w5_26_
     have lM5 := below_sz hb5_26_ hM22 hM5
     clear k23 lo24 hb5_26_
     refine wpAny_of_held (S := fun _ => True) _ _ _ _ ?_
     refine held_take (i := 10) (v := (Value.bool true)) (d := some 40) rfl (by kernel_rfl) (by kernel_rfl) (by kernel_rfl) (by kernel_rfl) (fun _ _ _ h => by cases h.1) (Or.inl ⟨by rfl, fun wq _ => run_ex (x := (.tmp 30)) rfl wq rfl rfl⟩) trivial ?_; simp only [pA]
     refine wpAnyH_all (rs := [13]) (by kernel_rfl) (by simp) ?_
     intro iq hiq; simp only [List.mem_singleton] at hiq; subst hiq
     refine opg_list rfl ?_
     refine wpl_storeN (by rfl) (by kernel_rfl) 41 (.tmp 11) (.tmp 38) rfl b_26_11 6 (rC (refF (ops10 (rm op 10)) true (lowR1 (obR tAny)) (cR y) (holF (ops10 (rm op 10)) true x y)).1) rfl rfl 41 _ h_26_11 szR (fun j _ => rC_one _ j) ?_
     intro xw30 t31 k32; try simp only [pA]
     have k33 := k28.touch t31 (by omega)
     have k34 := h_26_12.touch t31 (by omega)
     have lo35 := t31.below lo29 (by omega)
     have h36 := t31.sz hM5
     clear h_26_11 k28 h_26_12 lo29 hM5 t31
     refine ⟨trivial, ?_⟩
     refine wpAnyH_all (rs := [14]) (by kernel_rfl) (by simp) ?_
     intro iq hiq; simp only [List.mem_singleton] at hiq; subst hiq
     refine opg_list rfl ?_
     refine wpl_storeN (by rfl) (by kernel_rfl) 41 (.tmp 12) (.tmp 39) rfl b_26_12 6 (rC (refF (ops10 (rm op 10)) true (lowR1 (obR tAny)) (cR y) (holF (ops10 (rm op 10)) true x y)).2.1) rfl rfl 41 _ k34 szR (fun j _ => rC_one _ j) ?_
     intro xw37 t38 k39; try simp only [pA]
     have k40 := k33.touch t38 (by omega)
     have k41 := k32.touch t38 (by omega)
     have lo42 := t38.below lo35 (by omega)
     have h43 := t38.sz h36
     clear k34 k33 k32 lo35 h36 t38
     refine ⟨trivial, ?_⟩
     refine wpAnyH_all (rs := [15]) (by kernel_rfl) (by simp) ?_
     intro iq hiq; simp only [List.mem_singleton] at hiq; subst hiq
     refine opg_list rfl ?_
     refine wpl_runD rfl (d := some 13) rfl (Value.bool true) (run_as (x := (.tmp 40)) rfl _ rfl) ?_; simp only [pA]
     refine ⟨trivial, ?_⟩
     refine wpAnyH_done (by kernel_rfl) ?_ _
     refine ⟨rfl, (b_26_11, b_26_12), (by simp only [pA]), k41, k39, (Ne.symm n_26_11_12), bl_26_11, bl_26_12, k40, lo42⟩
    ·have e_26_0 := (hF 0 (by simp) l0).val rfl
     have e_26_1 := (hF 1 (by simp) l1).val rfl
     have e_26_2 := (hF 2 (by simp) l2).val rfl
     have e_26_3 := (hF 3 (by simp) l3).val rfl
     have e_26_4 := (hF 4 (by simp) l4).val rfl
     have e_26_5 := (hF 5 (by simp) l5).val rfl
     have e_26_6 := (hF 6 (by simp) l6).val rfl
     have e_26_7 := (hF 7 (by simp) l7).val rfl
     have e_26_8 := (hF 8 (by simp) l8).val rfl
     have e_26_9 := (hF 9 (by simp) c9).val rfl
     have e_26_10 := (hF 10 (by simp) c10).val rfl
     obtain ⟨b_26_11, bl_26_11, e_26_11, h_26_11⟩ := (hF 11 (by simp) l11).al rfl rfl
     obtain ⟨b_26_12, bl_26_12, e_26_12, h_26_12⟩ := (hF 12 (by simp) l12).al rfl rfl
     have n_26_11_12 := hG 11 (by simp) 12 (by simp) (by omega) l11 l12 rfl rfl b_26_11 b_26_12 e_26_11 e_26_12
     clear hF hG
     rw [show left L [0, 1, 2, 3, 4, 5, 6, 7, 8, 9, 10, 11, 12] = 0 from by simp [left, l0, l1, l2, l3, l4, l5, l6, l7, l8, l11, l12, c9, c10]]
     refine wpAny_fuel (n := 3) (by kernel_rfl) ?_
     simp only [marks, puts, l0, l1, l2, l3, l4, l5, l6, l7, l8, l11, l12, c9, c10, if_true, if_false, Bool.false_eq_true, dstOf, List.getElem?_toArray, List.getElem?_cons_succ, List.getElem?_cons_zero, Option.bind_some, Act.put, List.setIfInBounds_toArray, List.set_cons_succ, List.set_cons_zero, e_26_0, e_26_1, e_26_2, e_26_3, e_26_4, e_26_5, e_26_6, e_26_7, e_26_8, e_26_9, e_26_10, e_26_11, e_26_12]
     clear e_26_0 e_26_1 e_26_2 e_26_3 e_26_4 e_26_5 e_26_6 e_26_7 e_26_8 e_26_9 e_26_10 e_26_11 e_26_12 l0 l1 l2 l3 l4 l5 l6 l7 l8 l11 l12 c9 c10
     have k28 := k23.below hb5_26_ (by omega)
     have lo29 := lo24.trans (hb5_26_.mono (by omega))
     obtain ⟨M5, hM5⟩ := sz_some w5_26_
     have lM5 := below_sz hb5_26_ hM22 hM5
     clear k23 lo24 hb5_26_
     refine wpAny_of_held (S := fun _ => True) _ _ _ _ ?_
     refine wpAnyH_all (rs := [13]) (by kernel_rfl) (by simp) ?_
     intro iq hiq; simp only [List.mem_singleton] at hiq; subst hiq
     refine opg_list rfl ?_
     refine wpl_storeN (by rfl) (by kernel_rfl) 41 (.tmp 11) (.tmp 38) rfl b_26_11 6 (rC (refF (ops10 (rm op 10)) true (lowR1 (obR tAny)) (cR y) (holF (ops10 (rm op 10)) true x y)).1) rfl rfl 41 _ h_26_11 szR (fun j _ => rC_one _ j) ?_
     intro xw30 t31 k32; try simp only [pA]
     have k33 := k28.touch t31 (by omega)
     have k34 := h_26_12.touch t31 (by omega)
     have lo35 := t31.below lo29 (by omega)
     have h36 := t31.sz hM5
     clear h_26_11 k28 h_26_12 lo29 hM5 t31
     refine ⟨trivial, ?_⟩
     refine wpAnyH_all (rs := [14]) (by kernel_rfl) (by simp) ?_
     intro iq hiq; simp only [List.mem_singleton] at hiq; subst hiq
     refine opg_list rfl ?_
     refine wpl_storeN (by rfl) (by kernel_rfl) 41 (.tmp 12) (.tmp 39) rfl b_26_12 6 (rC (refF (ops10 (rm op 10)) true (lowR1 (obR tAny)) (cR y) (holF (ops10 (rm op 10)) true x y)).2.1) rfl rfl 41 _ k34 szR (fun j _ => rC_one _ j) ?_
     intro xw37 t38 k39; try simp only [pA]
     have k40 := k33.touch t38 (by omega)
     have k41 := k32.touch t38 (by omega)
     have lo42 := t38.below lo35 (by omega)
     have h43 := t38.sz h36
     clear k34 k33 k32 lo35 h36 t38
     refine ⟨trivial, ?_⟩
     refine wpAnyH_all (rs := [15]) (by kernel_rfl) (by simp) ?_
     intro iq hiq; simp only [List.mem_singleton] at hiq; subst hiq
     refine opg_list rfl ?_
     refine wpl_runD rfl (d := some 13) rfl (Value.bool true) (run_as (x := (.tmp 40)) rfl _ rfl) ?_; simp only [pA]
     refine ⟨trivial, ?_⟩
     refine wpAnyH_done (by kernel_rfl) ?_ _
     refine ⟨rfl, (b_26_11, b_26_12), (by simp only [pA]), k41, k39, (Ne.symm n_26_11_12), bl_26_11, bl_26_12, k40, lo42⟩
 ·clear k23 lo24
  rintro ⟨b_26_x0, b_26_x1⟩ xw31 ⟨k27, k28, ne32, lb_26_x0, lb_26_x1, k29, lo30⟩
  try dsimp only at *
  try simp only [pA]
  obtain ⟨M33, hM33⟩ := sz_some xw31
  have lt_34 := k29.ltN hM33
  have lt_35 := k27.ltN hM33
  have lt_36 := k28.ltN hM33
  go_upto_region 6 with fail
  obtain ⟨c37, c38, c39, c40, c41, c42⟩ := r_cells k27
  refine wp_region_later1 (M33) ?_
  try simp only [pA]
  go_big_quiet_step ((go_at_call 35; exact later_of hM33 _ (fun K hK hKN => tells_any _ K hK)))
  iterate 4 (go_big_quiet_step (fail))
  refine later_row hM33 41 (.tmp 11) rfl (b_26_x0) rfl 41 6 _ k27 undR szR (by rfl) ?_; simp only [pA]
  go_big_quiet_step (fail)
  refine later_val (fun q => run_yu (x := (.tmp 47)) rfl undY und64 rfl q.w') (by rfl) ?_; simp only [pA]
  go_big_quiet_step ((go_at_call 25; exact later_of hM33 _ (fun K hK hKN => ret_is F1.out (SHas_any (refF (ops10 (rm op 10)) true (lowR1 (obR tAny)) (cR y) (holF (ops10 (rm op 10)) true x y)).1 x) _ K hK)))
  iterate 3 (go_big_quiet_step (fail))
  refine later_c1 hM33 22 (.tmp 52) rfl rfl und64 rfl c40 (by rfl) ?_; simp only [pA]
  refine later_b (x := (.tmp 53)) (y := (.const (.int .u64 255))) rfl (BinRun.is F3.out (bin_leq _ (refF (ops10 (rm op 10)) true (lowR1 (obR tAny)) (cR y) (holF (ops10 (rm op 10)) true x y)).1.hi 255#64)) rfl rfl (by rfl) ?_; simp only [pA]
  iterate 2 (go_big_quiet_step (fail))
  refine later_row hM33 41 (.tmp 12) rfl (b_26_x1) rfl 41 6 _ k28 undR szR (by rfl) ?_; simp only [pA]
  go_big_quiet_step (fail)
  refine later_val (fun q => run_yu (x := (.tmp 58)) rfl undY und64 rfl q.w') (by rfl) ?_; simp only [pA]
  go_big_quiet_step ((go_at_call 25; exact later_of hM33 _ (fun K hK hKN => ret_is F2.out (SHas_any (refF (ops10 (rm op 10)) true (lowR1 (obR tAny)) (cR y) (holF (ops10 (rm op 10)) true x y)).2.1 y) _ K hK)))
  iterate 2 (go_big_quiet_step (fail))
  refine wpQuiet_nil (laterE hM33 ?_)
  intro xw43 M44 hbxw43 hM44 lM44
  have k45 := k29.below hbxw43 (by omega)
  have k46 := k27.below hbxw43 (by omega)
  have k47 := k28.below hbxw43 (by omega)
  have lo48 := lo30.trans (hbxw43.mono (by omega))
  clear k29 k27 c37 c38 c39 c40 c41 c42 k28 lo30 hbxw43
  go_wp2_with fail
  go_ret
  exact ⟨rfl, lo48⟩
end Go.Proofs.Ytmdcopmgkhjfnaa
