/- ScalarKnown: the walk. -/
import Derived.Test.YtafgiiimippfcaaSk0
namespace Go.Proofs.Ytafgiiimippfcaa
open Go Go.RowKit
theorem known_shl {x : W} (hx : x.toNat < 256) (z : Int) : sHas (doR 6 true (lowR1 (obR tAny)) (cR (BitVec.ofInt 64 (rm z 8 : Int)))) (x <<< rm z 8) = true := by
 have h := (doR_in (byte_in hx) (cR_in (BitVec.ofInt 64 (rm z 8 : Int))) 6 true (by decide) (by decide)).has
 have hlt : rm z 8 < 8 := rm_lt z 8 (by decide)
 have e : (BitVec.ofInt 64 (rm z 8 : Int) % 64#64).toNat = rm z 8 := by
  rw [BitVec.toNat_umod, BitVec.toNat_ofInt]; show (((rm z 8 : Int) % 18446744073709551616).toNat) % 64 = _; omega
 have e2 : evF 6 true x (BitVec.ofInt 64 (rm z 8 : Int)) = x <<< (BitVec.ofInt 64 (rm z 8 : Int) % 64#64).toNat := rfl
 rw [e2, e] at h
 exact h
set_option maxRecDepth 100000 in
set_option maxHeartbeats 8000000 in
theorem law_sknown (x : W) (y : W) (z : Int) (w : World) (N : Nat) (hN : Sz w N) (hx : Hid (x.toNat < 256)) (hy : Hid (y.toNat < 256)) : Calls Try.prog 8 #[(Yv x), (Yv y), (Value.int .i64 z)] w fun e w' => e = .returned (.bool true) ∧ Below N w w' := by
 have F0 := hid (show sHas (lowR1 (obR tAny)) x = true from (byte_in hx.out).has)
 have F1 := hid (show sHas (doR 0 true (lowR1 (obR tAny)) (lowR1 (obR tAny))) (x + y) = true from (doR_in (byte_in hx.out) (byte_in hy.out) 0 true (by decide) (by decide)).has)
 have F2 := hid (show sHas (doR 5 true (lowR1 (obR tAny)) (cR 7#64)) (x &&& 7#64) = true from (doR_in (byte_in hx.out) (cR_in 7#64) 5 true (by decide) (by decide)).has)
 have F3 := hid (show sHas (doR 6 true (lowR1 (obR tAny)) (cR (BitVec.ofInt 64 ((rm z 8) : Int)))) (x <<< (rm z 8)) = true from (known_shl hx.out z))
 have F4 := hid (show sHas (doR 9 true (lowR1 (obR tAny)) (cR 10#64)) (x % 10#64) = true from (doR_in (byte_in hx.out) (cR_in 10#64) 9 true (by decide) (by decide)).has)
 go_enter Try.func8, Try.ntmps8
 have lo0 : Below N w w := Below.refl N w
 go_upto_region 1 with fail
 refine wp_region_lit ?_
 try simp only [pA]
 change wpList _ _ _ ((_ :: _ :: []) ++ (_ :: _ :: [])) _ _
 refine wpList_prefix (C := fun w' => ∃ x : Later N w, w' = x.w') _ _ _ _ ⟨⟨_, Below.refl _ _⟩, rfl⟩ ?_
 go_big_quiet_step ((go_at_call 33; exact later_of hN _ (fun K hK hKN => SAny_any  _ K hK)))
 go_big_quiet_step ((go_at_call 31; exact later_of hN _ (fun K hK hKN => SLow_1 (obR tAny) _ K hK)))
 refine wpQuiet_nil ?_
 rintro xw1 ⟨qxw1, exw1⟩
 have hbxw1 := qxw1.b
 rw [← exw1] at hbxw1
 clear qxw1 exw1
 obtain ⟨M2, hM2⟩ := sz_some xw1
 have lM2 := below_sz hbxw1 hN hM2
 have lo3 := lo0.trans (hbxw1.mono (by omega))
 clear lo0 hbxw1
 obtain ⟨b_xw4, eb_xw4⟩ : ∃ b_xw4, b_xw4 = M2 := ⟨_, rfl⟩
 have hzb_xw4 : Sz xw1 b_xw4 := by rw [eb_xw4]; exact hM2
 have lob_xw4 : M2 ≤ b_xw4 := by omega
 have upb_xw4 : b_xw4 ≤ M2 := by omega
 clear eb_xw4
 refine wpl_alloc rfl 41 rfl 6 (rC zeroR) zeR b_xw4 hzb_xw4 ?_
 intro xw4 hMxw4 hbxw4 hhxw4; simp only [pA]
 have lo5 := lo3.trans (hbxw4.mono (by omega))
 clear lo3 hbxw4 hzb_xw4
 obtain ⟨M6, eM6⟩ : ∃ M6, M6 = b_xw4 + 1 := ⟨_, rfl⟩
 rw [← eM6] at hMxw4
 have loM6 : b_xw4 + 1 ≤ M6 := by omega
 have upM6 : M6 ≤ b_xw4 + 1 := by omega
 clear eM6
 refine wpl_store rfl 41 (.tmp 7) (.tmp 14) rfl b_xw4 6 (rC (lowR1 (obR tAny))) rfl rfl 41 _ hhxw4 szR (fun j _ => rC_one _ j) ?_
 intro xw7 t8 k9; try simp only [pA]
 have lo10 := t8.below lo5 (by omega)
 have h11 := t8.sz hMxw4
 clear hhxw4 lo5 hMxw4 t8
 obtain ⟨M12, hM12⟩ := sz_some xw7
 have lt_13 := k9.ltN hM12
 go_upto_region 2 with fail
 refine wp_region_later1 (M12) ?_
 try simp only [pA]
 go_big_quiet_step (fail)
 refine later_val (fun q => run_iu (x := (.tmp 15)) rfl undInt und64 rfl q.w') (by rfl) ?_; simp only [pA]
 refine later_b (x := (.tmp 16)) (y := (.const (.int .u64 8))) rfl (bin_rem _ (BitVec.ofInt 64 z) 8#64 (by decide)) rfl rfl (by rfl) ?_; simp only [pA]
 refine later_val (fun q => run_rm (x := (.tmp 17)) rfl und64 undInt (z := z) (m := 8) (by omega) rfl q.w') (by rfl) ?_; simp only [pA]
 go_big_quiet_step (fail)
 refine wpQuiet_nil ?_
 rintro xw14 ⟨qxw14, exw14⟩
 have hbxw14 := qxw14.b
 rw [← exw14] at hbxw14
 clear qxw14 exw14
 obtain ⟨M15, hM15⟩ := sz_some xw14
 have lM15 := below_sz hbxw14 hM12 hM15
 have k16 := k9.below hbxw14 (by omega)
 have lo17 := lo10.trans (hbxw14.mono (by omega))
 clear k9 lo10 hbxw14
 go_upto_region 3 with fail
 refine wp_region_lit ?_
 try simp only [pA]
 change wpList _ _ _ ((_ :: _ :: _ :: []) ++ (_ :: _ :: [])) _ _
 refine wpList_prefix (C := fun w' => ∃ x : Later M15 xw14, w' = x.w') _ _ _ _ ⟨⟨_, Below.refl _ _⟩, rfl⟩ ?_
 refine later_row hM15 41 (.tmp 7) rfl (b_xw4) rfl 41 6 _ k16 undR szR (by rfl) ?_; simp only [pA]
 refine later_row hM15 41 (.tmp 7) rfl (b_xw4) rfl 41 6 _ k16 undR szR (by rfl) ?_; simp only [pA]
 go_big_quiet_step ((go_at_call 27; exact later_of hM15 _ (fun K hK hKN => Do_any 0 true (lowR1 (obR tAny)) (lowR1 (obR tAny)) _ K hK)))
 refine wpQuiet_nil ?_
 rintro xw18 ⟨qxw18, exw18⟩
 have hbxw18 := qxw18.b
 rw [← exw18] at hbxw18
 clear qxw18 exw18
 obtain ⟨M19, hM19⟩ := sz_some xw18
 have lM19 := below_sz hbxw18 hM15 hM19
 have k20 := k16.below hbxw18 (by omega)
 have lo21 := lo17.trans (hbxw18.mono (by omega))
 clear k16 lo17 hbxw18
 obtain ⟨b_xw22, eb_xw22⟩ : ∃ b_xw22, b_xw22 = M19 := ⟨_, rfl⟩
 have hzb_xw22 : Sz xw18 b_xw22 := by rw [eb_xw22]; exact hM19
 have lob_xw22 : M19 ≤ b_xw22 := by omega
 have upb_xw22 : b_xw22 ≤ M19 := by omega
 clear eb_xw22
 refine wpl_alloc rfl 41 rfl 6 (rC zeroR) zeR b_xw22 hzb_xw22 ?_
 intro xw22 hMxw22 hbxw22 hhxw22; simp only [pA]
 have k23 := k20.below hbxw22 (by omega)
 have lo24 := lo21.trans (hbxw22.mono (by omega))
 clear k20 lo21 hbxw22 hzb_xw22
 obtain ⟨M25, eM25⟩ : ∃ M25, M25 = b_xw22 + 1 := ⟨_, rfl⟩
 rw [← eM25] at hMxw22
 have loM25 : b_xw22 + 1 ≤ M25 := by omega
 have upM25 : M25 ≤ b_xw22 + 1 := by omega
 clear eM25
 refine wpl_store rfl 41 (.tmp 9) (.tmp 21) rfl b_xw22 6 (rC (doR 0 true (lowR1 (obR tAny)) (lowR1 (obR tAny)))) rfl rfl 41 _ hhxw22 szR (fun j _ => rC_one _ j) ?_
 intro xw26 t27 k28; try simp only [pA]
 have k29 := k23.touch t27 (by omega)
 have lo30 := t27.below lo24 (by omega)
 have h31 := t27.sz hMxw22
 clear hhxw22 k23 lo24 hMxw22 t27
 obtain ⟨M32, hM32⟩ := sz_some xw26
 have lt_33 := k29.ltN hM32
 have lt_34 := k28.ltN hM32
 go_upto_region 4 with fail
 refine wp_region_any (by kernel_rfl) ?_
 replace k29 : Has xw26.drew b_xw4 41 6 (rC (lowR1 (obR tAny))) := k29
 replace k28 : Has xw26.drew b_xw22 41 6 (rC (doR 0 true (lowR1 (obR tAny)) (lowR1 (obR tAny)))) := k28
 replace hM32 : Sz xw26.drew M32 := hM32
 replace lo30 : Below N w xw26.drew := lo30.drew
 change wpAny _ _ _ _ _ _ _ (World.drew _)
 generalize xw26.drew = xw35 at *
 refine wpAny_pot (rem := [0, 1, 2, 3]) (FG M32 (fun j => if j = 0 then some (Value.agg (cellsOf (rC (lowR1 (obR tAny))) 6)) else if j = 1 then some (Value.agg (cellsOf (rC (cR 7#64)) 6)) else if j = 2 then some (Value.agg (cellsOf (rC (doR 5 true (lowR1 (obR tAny)) (cR 7#64))) 6)) else none) (fun j => (41, 6, rC zeroR))) (TwoN (fun j => if j = 0 then some (Value.agg (cellsOf (rC (lowR1 (obR tAny))) 6)) else if j = 1 then some (Value.agg (cellsOf (rC (cR 7#64)) 6)) else if j = 2 then some (Value.agg (cellsOf (rC (doR 5 true (lowR1 (obR tAny)) (cR 7#64))) 6)) else none)) (Below M32 xw35) _ _ _ _ (by kernel_rfl) (size_dstG (by kernel_rfl)) (Below.refl _ _) ?_ ?_
 ·intro i hi ac wa hI ha hv
  simp only [List.mem_cons, List.not_mem_nil, or_false] at hi
  rcases hi with rfl | rfl | rfl | rfl
  ·exact potg_run rfl rfl (Value.agg (cellsOf (rC (lowR1 (obR tAny))) 6)) rfl (run_rw 41 (.tmp 7) rfl b_xw4 (ha 7 (not_dstG (by kernel_rfl))) 41 6 _ (Has.below k29 hI (Has.ltN k29 hM32)) undR szR) hM32 hI
  ·exact potg_cl rfl rfl 28 _ _ rfl #[(Q 7#64)] (by kernel_rfl) (by kernel_rfl) (Value.agg (cellsOf (rC (cR 7#64)) 6)) (fun K hK => SConst_any 7#64 wa K hK) rfl hM32 hI
  ·obtain ⟨v0, hv0a, hv0b⟩ := hv 0 (by simp) (by kernel_rfl)
   have ev0 := hv0b.val rfl
   subst ev0
   obtain ⟨v1, hv1a, hv1b⟩ := hv 1 (by simp) (by kernel_rfl)
   have ev1 := hv1b.val rfl
   subst ev1
   exact potg_cl rfl rfl 27 _ _ rfl #[(Value.int .i64 5), (Value.bool true), (Value.agg (cellsOf (rC (lowR1 (obR tAny))) 6)), (Value.agg (cellsOf (rC (cR 7#64)) 6))] (by simp only [List.map_toArray, List.map_cons, List.map_nil, (show ac.eval (.tmp 22) = (Value.agg (cellsOf (rC (lowR1 (obR tAny))) 6)) from (hv0a 22 rfl)), (show ac.eval (.tmp 23) = (Value.agg (cellsOf (rC (cR 7#64)) 6)) from (hv1a 23 rfl))] <;> rfl) (by kernel_rfl) (Value.agg (cellsOf (rC (doR 5 true (lowR1 (obR tAny)) (cR 7#64))) 6)) (fun K hK => Do_any 5 true (lowR1 (obR tAny)) (cR 7#64) wa K hK) rfl hM32 hI
  ·exact potg_al rfl rfl rfl zeR rfl rfl hM32 hI
 ·intro vals w5_36_ hb5_36_ hF hG
  have e_36_0 := (hF 0 (by simp)).val rfl
  have e_36_1 := (hF 1 (by simp)).val rfl
  have e_36_2 := (hF 2 (by simp)).val rfl
  obtain ⟨b_36_3, l_36_3, e_36_3, h_36_3⟩ := (hF 3 (by simp)).al rfl rfl
  clear hF hG
  simp only [List.foldl_cons, List.foldl_nil, dstOf, List.getElem?_toArray, List.getElem?_cons_succ, List.getElem?_cons_zero, Option.bind_some, Act.put, List.setIfInBounds_toArray, List.set_cons_succ, List.set_cons_zero, e_36_0, e_36_1, e_36_2, e_36_3]
  clear e_36_0 e_36_1 e_36_2 e_36_3
  refine wpAny_chain [4] _ _ _ _ (by kernel_rfl) (by decide) ?_
  simp only [List.filterMap_cons, List.filterMap_nil, List.getElem?_toArray, List.getElem?_cons_succ, List.getElem?_cons_zero]
  have k37 := k29.below hb5_36_ (by omega)
  have k38 := k28.below hb5_36_ (by omega)
  have lo39 := lo30.trans (hb5_36_.mono (by omega))
  clear k29 k28 lo30 hb5_36_
  refine wpl_store rfl 41 (.tmp 10) (.tmp 24) rfl b_36_3 6 (rC (doR 5 true (lowR1 (obR tAny)) (cR 7#64))) rfl rfl 41 _ h_36_3 szR (fun j _ => rC_one _ j) ?_
  intro xw40 t41 k42
  have k43 := k37.touch t41 (by omega)
  have k44 := k38.touch t41 (by omega)
  have lo45 := t41.below lo39 (by omega)
  clear h_36_3 k37 k38 lo39 t41
  obtain ⟨M46, hM46⟩ := sz_some xw40
  have lt_47 := k43.ltN hM46
  have lt_48 := k44.ltN hM46
  have lt_49 := k42.ltN hM46
  go_upto_region 5 with fail
  refine wp_region_any (by kernel_rfl) ?_
  replace k43 : Has xw40.drew b_xw4 41 6 (rC (lowR1 (obR tAny))) := k43
  replace k44 : Has xw40.drew b_xw22 41 6 (rC (doR 0 true (lowR1 (obR tAny)) (lowR1 (obR tAny)))) := k44
  replace k42 : Has xw40.drew b_36_3 41 6 (rC (doR 5 true (lowR1 (obR tAny)) (cR 7#64))) := k42
  replace hM46 : Sz xw40.drew M46 := hM46
  replace lo45 : Below N w xw40.drew := lo45.drew
  change wpAny _ _ _ _ _ _ _ (World.drew _)
  generalize xw40.drew = xw50 at *
  refine wpAny_pot (rem := [0, 1, 2, 3, 4, 5]) (FG M46 (fun j => if j = 0 then some (Value.agg (cellsOf (rC (lowR1 (obR tAny))) 6)) else if j = 1 then some (Value.int .i64 ((rm z 8) : Int)) else if j = 2 then some (Q (BitVec.ofInt 64 ((rm z 8) : Int))) else if j = 3 then some (Value.agg (cellsOf (rC (cR (BitVec.ofInt 64 ((rm z 8) : Int)))) 6)) else if j = 4 then some (Value.agg (cellsOf (rC (doR 6 true (lowR1 (obR tAny)) (cR (BitVec.ofInt 64 ((rm z 8) : Int))))) 6)) else none) (fun j => (41, 6, rC zeroR))) (TwoN (fun j => if j = 0 then some (Value.agg (cellsOf (rC (lowR1 (obR tAny))) 6)) else if j = 1 then some (Value.int .i64 ((rm z 8) : Int)) else if j = 2 then some (Q (BitVec.ofInt 64 ((rm z 8) : Int))) else if j = 3 then some (Value.agg (cellsOf (rC (cR (BitVec.ofInt 64 ((rm z 8) : Int)))) 6)) else if j = 4 then some (Value.agg (cellsOf (rC (doR 6 true (lowR1 (obR tAny)) (cR (BitVec.ofInt 64 ((rm z 8) : Int))))) 6)) else none)) (Below M46 xw50) _ _ _ _ (by kernel_rfl) (size_dstG (by kernel_rfl)) (Below.refl _ _) ?_ ?_
  ·intro i hi ac wa hI ha hv
   simp only [List.mem_cons, List.not_mem_nil, or_false] at hi
   rcases hi with rfl | rfl | rfl | rfl | rfl | rfl
   ·exact potg_run rfl rfl (Value.agg (cellsOf (rC (lowR1 (obR tAny))) 6)) rfl (run_rw 41 (.tmp 7) rfl b_xw4 (ha 7 (not_dstG (by kernel_rfl))) 41 6 _ (Has.below k43 hI (Has.ltN k43 hM46)) undR szR) hM46 hI
   ·exact potg_run rfl rfl (Value.int .i64 ((rm z 8) : Int)) rfl (run_mv (x := (.tmp 8)) rfl _ (ha 8 (not_dstG (by kernel_rfl)))) hM46 hI
   ·obtain ⟨v1, hv1a, hv1b⟩ := hv 1 (by simp) (by kernel_rfl)
    have ev1 := hv1b.val rfl
    subst ev1
    exact potg_run rfl rfl (Q (BitVec.ofInt 64 ((rm z 8) : Int))) rfl (run_iu (x := (.tmp 26)) rfl undInt und64 (hv1a 26 rfl) wa) hM46 hI
   ·obtain ⟨v2, hv2a, hv2b⟩ := hv 2 (by simp) (by kernel_rfl)
    have ev2 := hv2b.val rfl
    subst ev2
    exact potg_cl rfl rfl 28 _ _ rfl #[(Q (BitVec.ofInt 64 ((rm z 8) : Int)))] (by simp only [List.map_toArray, List.map_cons, List.map_nil, (show ac.eval (.tmp 27) = (Q (BitVec.ofInt 64 ((rm z 8) : Int))) from (hv2a 27 rfl))] <;> rfl) (by kernel_rfl) (Value.agg (cellsOf (rC (cR (BitVec.ofInt 64 ((rm z 8) : Int)))) 6)) (fun K hK => SConst_any (BitVec.ofInt 64 ((rm z 8) : Int)) wa K hK) rfl hM46 hI
   ·obtain ⟨v0, hv0a, hv0b⟩ := hv 0 (by simp) (by kernel_rfl)
    have ev0 := hv0b.val rfl
    subst ev0
    obtain ⟨v3, hv3a, hv3b⟩ := hv 3 (by simp) (by kernel_rfl)
    have ev3 := hv3b.val rfl
    subst ev3
    exact potg_cl rfl rfl 27 _ _ rfl #[(Value.int .i64 6), (Value.bool true), (Value.agg (cellsOf (rC (lowR1 (obR tAny))) 6)), (Value.agg (cellsOf (rC (cR (BitVec.ofInt 64 ((rm z 8) : Int)))) 6))] (by simp only [List.map_toArray, List.map_cons, List.map_nil, (show ac.eval (.tmp 25) = (Value.agg (cellsOf (rC (lowR1 (obR tAny))) 6)) from (hv0a 25 rfl)), (show ac.eval (.tmp 28) = (Value.agg (cellsOf (rC (cR (BitVec.ofInt 64 ((rm z 8) : Int)))) 6)) from (hv3a 28 rfl))] <;> rfl) (by kernel_rfl) (Value.agg (cellsOf (rC (doR 6 true (lowR1 (obR tAny)) (cR (BitVec.ofInt 64 ((rm z 8) : Int))))) 6)) (fun K hK => Do_any 6 true (lowR1 (obR tAny)) (cR (BitVec.ofInt 64 ((rm z 8) : Int))) wa K hK) rfl hM46 hI
   ·exact potg_al rfl rfl rfl zeR rfl rfl hM46 hI
  ·intro vals w5_51_ hb5_51_ hF hG
   have e_51_0 := (hF 0 (by simp)).val rfl
   have e_51_1 := (hF 1 (by simp)).val rfl
   have e_51_2 := (hF 2 (by simp)).val rfl
   have e_51_3 := (hF 3 (by simp)).val rfl
   have e_51_4 := (hF 4 (by simp)).val rfl
   obtain ⟨b_51_5, l_51_5, e_51_5, h_51_5⟩ := (hF 5 (by simp)).al rfl rfl
   clear hF hG
   simp only [List.foldl_cons, List.foldl_nil, dstOf, List.getElem?_toArray, List.getElem?_cons_succ, List.getElem?_cons_zero, Option.bind_some, Act.put, List.setIfInBounds_toArray, List.set_cons_succ, List.set_cons_zero, e_51_0, e_51_1, e_51_2, e_51_3, e_51_4, e_51_5]
   clear e_51_0 e_51_1 e_51_2 e_51_3 e_51_4 e_51_5
   refine wpAny_chain [6] _ _ _ _ (by kernel_rfl) (by decide) ?_
   simp only [List.filterMap_cons, List.filterMap_nil, List.getElem?_toArray, List.getElem?_cons_succ, List.getElem?_cons_zero]
   have k52 := k43.below hb5_51_ (by omega)
   have k53 := k44.below hb5_51_ (by omega)
   have k54 := k42.below hb5_51_ (by omega)
   have lo55 := lo45.trans (hb5_51_.mono (by omega))
   clear k43 k44 k42 lo45 hb5_51_
   refine wpl_store rfl 41 (.tmp 11) (.tmp 29) rfl b_51_5 6 (rC (doR 6 true (lowR1 (obR tAny)) (cR (BitVec.ofInt 64 ((rm z 8) : Int))))) rfl rfl 41 _ h_51_5 szR (fun j _ => rC_one _ j) ?_
   intro xw56 t57 k58
   have k59 := k52.touch t57 (by omega)
   have k60 := k53.touch t57 (by omega)
   have k61 := k54.touch t57 (by omega)
   have lo62 := t57.below lo55 (by omega)
   clear h_51_5 k52 k53 k54 lo55 t57
   obtain ⟨M63, hM63⟩ := sz_some xw56
   have lt_64 := k59.ltN hM63
   have lt_65 := k60.ltN hM63
   have lt_66 := k61.ltN hM63
   have lt_67 := k58.ltN hM63
   go_upto_region 6 with fail
   refine wp_region_any (by kernel_rfl) ?_
   replace k59 : Has xw56.drew b_xw4 41 6 (rC (lowR1 (obR tAny))) := k59
   replace k60 : Has xw56.drew b_xw22 41 6 (rC (doR 0 true (lowR1 (obR tAny)) (lowR1 (obR tAny)))) := k60
   replace k61 : Has xw56.drew b_36_3 41 6 (rC (doR 5 true (lowR1 (obR tAny)) (cR 7#64))) := k61
   replace k58 : Has xw56.drew b_51_5 41 6 (rC (doR 6 true (lowR1 (obR tAny)) (cR (BitVec.ofInt 64 ((rm z 8) : Int))))) := k58
   replace hM63 : Sz xw56.drew M63 := hM63
   replace lo62 : Below N w xw56.drew := lo62.drew
   change wpAny _ _ _ _ _ _ _ (World.drew _)
   generalize xw56.drew = xw68 at *
   refine wpAny_pot (rem := [0, 1, 2, 3]) (FG M63 (fun j => if j = 0 then some (Value.agg (cellsOf (rC (lowR1 (obR tAny))) 6)) else if j = 1 then some (Value.agg (cellsOf (rC (cR 10#64)) 6)) else if j = 2 then some (Value.agg (cellsOf (rC (doR 9 true (lowR1 (obR tAny)) (cR 10#64))) 6)) else none) (fun j => (41, 6, rC zeroR))) (TwoN (fun j => if j = 0 then some (Value.agg (cellsOf (rC (lowR1 (obR tAny))) 6)) else if j = 1 then some (Value.agg (cellsOf (rC (cR 10#64)) 6)) else if j = 2 then some (Value.agg (cellsOf (rC (doR 9 true (lowR1 (obR tAny)) (cR 10#64))) 6)) else none)) (Below M63 xw68) _ _ _ _ (by kernel_rfl) (size_dstG (by kernel_rfl)) (Below.refl _ _) ?_ ?_
   ·intro i hi ac wa hI ha hv
    simp only [List.mem_cons, List.not_mem_nil, or_false] at hi
    rcases hi with rfl | rfl | rfl | rfl
    ·exact potg_run rfl rfl (Value.agg (cellsOf (rC (lowR1 (obR tAny))) 6)) rfl (run_rw 41 (.tmp 7) rfl b_xw4 (ha 7 (not_dstG (by kernel_rfl))) 41 6 _ (Has.below k59 hI (Has.ltN k59 hM63)) undR szR) hM63 hI
    ·exact potg_cl rfl rfl 28 _ _ rfl #[(Q 10#64)] (by kernel_rfl) (by kernel_rfl) (Value.agg (cellsOf (rC (cR 10#64)) 6)) (fun K hK => SConst_any 10#64 wa K hK) rfl hM63 hI
    ·obtain ⟨v0, hv0a, hv0b⟩ := hv 0 (by simp) (by kernel_rfl)
     have ev0 := hv0b.val rfl
     subst ev0
     obtain ⟨v1, hv1a, hv1b⟩ := hv 1 (by simp) (by kernel_rfl)
     have ev1 := hv1b.val rfl
     subst ev1
     exact potg_cl rfl rfl 27 _ _ rfl #[(Value.int .i64 9), (Value.bool true), (Value.agg (cellsOf (rC (lowR1 (obR tAny))) 6)), (Value.agg (cellsOf (rC (cR 10#64)) 6))] (by simp only [List.map_toArray, List.map_cons, List.map_nil, (show ac.eval (.tmp 30) = (Value.agg (cellsOf (rC (lowR1 (obR tAny))) 6)) from (hv0a 30 rfl)), (show ac.eval (.tmp 31) = (Value.agg (cellsOf (rC (cR 10#64)) 6)) from (hv1a 31 rfl))] <;> rfl) (by kernel_rfl) (Value.agg (cellsOf (rC (doR 9 true (lowR1 (obR tAny)) (cR 10#64))) 6)) (fun K hK => Do_any 9 true (lowR1 (obR tAny)) (cR 10#64) wa K hK) rfl hM63 hI
    ·exact potg_al rfl rfl rfl zeR rfl rfl hM63 hI
   ·intro vals w5_69_ hb5_69_ hF hG
    have e_69_0 := (hF 0 (by simp)).val rfl
    have e_69_1 := (hF 1 (by simp)).val rfl
    have e_69_2 := (hF 2 (by simp)).val rfl
    obtain ⟨b_69_3, l_69_3, e_69_3, h_69_3⟩ := (hF 3 (by simp)).al rfl rfl
    clear hF hG
    simp only [List.foldl_cons, List.foldl_nil, dstOf, List.getElem?_toArray, List.getElem?_cons_succ, List.getElem?_cons_zero, Option.bind_some, Act.put, List.setIfInBounds_toArray, List.set_cons_succ, List.set_cons_zero, e_69_0, e_69_1, e_69_2, e_69_3]
    clear e_69_0 e_69_1 e_69_2 e_69_3
    refine wpAny_chain [4] _ _ _ _ (by kernel_rfl) (by decide) ?_
    simp only [List.filterMap_cons, List.filterMap_nil, List.getElem?_toArray, List.getElem?_cons_succ, List.getElem?_cons_zero]
    have k70 := k59.below hb5_69_ (by omega)
    have k71 := k60.below hb5_69_ (by omega)
    have k72 := k61.below hb5_69_ (by omega)
    have k73 := k58.below hb5_69_ (by omega)
    have lo74 := lo62.trans (hb5_69_.mono (by omega))
    clear k59 k60 k61 k58 lo62 hb5_69_
    refine wpl_store rfl 41 (.tmp 12) (.tmp 32) rfl b_69_3 6 (rC (doR 9 true (lowR1 (obR tAny)) (cR 10#64))) rfl rfl 41 _ h_69_3 szR (fun j _ => rC_one _ j) ?_
    intro xw75 t76 k77
    have k78 := k70.touch t76 (by omega)
    have k79 := k71.touch t76 (by omega)
    have k80 := k72.touch t76 (by omega)
    have k81 := k73.touch t76 (by omega)
    have lo82 := t76.below lo74 (by omega)
    clear h_69_3 k70 k71 k72 k73 lo74 t76
    obtain ⟨M83, hM83⟩ := sz_some xw75
    have lt_84 := k78.ltN hM83
    have lt_85 := k79.ltN hM83
    have lt_86 := k80.ltN hM83
    have lt_87 := k81.ltN hM83
    have lt_88 := k77.ltN hM83
    go_upto_region 7 with fail
    refine wp_region_later (M83) (by kernel_rfl) (by kernel_rfl) ?_
    try simp only [pA]
    go_big_quiet_step ((go_at_call 21; exact later_of hM83 _ (fun K hK hKN => evals_any _ K hK)))
    go_big_quiet_step (fail)
    refine later_row hM83 41 (.tmp 7) rfl (b_xw4) rfl 41 6 _ k78 undR szR (by rfl) ?_; simp only [pA]
    go_big_quiet_step (fail)
    refine later_val (fun q => run_yu (x := (.tmp 36)) rfl undY und64 rfl q.w') (by rfl) ?_; simp only [pA]
    go_big_quiet_step ((go_at_call 25; exact later_of hM83 _ (fun K hK hKN => ret_is F0.out (SHas_any (lowR1 (obR tAny)) x) _ K hK)))
    go_big_quiet_step (fail)
    go_big_quiet_step (fail)
    refine later_row hM83 41 (.tmp 9) rfl (b_xw22) rfl 41 6 _ k79 undR szR (by rfl) ?_; simp only [pA]
    go_big_quiet_step (fail)
    refine later_val (fun q => run_yu (x := (.tmp 42)) rfl undY und64 rfl q.w') (by rfl) ?_; simp only [pA]
    go_big_quiet_step (fail)
    refine later_val (fun q => run_yu (x := (.tmp 44)) rfl undY und64 rfl q.w') (by rfl) ?_; simp only [pA]
    refine later_b (x := (.tmp 43)) (y := (.tmp 45)) rfl (bin_add _ x y) rfl rfl (by rfl) ?_; simp only [pA]
    go_big_quiet_step ((go_at_call 25; exact later_of hM83 _ (fun K hK hKN => ret_is F1.out (SHas_any (doR 0 true (lowR1 (obR tAny)) (lowR1 (obR tAny))) (x + y)) _ K hK)))
    go_big_quiet_step (fail)
    go_big_quiet_step (fail)
    refine later_row hM83 41 (.tmp 10) rfl (b_36_3) rfl 41 6 _ k80 undR szR (by rfl) ?_; simp only [pA]
    go_big_quiet_step (fail)
    refine later_b (x := (.tmp 51)) (y := (.const (.int .u8 7))) rfl (bin_yand _ x 7#64 (by decide) hx.out) rfl rfl (by rfl) ?_; simp only [pA]
    refine later_val (fun q => run_yu (x := (.tmp 52)) rfl undY und64 rfl q.w') (by rfl) ?_; simp only [pA]
    go_big_quiet_step ((go_at_call 25; exact later_of hM83 _ (fun K hK hKN => ret_is F2.out (SHas_any (doR 5 true (lowR1 (obR tAny)) (cR 7#64)) (x &&& 7#64)) _ K hK)))
    go_big_quiet_step (fail)
    go_big_quiet_step (fail)
    refine later_row hM83 41 (.tmp 11) rfl (b_51_5) rfl 41 6 _ k81 undR szR (by rfl) ?_; simp only [pA]
    go_big_quiet_step (fail)
    refine later_val (fun q => run_yu (x := (.tmp 58)) rfl undY und64 rfl q.w') (by rfl) ?_; simp only [pA]
    go_big_quiet_step (fail)
    refine later_b (x := (.tmp 59)) (y := (.tmp 60)) rfl (bin_shl _ x (rm z 8)) rfl rfl (by rfl) ?_; simp only [pA]
    go_big_quiet_step ((go_at_call 25; exact later_of hM83 _ (fun K hK hKN => ret_is F3.out (SHas_any (doR 6 true (lowR1 (obR tAny)) (cR (BitVec.ofInt 64 ((rm z 8) : Int)))) (x <<< (rm z 8))) _ K hK)))
    go_big_quiet_step (fail)
    go_big_quiet_step (fail)
    refine later_row hM83 41 (.tmp 12) rfl (b_69_3) rfl 41 6 _ k77 undR szR (by rfl) ?_; simp only [pA]
    go_big_quiet_step (fail)
    refine later_b (x := (.tmp 66)) (y := (.const (.int .u8 10))) rfl (bin_yrem _ x 10#64 (by decide) hx.out) rfl rfl (by rfl) ?_; simp only [pA]
    refine later_val (fun q => run_yu (x := (.tmp 67)) rfl undY und64 rfl q.w') (by rfl) ?_; simp only [pA]
    go_big_quiet_step ((go_at_call 25; exact later_of hM83 _ (fun K hK hKN => ret_is F4.out (SHas_any (doR 9 true (lowR1 (obR tAny)) (cR 10#64)) (x % 10#64)) _ K hK)))
    go_big_quiet_step (fail)
    go_big_quiet_step (fail)
    refine wpQuiet_nil ?_
    rintro xw89 ⟨qxw89, exw89⟩
    have hbxw89 := qxw89.b
    rw [← exw89] at hbxw89
    clear qxw89 exw89
    obtain ⟨M90, hM90⟩ := sz_some xw89
    have lM90 := below_sz hbxw89 hM83 hM90
    have k91 := k78.below hbxw89 (by omega)
    have k92 := k79.below hbxw89 (by omega)
    have k93 := k80.below hbxw89 (by omega)
    have k94 := k81.below hbxw89 (by omega)
    have k95 := k77.below hbxw89 (by omega)
    have lo96 := lo82.trans (hbxw89.mono (by omega))
    clear k78 k79 k80 k81 k77 lo82 hbxw89
    go_wp2_with fail
    go_ret
    exact ⟨rfl, lo96⟩
end Go.Proofs.Ytafgiiimippfcaa
