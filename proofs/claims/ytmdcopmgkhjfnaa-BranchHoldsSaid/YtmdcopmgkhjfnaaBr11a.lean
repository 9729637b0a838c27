/- Contracts of what a jump tells: a test. -/
import Derived.Test.YtmdcopmgkhjfnaaBr10
namespace Go.Proofs.Ytmdcopmgkhjfnaa
open Go Go.RowKit
def refGtt (_ : Int) (_ : Int) (bnd : Rn → Rn → Rn × Rn × Bool) (hol : W → W → Bool) (a : Rn) (b : Rn) : Rn × Rn × Bool :=
 bif (nearF a).2 then bif (nearF b).2 then bif (aloneF (nearF a).1) then bif (aloneF (nearF b).1) then ((bothF (nearF a).1 (nearF b).1 ((hol (nearF a).1.lo (nearF b).1.lo) == true)).1, (bothF (nearF a).1 (nearF b).1 ((hol (nearF a).1.lo (nearF b).1.lo) == true)).2.1, (bothF (nearF a).1 (nearF b).1 ((hol (nearF a).1.lo (nearF b).1.lo) == true)).2.2)
    else bif (bnd (nearF a).1 (nearF b).1).2.2 then bif (settleF (bnd (nearF a).1 (nearF b).1).1).2 then bif (settleF (bnd (nearF a).1 (nearF b).1).2.1).2 then ((bothF (settleF (bnd (nearF a).1 (nearF b).1).1).1 (settleF (bnd (nearF a).1 (nearF b).1).2.1).1 true).1, (bothF (settleF (bnd (nearF a).1 (nearF b).1).1).1 (settleF (bnd (nearF a).1 (nearF b).1).2.1).1 true).2.1, (bothF (settleF (bnd (nearF a).1 (nearF b).1).1).1 (settleF (bnd (nearF a).1 (nearF b).1).2.1).1 true).2.2)
      else ((bothF (settleF (bnd (nearF a).1 (nearF b).1).1).1 (settleF (bnd (nearF a).1 (nearF b).1).2.1).1 false).1, (bothF (settleF (bnd (nearF a).1 (nearF b).1).1).1 (settleF (bnd (nearF a).1 (nearF b).1).2.1).1 false).2.1, (bothF (settleF (bnd (nearF a).1 (nearF b).1).1).1 (settleF (bnd (nearF a).1 (nearF b).1).2.1).1 false).2.2)
     else bif (settleF (bnd (nearF a).1 (nearF b).1).2.1).2 then ((bothF (settleF (bnd (nearF a).1 (nearF b).1).1).1 (settleF (bnd (nearF a).1 (nearF b).1).2.1).1 false).1, (bothF (settleF (bnd (nearF a).1 (nearF b).1).1).1 (settleF (bnd (nearF a).1 (nearF b).1).2.1).1 false).2.1, (bothF (settleF (bnd (nearF a).1 (nearF b).1).1).1 (settleF (bnd (nearF a).1 (nearF b).1).2.1).1 false).2.2)
     else ((bothF (settleF (bnd (nearF a).1 (nearF b).1).1).1 (settleF (bnd (nearF a).1 (nearF b).1).2.1).1 false).1, (bothF (settleF (bnd (nearF a).1 (nearF b).1).1).1 (settleF (bnd (nearF a).1 (nearF b).1).2.1).1 false).2.1, (bothF (settleF (bnd (nearF a).1 (nearF b).1).1).1 (settleF (bnd (nearF a).1 (nearF b).1).2.1).1 false).2.2)
    else (⟨zeroN, 0#64, 0#64, 0#64, 0#64⟩, ⟨zeroN, 0#64, 0#64, 0#64, 0#64⟩, false)
   else bif (bnd (nearF a).1 (nearF b).1).2.2 then bif (settleF (bnd (nearF a).1 (nearF b).1).1).2 then bif (settleF (bnd (nearF a).1 (nearF b).1).2.1).2 then ((bothF (settleF (bnd (nearF a).1 (nearF b).1).1).1 (settleF (bnd (nearF a).1 (nearF b).1).2.1).1 true).1, (bothF (settleF (bnd (nearF a).1 (nearF b).1).1).1 (settleF (bnd (nearF a).1 (nearF b).1).2.1).1 true).2.1, (bothF (settleF (bnd (nearF a).1 (nearF b).1).1).1 (settleF (bnd (nearF a).1 (nearF b).1).2.1).1 true).2.2)
     else ((bothF (settleF (bnd (nearF a).1 (nearF b).1).1).1 (settleF (bnd (nearF a).1 (nearF b).1).2.1).1 false).1, (bothF (settleF (bnd (nearF a).1 (nearF b).1).1).1 (settleF (bnd (nearF a).1 (nearF b).1).2.1).1 false).2.1, (bothF (settleF (bnd (nearF a).1 (nearF b).1).1).1 (settleF (bnd (nearF a).1 (nearF b).1).2.1).1 false).2.2)
    else bif (settleF (bnd (nearF a).1 (nearF b).1).2.1).2 then ((bothF (settleF (bnd (nearF a).1 (nearF b).1).1).1 (settleF (bnd (nearF a).1 (nearF b).1).2.1).1 false).1, (bothF (settleF (bnd (nearF a).1 (nearF b).1).1).1 (settleF (bnd (nearF a).1 (nearF b).1).2.1).1 false).2.1, (bothF (settleF (bnd (nearF a).1 (nearF b).1).1).1 (settleF (bnd (nearF a).1 (nearF b).1).2.1).1 false).2.2)
    else ((bothF (settleF (bnd (nearF a).1 (nearF b).1).1).1 (settleF (bnd (nearF a).1 (nearF b).1).2.1).1 false).1, (bothF (settleF (bnd (nearF a).1 (nearF b).1).1).1 (settleF (bnd (nearF a).1 (nearF b).1).2.1).1 false).2.1, (bothF (settleF (bnd (nearF a).1 (nearF b).1).1).1 (settleF (bnd (nearF a).1 (nearF b).1).2.1).1 false).2.2)
   else (⟨zeroN, 0#64, 0#64, 0#64, 0#64⟩, ⟨zeroN, 0#64, 0#64, 0#64, 0#64⟩, false)
  else (⟨zeroN, 0#64, 0#64, 0#64, 0#64⟩, ⟨zeroN, 0#64, 0#64, 0#64, 0#64⟩, false)
 else bif (nearF b).2 then (⟨zeroN, 0#64, 0#64, 0#64, 0#64⟩, ⟨zeroN, 0#64, 0#64, 0#64, 0#64⟩, false)
 else (⟨zeroN, 0#64, 0#64, 0#64, 0#64⟩, ⟨zeroN, 0#64, 0#64, 0#64, 0#64⟩, false)
set_option maxRecDepth 100000 in
set_option maxHeartbeats 4000000 in
theorem RefG_tt (z : Int) (zo : Int) (bnd : Rn → Rn → Rn × Rn × Bool) (hol : W → W → Bool) (a : Rn) (b : Rn) (w : World) (N : Nat) (hN : Sz w N) (hopp : ∀ (w : World) (N : Nat), Sz w N → Calls Try.prog 70 #[.int .i64 z] w fun e w' => e = .returned (.int .i64 zo) ∧ Below N w w') (h0 : (zo == 0) = false) (hbnd : ∀ (a b : Rn) (w : World) (N : Nat), Sz w N → Calls Try.prog 74 #[.int .i64 z, rV a, rV b] w fun e w' => e = .returned (.tuple #[rV (bnd a b).1, rV (bnd a b).2.1, .bool (bnd a b).2.2]) ∧ Below N w w') (hhol : ∀ (x y : W) (w : World) (N : Nat), Sz w N → Calls Try.prog 36 #[.int .i64 z, .bool true, Q x, Q y] w fun e w' => e = .returned (.bool (hol x y)) ∧ Below N w w') : Calls Try.prog 40 #[(Value.int .i64 z), (Value.bool true), rV a, rV b, (Value.bool true)] w fun e w' => e = .returned (.tuple #[rV (refGtt z zo bnd hol a b).1, rV (refGtt z zo bnd hol a b).2.1, .bool (refGtt z zo bnd hol a b).2.2]) ∧ Below N w w' := by
 obtain ⟨rr, er⟩ : ∃ rr, rr = (refGtt z zo bnd hol a b) := ⟨_, rfl⟩
 rw [← er]
 have ER := hid er
 clear er
 unfold rV at *
 go_enter Try.func40, Try.ntmps40
 go_upto_region 1 with (first
  | (refine wpl_box rfl 41 (.tmp 2) rfl 6 _ rfl (N) hN ?_; intro w1 hN1 hb1 hh1)
  | (refine wpl_box rfl 41 (.tmp 3) rfl 6 _ rfl (N + 1) hN1 ?_; intro w2 hN2 hb2 hh2)
  | (refine wpl_alloc rfl 41 rfl 6 (rC zeroR) zeR (N + 1 + 1) hN2 ?_; intro w3 hN3 hb3 hh3)
  | (refine wpl_alloc rfl 41 rfl 6 (rC zeroR) zeR (N + 1 + 1 + 1) hN3 ?_; intro w4 hN4 hb4 hh4)
  | fail)
 have lo0 : Below N w w4 := (((hb1.trans (hb2.mono (by omega))).trans (hb3.mono (by omega))).trans (hb4.mono (by omega)))
 have k1 := (((hh1.below hb2 (by omega)).below hb3 (by omega)).below hb4 (by omega))
 have k2 := ((hh2.below hb3 (by omega)).below hb4 (by omega))
 have k3 := (hh3.below hb4 (by omega))
 have k4 := hh4
 clear hh1 hb1 hh2 hb2 hh3 hb3 hh4 hb4 hN1 hN2 hN3
 cases h1_ : (nearF a).2
 ·have H1_ := hid h1_
  clear h1_
  have CS5 := fun w N hN => Near_any a w N hN
  rw [H1_.out] at CS5
  go_upto_region 1 with fail
  refine wp_region_lit ?_
  try simp only [pA]
  change wpList _ _ _ ((_ :: _ :: _ :: _ :: _ :: []) ++ (_ :: _ :: [])) _ _
  refine wpList_prefix (C := fun w' => ∃ x : Later (N + 1 + 1 + 1 + 1) w4, w' = x.w') _ _ _ _ ⟨⟨_, Below.refl _ _⟩, rfl⟩ ?_
  refine later_row hN4 41 (.tmp 7) rfl (N) rfl 41 6 _ k1 undR szR (by rfl) ?_; simp only [pA]
  go_big_quiet_step ((go_at_call 69; exact later_of hN4 _ (fun K hK hKN => CS5 _ K hK)))
  iterate 3 (go_big_quiet_step (fail))
  refine wpQuiet_nil (laterE hN4 ?_)
  intro xw6 M7 hbxw6 hM7 lM7
  have k8 := k1.below hbxw6 (by omega)
  have k9 := k2.below hbxw6 (by omega)
  have k10 := k3.below hbxw6 (by omega)
  have k11 := k4.below hbxw6 (by omega)
  have lo12 := lo0.trans (hbxw6.mono (by omega))
  clear k1 k2 k3 k4 lo0 hbxw6
  refine wpl_store rfl 41 (.tmp 7) (.tmp 20) rfl N 6 (rC (nearF a).1) rfl rfl 41 _ k8 szR (fun j _ => rC_one _ j) ?_
  intro xw13 t14 k15; try simp only [pA]
  have k16 := k9.touch t14 (by omega)
  have k17 := k10.touch t14 (by omega)
  have k18 := k11.touch t14 (by omega)
  have lo19 := t14.below lo12 (by omega)
  have h20 := t14.sz hM7
  clear k8 k9 k10 k11 lo12 hM7 t14
  refine wpl_run rfl (Value.bool false) _ (run_as (x := (.tmp 21)) rfl _ rfl) ?_; simp only [pA]
  obtain ⟨M21, hM21⟩ := sz_some xw13
  have lt_22 := k15.ltN hM21
  have lt_23 := k16.ltN hM21
  have lt_24 := k17.ltN hM21
  have lt_25 := k18.ltN hM21
  cases h2_ : (nearF b).2
  ·have H2_ := hid h2_
   clear h2_
   have CS26 := fun w N hN => Near_any b w N hN
   rw [H2_.out] at CS26
   go_upto_region 2 with fail
   refine wp_region_lit ?_
   try simp only [pA]
   change wpList _ _ _ ((_ :: _ :: _ :: _ :: _ :: []) ++ (_ :: _ :: [])) _ _
   refine wpList_prefix (C := fun w' => ∃ x : Later M21 xw13, w' = x.w') _ _ _ _ ⟨⟨_, Below.refl _ _⟩, rfl⟩ ?_
   refine later_row hM21 41 (.tmp 8) rfl ((N + 1)) rfl 41 6 _ k16 undR szR (by rfl) ?_; simp only [pA]
   go_big_quiet_step ((go_at_call 69; exact later_of hM21 _ (fun K hK hKN => CS26 _ K hK)))
   iterate 3 (go_big_quiet_step (fail))
   refine wpQuiet_nil (laterE hM21 ?_)
   intro xw27 M28 hbxw27 hM28 lM28
   have k29 := k15.below hbxw27 (by omega)
   have k30 := k16.below hbxw27 (by omega)
   have k31 := k17.below hbxw27 (by omega)
   have k32 := k18.below hbxw27 (by omega)
   have lo33 := lo19.trans (hbxw27.mono (by omega))
   clear k15 k16 k17 k18 lo19 hbxw27
   refine wpl_store rfl 41 (.tmp 8) (.tmp 25) rfl (N + 1) 6 (rC (nearF b).1) rfl rfl 41 _ k30 szR (fun j _ => rC_one _ j) ?_
   intro xw34 t35 k36; try simp only [pA]
   have k37 := k29.touch t35 (by omega)
   have k38 := k31.touch t35 (by omega)
   have k39 := k32.touch t35 (by omega)
   have lo40 := t35.below lo33 (by omega)
   have h41 := t35.sz hM28
   clear k30 k29 k31 k32 lo33 hM28 t35
   refine wpl_run rfl (Value.bool false) _ (run_as (x := (.tmp 26)) rfl _ rfl) ?_; simp only [pA]
   obtain ⟨M42, hM42⟩ := sz_some xw34
   have lt_43 := k37.ltN hM42
   have lt_44 := k36.ltN hM42
   have lt_45 := k38.ltN hM42
   have lt_46 := k39.ltN hM42
   go_upto_region 3 with fail
   refine wp_region_later1 (M42) ?_
   try simp only [pA]
   iterate 14 (go_big_quiet_step (fail))
   refine wpQuiet_nil (laterE hM42 ?_)
   intro xw47 M48 hbxw47 hM48 lM48
   have k49 := k37.below hbxw47 (by omega)
   have k50 := k36.below hbxw47 (by omega)
   have k51 := k38.below hbxw47 (by omega)
   have k52 := k39.below hbxw47 (by omega)
   have lo53 := lo40.trans (hbxw47.mono (by omega))
   clear k37 k36 k38 k39 lo40 hbxw47
   go_upto_region 4 with fail
   refine wp_region_lit ?_
   try simp only [pA]
   change wpList _ _ _ ((_ :: _ :: []) ++ (_ :: _ :: _ :: [])) _ _
   refine wpList_prefix (C := fun w' => ∃ x : Later M48 xw47, w' = x.w') _ _ _ _ ⟨⟨_, Below.refl _ _⟩, rfl⟩ ?_
   refine later_val (fun q => run_bd 41 _ rfl (cellsOf (rC ⟨zeroN, 0#64, 0#64, 0#64, 0#64⟩) 6) (by kernel_rfl) q.w') (by rfl) ?_; simp only [pA]
   refine later_val (fun q => run_bd 41 _ rfl (cellsOf (rC ⟨zeroN, 0#64, 0#64, 0#64, 0#64⟩) 6) (by kernel_rfl) q.w') (by rfl) ?_; simp only [pA]
   refine wpQuiet_nil (laterE hM48 ?_)
   intro xw54 M55 hbxw54 hM55 lM55
   have k56 := k49.below hbxw54 (by omega)
   have k57 := k50.below hbxw54 (by omega)
   have k58 := k51.below hbxw54 (by omega)
   have k59 := k52.below hbxw54 (by omega)
   have lo60 := lo53.trans (hbxw54.mono (by omega))
   clear k49 k50 k51 k52 lo53 hbxw54
   refine wpl_store rfl 41 (.tmp 10) (.tmp 41) rfl (N + 1 + 1) 6 (rC ⟨zeroN, 0#64, 0#64, 0#64, 0#64⟩) rfl rfl 41 _ k58 szR (fun j _ => rC_one _ j) ?_
   intro xw61 t62 k63; try simp only [pA]
   have k64 := k56.touch t62 (by omega)
   have k65 := k57.touch t62 (by omega)
   have k66 := k59.touch t62 (by omega)
   have lo67 := t62.below lo60 (by omega)
   have h68 := t62.sz hM55
   clear k58 k56 k57 k59 lo60 hM55 t62
   refine wpl_store rfl 41 (.tmp 11) (.tmp 42) rfl (N + 1 + 1 + 1) 6 (rC ⟨zeroN, 0#64, 0#64, 0#64, 0#64⟩) rfl rfl 41 _ k66 szR (fun j _ => rC_one _ j) ?_
   intro xw69 t70 k71; try simp only [pA]
   have k72 := k64.touch t70 (by omega)
   have k73 := k65.touch t70 (by omega)
   have k74 := k63.touch t70 (by omega)
   have lo75 := t70.below lo67 (by omega)
   have h76 := t70.sz h68
   clear k66 k64 k65 k63 lo67 h68 t70
   refine wpl_run rfl (Value.bool false) _ (run_as (x := (.const (.bool false))) rfl _ rfl) ?_; simp only [pA]
   obtain ⟨M77, hM77⟩ := sz_some xw69
   have lt_78 := k72.ltN hM77
   have lt_79 := k73.ltN hM77
   have lt_80 := k74.ltN hM77
   have lt_81 := k71.ltN hM77
   go_wp2_with fail
   refine post_rrb rfl (N + 1 + 1) (N + 1 + 1 + 1) rfl rfl k74 k71 undR undR szR szR rfl rfl ?_
   exact ⟨by rw [ER.out]; first | rfl | (simp only [refGtt, H1_.out, H2_.out, bB] <;> rfl), lo75⟩
  ·have H2_ := hid h2_
   clear h2_
   have CS26 := fun w N hN => Near_any b w N hN
   rw [H2_.out] at CS26
   go_upto_region 2 with fail
   refine wp_region_lit ?_
   try simp only [pA]
   change wpList _ _ _ ((_ :: _ :: _ :: _ :: _ :: []) ++ (_ :: _ :: [])) _ _
   refine wpList_prefix (C := fun w' => ∃ x : Later M21 xw13, w' = x.w') _ _ _ _ ⟨⟨_, Below.refl _ _⟩, rfl⟩ ?_
   refine later_row hM21 41 (.tmp 8) rfl ((N + 1)) rfl 41 6 _ k16 undR szR (by rfl) ?_; simp only [pA]
   go_big_quiet_step ((go_at_call 69; exact later_of hM21 _ (fun K hK hKN => CS26 _ K hK)))
   iterate 3 (go_big_quiet_step (fail))
   refine wpQuiet_nil (laterE hM21 ?_)
   intro xw27 M28 hbxw27 hM28 lM28
   have k29 := k15.below hbxw27 (by omega)
   have k30 := k16.below hbxw27 (by omega)
   have k31 := k17.below hbxw27 (by omega)
   have k32 := k18.below hbxw27 (by omega)
   have lo33 := lo19.trans (hbxw27.mono (by omega))
   clear k15 k16 k17 k18 lo19 hbxw27
   refine wpl_store rfl 41 (.tmp 8) (.tmp 25) rfl (N + 1) 6 (rC (nearF b).1) rfl rfl 41 _ k30 szR (fun j _ => rC_one _ j) ?_
   intro xw34 t35 k36; try simp only [pA]
   have k37 := k29.touch t35 (by omega)
   have k38 := k31.touch t35 (by omega)
   have k39 := k32.touch t35 (by omega)
   have lo40 := t35.below lo33 (by omega)
   have h41 := t35.sz hM28
   clear k30 k29 k31 k32 lo33 hM28 t35
   refine wpl_run rfl (Value.bool true) _ (run_as (x := (.tmp 26)) rfl _ rfl) ?_; simp only [pA]
   obtain ⟨M42, hM42⟩ := sz_some xw34
   have lt_43 := k37.ltN hM42
   have lt_44 := k36.ltN hM42
   have lt_45 := k38.ltN hM42
   have lt_46 := k39.ltN hM42
   go_upto_region 3 with fail
   refine wp_region_later1 (M42) ?_
   try simp only [pA]
   iterate 14 (go_big_quiet_step (fail))
   refine wpQuiet_nil (laterE hM42 ?_)
   intro xw47 M48 hbxw47 hM48 lM48
   have k49 := k37.below hbxw47 (by omega)
   have k50 := k36.below hbxw47 (by omega)
   have k51 := k38.below hbxw47 (by omega)
   have k52 := k39.below hbxw47 (by omega)
   have lo53 := lo40.trans (hbxw47.mono (by omega))
   clear k37 k36 k38 k39 lo40 hbxw47
   go_upto_region 4 with fail
   refine wp_region_lit ?_
   try simp only [pA]
   change wpList _ _ _ ((_ :: _ :: []) ++ (_ :: _ :: _ :: [])) _ _
   refine wpList_prefix (C := fun w' => ∃ x : Later M48 xw47, w' = x.w') _ _ _ _ ⟨⟨_, Below.refl _ _⟩, rfl⟩ ?_
   refine later_val (fun q => run_bd 41 _ rfl (cellsOf (rC ⟨zeroN, 0#64, 0#64, 0#64, 0#64⟩) 6) (by kernel_rfl) q.w') (by rfl) ?_; simp only [pA]
   refine later_val (fun q => run_bd 41 _ rfl (cellsOf (rC ⟨zeroN, 0#64, 0#64, 0#64, 0#64⟩) 6) (by kernel_rfl) q.w') (by rfl) ?_; simp only [pA]
   refine wpQuiet_nil (laterE hM48 ?_)
   intro xw54 M55 hbxw54 hM55 lM55
   have k56 := k49.below hbxw54 (by omega)
   have k57 := k50.below hbxw54 (by omega)
   have k58 := k51.below hbxw54 (by omega)
   have k59 := k52.below hbxw54 (by omega)
   have lo60 := lo53.trans (hbxw54.mono (by omega))
   clear k49 k50 k51 k52 lo53 hbxw54
   refine wpl_store rfl 41 (.tmp 10) (.tmp 41) rfl (N + 1 + 1) 6 (rC ⟨zeroN, 0#64, 0#64, 0#64, 0#64⟩) rfl rfl 41 _ k58 szR (fun j _ => rC_one _ j) ?_
   intro xw61 t62 k63; try simp only [pA]
   have k64 := k56.touch t62 (by omega)
   have k65 := k57.touch t62 (by omega)
   have k66 := k59.touch t62 (by omega)
   have lo67 := t62.below lo60 (by omega)
   have h68 := t62.sz hM55
   clear k58 k56 k57 k59 lo60 hM55 t62
   refine wpl_store rfl 41 (.tmp 11) (.tmp 42) rfl (N + 1 + 1 + 1) 6 (rC ⟨zeroN, 0#64, 0#64, 0#64, 0#64⟩) rfl rfl 41 _ k66 szR (fun j _ => rC_one _ j) ?_
   intro xw69 t70 k71; try simp only [pA]
   have k72 := k64.touch t70 (by omega)
   have k73 := k65.touch t70 (by omega)
   have k74 := k63.touch t70 (by omega)
   have lo75 := t70.below lo67 (by omega)
   have h76 := t70.sz h68
   clear k66 k64 k65 k63 lo67 h68 t70
   refine wpl_run rfl (Value.bool false) _ (run_as (x := (.const (.bool false))) rfl _ rfl) ?_; simp only [pA]
   obtain ⟨M77, hM77⟩ := sz_some xw69
   have lt_78 := k72.ltN hM77
   have lt_79 := k73.ltN hM77
   have lt_80 := k74.ltN hM77
   have lt_81 := k71.ltN hM77
   go_wp2_with fail
   refine post_rrb rfl (N + 1 + 1) (N + 1 + 1 + 1) rfl rfl k74 k71 undR undR szR szR rfl rfl ?_
   exact ⟨by rw [ER.out]; first | rfl | (simp only [refGtt, H1_.out, H2_.out, bB] <;> rfl), lo75⟩
 ·have H1_ := hid h1_
  clear h1_
  have CS5 := fun w N hN => Near_any a w N hN
  rw [H1_.out] at CS5
  go_upto_region 1 with fail
  refine wp_region_lit ?_
  try simp only [pA]
  change wpList _ _ _ ((_ :: _ :: _ :: _ :: _ :: []) ++ (_ :: _ :: [])) _ _
  refine wpList_prefix (C := fun w' => ∃ x : Later (N + 1 + 1 + 1 + 1) w4, w' = x.w') _ _ _ _ ⟨⟨_, Below.refl _ _⟩, rfl⟩ ?_
  refine later_row hN4 41 (.tmp 7) rfl (N) rfl 41 6 _ k1 undR szR (by rfl) ?_; simp only [pA]
  go_big_quiet_step ((go_at_call 69; exact later_of hN4 _ (fun K hK hKN => CS5 _ K hK)))
  iterate 3 (go_big_quiet_step (fail))
  refine wpQuiet_nil (laterE hN4 ?_)
  intro xw6 M7 hbxw6 hM7 lM7
  have k8 := k1.below hbxw6 (by omega)
  have k9 := k2.below hbxw6 (by omega)
  have k10 := k3.below hbxw6 (by omega)
  have k11 := k4.below hbxw6 (by omega)
  have lo12 := lo0.trans (hbxw6.mono (by omega))
  clear k1 k2 k3 k4 lo0 hbxw6
  refine wpl_store rfl 41 (.tmp 7) (.tmp 20) rfl N 6 (rC (nearF a).1) rfl rfl 41 _ k8 szR (fun j _ => rC_one _ j) ?_
  intro xw13 t14 k15; try simp only [pA]
  have k16 := k9.touch t14 (by omega)
  have k17 := k10.touch t14 (by omega)
  have k18 := k11.touch t14 (by omega)
  have lo19 := t14.below lo12 (by omega)
  have h20 := t14.sz hM7
  clear k8 k9 k10 k11 lo12 hM7 t14
  refine wpl_run rfl (Value.bool true) _ (run_as (x := (.tmp 21)) rfl _ rfl) ?_; simp only [pA]
  obtain ⟨M21, hM21⟩ := sz_some xw13
  have lt_22 := k15.ltN hM21
  have lt_23 := k16.ltN hM21
  have lt_24 := k17.ltN hM21
  have lt_25 := k18.ltN hM21
  cases h2_ : (nearF b).2
  ·have H2_ := hid h2_
   clear h2_
   have CS26 := fun w N hN => Near_any b w N hN
   rw [H2_.out] at CS26
   go_upto_region 2 with fail
   refine wp_region_lit ?_
   try simp only [pA]
   change wpList _ _ _ ((_ :: _ :: _ :: _ :: _ :: []) ++ (_ :: _ :: [])) _ _
   refine wpList_prefix (C := fun w' => ∃ x : Later M21 xw13, w' = x.w') _ _ _ _ ⟨⟨_, Below.refl _ _⟩, rfl⟩ ?_
   refine later_row hM21 41 (.tmp 8) rfl ((N + 1)) rfl 41 6 _ k16 undR szR (by rfl) ?_; simp only [pA]
   go_big_quiet_step ((go_at_call 69; exact later_of hM21 _ (fun K hK hKN => CS26 _ K hK)))
   iterate 3 (go_big_quiet_step (fail))
   refine wpQuiet_nil (laterE hM21 ?_)
   intro xw27 M28 hbxw27 hM28 lM28
   have k29 := k15.below hbxw27 (by omega)
   have k30 := k16.below hbxw27 (by omega)
   have k31 := k17.below hbxw27 (by omega)
   have k32 := k18.below hbxw27 (by omega)
   have lo33 := lo19.trans (hbxw27.mono (by omega))
   clear k15 k16 k17 k18 lo19 hbxw27
   refine wpl_store rfl 41 (.tmp 8) (.tmp 25) rfl (N + 1) 6 (rC (nearF b).1) rfl rfl 41 _ k30 szR (fun j _ => rC_one _ j) ?_
   intro xw34 t35 k36; try simp only [pA]
   have k37 := k29.touch t35 (by omega)
   have k38 := k31.touch t35 (by omega)
   have k39 := k32.touch t35 (by omega)
   have lo40 := t35.below lo33 (by omega)
   have h41 := t35.sz hM28
   clear k30 k29 k31 k32 lo33 hM28 t35
   refine wpl_run rfl (Value.bool false) _ (run_as (x := (.tmp 26)) rfl _ rfl) ?_; simp only [pA]
   obtain ⟨M42, hM42⟩ := sz_some xw34
   have lt_43 := k37.ltN hM42
   have lt_44 := k36.ltN hM42
   have lt_45 := k38.ltN hM42
   have lt_46 := k39.ltN hM42
   go_upto_region 3 with fail
   refine wp_region_later1 (M42) ?_
   try simp only [pA]
   iterate 14 (go_big_quiet_step (fail))
   refine wpQuiet_nil (laterE hM42 ?_)
   intro xw47 M48 hbxw47 hM48 lM48
   have k49 := k37.below hbxw47 (by omega)
   have k50 := k36.below hbxw47 (by omega)
   have k51 := k38.below hbxw47 (by omega)
   have k52 := k39.below hbxw47 (by omega)
   have lo53 := lo40.trans (hbxw47.mono (by omega))
   clear k37 k36 k38 k39 lo40 hbxw47
   go_upto_region 4 with fail
   refine wp_region_lit ?_
   try simp only [pA]
   change wpList _ _ _ ((_ :: _ :: []) ++ (_ :: _ :: _ :: [])) _ _
   refine wpList_prefix (C := fun w' => ∃ x : Later M48 xw47, w' = x.w') _ _ _ _ ⟨⟨_, Below.refl _ _⟩, rfl⟩ ?_
   refine later_val (fun q => run_bd 41 _ rfl (cellsOf (rC ⟨zeroN, 0#64, 0#64, 0#64, 0#64⟩) 6) (by kernel_rfl) q.w') (by rfl) ?_; simp only [pA]
   refine later_val (fun q => run_bd 41 _ rfl (cellsOf (rC ⟨zeroN, 0#64, 0#64, 0#64, 0#64⟩) 6) (by kernel_rfl) q.w') (by rfl) ?_; simp only [pA]
   refine wpQuiet_nil (laterE hM48 ?_)
   intro xw54 M55 hbxw54 hM55 lM55
   have k56 := k49.below hbxw54 (by omega)
   have k57 := k50.below hbxw54 (by omega)
   have k58 := k51.below hbxw54 (by omega)
   have k59 := k52.below hbxw54 (by omega)
   have lo60 := lo53.trans (hbxw54.mono (by omega))
   clear k49 k50 k51 k52 lo53 hbxw54
   refine wpl_store rfl 41 (.tmp 10) (.tmp 41) rfl (N + 1 + 1) 6 (rC ⟨zeroN, 0#64, 0#64, 0#64, 0#64⟩) rfl rfl 41 _ k58 szR (fun j _ => rC_one _ j) ?_
   intro xw61 t62 k63; try simp only [pA]
   have k64 := k56.touch t62 (by omega)
   have k65 := k57.touch t62 (by omega)
   have k66 := k59.touch t62 (by omega)
   have lo67 := t62.below lo60 (by omega)
   have h68 := t62.sz hM55
   clear k58 k56 k57 k59 lo60 hM55 t62
   refine wpl_store rfl 41 (.tmp 11) (.tmp 42) rfl (N + 1 + 1 + 1) 6 (rC ⟨zeroN, 0#64, 0#64, 0#64, 0#64⟩) rfl rfl 41 _ k66 szR (fun j _ => rC_one _ j) ?_
   intro xw69 t70 k71; try simp only [pA]
   have k72 := k64.touch t70 (by omega)
   have k73 := k65.touch t70 (by omega)
   have k74 := k63.touch t70 (by omega)
   have lo75 := t70.below lo67 (by omega)
   have h76 := t70.sz h68
   clear k66 k64 k65 k63 lo67 h68 t70
   refine wpl_run rfl (Value.bool false) _ (run_as (x := (.const (.bool false))) rfl _ rfl) ?_; simp only [pA]
   obtain ⟨M77, hM77⟩ := sz_some xw69
   have lt_78 := k72.ltN hM77
   have lt_79 := k73.ltN hM77
   have lt_80 := k74.ltN hM77
   have lt_81 := k71.ltN hM77
   go_wp2_with fail
   refine post_rrb rfl (N + 1 + 1) (N + 1 + 1 + 1) rfl rfl k74 k71 undR undR szR szR rfl rfl ?_
   exact ⟨by rw [ER.out]; first | rfl | (simp only [refGtt, H1_.out, H2_.out, bB] <;> rfl), lo75⟩
  ·have H2_ := hid h2_
   clear h2_
   have CS26 := fun w N hN => Near_any b w N hN
   rw [H2_.out] at CS26
   go_upto_region 2 with fail
   refine wp_region_lit ?_
   try simp only [pA]
   change wpList _ _ _ ((_ :: _ :: _ :: _ :: _ :: []) ++ (_ :: _ :: [])) _ _
   refine wpList_prefix (C := fun w' => ∃ x : Later M21 xw13, w' = x.w') _ _ _ _ ⟨⟨_, Below.refl _ _⟩, rfl⟩ ?_
   refine later_row hM21 41 (.tmp 8) rfl ((N + 1)) rfl 41 6 _ k16 undR szR (by rfl) ?_; simp only [pA]
   go_big_quiet_step ((go_at_call 69; exact later_of hM21 _ (fun K hK hKN => CS26 _ K hK)))
   iterate 3 (go_big_quiet_step (fail))
   refine wpQuiet_nil (laterE hM21 ?_)
   intro xw27 M28 hbxw27 hM28 lM28
   have k29 := k15.below hbxw27 (by omega)
   have k30 := k16.below hbxw27 (by omega)
   have k31 := k17.below hbxw27 (by omega)
   have k32 := k18.below hbxw27 (by omega)
   have lo33 := lo19.trans (hbxw27.mono (by omega))
   clear k15 k16 k17 k18 lo19 hbxw27
   refine wpl_store rfl 41 (.tmp 8) (.tmp 25) rfl (N + 1) 6 (rC (nearF b).1) rfl rfl 41 _ k30 szR (fun j _ => rC_one _ j) ?_
   intro xw34 t35 k36; try simp only [pA]
   have k37 := k29.touch t35 (by omega)
   have k38 := k31.touch t35 (by omega)
   have k39 := k32.touch t35 (by omega)
   have lo40 := t35.below lo33 (by omega)
   have h41 := t35.sz hM28
   clear k30 k29 k31 k32 lo33 hM28 t35
   refine wpl_run rfl (Value.bool true) _ (run_as (x := (.tmp 26)) rfl _ rfl) ?_; simp only [pA]
   obtain ⟨M42, hM42⟩ := sz_some xw34
   have lt_43 := k37.ltN hM42
   have lt_44 := k36.ltN hM42
   have lt_45 := k38.ltN hM42
   have lt_46 := k39.ltN hM42
   go_upto_region 3 with fail
   refine wp_region_later1 (M42) ?_
   try simp only [pA]
   iterate 10 (go_big_quiet_step (fail))
   go_big_quiet_step ((go_at_call 70; exact later_of hM42 _ (fun K hK hKN => hopp _ K hK)))
   iterate 3 (go_big_quiet_step (fail))
   refine wpQuiet_nil (laterE hM42 ?_)
   intro xw47 M48 hbxw47 hM48 lM48
   have k49 := k37.below hbxw47 (by omega)
   have k50 := k36.below hbxw47 (by omega)
   have k51 := k38.below hbxw47 (by omega)
   have k52 := k39.below hbxw47 (by omega)
   have lo53 := lo40.trans (hbxw47.mono (by omega))
   clear k37 k36 k38 k39 lo40 hbxw47
   cases h3_ : (aloneF (nearF a).1)
   ·have H3_ := hid h3_
    clear h3_
    go_upto_region 5 with fail
    refine wp_region_later1 (M48) ?_
    try simp only [pA]
    refine later_row hM48 41 (.tmp 7) rfl (N) rfl 41 6 _ k49 undR szR (by rfl) ?_; simp only [pA]
    go_big_quiet_step ((go_at_call 71; exact later_of hM48 _ (fun K hK hKN => ret_is H3_.out (Alone_any (nearF a).1) _ K hK)))
    iterate 4 (go_big_quiet_step (fail))
    refine wpQuiet_nil (laterE hM48 ?_)
    intro xw54 M55 hbxw54 hM55 lM55
    have k56 := k49.below hbxw54 (by omega)
    have k57 := k50.below hbxw54 (by omega)
    have k58 := k51.below hbxw54 (by omega)
    have k59 := k52.below hbxw54 (by omega)
    have lo60 := lo53.trans (hbxw54.mono (by omega))
    clear k49 k50 k51 k52 lo53 hbxw54
    go_upto_region 8 with fail
    refine wp_region_later1 (M55) ?_
    try simp only [pA]
    iterate 2 (go_big_quiet_step (fail))
    refine wpQuiet_nil (laterE hM55 ?_)
    intro xw61 M62 hbxw61 hM62 lM62
    have k63 := k56.below hbxw61 (by omega)
    have k64 := k57.below hbxw61 (by omega)
    have k65 := k58.below hbxw61 (by omega)
    have k66 := k59.below hbxw61 (by omega)
    have lo67 := lo60.trans (hbxw61.mono (by omega))
    clear k56 k57 k58 k59 lo60 hbxw61
    go_upto_region 10 with fail
    refine wp_region_later1 (M62) ?_
    try simp only [pA]
    iterate 9 (go_big_quiet_step (fail))
    refine wpQuiet_nil (laterE hM62 ?_)
    intro xw68 M69 hbxw68 hM69 lM69
    have k70 := k63.below hbxw68 (by omega)
    have k71 := k64.below hbxw68 (by omega)
    have k72 := k65.below hbxw68 (by omega)
    have k73 := k66.below hbxw68 (by omega)
    have lo74 := lo67.trans (hbxw68.mono (by omega))
    clear k63 k64 k65 k66 lo67 hbxw68
    cases h4_ : (bnd (nearF a).1 (nearF b).1).2.2
    ·have H4_ := hid h4_
     clear h4_
     have CS75 := fun w N hN => hbnd (nearF a).1 (nearF b).1 w N hN
     rw [H4_.out] at CS75
     go_upto_region 12 with fail
     refine wp_region_lit ?_
     try simp only [pA]
     change wpList _ _ _ ((_ :: _ :: _ :: _ :: _ :: _ :: _ :: _ :: []) ++ (_ :: _ :: _ :: [])) _ _
     refine wpList_prefix (C := fun w' => ∃ x : Later M69 xw68, w' = x.w') _ _ _ _ ⟨⟨_, Below.refl _ _⟩, rfl⟩ ?_
     go_big_quiet_step (fail)
     refine later_row hM69 41 (.tmp 7) rfl (N) rfl 41 6 _ k70 undR szR (by rfl) ?_; simp only [pA]
     refine later_row hM69 41 (.tmp 8) rfl ((N + 1)) rfl 41 6 _ k71 undR szR (by rfl) ?_; simp only [pA]
     go_big_quiet_step ((go_at_call 74; exact later_of hM69 _ (fun K hK hKN => CS75 _ K hK)))
     iterate 4 (go_big_quiet_step (fail))
     refine wpQuiet_nil (laterE hM69 ?_)
     intro xw76 M77 hbxw76 hM77 lM77
     have k78 := k70.below hbxw76 (by omega)
     have k79 := k71.below hbxw76 (by omega)
     have k80 := k72.below hbxw76 (by omega)
     have k81 := k73.below hbxw76 (by omega)
     have lo82 := lo74.trans (hbxw76.mono (by omega))
     clear k70 k71 k72 k73 lo74 hbxw76
     refine wpl_store rfl 41 (.tmp 7) (.tmp 83) rfl N 6 (rC (bnd (nearF a).1 (nearF b).1).1) rfl rfl 41 _ k78 szR (fun j _ => rC_one _ j) ?_
     intro xw83 t84 k85; try simp only [pA]
     have k86 := k79.touch t84 (by omega)
     have k87 := k80.touch t84 (by omega)
     have k88 := k81.touch t84 (by omega)
     have lo89 := t84.below lo82 (by omega)
     have h90 := t84.sz hM77
     clear k78 k79 k80 k81 lo82 hM77 t84
     refine wpl_store rfl 41 (.tmp 8) (.tmp 84) rfl (N + 1) 6 (rC (bnd (nearF a).1 (nearF b).1).2.1) rfl rfl 41 _ k86 szR (fun j _ => rC_one _ j) ?_
     intro xw91 t92 k93; try simp only [pA]
     have k94 := k85.touch t92 (by omega)
     have k95 := k87.touch t92 (by omega)
     have k96 := k88.touch t92 (by omega)
     have lo97 := t92.below lo89 (by omega)
     have h98 := t92.sz h90
     clear k86 k85 k87 k88 lo89 h90 t92
     refine wpl_run rfl (Value.bool false) _ (run_as (x := (.tmp 85)) rfl _ rfl) ?_; simp only [pA]
     obtain ⟨M99, hM99⟩ := sz_some xw91
     have lt_100 := k94.ltN hM99
     have lt_101 := k93.ltN hM99
     have lt_102 := k95.ltN hM99
     have lt_103 := k96.ltN hM99
     go_upto_region 13 with fail
     refine wp_region_later1 (M99) ?_
     try simp only [pA]
     iterate 2 (go_big_quiet_step (fail))
     refine wpQuiet_nil (laterE hM99 ?_)
     intro xw104 M105 hbxw104 hM105 lM105
     have k106 := k94.below hbxw104 (by omega)
     have k107 := k93.below hbxw104 (by omega)
     have k108 := k95.below hbxw104 (by omega)
     have k109 := k96.below hbxw104 (by omega)
     have lo110 := lo97.trans (hbxw104.mono (by omega))
     clear k94 k93 k95 k96 lo97 hbxw104
     go_upto_region 14 with fail
     refine wp_region_lit ?_
     try simp only [pA]
     change wpList _ _ _ ((_ :: _ :: []) ++ (_ :: _ :: _ :: [])) _ _
     refine wpList_prefix (C := fun w' => ∃ x : Later M105 xw104, w' = x.w') _ _ _ _ ⟨⟨_, Below.refl _ _⟩, rfl⟩ ?_
     refine later_val (fun q => run_bd 41 _ rfl (cellsOf (rC ⟨zeroN, 0#64, 0#64, 0#64, 0#64⟩) 6) (by kernel_rfl) q.w') (by rfl) ?_; simp only [pA]
     refine later_val (fun q => run_bd 41 _ rfl (cellsOf (rC ⟨zeroN, 0#64, 0#64, 0#64, 0#64⟩) 6) (by kernel_rfl) q.w') (by rfl) ?_; simp only [pA]
     refine wpQuiet_nil (laterE hM105 ?_)
     intro xw111 M112 hbxw111 hM112 lM112
     have k113 := k106.below hbxw111 (by omega)
     have k114 := k107.below hbxw111 (by omega)
     have k115 := k108.below hbxw111 (by omega)
     have k116 := k109.below hbxw111 (by omega)
     have lo117 := lo110.trans (hbxw111.mono (by omega))
     clear k106 k107 k108 k109 lo110 hbxw111
     refine wpl_store rfl 41 (.tmp 10) (.tmp 88) rfl (N + 1 + 1) 6 (rC ⟨zeroN, 0#64, 0#64, 0#64, 0#64⟩) rfl rfl 41 _ k115 szR (fun j _ => rC_one _ j) ?_
     intro xw118 t119 k120; try simp only [pA]
     have k121 := k113.touch t119 (by omega)
     have k122 := k114.touch t119 (by omega)
     have k123 := k116.touch t119 (by omega)
     have lo124 := t119.below lo117 (by omega)
     have h125 := t119.sz hM112
     clear k115 k113 k114 k116 lo117 hM112 t119
     refine wpl_store rfl 41 (.tmp 11) (.tmp 89) rfl (N + 1 + 1 + 1) 6 (rC ⟨zeroN, 0#64, 0#64, 0#64, 0#64⟩) rfl rfl 41 _ k123 szR (fun j _ => rC_one _ j) ?_
     intro xw126 t127 k128; try simp only [pA]
     have k129 := k121.touch t127 (by omega)
     have k130 := k122.touch t127 (by omega)
     have k131 := k120.touch t127 (by omega)
     have lo132 := t127.below lo124 (by omega)
     have h133 := t127.sz h125
     clear k123 k121 k122 k120 lo124 h125 t127
     refine wpl_run rfl (Value.bool false) _ (run_as (x := (.const (.bool false))) rfl _ rfl) ?_; simp only [pA]
     obtain ⟨M134, hM134⟩ := sz_some xw126
     have lt_135 := k129.ltN hM134
     have lt_136 := k130.ltN hM134
     have lt_137 := k131.ltN hM134
     have lt_138 := k128.ltN hM134
     go_wp2_with fail
     refine post_rrb rfl (N + 1 + 1) (N + 1 + 1 + 1) rfl rfl k131 k128 undR undR szR szR rfl rfl ?_
     exact ⟨by rw [ER.out]; first | rfl | (simp only [refGtt, H1_.out, H2_.out, H3_.out, H4_.out, bB] <;> rfl), lo132⟩
    ·have H4_ := hid h4_
     clear h4_
     have CS75 := fun w N hN => hbnd (nearF a).1 (nearF b).1 w N hN
     rw [H4_.out] at CS75
     go_upto_region 12 with fail
     refine wp_region_lit ?_
     try simp only [pA]
     change wpList _ _ _ ((_ :: _ :: _ :: _ :: _ :: _ :: _ :: _ :: []) ++ (_ :: _ :: _ :: [])) _ _
     refine wpList_prefix (C := fun w' => ∃ x : Later M69 xw68, w' = x.w') _ _ _ _ ⟨⟨_, Below.refl _ _⟩, rfl⟩ ?_
     go_big_quiet_step (fail)
     refine later_row hM69 41 (.tmp 7) rfl (N) rfl 41 6 _ k70 undR szR (by rfl) ?_; simp only [pA]
     refine later_row hM69 41 (.tmp 8) rfl ((N + 1)) rfl 41 6 _ k71 undR szR (by rfl) ?_; simp only [pA]
     go_big_quiet_step ((go_at_call 74; exact later_of hM69 _ (fun K hK hKN => CS75 _ K hK)))
     iterate 4 (go_big_quiet_step (fail))
     refine wpQuiet_nil (laterE hM69 ?_)
     intro xw76 M77 hbxw76 hM77 lM77
     have k78 := k70.below hbxw76 (by omega)
     have k79 := k71.below hbxw76 (by omega)
     have k80 := k72.below hbxw76 (by omega)
     have k81 := k73.below hbxw76 (by omega)
     have lo82 := lo74.trans (hbxw76.mono (by omega))
     clear k70 k71 k72 k73 lo74 hbxw76
     refine wpl_store rfl 41 (.tmp 7) (.tmp 83) rfl N 6 (rC (bnd (nearF a).1 (nearF b).1).1) rfl rfl 41 _ k78 szR (fun j _ => rC_one _ j) ?_
     intro xw83 t84 k85; try simp only [pA]
     have k86 := k79.touch t84 (by omega)
     have k87 := k80.touch t84 (by omega)
     have k88 := k81.touch t84 (by omega)
     have lo89 := t84.below lo82 (by omega)
     have h90 := t84.sz hM77
     clear k78 k79 k80 k81 lo82 hM77 t84
     refine wpl_store rfl 41 (.tmp 8) (.tmp 84) rfl (N + 1) 6 (rC (bnd (nearF a).1 (nearF b).1).2.1) rfl rfl 41 _ k86 szR (fun j _ => rC_one _ j) ?_
     intro xw91 t92 k93; try simp only [pA]
     have k94 := k85.touch t92 (by omega)
     have k95 := k87.touch t92 (by omega)
     have k96 := k88.touch t92 (by omega)
     have lo97 := t92.below lo89 (by omega)
     have h98 := t92.sz h90
     clear k86 k85 k87 k88 lo89 h90 t92
     refine wpl_run rfl (Value.bool true) _ (run_as (x := (.tmp 85)) rfl _ rfl) ?_; simp only [pA]
     obtain ⟨M99, hM99⟩ := sz_some xw91
     have lt_100 := k94.ltN hM99
     have lt_101 := k93.ltN hM99
     have lt_102 := k95.ltN hM99
     have lt_103 := k96.ltN hM99
     go_upto_region 13 with fail
     refine wp_region_later1 (M99) ?_
     try simp only [pA]
     iterate 2 (go_big_quiet_step (fail))
     refine wpQuiet_nil (laterE hM99 ?_)
     intro xw104 M105 hbxw104 hM105 lM105
     have k106 := k94.below hbxw104 (by omega)
     have k107 := k93.below hbxw104 (by omega)
     have k108 := k95.below hbxw104 (by omega)
     have k109 := k96.below hbxw104 (by omega)
     have lo110 := lo97.trans (hbxw104.mono (by omega))
     clear k94 k93 k95 k96 lo97 hbxw104
     cases h5_ : (settleF (bnd (nearF a).1 (nearF b).1).1).2
     ·have H5_ := hid h5_
      clear h5_
      have CS111 := fun w N hN => Settle_any (bnd (nearF a).1 (nearF b).1).1 w N hN
      rw [H5_.out] at CS111
      go_upto_region 15 with fail
      refine wp_region_lit ?_
      try simp only [pA]
      change wpList _ _ _ ((_ :: _ :: _ :: _ :: _ :: []) ++ (_ :: _ :: [])) _ _
      refine wpList_prefix (C := fun w' => ∃ x : Later M105 xw104, w' = x.w') _ _ _ _ ⟨⟨_, Below.refl _ _⟩, rfl⟩ ?_
      refine later_row hM105 41 (.tmp 7) rfl (N) rfl 41 6 _ k106 undR szR (by rfl) ?_; simp only [pA]
      go_big_quiet_step ((go_at_call 30; exact later_of hM105 _ (fun K hK hKN => CS111 _ K hK)))
      iterate 3 (go_big_quiet_step (fail))
      refine wpQuiet_nil (laterE hM105 ?_)
      intro xw112 M113 hbxw112 hM113 lM113
      have k114 := k106.below hbxw112 (by omega)
      have k115 := k107.below hbxw112 (by omega)
      have k116 := k108.below hbxw112 (by omega)
      have k117 := k109.below hbxw112 (by omega)
      have lo118 := lo110.trans (hbxw112.mono (by omega))
      clear k106 k107 k108 k109 lo110 hbxw112
      refine wpl_store rfl 41 (.tmp 7) (.tmp 93) rfl N 6 (rC (settleF (bnd (nearF a).1 (nearF b).1).1).1) rfl rfl 41 _ k114 szR (fun j _ => rC_one _ j) ?_
      intro xw119 t120 k121; try simp only [pA]
      have k122 := k115.touch t120 (by omega)
      have k123 := k116.touch t120 (by omega)
      have k124 := k117.touch t120 (by omega)
      have lo125 := t120.below lo118 (by omega)
      have h126 := t120.sz hM113
      clear k114 k115 k116 k117 lo118 hM113 t120
      refine wpl_run rfl (Value.bool false) _ (run_as (x := (.tmp 94)) rfl _ rfl) ?_; simp only [pA]
      obtain ⟨M127, hM127⟩ := sz_some xw119
      have lt_128 := k121.ltN hM127
      have lt_129 := k122.ltN hM127
      have lt_130 := k123.ltN hM127
      have lt_131 := k124.ltN hM127
      cases h6_ : (settleF (bnd (nearF a).1 (nearF b).1).2.1).2
      ·have H6_ := hid h6_
       clear h6_
       have CS132 := fun w N hN => Settle_any (bnd (nearF a).1 (nearF b).1).2.1 w N hN
       rw [H6_.out] at CS132
       go_upto_region 16 with fail
       refine wp_region_lit ?_
       try simp only [pA]
       change wpList _ _ _ ((_ :: _ :: _ :: _ :: _ :: []) ++ (_ :: _ :: [])) _ _
       refine wpList_prefix (C := fun w' => ∃ x : Later M127 xw119, w' = x.w') _ _ _ _ ⟨⟨_, Below.refl _ _⟩, rfl⟩ ?_
       refine later_row hM127 41 (.tmp 8) rfl ((N + 1)) rfl 41 6 _ k122 undR szR (by rfl) ?_; simp only [pA]
       go_big_quiet_step ((go_at_call 30; exact later_of hM127 _ (fun K hK hKN => CS132 _ K hK)))
       iterate 3 (go_big_quiet_step (fail))
       refine wpQuiet_nil (laterE hM127 ?_)
       intro xw133 M134 hbxw133 hM134 lM134
       have k135 := k121.below hbxw133 (by omega)
       have k136 := k122.below hbxw133 (by omega)
       have k137 := k123.below hbxw133 (by omega)
       have k138 := k124.below hbxw133 (by omega)
       have lo139 := lo125.trans (hbxw133.mono (by omega))
       clear k121 k122 k123 k124 lo125 hbxw133
       refine wpl_store rfl 41 (.tmp 8) (.tmp 98) rfl (N + 1) 6 (rC (settleF (bnd (nearF a).1 (nearF b).1).2.1).1) rfl rfl 41 _ k136 szR (fun j _ => rC_one _ j) ?_
       intro xw140 t141 k142; try simp only [pA]
       have k143 := k135.touch t141 (by omega)
       have k144 := k137.touch t141 (by omega)
       have k145 := k138.touch t141 (by omega)
       have lo146 := t141.below lo139 (by omega)
       have h147 := t141.sz hM134
       clear k136 k135 k137 k138 lo139 hM134 t141
       refine wpl_run rfl (Value.bool false) _ (run_as (x := (.tmp 99)) rfl _ rfl) ?_; simp only [pA]
       obtain ⟨M148, hM148⟩ := sz_some xw140
       have lt_149 := k143.ltN hM148
       have lt_150 := k142.ltN hM148
       have lt_151 := k144.ltN hM148
       have lt_152 := k145.ltN hM148
       go_upto_region 17 with fail
       refine wp_region_lit ?_
       try simp only [pA]
       change wpList _ _ _ ((_ :: _ :: _ :: _ :: _ :: _ :: _ :: _ :: _ :: _ :: []) ++ (_ :: _ :: _ :: [])) _ _
       refine wpList_prefix (C := fun w' => ∃ x : Later M148 xw140, w' = x.w') _ _ _ _ ⟨⟨_, Below.refl _ _⟩, rfl⟩ ?_
       refine later_row hM148 41 (.tmp 7) rfl (N) rfl 41 6 _ k143 undR szR (by rfl) ?_; simp only [pA]
       refine later_row hM148 41 (.tmp 8) rfl ((N + 1)) rfl 41 6 _ k142 undR szR (by rfl) ?_; simp only [pA]
       iterate 4 (go_big_quiet_step (fail))
       go_big_quiet_step ((go_at_call 72; exact later_of hM148 _ (fun K hK hKN => Both_any (settleF (bnd (nearF a).1 (nearF b).1).1).1 (settleF (bnd (nearF a).1 (nearF b).1).2.1).1 false _ K hK)))
       iterate 3 (go_big_quiet_step (fail))
       refine wpQuiet_nil (laterE hM148 ?_)
       intro xw153 M154 hbxw153 hM154 lM154
       have k155 := k143.below hbxw153 (by omega)
       have k156 := k142.below hbxw153 (by omega)
       have k157 := k144.below hbxw153 (by omega)
       have k158 := k145.below hbxw153 (by omega)
       have lo159 := lo146.trans (hbxw153.mono (by omega))
       clear k143 k142 k144 k145 lo146 hbxw153
       refine wpl_store rfl 41 (.tmp 10) (.tmp 107) rfl (N + 1 + 1) 6 (rC (bothF (settleF (bnd (nearF a).1 (nearF b).1).1).1 (settleF (bnd (nearF a).1 (nearF b).1).2.1).1 false).1) rfl rfl 41 _ k157 szR (fun j _ => rC_one _ j) ?_
       intro xw160 t161 k162; try simp only [pA]
       have k163 := k155.touch t161 (by omega)
       have k164 := k156.touch t161 (by omega)
       have k165 := k158.touch t161 (by omega)
       have lo166 := t161.below lo159 (by omega)
       have h167 := t161.sz hM154
       clear k157 k155 k156 k158 lo159 hM154 t161
       refine wpl_store rfl 41 (.tmp 11) (.tmp 108) rfl (N + 1 + 1 + 1) 6 (rC (bothF (settleF (bnd (nearF a).1 (nearF b).1).1).1 (settleF (bnd (nearF a).1 (nearF b).1).2.1).1 false).2.1) rfl rfl 41 _ k165 szR (fun j _ => rC_one _ j) ?_
       intro xw168 t169 k170; try simp only [pA]
       have k171 := k163.touch t169 (by omega)
       have k172 := k164.touch t169 (by omega)
       have k173 := k162.touch t169 (by omega)
       have lo174 := t169.below lo166 (by omega)
       have h175 := t169.sz h167
       clear k165 k163 k164 k162 lo166 h167 t169
       refine wpl_run rfl (Value.bool (bothF (settleF (bnd (nearF a).1 (nearF b).1).1).1 (settleF (bnd (nearF a).1 (nearF b).1).2.1).1 false).2.2) _ (run_as (x := (.tmp 109)) rfl _ rfl) ?_; simp only [pA]
       obtain ⟨M176, hM176⟩ := sz_some xw168
       have lt_177 := k171.ltN hM176
       have lt_178 := k172.ltN hM176
       have lt_179 := k173.ltN hM176
       have lt_180 := k170.ltN hM176
       go_wp2_with fail
       refine post_rrb rfl (N + 1 + 1) (N + 1 + 1 + 1) rfl rfl k173 k170 undR undR szR szR rfl rfl ?_
       exact ⟨by rw [ER.out]; first | rfl | (simp only [refGtt, H1_.out, H2_.out, H3_.out, H4_.out, H5_.out, H6_.out, bB] <;> rfl), lo174⟩
      ·have H6_ := hid h6_
       clear h6_
       have CS132 := fun w N hN => Settle_any (bnd (nearF a).1 (nearF b).1).2.1 w N hN
       rw [H6_.out] at CS132
       go_upto_region 16 with fail
       refine wp_region_lit ?_
       try simp only [pA]
       change wpList _ _ _ ((_ :: _ :: _ :: _ :: _ :: []) ++ (_ :: _ :: [])) _ _
       refine wpList_prefix (C := fun w' => ∃ x : Later M127 xw119, w' = x.w') _ _ _ _ ⟨⟨_, Below.refl _ _⟩, rfl⟩ ?_
       refine later_row hM127 41 (.tmp 8) rfl ((N + 1)) rfl 41 6 _ k122 undR szR (by rfl) ?_; simp only [pA]
       go_big_quiet_step ((go_at_call 30; exact later_of hM127 _ (fun K hK hKN => CS132 _ K hK)))
       iterate 3 (go_big_quiet_step (fail))
       refine wpQuiet_nil (laterE hM127 ?_)
       intro xw133 M134 hbxw133 hM134 lM134
       have k135 := k121.below hbxw133 (by omega)
       have k136 := k122.below hbxw133 (by omega)
       have k137 := k123.below hbxw133 (by omega)
       have k138 := k124.below hbxw133 (by omega)
       have lo139 := lo125.trans (hbxw133.mono (by omega))
       clear k121 k122 k123 k124 lo125 hbxw133
       refine wpl_store rfl 41 (.tmp 8) (.tmp 98) rfl (N + 1) 6 (rC (settleF (bnd (nearF a).1 (nearF b).1).2.1).1) rfl rfl 41 _ k136 szR (fun j _ => rC_one _ j) ?_
       intro xw140 t141 k142; try simp only [pA]
       have k143 := k135.touch t141 (by omega)
       have k144 := k137.touch t141 (by omega)
       have k145 := k138.touch t141 (by omega)
       have lo146 := t141.below lo139 (by omega)
       have h147 := t141.sz hM134
       clear k136 k135 k137 k138 lo139 hM134 t141
       refine wpl_run rfl (Value.bool true) _ (run_as (x := (.tmp 99)) rfl _ rfl) ?_; simp only [pA]
       obtain ⟨M148, hM148⟩ := sz_some xw140
       have lt_149 := k143.ltN hM148
       have lt_150 := k142.ltN hM148
       have lt_151 := k144.ltN hM148
       have lt_152 := k145.ltN hM148
       go_upto_region 17 with fail
       refine wp_region_lit ?_
       try simp only [pA]
       change wpList _ _ _ ((_ :: _ :: _ :: _ :: _ :: _ :: _ :: _ :: _ :: _ :: []) ++ (_ :: _ :: _ :: [])) _ _
       refine wpList_prefix (C := fun w' => ∃ x : Later M148 xw140, w' = x.w') _ _ _ _ ⟨⟨_, Below.refl _ _⟩, rfl⟩ ?_
       refine later_row hM148 41 (.tmp 7) rfl (N) rfl 41 6 _ k143 undR szR (by rfl) ?_; simp only [pA]
       refine later_row hM148 41 (.tmp 8) rfl ((N + 1)) rfl 41 6 _ k142 undR szR (by rfl) ?_; simp only [pA]
       iterate 4 (go_big_quiet_step (fail))
       go_big_quiet_step ((go_at_call 72; exact later_of hM148 _ (fun K hK hKN => Both_any (settleF (bnd (nearF a).1 (nearF b).1).1).1 (settleF (bnd (nearF a).1 (nearF b).1).2.1).1 false _ K hK)))
       iterate 3 (go_big_quiet_step (fail))
       refine wpQuiet_nil (laterE hM148 ?_)
       intro xw153 M154 hbxw153 hM154 lM154
       have k155 := k143.below hbxw153 (by omega)
       have k156 := k142.below hbxw153 (by omega)
       have k157 := k144.below hbxw153 (by omega)
       have k158 := k145.below hbxw153 (by omega)
       have lo159 := lo146.trans (hbxw153.mono (by omega))
       clear k143 k142 k144 k145 lo146 hbxw153
       refine wpl_store rfl 41 (.tmp 10) (.tmp 107) rfl (N + 1 + 1) 6 (rC (bothF (settleF (bnd (nearF a).1 (nearF b).1).1).1 (settleF (bnd (nearF a).1 (nearF b).1).2.1).1 false).1) rfl rfl 41 _ k157 szR (fun j _ => rC_one _ j) ?_
       intro xw160 t161 k162; try simp only [pA]
       have k163 := k155.touch t161 (by omega)
       have k164 := k156.touch t161 (by omega)
       have k165 := k158.touch t161 (by omega)
       have lo166 := t161.below lo159 (by omega)
       have h167 := t161.sz hM154
       clear k157 k155 k156 k158 lo159 hM154 t161
       refine wpl_store rfl 41 (.tmp 11) (.tmp 108) rfl (N + 1 + 1 + 1) 6 (rC (bothF (settleF (bnd (nearF a).1 (nearF b).1).1).1 (settleF (bnd (nearF a).1 (nearF b).1).2.1).1 false).2.1) rfl rfl 41 _ k165 szR (fun j _ => rC_one _ j) ?_
       intro xw168 t169 k170; try simp only [pA]
       have k171 := k163.touch t169 (by omega)
       have k172 := k164.touch t169 (by omega)
       have k173 := k162.touch t169 (by omega)
       have lo174 := t169.below lo166 (by omega)
       have h175 := t169.sz h167
       clear k165 k163 k164 k162 lo166 h167 t169
       refine wpl_run rfl (Value.bool (bothF (settleF (bnd (nearF a).1 (nearF b).1).1).1 (settleF (bnd (nearF a).1 (nearF b).1).2.1).1 false).2.2) _ (run_as (x := (.tmp 109)) rfl _ rfl) ?_; simp only [pA]
       obtain ⟨M176, hM176⟩ := sz_some xw168
       have lt_177 := k171.ltN hM176
       have lt_178 := k172.ltN hM176
       have lt_179 := k173.ltN hM176
       have lt_180 := k170.ltN hM176
       go_wp2_with fail
       refine post_rrb rfl (N + 1 + 1) (N + 1 + 1 + 1) rfl rfl k173 k170 undR undR szR szR rfl rfl ?_
       exact ⟨by rw [ER.out]; first | rfl | (simp only [refGtt, H1_.out, H2_.out, H3_.out, H4_.out, H5_.out, H6_.out, bB] <;> rfl), lo174⟩
     ·have H5_ := hid h5_
      clear h5_
      have CS111 := fun w N hN => Settle_any (bnd (nearF a).1 (nearF b).1).1 w N hN
      rw [H5_.out] at CS111
      go_upto_region 15 with fail
      refine wp_region_lit ?_
      try simp only [pA]
      change wpList _ _ _ ((_ :: _ :: _ :: _ :: _ :: []) ++ (_ :: _ :: [])) _ _
      refine wpList_prefix (C := fun w' => ∃ x : Later M105 xw104, w' = x.w') _ _ _ _ ⟨⟨_, Below.refl _ _⟩, rfl⟩ ?_
      refine later_row hM105 41 (.tmp 7) rfl (N) rfl 41 6 _ k106 undR szR (by rfl) ?_; simp only [pA]
      go_big_quiet_step ((go_at_call 30; exact later_of hM105 _ (fun K hK hKN => CS111 _ K hK)))
      iterate 3 (go_big_quiet_step (fail))
      refine wpQuiet_nil (laterE hM105 ?_)
      intro xw112 M113 hbxw112 hM113 lM113
      have k114 := k106.below hbxw112 (by omega)
      have k115 := k107.below hbxw112 (by omega)
      have k116 := k108.below hbxw112 (by omega)
      have k117 := k109.below hbxw112 (by omega)
      have lo118 := lo110.trans (hbxw112.mono (by omega))
      clear k106 k107 k108 k109 lo110 hbxw112
      refine wpl_store rfl 41 (.tmp 7) (.tmp 93) rfl N 6 (rC (settleF (bnd (nearF a).1 (nearF b).1).1).1) rfl rfl 41 _ k114 szR (fun j _ => rC_one _ j) ?_
      intro xw119 t120 k121; try simp only [pA]
      have k122 := k115.touch t120 (by omega)
      have k123 := k116.touch t120 (by omega)
      have k124 := k117.touch t120 (by omega)
      have lo125 := t120.below lo118 (by omega)
      have h126 := t120.sz hM113
      clear k114 k115 k116 k117 lo118 hM113 t120
      refine wpl_run rfl (Value.bool true) _ (run_as (x := (.tmp 94)) rfl _ rfl) ?_; simp only [pA]
      obtain ⟨M127, hM127⟩ := sz_some xw119
      have lt_128 := k121.ltN hM127
      have lt_129 := k122.ltN hM127
      have lt_130 := k123.ltN hM127
      have lt_131 := k124.ltN hM127
      cases h6_ : (settleF (bnd (nearF a).1 (nearF b).1).2.1).2
      ·have H6_ := hid h6_
       clear h6_
       have CS132 := fun w N hN => Settle_any (bnd (nearF a).1 (nearF b).1).2.1 w N hN
       rw [H6_.out] at CS132
       go_upto_region 16 with fail
       refine wp_region_lit ?_
       try simp only [pA]
       change wpList _ _ _ ((_ :: _ :: _ :: _ :: _ :: []) ++ (_ :: _ :: [])) _ _
       refine wpList_prefix (C := fun w' => ∃ x : Later M127 xw119, w' = x.w') _ _ _ _ ⟨⟨_, Below.refl _ _⟩, rfl⟩ ?_
       refine later_row hM127 41 (.tmp 8) rfl ((N + 1)) rfl 41 6 _ k122 undR szR (by rfl) ?_; simp only [pA]
       go_big_quiet_step ((go_at_call 30; exact later_of hM127 _ (fun K hK hKN => CS132 _ K hK)))
       iterate 3 (go_big_quiet_step (fail))
       refine wpQuiet_nil (laterE hM127 ?_)
       intro xw133 M134 hbxw133 hM134 lM134
       have k135 := k121.below hbxw133 (by omega)
       have k136 := k122.below hbxw133 (by omega)
       have k137 := k123.below hbxw133 (by omega)
       have k138 := k124.below hbxw133 (by omega)
       have lo139 := lo125.trans (hbxw133.mono (by omega))
       clear k121 k122 k123 k124 lo125 hbxw133
       refine wpl_store rfl 41 (.tmp 8) (.tmp 98) rfl (N + 1) 6 (rC (settleF (bnd (nearF a).1 (nearF b).1).2.1).1) rfl rfl 41 _ k136 szR (fun j _ => rC_one _ j) ?_
       intro xw140 t141 k142; try simp only [pA]
       have k143 := k135.touch t141 (by omega)
       have k144 := k137.touch t141 (by omega)
       have k145 := k138.touch t141 (by omega)
       have lo146 := t141.below lo139 (by omega)
       have h147 := t141.sz hM134
       clear k136 k135 k137 k138 lo139 hM134 t141
       refine wpl_run rfl (Value.bool false) _ (run_as (x := (.tmp 99)) rfl _ rfl) ?_; simp only [pA]
       obtain ⟨M148, hM148⟩ := sz_some xw140
       have lt_149 := k143.ltN hM148
       have lt_150 := k142.ltN hM148
       have lt_151 := k144.ltN hM148
       have lt_152 := k145.ltN hM148
       go_upto_region 17 with fail
       refine wp_region_lit ?_
       try simp only [pA]
       change wpList _ _ _ ((_ :: _ :: _ :: _ :: _ :: _ :: _ :: _ :: _ :: _ :: []) ++ (_ :: _ :: _ :: [])) _ _
       refine wpList_prefix (C := fun w' => ∃ x : Later M148 xw140, w' = x.w') _ _ _ _ ⟨⟨_, Below.refl _ _⟩, rfl⟩ ?_
       refine later_row hM148 41 (.tmp 7) rfl (N) rfl 41 6 _ k143 undR szR (by rfl) ?_; simp only [pA]
       refine later_row hM148 41 (.tmp 8) rfl ((N + 1)) rfl 41 6 _ k142 undR szR (by rfl) ?_; simp only [pA]
       iterate 4 (go_big_quiet_step (fail))
       go_big_quiet_step ((go_at_call 72; exact later_of hM148 _ (fun K hK hKN => Both_any (settleF (bnd (nearF a).1 (nearF b).1).1).1 (settleF (bnd (nearF a).1 (nearF b).1).2.1).1 false _ K hK)))
       iterate 3 (go_big_quiet_step (fail))
       refine wpQuiet_nil (laterE hM148 ?_)
       intro xw153 M154 hbxw153 hM154 lM154
       have k155 := k143.below hbxw153 (by omega)
       have k156 := k142.below hbxw153 (by omega)
       have k157 := k144.below hbxw153 (by omega)
       have k158 := k145.below hbxw153 (by omega)
       have lo159 := lo146.trans (hbxw153.mono (by omega))
       clear k143 k142 k144 k145 lo146 hbxw153
       refine wpl_store rfl 41 (.tmp 10) (.tmp 107) rfl (N + 1 + 1) 6 (rC (bothF (settleF (bnd (nearF a).1 (nearF b).1).1).1 (settleF (bnd (nearF a).1 (nearF b).1).2.1).1 false).1) rfl rfl 41 _ k157 szR (fun j _ => rC_one _ j) ?_
       intro xw160 t161 k162; try simp only [pA]
       have k163 := k155.touch t161 (by omega)
       have k164 := k156.touch t161 (by omega)
       have k165 := k158.touch t161 (by omega)
       have lo166 := t161.below lo159 (by omega)
       have h167 := t161.sz hM154
       clear k157 k155 k156 k158 lo159 hM154 t161
       refine wpl_store rfl 41 (.tmp 11) (.tmp 108) rfl (N + 1 + 1 + 1) 6 (rC (bothF (settleF (bnd (nearF a).1 (nearF b).1).1).1 (settleF (bnd (nearF a).1 (nearF b).1).2.1).1 false).2.1) rfl rfl 41 _ k165 szR (fun j _ => rC_one _ j) ?_
       intro xw168 t169 k170; try simp only [pA]
       have k171 := k163.touch t169 (by omega)
       have k172 := k164.touch t169 (by omega)
       have k173 := k162.touch t169 (by omega)
       have lo174 := t169.below lo166 (by omega)
       have h175 := t169.sz h167
       clear k165 k163 k164 k162 lo166 h167 t169
       refine wpl_run rfl (Value.bool (bothF (settleF (bnd (nearF a).1 (nearF b).1).1).1 (settleF (bnd (nearF a).1 (nearF b).1).2.1).1 false).2.2) _ (run_as (x := (.tmp 109)) rfl _ rfl) ?_; simp only [pA]
       obtain ⟨M176, hM176⟩ := sz_some xw168
       have lt_177 := k171.ltN hM176
       have lt_178 := k172.ltN hM176
       have lt_179 := k173.ltN hM176
       have lt_180 := k170.ltN hM176
       go_wp2_with fail
       refine post_rrb rfl (N + 1 + 1) (N + 1 + 1 + 1) rfl rfl k173 k170 undR undR szR szR rfl rfl ?_
       exact ⟨by rw [ER.out]; first | rfl | (simp only [refGtt, H1_.out, H2_.out, H3_.out, H4_.out, H5_.out, H6_.out, bB] <;> rfl), lo174⟩
      ·have H6_ := hid h6_
       clear h6_
       have CS132 := fun w N hN => Settle_any (bnd (nearF a).1 (nearF b).1).2.1 w N hN
       rw [H6_.out] at CS132
       go_upto_region 16 with fail
       refine wp_region_lit ?_
       try simp only [pA]
       change wpList _ _ _ ((_ :: _ :: _ :: _ :: _ :: []) ++ (_ :: _ :: [])) _ _
       refine wpList_prefix (C := fun w' => ∃ x : Later M127 xw119, w' = x.w') _ _ _ _ ⟨⟨_, Below.refl _ _⟩, rfl⟩ ?_
       refine later_row hM127 41 (.tmp 8) rfl ((N + 1)) rfl 41 6 _ k122 undR szR (by rfl) ?_; simp only [pA]
       go_big_quiet_step ((go_at_call 30; exact later_of hM127 _ (fun K hK hKN => CS132 _ K hK)))
       iterate 3 (go_big_quiet_step (fail))
       refine wpQuiet_nil (laterE hM127 ?_)
       intro xw133 M134 hbxw133 hM134 lM134
       have k135 := k121.below hbxw133 (by omega)
       have k136 := k122.below hbxw133 (by omega)
       have k137 := k123.below hbxw133 (by omega)
       have k138 := k124.below hbxw133 (by omega)
       have lo139 := lo125.trans (hbxw133.mono (by omega))
       clear k121 k122 k123 k124 lo125 hbxw133
       refine wpl_store rfl 41 (.tmp 8) (.tmp 98) rfl (N + 1) 6 (rC (settleF (bnd (nearF a).1 (nearF b).1).2.1).1) rfl rfl 41 _ k136 szR (fun j _ => rC_one _ j) ?_
       intro xw140 t141 k142; try simp only [pA]
       have k143 := k135.touch t141 (by omega)
       have k144 := k137.touch t141 (by omega)
       have k145 := k138.touch t141 (by omega)
       have lo146 := t141.below lo139 (by omega)
       have h147 := t141.sz hM134
       clear k136 k135 k137 k138 lo139 hM134 t141
       refine wpl_run rfl (Value.bool true) _ (run_as (x := (.tmp 99)) rfl _ rfl) ?_; simp only [pA]
       obtain ⟨M148, hM148⟩ := sz_some xw140
       have lt_149 := k143.ltN hM148
       have lt_150 := k142.ltN hM148
       have lt_151 := k144.ltN hM148
       have lt_152 := k145.ltN hM148
       go_upto_region 17 with fail
       refine wp_region_lit ?_
       try simp only [pA]
       change wpList _ _ _ ((_ :: _ :: _ :: _ :: _ :: _ :: _ :: _ :: _ :: _ :: []) ++ (_ :: _ :: _ :: [])) _ _
       refine wpList_prefix (C := fun w' => ∃ x : Later M148 xw140, w' = x.w') _ _ _ _ ⟨⟨_, Below.refl _ _⟩, rfl⟩ ?_
       refine later_row hM148 41 (.tmp 7) rfl (N) rfl 41 6 _ k143 undR szR (by rfl) ?_; simp only [pA]
       refine later_row hM148 41 (.tmp 8) rfl ((N + 1)) rfl 41 6 _ k142 undR szR (by rfl) ?_; simp only [pA]
       iterate 4 (go_big_quiet_step (fail))
       go_big_quiet_step ((go_at_call 72; exact later_of hM148 _ (fun K hK hKN => Both_any (settleF (bnd (nearF a).1 (nearF b).1).1).1 (settleF (bnd (nearF a).1 (nearF b).1).2.1).1 true _ K hK)))
       iterate 3 (go_big_quiet_step (fail))
       refine wpQuiet_nil (laterE hM148 ?_)
       intro xw153 M154 hbxw153 hM154 lM154
       have k155 := k143.below hbxw153 (by omega)
       have k156 := k142.below hbxw153 (by omega)
       have k157 := k144.below hbxw153 (by omega)
       have k158 := k145.below hbxw153 (by omega)
       have lo159 := lo146.trans (hbxw153.mono (by omega))
       clear k143 k142 k144 k145 lo146 hbxw153
       refine wpl_store rfl 41 (.tmp 10) (.tmp 107) rfl (N + 1 + 1) 6 (rC (bothF (settleF (bnd (nearF a).1 (nearF b).1).1).1 (settleF (bnd (nearF a).1 (nearF b).1).2.1).1 true).1) rfl rfl 41 _ k157 szR (fun j _ => rC_one _ j) ?_
       intro xw160 t161 k162; try simp only [pA]
       have k163 := k155.touch t161 (by omega)
       have k164 := k156.touch t161 (by omega)
       have k165 := k158.touch t161 (by omega)
       have lo166 := t161.below lo159 (by omega)
       have h167 := t161.sz hM154
       clear k157 k155 k156 k158 lo159 hM154 t161
       refine wpl_store rfl 41 (.tmp 11) (.tmp 108) rfl (N + 1 + 1 + 1) 6 (rC (bothF (settleF (bnd (nearF a).1 (nearF b).1).1).1 (settleF (bnd (nearF a).1 (nearF b).1).2.1).1 true).2.1) rfl rfl 41 _ k165 szR (fun j _ => rC_one _ j) ?_
       intro xw168 t169 k170; try simp only [pA]
       have k171 := k163.touch t169 (by omega)
       have k172 := k164.touch t169 (by omega)
       have k173 := k162.touch t169 (by omega)
       have lo174 := t169.below lo166 (by omega)
       have h175 := t169.sz h167
       clear k165 k163 k164 k162 lo166 h167 t169
       refine wpl_run rfl (Value.bool (bothF (settleF (bnd (nearF a).1 (nearF b).1).1).1 (settleF (bnd (nearF a).1 (nearF b).1).2.1).1 true).2.2) _ (run_as (x := (.tmp 109)) rfl _ rfl) ?_; simp only [pA]
       obtain ⟨M176, hM176⟩ := sz_some xw168
       have lt_177 := k171.ltN hM176
       have lt_178 := k172.ltN hM176
       have lt_179 := k173.ltN hM176
       have lt_180 := k170.ltN hM176
       go_wp2_with fail
       refine post_rrb rfl (N + 1 + 1) (N + 1 + 1 + 1) rfl rfl k173 k170 undR undR szR szR rfl rfl ?_
       exact ⟨by rw [ER.out]; first | rfl | (simp only [refGtt, H1_.out, H2_.out, H3_.out, H4_.out, H5_.out, H6_.out, bB] <;> rfl), lo174⟩
   ·have H3_ := hid h3_
    clear h3_
    cases h4_ : (aloneF (nearF b).1)
    ·have H4_ := hid h4_
     clear h4_
     go_upto_region 5 with fail
     refine wp_region_later1 (M48) ?_
     try simp only [pA]
     refine later_row hM48 41 (.tmp 7) rfl (N) rfl 41 6 _ k49 undR szR (by rfl) ?_; simp only [pA]
     go_big_quiet_step ((go_at_call 71; exact later_of hM48 _ (fun K hK hKN => ret_is H3_.out (Alone_any (nearF a).1) _ K hK)))
     go_big_quiet_step (fail)
     refine later_row hM48 41 (.tmp 8) rfl ((N + 1)) rfl 41 6 _ k50 undR szR (by rfl) ?_; simp only [pA]
     go_big_quiet_step ((go_at_call 71; exact later_of hM48 _ (fun K hK hKN => ret_is H4_.out (Alone_any (nearF b).1) _ K hK)))
     go_big_quiet_step (fail)
     refine wpQuiet_nil (laterE hM48 ?_)
     intro xw54 M55 hbxw54 hM55 lM55
     have k56 := k49.below hbxw54 (by omega)
     have k57 := k50.below hbxw54 (by omega)
     have k58 := k51.below hbxw54 (by omega)
     have k59 := k52.below hbxw54 (by omega)
     have lo60 := lo53.trans (hbxw54.mono (by omega))
     clear k49 k50 k51 k52 lo53 hbxw54
     go_upto_region 8 with fail
     refine wp_region_later1 (M55) ?_
     try simp only [pA]
     iterate 2 (go_big_quiet_step (fail))
     refine wpQuiet_nil (laterE hM55 ?_)
     intro xw61 M62 hbxw61 hM62 lM62
     have k63 := k56.below hbxw61 (by omega)
     have k64 := k57.below hbxw61 (by omega)
     have k65 := k58.below hbxw61 (by omega)
     have k66 := k59.below hbxw61 (by omega)
     have lo67 := lo60.trans (hbxw61.mono (by omega))
     clear k56 k57 k58 k59 lo60 hbxw61
     go_upto_region 10 with fail
     refine wp_region_later1 (M62) ?_
     try simp only [pA]
     iterate 9 (go_big_quiet_step (fail))
     refine wpQuiet_nil (laterE hM62 ?_)
     intro xw68 M69 hbxw68 hM69 lM69
     have k70 := k63.below hbxw68 (by omega)
     have k71 := k64.below hbxw68 (by omega)
     have k72 := k65.below hbxw68 (by omega)
     have k73 := k66.below hbxw68 (by omega)
     have lo74 := lo67.trans (hbxw68.mono (by omega))
     clear k63 k64 k65 k66 lo67 hbxw68
     cases h5_ : (bnd (nearF a).1 (nearF b).1).2.2
     ·have H5_ := hid h5_
      clear h5_
      have CS75 := fun w N hN => hbnd (nearF a).1 (nearF b).1 w N hN
      rw [H5_.out] at CS75
      go_upto_region 12 with fail
      refine wp_region_lit ?_
      try simp only [pA]
      change wpList _ _ _ ((_ :: _ :: _ :: _ :: _ :: _ :: _ :: _ :: []) ++ (_ :: _ :: _ :: [])) _ _
      refine wpList_prefix (C := fun w' => ∃ x : Later M69 xw68, w' = x.w') _ _ _ _ ⟨⟨_, Below.refl _ _⟩, rfl⟩ ?_
      go_big_quiet_step (fail)
      refine later_row hM69 41 (.tmp 7) rfl (N) rfl 41 6 _ k70 undR szR (by rfl) ?_; simp only [pA]
      refine later_row hM69 41 (.tmp 8) rfl ((N + 1)) rfl 41 6 _ k71 undR szR (by rfl) ?_; simp only [pA]
      go_big_quiet_step ((go_at_call 74; exact later_of hM69 _ (fun K hK hKN => CS75 _ K hK)))
      iterate 4 (go_big_quiet_step (fail))
      refine wpQuiet_nil (laterE hM69 ?_)
      intro xw76 M77 hbxw76 hM77 lM77
      have k78 := k70.below hbxw76 (by omega)
      have k79 := k71.below hbxw76 (by omega)
      have k80 := k72.below hbxw76 (by omega)
      have k81 := k73.below hbxw76 (by omega)
      have lo82 := lo74.trans (hbxw76.mono (by omega))
      clear k70 k71 k72 k73 lo74 hbxw76
      refine wpl_store rfl 41 (.tmp 7) (.tmp 83) rfl N 6 (rC (bnd (nearF a).1 (nearF b).1).1) rfl rfl 41 _ k78 szR (fun j _ => rC_one _ j) ?_
      intro xw83 t84 k85; try simp only [pA]
      have k86 := k79.touch t84 (by omega)
      have k87 := k80.touch t84 (by omega)
      have k88 := k81.touch t84 (by omega)
      have lo89 := t84.below lo82 (by omega)
      have h90 := t84.sz hM77
      clear k78 k79 k80 k81 lo82 hM77 t84
      refine wpl_store rfl 41 (.tmp 8) (.tmp 84) rfl (N + 1) 6 (rC (bnd (nearF a).1 (nearF b).1).2.1) rfl rfl 41 _ k86 szR (fun j _ => rC_one _ j) ?_
      intro xw91 t92 k93; try simp only [pA]
      have k94 := k85.touch t92 (by omega)
      have k95 := k87.touch t92 (by omega)
      have k96 := k88.touch t92 (by omega)
      have lo97 := t92.below lo89 (by omega)
      have h98 := t92.sz h90
      clear k86 k85 k87 k88 lo89 h90 t92
      refine wpl_run rfl (Value.bool false) _ (run_as (x := (.tmp 85)) rfl _ rfl) ?_; simp only [pA]
      obtain ⟨M99, hM99⟩ := sz_some xw91
      have lt_100 := k94.ltN hM99
      have lt_101 := k93.ltN hM99
      have lt_102 := k95.ltN hM99
      have lt_103 := k96.ltN hM99
      go_upto_region 13 with fail
      refine wp_region_later1 (M99) ?_
      try simp only [pA]
      iterate 2 (go_big_quiet_step (fail))
      refine wpQuiet_nil (laterE hM99 ?_)
      intro xw104 M105 hbxw104 hM105 lM105
      have k106 := k94.below hbxw104 (by omega)
      have k107 := k93.below hbxw104 (by omega)
      have k108 := k95.below hbxw104 (by omega)
      have k109 := k96.below hbxw104 (by omega)
      have lo110 := lo97.trans (hbxw104.mono (by omega))
      clear k94 k93 k95 k96 lo97 hbxw104
      go_upto_region 14 with fail
      refine wp_region_lit ?_
      try simp only [pA]
      change wpList _ _ _ ((_ :: _ :: []) ++ (_ :: _ :: _ :: [])) _ _
      refine wpList_prefix (C := fun w' => ∃ x : Later M105 xw104, w' = x.w') _ _ _ _ ⟨⟨_, Below.refl _ _⟩, rfl⟩ ?_
      refine later_val (fun q => run_bd 41 _ rfl (cellsOf (rC ⟨zeroN, 0#64, 0#64, 0#64, 0#64⟩) 6) (by kernel_rfl) q.w') (by rfl) ?_; simp only [pA]
      refine later_val (fun q => run_bd 41 _ rfl (cellsOf (rC ⟨zeroN, 0#64, 0#64, 0#64, 0#64⟩) 6) (by kernel_rfl) q.w') (by rfl) ?_; simp only [pA]
      refine wpQuiet_nil (laterE hM105 ?_)
      intro xw111 M112 hbxw111 hM112 lM112
      have k113 := k106.below hbxw111 (by omega)
      have k114 := k107.below hbxw111 (by omega)
      have k115 := k108.below hbxw111 (by omega)
      have k116 := k109.below hbxw111 (by omega)
      have lo117 := lo110.trans (hbxw111.mono (by omega))
      clear k106 k107 k108 k109 lo110 hbxw111
      refine wpl_store rfl 41 (.tmp 10) (.tmp 88) rfl (N + 1 + 1) 6 (rC ⟨zeroN, 0#64, 0#64, 0#64, 0#64⟩) rfl rfl 41 _ k115 szR (fun j _ => rC_one _ j) ?_
      intro xw118 t119 k120; try simp only [pA]
      have k121 := k113.touch t119 (by omega)
      have k122 := k114.touch t119 (by omega)
      have k123 := k116.touch t119 (by omega)
      have lo124 := t119.below lo117 (by omega)
      have h125 := t119.sz hM112
      clear k115 k113 k114 k116 lo117 hM112 t119
      refine wpl_store rfl 41 (.tmp 11) (.tmp 89) rfl (N + 1 + 1 + 1) 6 (rC ⟨zeroN, 0#64, 0#64, 0#64, 0#64⟩) rfl rfl 41 _ k123 szR (fun j _ => rC_one _ j) ?_
      intro xw126 t127 k128; try simp only [pA]
      have k129 := k121.touch t127 (by omega)
      have k130 := k122.touch t127 (by omega)
      have k131 := k120.touch t127 (by omega)
      have lo132 := t127.below lo124 (by omega)
      have h133 := t127.sz h125
      clear k123 k121 k122 k120 lo124 h125 t127
      refine wpl_run rfl (Value.bool false) _ (run_as (x := (.const (.bool false))) rfl _ rfl) ?_; simp only [pA]
      obtain ⟨M134, hM134⟩ := sz_some xw126
      have lt_135 := k129.ltN hM134
      have lt_136 := k130.ltN hM134
      have lt_137 := k131.ltN hM134
      have lt_138 := k128.ltN hM134
      go_wp2_with fail
      refine post_rrb rfl (N + 1 + 1) (N + 1 + 1 + 1) rfl rfl k131 k128 undR undR szR szR rfl rfl ?_
      exact ⟨by rw [ER.out]; first | rfl | (simp only [refGtt, H1_.out, H2_.out, H3_.out, H4_.out, H5_.out, bB] <;> rfl), lo132⟩
     ·have H5_ := hid h5_
      clear h5_
      have CS75 := fun w N hN => hbnd (nearF a).1 (nearF b).1 w N hN
      rw [H5_.out] at CS75
      go_upto_region 12 with fail
      refine wp_region_lit ?_
      try simp only [pA]
      change wpList _ _ _ ((_ :: _ :: _ :: _ :: _ :: _ :: _ :: _ :: []) ++ (_ :: _ :: _ :: [])) _ _
      refine wpList_prefix (C := fun w' => ∃ x : Later M69 xw68, w' = x.w') _ _ _ _ ⟨⟨_, Below.refl _ _⟩, rfl⟩ ?_
      go_big_quiet_step (fail)
      refine later_row hM69 41 (.tmp 7) rfl (N) rfl 41 6 _ k70 undR szR (by rfl) ?_; simp only [pA]
      refine later_row hM69 41 (.tmp 8) rfl ((N + 1)) rfl 41 6 _ k71 undR szR (by rfl) ?_; simp only [pA]
      go_big_quiet_step ((go_at_call 74; exact later_of hM69 _ (fun K hK hKN => CS75 _ K hK)))
      iterate 4 (go_big_quiet_step (fail))
      refine wpQuiet_nil (laterE hM69 ?_)
      intro xw76 M77 hbxw76 hM77 lM77
      have k78 := k70.below hbxw76 (by omega)
      have k79 := k71.below hbxw76 (by omega)
      have k80 := k72.below hbxw76 (by omega)
      have k81 := k73.below hbxw76 (by omega)
      have lo82 := lo74.trans (hbxw76.mono (by omega))
      clear k70 k71 k72 k73 lo74 hbxw76
      refine wpl_store rfl 41 (.tmp 7) (.tmp 83) rfl N 6 (rC (bnd (nearF a).1 (nearF b).1).1) rfl rfl 41 _ k78 szR (fun j _ => rC_one _ j) ?_
      intro xw83 t84 k85; try simp only [pA]
      have k86 := k79.touch t84 (by omega)
      have k87 := k80.touch t84 (by omega)
      have k88 := k81.touch t84 (by omega)
      have lo89 := t84.below lo82 (by omega)
      have h90 := t84.sz hM77
      clear k78 k79 k80 k81 lo82 hM77 t84
      refine wpl_store rfl 41 (.tmp 8) (.tmp 84) rfl (N + 1) 6 (rC (bnd (nearF a).1 (nearF b).1).2.1) rfl rfl 41 _ k86 szR (fun j _ => rC_one _ j) ?_
      intro xw91 t92 k93; try simp only [pA]
      have k94 := k85.touch t92 (by omega)
      have k95 := k87.touch t92 (by omega)
      have k96 := k88.touch t92 (by omega)
      have lo97 := t92.below lo89 (by omega)
      have h98 := t92.sz h90
      clear k86 k85 k87 k88 lo89 h90 t92
      refine wpl_run rfl (Value.bool true) _ (run_as (x := (.tmp 85)) rfl _ rfl) ?_; simp only [pA]
      obtain ⟨M99, hM99⟩ := sz_some xw91
      have lt_100 := k94.ltN hM99
      have lt_101 := k93.ltN hM99
      have lt_102 := k95.ltN hM99
      have lt_103 := k96.ltN hM99
      go_upto_region 13 with fail
      refine wp_region_later1 (M99) ?_
      try simp only [pA]
      iterate 2 (go_big_quiet_step (fail))
      refine wpQuiet_nil (laterE hM99 ?_)
      intro xw104 M105 hbxw104 hM105 lM105
      have k106 := k94.below hbxw104 (by omega)
      have k107 := k93.below hbxw104 (by omega)
      have k108 := k95.below hbxw104 (by omega)
      have k109 := k96.below hbxw104 (by omega)
      have lo110 := lo97.trans (hbxw104.mono (by omega))
      clear k94 k93 k95 k96 lo97 hbxw104
      cases h6_ : (settleF (bnd (nearF a).1 (nearF b).1).1).2
      ·have H6_ := hid h6_
       clear h6_
       have CS111 := fun w N hN => Settle_any (bnd (nearF a).1 (nearF b).1).1 w N hN
       rw [H6_.out] at CS111
       go_upto_region 15 with fail
       refine wp_region_lit ?_
       try simp only [pA]
       change wpList _ _ _ ((_ :: _ :: _ :: _ :: _ :: []) ++ (_ :: _ :: [])) _ _
       refine wpList_prefix (C := fun w' => ∃ x : Later M105 xw104, w' = x.w') _ _ _ _ ⟨⟨_, Below.refl _ _⟩, rfl⟩ ?_
       refine later_row hM105 41 (.tmp 7) rfl (N) rfl 41 6 _ k106 undR szR (by rfl) ?_; simp only [pA]
       go_big_quiet_step ((go_at_call 30; exact later_of hM105 _ (fun K hK hKN => CS111 _ K hK)))
       iterate 3 (go_big_quiet_step (fail))
       refine wpQuiet_nil (laterE hM105 ?_)
       intro xw112 M113 hbxw112 hM113 lM113
       have k114 := k106.below hbxw112 (by omega)
       have k115 := k107.below hbxw112 (by omega)
       have k116 := k108.below hbxw112 (by omega)
       have k117 := k109.below hbxw112 (by omega)
       have lo118 := lo110.trans (hbxw112.mono (by omega))
       clear k106 k107 k108 k109 lo110 hbxw112
       refine wpl_store rfl 41 (.tmp 7) (.tmp 93) rfl N 6 (rC (settleF (bnd (nearF a).1 (nearF b).1).1).1) rfl rfl 41 _ k114 szR (fun j _ => rC_one _ j) ?_
       intro xw119 t120 k121; try simp only [pA]
       have k122 := k115.touch t120 (by omega)
       have k123 := k116.touch t120 (by omega)
       have k124 := k117.touch t120 (by omega)
       have lo125 := t120.below lo118 (by omega)
       have h126 := t120.sz hM113
       clear k114 k115 k116 k117 lo118 hM113 t120
       refine wpl_run rfl (Value.bool false) _ (run_as (x := (.tmp 94)) rfl _ rfl) ?_; simp only [pA]
       obtain ⟨M127, hM127⟩ := sz_some xw119
       have lt_128 := k121.ltN hM127
       have lt_129 := k122.ltN hM127
       have lt_130 := k123.ltN hM127
       have lt_131 := k124.ltN hM127
       cases h7_ : (settleF (bnd (nearF a).1 (nearF b).1).2.1).2
       ·have H7_ := hid h7_
        clear h7_
        have CS132 := fun w N hN => Settle_any (bnd (nearF a).1 (nearF b).1).2.1 w N hN
        rw [H7_.out] at CS132
        go_upto_region 16 with fail
        refine wp_region_lit ?_
        try simp only [pA]
        change wpList _ _ _ ((_ :: _ :: _ :: _ :: _ :: []) ++ (_ :: _ :: [])) _ _
        refine wpList_prefix (C := fun w' => ∃ x : Later M127 xw119, w' = x.w') _ _ _ _ ⟨⟨_, Below.refl _ _⟩, rfl⟩ ?_
        refine later_row hM127 41 (.tmp 8) rfl ((N + 1)) rfl 41 6 _ k122 undR szR (by rfl) ?_; simp only [pA]
        go_big_quiet_step ((go_at_call 30; exact later_of hM127 _ (fun K hK hKN => CS132 _ K hK)))
        iterate 3 (go_big_quiet_step (fail))
        refine wpQuiet_nil (laterE hM127 ?_)
        intro xw133 M134 hbxw133 hM134 lM134
        have k135 := k121.below hbxw133 (by omega)
        have k136 := k122.below hbxw133 (by omega)
        have k137 := k123.below hbxw133 (by omega)
        have k138 := k124.below hbxw133 (by omega)
        have lo139 := lo125.trans (hbxw133.mono (by omega))
        clear k121 k122 k123 k124 lo125 hbxw133
        refine wpl_store rfl 41 (.tmp 8) (.tmp 98) rfl (N + 1) 6 (rC (settleF (bnd (nearF a).1 (nearF b).1).2.1).1) rfl rfl 41 _ k136 szR (fun j _ => rC_one _ j) ?_
        intro xw140 t141 k142; try simp only [pA]
        have k143 := k135.touch t141 (by omega)
        have k144 := k137.touch t141 (by omega)
        have k145 := k138.touch t141 (by omega)
        have lo146 := t141.below lo139 (by omega)
        have h147 := t141.sz hM134
        clear k136 k135 k137 k138 lo139 hM134 t141
        refine wpl_run rfl (Value.bool false) _ (run_as (x := (.tmp 99)) rfl _ rfl) ?_; simp only [pA]
        obtain ⟨M148, hM148⟩ := sz_some xw140
        have lt_149 := k143.ltN hM148
        have lt_150 := k142.ltN hM148
        have lt_151 := k144.ltN hM148
        have lt_152 := k145.ltN hM148
        go_upto_region 17 with fail
        refine wp_region_lit ?_
        try simp only [pA]
        change wpList _ _ _ ((_ :: _ :: _ :: _ :: _ :: _ :: _ :: _ :: _ :: _ :: []) ++ (_ :: _ :: _ :: [])) _ _
        refine wpList_prefix (C := fun w' => ∃ x : Later M148 xw140, w' = x.w') _ _ _ _ ⟨⟨_, Below.refl _ _⟩, rfl⟩ ?_
        refine later_row hM148 41 (.tmp 7) rfl (N) rfl 41 6 _ k143 undR szR (by rfl) ?_; simp only [pA]
        refine later_row hM148 41 (.tmp 8) rfl ((N + 1)) rfl 41 6 _ k142 undR szR (by rfl) ?_; simp only [pA]
        iterate 4 (go_big_quiet_step (fail))
        go_big_quiet_step ((go_at_call 72; exact later_of hM148 _ (fun K hK hKN => Both_any (settleF (bnd (nearF a).1 (nearF b).1).1).1 (settleF (bnd (nearF a).1 (nearF b).1).2.1).1 false _ K hK)))
        iterate 3 (go_big_quiet_step (fail))
        refine wpQuiet_nil (laterE hM148 ?_)
        intro xw153 M154 hbxw153 hM154 lM154
        have k155 := k143.below hbxw153 (by omega)
        have k156 := k142.below hbxw153 (by omega)
        have k157 := k144.below hbxw153 (by omega)
        have k158 := k145.below hbxw153 (by omega)
        have lo159 := lo146.trans (hbxw153.mono (by omega))
        clear k143 k142 k144 k145 lo146 hbxw153
        refine wpl_store rfl 41 (.tmp 10) (.tmp 107) rfl (N + 1 + 1) 6 (rC (bothF (settleF (bnd (nearF a).1 (nearF b).1).1).1 (settleF (bnd (nearF a).1 (nearF b).1).2.1).1 false).1) rfl rfl 41 _ k157 szR (fun j _ => rC_one _ j) ?_
        intro xw160 t161 k162; try simp only [pA]
        have k163 := k155.touch t161 (by omega)
        have k164 := k156.touch t161 (by omega)
        have k165 := k158.touch t161 (by omega)
        have lo166 := t161.below lo159 (by omega)
        have h167 := t161.sz hM154
        clear k157 k155 k156 k158 lo159 hM154 t161
        refine wpl_store rfl 41 (.tmp 11) (.tmp 108) rfl (N + 1 + 1 + 1) 6 (rC (bothF (settleF (bnd (nearF a).1 (nearF b).1).1).1 (settleF (bnd (nearF a).1 (nearF b).1).2.1).1 false).2.1) rfl rfl 41 _ k165 szR (fun j _ => rC_one _ j) ?_
        intro xw168 t169 k170; try simp only [pA]
        have k171 := k163.touch t169 (by omega)
        have k172 := k164.touch t169 (by omega)
        have k173 := k162.touch t169 (by omega)
        have lo174 := t169.below lo166 (by omega)
        have h175 := t169.sz h167
        clear k165 k163 k164 k162 lo166 h167 t169
        refine wpl_run rfl (Value.bool (bothF (settleF (bnd (nearF a).1 (nearF b).1).1).1 (settleF (bnd (nearF a).1 (nearF b).1).2.1).1 false).2.2) _ (run_as (x := (.tmp 109)) rfl _ rfl) ?_; simp only [pA]
        obtain ⟨M176, hM176⟩ := sz_some xw168
        have lt_177 := k171.ltN hM176
        have lt_178 := k172.ltN hM176
        have lt_179 := k173.ltN hM176
        have lt_180 := k170.ltN hM176
        go_wp2_with fail
        refine post_rrb rfl (N + 1 + 1) (N + 1 + 1 + 1) rfl rfl k173 k170 undR undR szR szR rfl rfl ?_
        exact ⟨by rw [ER.out]; first | rfl | (simp only [refGtt, H1_.out, H2_.out, H3_.out, H4_.out, H5_.out, H6_.out, H7_.out, bB] <;> rfl), lo174⟩
       ·have H7_ := hid h7_
        clear h7_
        have CS132 := fun w N hN => Settle_any (bnd (nearF a).1 (nearF b).1).2.1 w N hN
        rw [H7_.out] at CS132
        go_upto_region 16 with fail
        refine wp_region_lit ?_
        try simp only [pA]
        change wpList _ _ _ ((_ :: _ :: _ :: _ :: _ :: []) ++ (_ :: _ :: [])) _ _
        refine wpList_prefix (C := fun w' => ∃ x : Later M127 xw119, w' = x.w') _ _ _ _ ⟨⟨_, Below.refl _ _⟩, rfl⟩ ?_
        refine later_row hM127 41 (.tmp 8) rfl ((N + 1)) rfl 41 6 _ k122 undR szR (by rfl) ?_; simp only [pA]
        go_big_quiet_step ((go_at_call 30; exact later_of hM127 _ (fun K hK hKN => CS132 _ K hK)))
        iterate 3 (go_big_quiet_step (fail))
        refine wpQuiet_nil (laterE hM127 ?_)
        intro xw133 M134 hbxw133 hM134 lM134
        have k135 := k121.below hbxw133 (by omega)
        have k136 := k122.below hbxw133 (by omega)
        have k137 := k123.below hbxw133 (by omega)
        have k138 := k124.below hbxw133 (by omega)
        have lo139 := lo125.trans (hbxw133.mono (by omega))
        clear k121 k122 k123 k124 lo125 hbxw133
        refine wpl_store rfl 41 (.tmp 8) (.tmp 98) rfl (N + 1) 6 (rC (settleF (bnd (nearF a).1 (nearF b).1).2.1).1) rfl rfl 41 _ k136 szR (fun j _ => rC_one _ j) ?_
        intro xw140 t141 k142; try simp only [pA]
        have k143 := k135.touch t141 (by omega)
        have k144 := k137.touch t141 (by omega)
        have k145 := k138.touch t141 (by omega)
        have lo146 := t141.below lo139 (by omega)
        have h147 := t141.sz hM134
        clear k136 k135 k137 k138 lo139 hM134 t141
        refine wpl_run rfl (Value.bool true) _ (run_as (x := (.tmp 99)) rfl _ rfl) ?_; simp only [pA]
        obtain ⟨M148, hM148⟩ := sz_some xw140
        have lt_149 := k143.ltN hM148
        have lt_150 := k142.ltN hM148
        have lt_151 := k144.ltN hM148
        have lt_152 := k145.ltN hM148
        go_upto_region 17 with fail
        refine wp_region_lit ?_
        try simp only [pA]
        change wpList _ _ _ ((_ :: _ :: _ :: _ :: _ :: _ :: _ :: _ :: _ :: _ :: []) ++ (_ :: _ :: _ :: [])) _ _
        refine wpList_prefix (C := fun w' => ∃ x : Later M148 xw140, w' = x.w') _ _ _ _ ⟨⟨_, Below.refl _ _⟩, rfl⟩ ?_
        refine later_row hM148 41 (.tmp 7) rfl (N) rfl 41 6 _ k143 undR szR (by rfl) ?_; simp only [pA]
        refine later_row hM148 41 (.tmp 8) rfl ((N + 1)) rfl 41 6 _ k142 undR szR (by rfl) ?_; simp only [pA]
        iterate 4 (go_big_quiet_step (fail))
        go_big_quiet_step ((go_at_call 72; exact later_of hM148 _ (fun K hK hKN => Both_any (settleF (bnd (nearF a).1 (nearF b).1).1).1 (settleF (bnd (nearF a).1 (nearF b).1).2.1).1 false _ K hK)))
        iterate 3 (go_big_quiet_step (fail))
        refine wpQuiet_nil (laterE hM148 ?_)
        intro xw153 M154 hbxw153 hM154 lM154
        have k155 := k143.below hbxw153 (by omega)
        have k156 := k142.below hbxw153 (by omega)
        have k157 := k144.below hbxw153 (by omega)
        have k158 := k145.below hbxw153 (by omega)
        have lo159 := lo146.trans (hbxw153.mono (by omega))
        clear k143 k142 k144 k145 lo146 hbxw153
        refine wpl_store rfl 41 (.tmp 10) (.tmp 107) rfl (N + 1 + 1) 6 (rC (bothF (settleF (bnd (nearF a).1 (nearF b).1).1).1 (settleF (bnd (nearF a).1 (nearF b).1).2.1).1 false).1) rfl rfl 41 _ k157 szR (fun j _ => rC_one _ j) ?_
        intro xw160 t161 k162; try simp only [pA]
        have k163 := k155.touch t161 (by omega)
        have k164 := k156.touch t161 (by omega)
        have k165 := k158.touch t161 (by omega)
        have lo166 := t161.below lo159 (by omega)
        have h167 := t161.sz hM154
        clear k157 k155 k156 k158 lo159 hM154 t161
        refine wpl_store rfl 41 (.tmp 11) (.tmp 108) rfl (N + 1 + 1 + 1) 6 (rC (bothF (settleF (bnd (nearF a).1 (nearF b).1).1).1 (settleF (bnd (nearF a).1 (nearF b).1).2.1).1 false).2.1) rfl rfl 41 _ k165 szR (fun j _ => rC_one _ j) ?_
        intro xw168 t169 k170; try simp only [pA]
        have k171 := k163.touch t169 (by omega)
        have k172 := k164.touch t169 (by omega)
        have k173 := k162.touch t169 (by omega)
        have lo174 := t169.below lo166 (by omega)
        have h175 := t169.sz h167
        clear k165 k163 k164 k162 lo166 h167 t169
        refine wpl_run rfl (Value.bool (bothF (settleF (bnd (nearF a).1 (nearF b).1).1).1 (settleF (bnd (nearF a).1 (nearF b).1).2.1).1 false).2.2) _ (run_as (x := (.tmp 109)) rfl _ rfl) ?_; simp only [pA]
        obtain ⟨M176, hM176⟩ := sz_some xw168
        have lt_177 := k171.ltN hM176
        have lt_178 := k172.ltN hM176
        have lt_179 := k173.ltN hM176
        have lt_180 := k170.ltN hM176
        go_wp2_with fail
        refine post_rrb rfl (N + 1 + 1) (N + 1 + 1 + 1) rfl rfl k173 k170 undR undR szR szR rfl rfl ?_
        exact ⟨by rw [ER.out]; first | rfl | (simp only [refGtt, H1_.out, H2_.out, H3_.out, H4_.out, H5_.out, H6_.out, H7_.out, bB] <;> rfl), lo174⟩
      ·have H6_ := hid h6_
       clear h6_
       have CS111 := fun w N hN => Settle_any (bnd (nearF a).1 (nearF b).1).1 w N hN
       rw [H6_.out] at CS111
       go_upto_region 15 with fail
       refine wp_region_lit ?_
       try simp only [pA]
       change wpList _ _ _ ((_ :: _ :: _ :: _ :: _ :: []) ++ (_ :: _ :: [])) _ _
       refine wpList_prefix (C := fun w' => ∃ x : Later M105 xw104, w' = x.w') _ _ _ _ ⟨⟨_, Below.refl _ _⟩, rfl⟩ ?_
       refine later_row hM105 41 (.tmp 7) rfl (N) rfl 41 6 _ k106 undR szR (by rfl) ?_; simp only [pA]
       go_big_quiet_step ((go_at_call 30; exact later_of hM105 _ (fun K hK hKN => CS111 _ K hK)))
       iterate 3 (go_big_quiet_step (fail))
       refine wpQuiet_nil (laterE hM105 ?_)
       intro xw112 M113 hbxw112 hM113 lM113
       have k114 := k106.below hbxw112 (by omega)
       have k115 := k107.below hbxw112 (by omega)
       have k116 := k108.below hbxw112 (by omega)
       have k117 := k109.below hbxw112 (by omega)
       have lo118 := lo110.trans (hbxw112.mono (by omega))
       clear k106 k107 k108 k109 lo110 hbxw112
       refine wpl_store rfl 41 (.tmp 7) (.tmp 93) rfl N 6 (rC (settleF (bnd (nearF a).1 (nearF b).1).1).1) rfl rfl 41 _ k114 szR (fun j _ => rC_one _ j) ?_
       intro xw119 t120 k121; try simp only [pA]
       have k122 := k115.touch t120 (by omega)
       have k123 := k116.touch t120 (by omega)
       have k124 := k117.touch t120 (by omega)
       have lo125 := t120.below lo118 (by omega)
       have h126 := t120.sz hM113
       clear k114 k115 k116 k117 lo118 hM113 t120
       refine wpl_run rfl (Value.bool true) _ (run_as (x := (.tmp 94)) rfl _ rfl) ?_; simp only [pA]
       obtain ⟨M127, hM127⟩ := sz_some xw119
       have lt_128 := k121.ltN hM127
       have lt_129 := k122.ltN hM127
       have lt_130 := k123.ltN hM127
       have lt_131 := k124.ltN hM127
       cases h7_ : (settleF (bnd (nearF a).1 (nearF b).1).2.1).2
       ·have H7_ := hid h7_
        clear h7_
        have CS132 := fun w N hN => Settle_any (bnd (nearF a).1 (nearF b).1).2.1 w N hN
        rw [H7_.out] at CS132
        go_upto_region 16 with fail
        refine wp_region_lit ?_
        try simp only [pA]
        change wpList _ _ _ ((_ :: _ :: _ :: _ :: _ :: []) ++ (_ :: _ :: [])) _ _
        refine wpList_prefix (C := fun w' => ∃ x : Later M127 xw119, w' = x.w') _ _ _ _ ⟨⟨_, Below.refl _ _⟩, rfl⟩ ?_
        refine later_row hM127 41 (.tmp 8) rfl ((N + 1)) rfl 41 6 _ k122 undR szR (by rfl) ?_; simp only [pA]
        go_big_quiet_step ((go_at_call 30; exact later_of hM127 _ (fun K hK hKN => CS132 _ K hK)))
        iterate 3 (go_big_quiet_step (fail))
        refine wpQuiet_nil (laterE hM127 ?_)
        intro xw133 M134 hbxw133 hM134 lM134
        have k135 := k121.below hbxw133 (by omega)
        have k136 := k122.below hbxw133 (by omega)
        have k137 := k123.below hbxw133 (by omega)
        have k138 := k124.below hbxw133 (by omega)
        have lo139 := lo125.trans (hbxw133.mono (by omega))
        clear k121 k122 k123 k124 lo125 hbxw133
        refine wpl_store rfl 41 (.tmp 8) (.tmp 98) rfl (N + 1) 6 (rC (settleF (bnd (nearF a).1 (nearF b).1).2.1).1) rfl rfl 41 _ k136 szR (fun j _ => rC_one _ j) ?_
        intro xw140 t141 k142; try simp only [pA]
        have k143 := k135.touch t141 (by omega)
        have k144 := k137.touch t141 (by omega)
        have k145 := k138.touch t141 (by omega)
        have lo146 := t141.below lo139 (by omega)
        have h147 := t141.sz hM134
        clear k136 k135 k137 k138 lo139 hM134 t141
        refine wpl_run rfl (Value.bool false) _ (run_as (x := (.tmp 99)) rfl _ rfl) ?_; simp only [pA]
        obtain ⟨M148, hM148⟩ := sz_some xw140
        have lt_149 := k143.ltN hM148
        have lt_150 := k142.ltN hM148
        have lt_151 := k144.ltN hM148
        have lt_152 := k145.ltN hM148
        go_upto_region 17 with fail
        refine wp_region_lit ?_
        try simp only [pA]
        change wpList _ _ _ ((_ :: _ :: _ :: _ :: _ :: _ :: _ :: _ :: _ :: _ :: []) ++ (_ :: _ :: _ :: [])) _ _
        refine wpList_prefix (C := fun w' => ∃ x : Later M148 xw140, w' = x.w') _ _ _ _ ⟨⟨_, Below.refl _ _⟩, rfl⟩ ?_
        refine later_row hM148 41 (.tmp 7) rfl (N) rfl 41 6 _ k143 undR szR (by rfl) ?_; simp only [pA]
        refine later_row hM148 41 (.tmp 8) rfl ((N + 1)) rfl 41 6 _ k142 undR szR (by rfl) ?_; simp only [pA]
        iterate 4 (go_big_quiet_step (fail))
        go_big_quiet_step ((go_at_call 72; exact later_of hM148 _ (fun K hK hKN => Both_any (settleF (bnd (nearF a).1 (nearF b).1).1).1 (settleF (bnd (nearF a).1 (nearF b).1).2.1).1 false _ K hK)))
        iterate 3 (go_big_quiet_step (fail))
        refine wpQuiet_nil (laterE hM148 ?_)
        intro xw153 M154 hbxw153 hM154 lM154
        have k155 := k143.below hbxw153 (by omega)
        have k156 := k142.below hbxw153 (by omega)
        have k157 := k144.below hbxw153 (by omega)
        have k158 := k145.below hbxw153 (by omega)
        have lo159 := lo146.trans (hbxw153.mono (by omega))
        clear k143 k142 k144 k145 lo146 hbxw153
        refine wpl_store rfl 41 (.tmp 10) (.tmp 107) rfl (N + 1 + 1) 6 (rC (bothF (settleF (bnd (nearF a).1 (nearF b).1).1).1 (settleF (bnd (nearF a).1 (nearF b).1).2.1).1 false).1) rfl rfl 41 _ k157 szR (fun j _ => rC_one _ j) ?_
        intro xw160 t161 k162; try simp only [pA]
        have k163 := k155.touch t161 (by omega)
        have k164 := k156.touch t161 (by omega)
        have k165 := k158.touch t161 (by omega)
        have lo166 := t161.below lo159 (by omega)
        have h167 := t161.sz hM154
        clear k157 k155 k156 k158 lo159 hM154 t161
        refine wpl_store rfl 41 (.tmp 11) (.tmp 108) rfl (N + 1 + 1 + 1) 6 (rC (bothF (settleF (bnd (nearF a).1 (nearF b).1).1).1 (settleF (bnd (nearF a).1 (nearF b).1).2.1).1 false).2.1) rfl rfl 41 _ k165 szR (fun j _ => rC_one _ j) ?_
        intro xw168 t169 k170; try simp only [pA]
        have k171 := k163.touch t169 (by omega)
        have k172 := k164.touch t169 (by omega)
        have k173 := k162.touch t169 (by omega)
        have lo174 := t169.below lo166 (by omega)
        have h175 := t169.sz h167
        clear k165 k163 k164 k162 lo166 h167 t169
        refine wpl_run rfl (Value.bool (bothF (settleF (bnd (nearF a).1 (nearF b).1).1).1 (settleF (bnd (nearF a).1 (nearF b).1).2.1).1 false).2.2) _ (run_as (x := (.tmp 109)) rfl _ rfl) ?_; simp only [pA]
        obtain ⟨M176, hM176⟩ := sz_some xw168
        have lt_177 := k171.ltN hM176
        have lt_178 := k172.ltN hM176
        have lt_179 := k173.ltN hM176
        have lt_180 := k170.ltN hM176
        go_wp2_with fail
        refine post_rrb rfl (N + 1 + 1) (N + 1 + 1 + 1) rfl rfl k173 k170 undR undR szR szR rfl rfl ?_
        exact ⟨by rw [ER.out]; first | rfl | (simp only [refGtt, H1_.out, H2_.out, H3_.out, H4_.out, H5_.out, H6_.out, H7_.out, bB] <;> rfl), lo174⟩
       ·have H7_ := hid h7_
        clear h7_
        have CS132 := fun w N hN => Settle_any (bnd (nearF a).1 (nearF b).1).2.1 w N hN
        rw [H7_.out] at CS132
        go_upto_region 16 with fail
        refine wp_region_lit ?_
        try simp only [pA]
        change wpList _ _ _ ((_ :: _ :: _ :: _ :: _ :: []) ++ (_ :: _ :: [])) _ _
        refine wpList_prefix (C := fun w' => ∃ x : Later M127 xw119, w' = x.w') _ _ _ _ ⟨⟨_, Below.refl _ _⟩, rfl⟩ ?_
        refine later_row hM127 41 (.tmp 8) rfl ((N + 1)) rfl 41 6 _ k122 undR szR (by rfl) ?_; simp only [pA]
        go_big_quiet_step ((go_at_call 30; exact later_of hM127 _ (fun K hK hKN => CS132 _ K hK)))
        iterate 3 (go_big_quiet_step (fail))
        refine wpQuiet_nil (laterE hM127 ?_)
        intro xw133 M134 hbxw133 hM134 lM134
        have k135 := k121.below hbxw133 (by omega)
        have k136 := k122.below hbxw133 (by omega)
        have k137 := k123.below hbxw133 (by omega)
        have k138 := k124.below hbxw133 (by omega)
        have lo139 := lo125.trans (hbxw133.mono (by omega))
        clear k121 k122 k123 k124 lo125 hbxw133
        refine wpl_store rfl 41 (.tmp 8) (.tmp 98) rfl (N + 1) 6 (rC (settleF (bnd (nearF a).1 (nearF b).1).2.1).1) rfl rfl 41 _ k136 szR (fun j _ => rC_one _ j) ?_
        intro xw140 t141 k142; try simp only [pA]
        have k143 := k135.touch t141 (by omega)
        have k144 := k137.touch t141 (by omega)
        have k145 := k138.touch t141 (by omega)
        have lo146 := t141.below lo139 (by omega)
        have h147 := t141.sz hM134
        clear k136 k135 k137 k138 lo139 hM134 t141
        refine wpl_run rfl (Value.bool true) _ (run_as (x := (.tmp 99)) rfl _ rfl) ?_; simp only [pA]
        obtain ⟨M148, hM148⟩ := sz_some xw140
        have lt_149 := k143.ltN hM148
        have lt_150 := k142.ltN hM148
        have lt_151 := k144.ltN hM148
        have lt_152 := k145.ltN hM148
        go_upto_region 17 with fail
        refine wp_region_lit ?_
        try simp only [pA]
        change wpList _ _ _ ((_ :: _ :: _ :: _ :: _ :: _ :: _ :: _ :: _ :: _ :: []) ++ (_ :: _ :: _ :: [])) _ _
        refine wpList_prefix (C := fun w' => ∃ x : Later M148 xw140, w' = x.w') _ _ _ _ ⟨⟨_, Below.refl _ _⟩, rfl⟩ ?_
        refine later_row hM148 41 (.tmp 7) rfl (N) rfl 41 6 _ k143 undR szR (by rfl) ?_; simp only [pA]
        refine later_row hM148 41 (.tmp 8) rfl ((N + 1)) rfl 41 6 _ k142 undR szR (by rfl) ?_; simp only [pA]
        iterate 4 (go_big_quiet_step (fail))
        go_big_quiet_step ((go_at_call 72; exact later_of hM148 _ (fun K hK hKN => Both_any (settleF (bnd (nearF a).1 (nearF b).1).1).1 (settleF (bnd (nearF a).1 (nearF b).1).2.1).1 true _ K hK)))
        iterate 3 (go_big_quiet_step (fail))
        refine wpQuiet_nil (laterE hM148 ?_)
        intro xw153 M154 hbxw153 hM154 lM154
        have k155 := k143.below hbxw153 (by omega)
        have k156 := k142.below hbxw153 (by omega)
        have k157 := k144.below hbxw153 (by omega)
        have k158 := k145.below hbxw153 (by omega)
        have lo159 := lo146.trans (hbxw153.mono (by omega))
        clear k143 k142 k144 k145 lo146 hbxw153
        refine wpl_store rfl 41 (.tmp 10) (.tmp 107) rfl (N + 1 + 1) 6 (rC (bothF (settleF (bnd (nearF a).1 (nearF b).1).1).1 (settleF (bnd (nearF a).1 (nearF b).1).2.1).1 true).1) rfl rfl 41 _ k157 szR (fun j _ => rC_one _ j) ?_
        intro xw160 t161 k162; try simp only [pA]
        have k163 := k155.touch t161 (by omega)
        have k164 := k156.touch t161 (by omega)
        have k165 := k158.touch t161 (by omega)
        have lo166 := t161.below lo159 (by omega)
        have h167 := t161.sz hM154
        clear k157 k155 k156 k158 lo159 hM154 t161
        refine wpl_store rfl 41 (.tmp 11) (.tmp 108) rfl (N + 1 + 1 + 1) 6 (rC (bothF (settleF (bnd (nearF a).1 (nearF b).1).1).1 (settleF (bnd (nearF a).1 (nearF b).1).2.1).1 true).2.1) rfl rfl 41 _ k165 szR (fun j _ => rC_one _ j) ?_
        intro xw168 t169 k170; try simp only [pA]
        have k171 := k163.touch t169 (by omega)
        have k172 := k164.touch t169 (by omega)
        have k173 := k162.touch t169 (by omega)
        have lo174 := t169.below lo166 (by omega)
        have h175 := t169.sz h167
        clear k165 k163 k164 k162 lo166 h167 t169
        refine wpl_run rfl (Value.bool (bothF (settleF (bnd (nearF a).1 (nearF b).1).1).1 (settleF (bnd (nearF a).1 (nearF b).1).2.1).1 true).2.2) _ (run_as (x := (.tmp 109)) rfl _ rfl) ?_; simp only [pA]
        obtain ⟨M176, hM176⟩ := sz_some xw168
        have lt_177 := k171.ltN hM176
        have lt_178 := k172.ltN hM176
        have lt_179 := k173.ltN hM176
        have lt_180 := k170.ltN hM176
        go_wp2_with fail
        refine post_rrb rfl (N + 1 + 1) (N + 1 + 1 + 1) rfl rfl k173 k170 undR undR szR szR rfl rfl ?_
        exact ⟨by rw [ER.out]; first | rfl | (simp only [refGtt, H1_.out, H2_.out, H3_.out, H4_.out, H5_.out, H6_.out, H7_.out, bB] <;> rfl), lo174⟩
    ·have H4_ := hid h4_
     clear h4_
     go_upto_region 5 with fail
     refine wp_region_later1 (M48) ?_
     try simp only [pA]
     refine later_row hM48 41 (.tmp 7) rfl (N) rfl 41 6 _ k49 undR szR (by rfl) ?_; simp only [pA]
     go_big_quiet_step ((go_at_call 71; exact later_of hM48 _ (fun K hK hKN => ret_is H3_.out (Alone_any (nearF a).1) _ K hK)))
     go_big_quiet_step (fail)
     refine later_row hM48 41 (.tmp 8) rfl ((N + 1)) rfl 41 6 _ k50 undR szR (by rfl) ?_; simp only [pA]
     go_big_quiet_step ((go_at_call 71; exact later_of hM48 _ (fun K hK hKN => ret_is H4_.out (Alone_any (nearF b).1) _ K hK)))
     go_big_quiet_step (fail)
     refine wpQuiet_nil (laterE hM48 ?_)
     intro xw54 M55 hbxw54 hM55 lM55
     have k56 := k49.below hbxw54 (by omega)
     have k57 := k50.below hbxw54 (by omega)
     have k58 := k51.below hbxw54 (by omega)
     have k59 := k52.below hbxw54 (by omega)
     have lo60 := lo53.trans (hbxw54.mono (by omega))
     clear k49 k50 k51 k52 lo53 hbxw54
     go_upto_region 6 with fail
     refine wp_region_any (by kernel_rfl) ?_
     replace k56 : Has xw54.drew N 41 6 (rC (nearF a).1) := k56
     replace k57 : Has xw54.drew (N + 1) 41 6 (rC (nearF b).1) := k57
     replace k58 : Has xw54.drew (N + 1 + 1) 41 6 (rC zeroR) := k58
     replace k59 : Has xw54.drew (N + 1 + 1 + 1) 41 6 (rC zeroR) := k59
     replace hM55 : Sz xw54.drew M55 := hM55
     replace lo60 : Below N w xw54.drew := lo60.drew
     change wpAny _ _ _ _ _ _ _ (World.drew _)
     generalize xw54.drew = xw61 at *
     obtain ⟨c62, c63, c64, c65, c66, c67⟩ := r_cells k56
     obtain ⟨c68, c69, c70, c71, c72, c73⟩ := r_cells k57
     refine wpAny_pot (rem := [0, 1, 2, 3, 4, 5, 6, 7, 8, 9, 10, 11, 12, 13, 14]) (FG M55 (fun j => if j = 0 then some (Value.agg (cellsOf (rC (nearF a).1) 6)) else if j = 1 then some (Value.agg (cellsOf (rC (nearF b).1) 6)) else if j = 2 then some (Value.int .i64 z) else if j = 3 then some (Value.bool true) else if j = 4 then some (Value.pointer (some ⟨N, 2, none⟩)) else if j = 5 then some (Q (nearF a).1.lo) else if j = 6 then some (Value.pointer (some ⟨(N + 1), 2, none⟩)) else if j = 7 then some (Q (nearF b).1.lo) else if j = 8 then some (Value.bool (hol (nearF a).1.lo (nearF b).1.lo)) else if j = 9 then some (Value.bool true) else if j = 10 then some (Value.bool ((hol (nearF a).1.lo (nearF b).1.lo) == true)) else if j = 11 then some (Value.tuple #[(Value.agg (cellsOf (rC (bothF (nearF a).1 (nearF b).1 ((hol (nearF a).1.lo (nearF b).1.lo) == true)).1) 6)), (Value.agg (cellsOf (rC (bothF (nearF a).1 (nearF b).1 ((hol (nearF a).1.lo (nearF b).1.lo) == true)).2.1) 6)), (Value.bool (bothF (nearF a).1 (nearF b).1 ((hol (nearF a).1.lo (nearF b).1.lo) == true)).2.2)]) else if j = 12 then some (Value.agg (cellsOf (rC (bothF (nearF a).1 (nearF b).1 ((hol (nearF a).1.lo (nearF b).1.lo) == true)).1) 6)) else if j = 13 then some (Value.agg (cellsOf (rC (bothF (nearF a).1 (nearF b).1 ((hol (nearF a).1.lo (nearF b).1.lo) == true)).2.1) 6)) else some (Value.bool (bothF (nearF a).1 (nearF b).1 ((hol (nearF a).1.lo (nearF b).1.lo) == true)).2.2)) (fun j => (0, 0, fun _ => undef))) (TwoN (fun j => if j = 0 then some (Value.agg (cellsOf (rC (nearF a).1) 6)) else if j = 1 then some (Value.agg (cellsOf (rC (nearF b).1) 6)) else if j = 2 then some (Value.int .i64 z) else if j = 3 then some (Value.bool true) else if j = 4 then some (Value.pointer (some ⟨N, 2, none⟩)) else if j = 5 then some (Q (nearF a).1.lo) else if j = 6 then some (Value.pointer (some ⟨(N + 1), 2, none⟩)) else if j = 7 then some (Q (nearF b).1.lo) else if j = 8 then some (Value.bool (hol (nearF a).1.lo (nearF b).1.lo)) else if j = 9 then some (Value.bool true) else if j = 10 then some (Value.bool ((hol (nearF a).1.lo (nearF b).1.lo) == true)) else if j = 11 then some (Value.tuple #[(Value.agg (cellsOf (rC (bothF (nearF a).1 (nearF b).1 ((hol (nearF a).1.lo (nearF b).1.lo) == true)).1) 6)), (Value.agg (cellsOf (rC (bothF (nearF a).1 (nearF b).1 ((hol (nearF a).1.lo (nearF b).1.lo) == true)).2.1) 6)), (Value.bool (bothF (nearF a).1 (nearF b).1 ((hol (nearF a).1.lo (nearF b).1.lo) == true)).2.2)]) else if j = 12 then some (Value.agg (cellsOf (rC (bothF (nearF a).1 (nearF b).1 ((hol (nearF a).1.lo (nearF b).1.lo) == true)).1) 6)) else if j = 13 then some (Value.agg (cellsOf (rC (bothF (nearF a).1 (nearF b).1 ((hol (nearF a).1.lo (nearF b).1.lo) == true)).2.1) 6)) else some (Value.bool (bothF (nearF a).1 (nearF b).1 ((hol (nearF a).1.lo (nearF b).1.lo) == true)).2.2))) (Below M55 xw61) _ _ _ _ (by kernel_rfl) (size_dstG (by kernel_rfl)) (Below.refl _ _) ?_ ?_
     ·intro i hi ac wa hI ha hv
      simp only [List.mem_cons, List.not_mem_nil, or_false] at hi
      rcases hi with rfl | rfl | rfl | rfl | rfl | rfl | rfl | rfl | rfl | rfl | rfl | rfl | rfl | rfl | rfl
      ·exact potg_run rfl rfl (Value.agg (cellsOf (rC (nearF a).1) 6)) rfl (run_rw 41 (.tmp 7) rfl N (ha 7 (not_dstG (by kernel_rfl))) 41 6 _ (Has.below k56 hI (Has.ltN k56 hM55)) undR szR) hM55 hI
      ·exact potg_run rfl rfl (Value.agg (cellsOf (rC (nearF b).1) 6)) rfl (run_rw 41 (.tmp 8) rfl (N + 1) (ha 8 (not_dstG (by kernel_rfl))) 41 6 _ (Has.below k57 hI (Has.ltN k57 hM55)) undR szR) hM55 hI
      ·exact potg_run rfl rfl (Value.int .i64 z) rfl (run_mv (x := (.tmp 0)) rfl _ (ha 0 (not_dstG (by kernel_rfl)))) hM55 hI
      ·exact potg_run rfl rfl (Value.bool true) rfl (run_mv (x := (.tmp 1)) rfl _ (ha 1 (not_dstG (by kernel_rfl)))) hM55 hI
      ·exact potg_run rfl rfl (Value.pointer (some ⟨N, 2, none⟩)) rfl (run_fa 41 (.tmp 7) 1 2 rfl (ha 7 (not_dstG (by kernel_rfl))) faR1) hM55 hI
      ·obtain ⟨v4, hv4a, hv4b⟩ := hv 4 (by simp) (by kernel_rfl)
       have ev4 := hv4b.val rfl
       subst ev4
       exact potg_run rfl rfl (Q (nearF a).1.lo) rfl (run_c1 22 (.tmp 53) rfl ⟨N, 2, none⟩ (hv4a 53 rfl) und64 rfl (keep_c hI hM55 c64)) hM55 hI
      ·exact potg_run rfl rfl (Value.pointer (some ⟨(N + 1), 2, none⟩)) rfl (run_fa 41 (.tmp 8) 1 2 rfl (ha 8 (not_dstG (by kernel_rfl))) faR1) hM55 hI
      ·obtain ⟨v6, hv6a, hv6b⟩ := hv 6 (by simp) (by kernel_rfl)
       have ev6 := hv6b.val rfl
       subst ev6
       exact potg_run rfl rfl (Q (nearF b).1.lo) rfl (run_c1 22 (.tmp 55) rfl ⟨(N + 1), 2, none⟩ (hv6a 55 rfl) und64 rfl (keep_c hI hM55 c70)) hM55 hI
      ·obtain ⟨v2, hv2a, hv2b⟩ := hv 2 (by simp) (by kernel_rfl)
       have ev2 := hv2b.val rfl
       subst ev2
       obtain ⟨v3, hv3a, hv3b⟩ := hv 3 (by simp) (by kernel_rfl)
       have ev3 := hv3b.val rfl
       subst ev3
       obtain ⟨v5, hv5a, hv5b⟩ := hv 5 (by simp) (by kernel_rfl)
       have ev5 := hv5b.val rfl
       subst ev5
       obtain ⟨v7, hv7a, hv7b⟩ := hv 7 (by simp) (by kernel_rfl)
       have ev7 := hv7b.val rfl
       subst ev7
       exact potg_cl rfl rfl 36 _ _ rfl #[(Value.int .i64 z), (Value.bool true), (Q (nearF a).1.lo), (Q (nearF b).1.lo)] (by simp only [List.map_toArray, List.map_cons, List.map_nil, (show ac.eval (.tmp 51) = (Value.int .i64 z) from (hv2a 51 rfl)), (show ac.eval (.tmp 52) = (Value.bool true) from (hv3a 52 rfl)), (show ac.eval (.tmp 54) = (Q (nearF a).1.lo) from (hv5a 54 rfl)), (show ac.eval (.tmp 56) = (Q (nearF b).1.lo) from (hv7a 56 rfl))] <;> rfl) (by kernel_rfl) (Value.bool (hol (nearF a).1.lo (nearF b).1.lo)) (fun K hK => hhol (nearF a).1.lo (nearF b).1.lo wa K hK) rfl hM55 hI
      ·exact potg_run rfl rfl (Value.bool true) rfl (run_mv (x := (.tmp 4)) rfl _ (ha 4 (not_dstG (by kernel_rfl)))) hM55 hI
      ·obtain ⟨v8, hv8a, hv8b⟩ := hv 8 (by simp) (by kernel_rfl)
       have ev8 := hv8b.val rfl
       subst ev8
       obtain ⟨v9, hv9a, hv9b⟩ := hv 9 (by simp) (by kernel_rfl)
       have ev9 := hv9b.val rfl
       subst ev9
       exact potg_run rfl rfl (Value.bool ((hol (nearF a).1.lo (nearF b).1.lo) == true)) rfl ((bin_beqb undBool (hol (nearF a).1.lo (nearF b).1.lo) true) _ _ (.tmp 57) (.tmp 58) _ wa rfl (hv8a 57 rfl) (hv9a 58 rfl)) hM55 hI
      ·obtain ⟨v0, hv0a, hv0b⟩ := hv 0 (by simp) (by kernel_rfl)
       have ev0 := hv0b.val rfl
       subst ev0
       obtain ⟨v1, hv1a, hv1b⟩ := hv 1 (by simp) (by kernel_rfl)
       have ev1 := hv1b.val rfl
       subst ev1
       obtain ⟨v10, hv10a, hv10b⟩ := hv 10 (by simp) (by kernel_rfl)
       have ev10 := hv10b.val rfl
       subst ev10
       exact potg_cl rfl rfl 72 _ _ rfl #[(Value.agg (cellsOf (rC (nearF a).1) 6)), (Value.agg (cellsOf (rC (nearF b).1) 6)), (Value.bool ((hol (nearF a).1.lo (nearF b).1.lo) == true))] (by simp only [List.map_toArray, List.map_cons, List.map_nil, (show ac.eval (.tmp 49) = (Value.agg (cellsOf (rC (nearF a).1) 6)) from (hv0a 49 rfl)), (show ac.eval (.tmp 50) = (Value.agg (cellsOf (rC (nearF b).1) 6)) from (hv1a 50 rfl)), (show ac.eval (.tmp 59) = (Value.bool ((hol (nearF a).1.lo (nearF b).1.lo) == true)) from (hv10a 59 rfl))] <;> rfl) (by kernel_rfl) (Value.tuple #[(Value.agg (cellsOf (rC (bothF (nearF a).1 (nearF b).1 ((hol (nearF a).1.lo (nearF b).1.lo) == true)).1) 6)), (Value.agg (cellsOf (rC (bothF (nearF a).1 (nearF b).1 ((hol (nearF a).1.lo (nearF b).1.lo) == true)).2.1) 6)), (Value.bool (bothF (nearF a).1 (nearF b).1 ((hol (nearF a).1.lo (nearF b).1.lo) == true)).2.2)]) (fun K hK => Both_any (nearF a).1 (nearF b).1 ((hol (nearF a).1.lo (nearF b).1.lo) == true) wa K hK) rfl hM55 hI
      ·obtain ⟨v11, hv11a, hv11b⟩ := hv 11 (by simp) (by kernel_rfl)
       have ev11 := hv11b.val rfl
       subst ev11
       exact potg_run rfl rfl (Value.agg (cellsOf (rC (bothF (nearF a).1 (nearF b).1 ((hol (nearF a).1.lo (nearF b).1.lo) == true)).1) 6)) rfl (run_ex (x := (.tmp 60)) rfl _ (hv11a 60 rfl) rfl) hM55 hI
      ·obtain ⟨v11, hv11a, hv11b⟩ := hv 11 (by simp) (by kernel_rfl)
       have ev11 := hv11b.val rfl
       subst ev11
       exact potg_run rfl rfl (Value.agg (cellsOf (rC (bothF (nearF a).1 (nearF b).1 ((hol (nearF a).1.lo (nearF b).1.lo) == true)).2.1) 6)) rfl (run_ex (x := (.tmp 60)) rfl _ (hv11a 60 rfl) rfl) hM55 hI
      ·obtain ⟨v11, hv11a, hv11b⟩ := hv 11 (by simp) (by kernel_rfl)
       have ev11 := hv11b.val rfl
       subst ev11
       exact potg_run rfl rfl (Value.bool (bothF (nearF a).1 (nearF b).1 ((hol (nearF a).1.lo (nearF b).1.lo) == true)).2.2) rfl (run_ex (x := (.tmp 60)) rfl _ (hv11a 60 rfl) rfl) hM55 hI
     ·intro vals w5_74_ hb5_74_ hF hG
      have e_74_0 := (hF 0 (by simp)).val rfl
      have e_74_1 := (hF 1 (by simp)).val rfl
      have e_74_2 := (hF 2 (by simp)).val rfl
      have e_74_3 := (hF 3 (by simp)).val rfl
      have e_74_4 := (hF 4 (by simp)).val rfl
      have e_74_5 := (hF 5 (by simp)).val rfl
      have e_74_6 := (hF 6 (by simp)).val rfl
      have e_74_7 := (hF 7 (by simp)).val rfl
      have e_74_8 := (hF 8 (by simp)).val rfl
      have e_74_9 := (hF 9 (by simp)).val rfl
      have e_74_10 := (hF 10 (by simp)).val rfl
      have e_74_11 := (hF 11 (by simp)).val rfl
      have e_74_12 := (hF 12 (by simp)).val rfl
      have e_74_13 := (hF 13 (by simp)).val rfl
      have e_74_14 := (hF 14 (by simp)).val rfl
      clear hF hG
      simp only [List.foldl_cons, List.foldl_nil, dstOf, List.getElem?_toArray, List.getElem?_cons_succ, List.getElem?_cons_zero, Option.bind_some, Act.put, List.setIfInBounds_toArray, List.set_cons_succ, List.set_cons_zero, e_74_0, e_74_1, e_74_2, e_74_3, e_74_4, e_74_5, e_74_6, e_74_7, e_74_8, e_74_9, e_74_10, e_74_11, e_74_12, e_74_13, e_74_14]
      clear e_74_0 e_74_1 e_74_2 e_74_3 e_74_4 e_74_5 e_74_6 e_74_7 e_74_8 e_74_9 e_74_10 e_74_11 e_74_12 e_74_13 e_74_14
      refine wpAny_chain [15, 16, 17] _ _ _ _ (by kernel_rfl) (by decide) ?_
      simp only [List.filterMap_cons, List.filterMap_nil, List.getElem?_toArray, List.getElem?_cons_succ, List.getElem?_cons_zero]
      have k75 := k56.below hb5_74_ (by omega)
      have k76 := k57.below hb5_74_ (by omega)
      have k77 := k58.below hb5_74_ (by omega)
      have k78 := k59.below hb5_74_ (by omega)
      have lo79 := lo60.trans (hb5_74_.mono (by omega))
      clear k56 c62 c63 c64 c65 c66 c67 k57 c68 c69 c70 c71 c72 c73 k58 k59 lo60 hb5_74_
      refine wpl_store rfl 41 (.tmp 10) (.tmp 61) rfl (N + 1 + 1) 6 (rC (bothF (nearF a).1 (nearF b).1 ((hol (nearF a).1.lo (nearF b).1.lo) == true)).1) rfl rfl 41 _ k77 szR (fun j _ => rC_one _ j) ?_
      intro xw80 t81 k82
      have k83 := k75.touch t81 (by omega)
      have k84 := k76.touch t81 (by omega)
      have k85 := k78.touch t81 (by omega)
      have lo86 := t81.below lo79 (by omega)
      clear k77 k75 k76 k78 lo79 t81
      refine wpl_store rfl 41 (.tmp 11) (.tmp 62) rfl (N + 1 + 1 + 1) 6 (rC (bothF (nearF a).1 (nearF b).1 ((hol (nearF a).1.lo (nearF b).1.lo) == true)).2.1) rfl rfl 41 _ k85 szR (fun j _ => rC_one _ j) ?_
      intro xw87 t88 k89
      have k90 := k83.touch t88 (by omega)
      have k91 := k84.touch t88 (by omega)
      have k92 := k82.touch t88 (by omega)
      have lo93 := t88.below lo86 (by omega)
      clear k85 k83 k84 k82 lo86 t88
      refine wpl_run rfl (Value.bool (bothF (nearF a).1 (nearF b).1 ((hol (nearF a).1.lo (nearF b).1.lo) == true)).2.2) _ (run_as (x := (.tmp 63)) rfl _ rfl) ?_; simp only [pA]
      obtain ⟨M94, hM94⟩ := sz_some xw87
      have lt_95 := k90.ltN hM94
      have lt_96 := k91.ltN hM94
      have lt_97 := k92.ltN hM94
      have lt_98 := k89.ltN hM94
      go_wp2_with fail
      refine post_rrb rfl (N + 1 + 1) (N + 1 + 1 + 1) rfl rfl k92 k89 undR undR szR szR rfl rfl ?_
      exact ⟨by rw [ER.out]; first | rfl | (simp only [refGtt, H1_.out, H2_.out, H3_.out, H4_.out, bB] <;> rfl), lo93⟩
end Go.Proofs.Ytmdcopmgkhjfnaa
