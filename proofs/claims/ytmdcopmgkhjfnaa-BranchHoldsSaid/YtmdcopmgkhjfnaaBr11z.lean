/- Contracts of what a jump tells: a test that nothing can be told by. -/
import Derived.Test.YtmdcopmgkhjfnaaBr10
namespace Go.Proofs.Ytmdcopmgkhjfnaa
open Go Go.RowKit
def refZ (z : Int) (l : Bool) (a : Rn) (b : Rn) : Rn × Rn × Bool :=
  bif (nearF a).2 then bif (nearF b).2 then (⟨zeroN, 0#64, 0#64, 0#64, 0#64⟩, ⟨zeroN, 0#64, 0#64, 0#64, 0#64⟩, false)
    else (⟨zeroN, 0#64, 0#64, 0#64, 0#64⟩, ⟨zeroN, 0#64, 0#64, 0#64, 0#64⟩, false)
  else bif (nearF b).2 then (⟨zeroN, 0#64, 0#64, 0#64, 0#64⟩, ⟨zeroN, 0#64, 0#64, 0#64, 0#64⟩, false)
  else (⟨zeroN, 0#64, 0#64, 0#64, 0#64⟩, ⟨zeroN, 0#64, 0#64, 0#64, 0#64⟩, false)
set_option maxRecDepth 100000 in
set_option maxHeartbeats 4000000 in
theorem RefZ (z : Int) (l : Bool) (a : Rn) (b : Rn) (w : World) (N : Nat) (hN : Sz w N) (hopp : ∀ (w : World) (N : Nat), Sz w N → Calls Try.prog 70 #[.int .i64 z] w fun e w' => e = .returned (.int .i64 0) ∧ Below N w w') : Calls Try.prog 40 #[(Value.int .i64 z), (Value.bool l), rV a, rV b, (Value.bool true)] w fun e w' => e = .returned (.tuple #[rV (refZ z l a b).1, rV (refZ z l a b).2.1, .bool (refZ z l a b).2.2]) ∧ Below N w w' := by
  obtain ⟨rr, er⟩ : ∃ rr, rr = (refZ z l a b) := ⟨_, rfl⟩
  rw [← er]
  have ER := hid er
  clear er
  unfold rV
  go_enter Try.func40, Try.ntmps40
  go_upto_region 1 with (first
    | (refine wpl_box rfl 41 (.tmp 2) rfl 6 _ rfl (N) hN ?_; intro w1 hN1 hb1 hh1)
    | (refine wpl_box rfl 41 (.tmp 3) rfl 6 _ rfl (N + 1) hN1 ?_; intro w2 hN2 hb2 hh2)
    | (refine wpl_alloc rfl 41 rfl 6 (rC zeroR) zeR (N + 1 + 1) hN2 ?_; intro w3 hN3 hb3 hh3)
    | (refine wpl_alloc rfl 41 rfl 6 (rC zeroR) zeR (N + 1 + 1 + 1) hN3 ?_; intro w4 hN4 hb4 hh4)
    | fail)
  have lo0 : Below N w w4 := (((hb1.trans (hb2.mono (by omega))).trans (hb3.mono (by omega))).trans (hb4.mono (by omega)))
  have k1 := (((hh1.below hb2 (by omega)).below hb3 (by omega)).below hb4 (by omega))
  have k2 := ((hh2.below hb3 (by omega)).below hb4 (by omega))
  have k3 := (hh3.below hb4 (by omega))
  have k4 := hh4
  clear hh1 hb1 hh2 hb2 hh3 hb3 hh4 hb4 hN1 hN2 hN3
  cases h1_ : (nearF a).2
  · have H1_ := hid h1_
    clear h1_
    have CS5 := fun w N hN => Near_any a w N hN
    rw [H1_.out] at CS5
    go_upto_region 1 with fail
    refine wp_region_lit ?_
    try simp only [pA]
    change wpList _ _ _ ((_ :: _ :: _ :: _ :: _ :: []) ++ (_ :: _ :: [])) _ _
    refine wpList_prefix (C := fun w' => ∃ x : Later (N + 1 + 1 + 1 + 1) w4, w' = x.w') _ _ _ _ ⟨⟨_, Below.refl _ _⟩, rfl⟩ ?_
    refine later_row hN4 41 (.tmp 7) rfl (N) rfl 41 6 _ k1 undR szR (by rfl) ?_; simp only [pA]
    go_big_quiet_step ((go_at_call 69; exact later_of hN4 _ (fun K hK hKN => CS5 _ K hK)))
    iterate 3 (go_big_quiet_step (fail))
    refine wpQuiet_nil (laterE hN4 ?_)
    intro xw6 M7 hbxw6 hM7 lM7
    have k8 := k1.below hbxw6 (by omega)
    have k9 := k2.below hbxw6 (by omega)
    have k10 := k3.below hbxw6 (by omega)
    have k11 := k4.below hbxw6 (by omega)
    have lo12 := lo0.trans (hbxw6.mono (by omega))
    clear k1 k2 k3 k4 lo0 hbxw6
    refine wpl_store rfl 41 (.tmp 7) (.tmp 20) rfl N 6 (rC (nearF a).1) rfl rfl 41 _ k8 szR (fun j _ => rC_one _ j) ?_
    intro xw13 t14 k15; try simp only [pA]
    have k16 := k9.touch t14 (by omega)
    have k17 := k10.touch t14 (by omega)
    have k18 := k11.touch t14 (by omega)
    have lo19 := t14.below lo12 (by omega)
    have h20 := t14.sz hM7
    clear k8 k9 k10 k11 lo12 hM7 t14
    refine wpl_run rfl (Value.bool false) _ (run_as (x := (.tmp 21)) rfl _ rfl) ?_; simp only [pA]
    obtain ⟨M21, hM21⟩ := sz_some xw13
    have lt_22 := k15.ltN hM21
    have lt_23 := k16.ltN hM21
    have lt_24 := k17.ltN hM21
    have lt_25 := k18.ltN hM21
    cases h2_ : (nearF b).2
    · have H2_ := hid h2_
      clear h2_
      have CS26 := fun w N hN => Near_any b w N hN
      rw [H2_.out] at CS26
      go_upto_region 2 with fail
      refine wp_region_lit ?_
      try simp only [pA]
      change wpList _ _ _ ((_ :: _ :: _ :: _ :: _ :: []) ++ (_ :: _ :: [])) _ _
      refine wpList_prefix (C := fun w' => ∃ x : Later M21 xw13, w' = x.w') _ _ _ _ ⟨⟨_, Below.refl _ _⟩, rfl⟩ ?_
      refine later_row hM21 41 (.tmp 8) rfl ((N + 1)) rfl 41 6 _ k16 undR szR (by rfl) ?_; simp only [pA]
      go_big_quiet_step ((go_at_call 69; exact later_of hM21 _ (fun K hK hKN => CS26 _ K hK)))
      iterate 3 (go_big_quiet_step (fail))
      refine wpQuiet_nil (laterE hM21 ?_)
      intro xw27 M28 hbxw27 hM28 lM28
      have k29 := k15.below hbxw27 (by omega)
      have k30 := k16.below hbxw27 (by omega)
      have k31 := k17.below hbxw27 (by omega)
      have k32 := k18.below hbxw27 (by omega)
      have lo33 := lo19.trans (hbxw27.mono (by omega))
      clear k15 k16 k17 k18 lo19 hbxw27
      refine wpl_store rfl 41 (.tmp 8) (.tmp 25) rfl (N + 1) 6 (rC (nearF b).1) rfl rfl 41 _ k30 szR (fun j _ => rC_one _ j) ?_
      intro xw34 t35 k36; try simp only [pA]
      have k37 := k29.touch t35 (by omega)
      have k38 := k31.touch t35 (by omega)
      have k39 := k32.touch t35 (by omega)
      have lo40 := t35.below lo33 (by omega)
      have h41 := t35.sz hM28
      clear k30 k29 k31 k32 lo33 hM28 t35
      refine wpl_run rfl (Value.bool false) _ (run_as (x := (.tmp 26)) rfl _ rfl) ?_; simp only [pA]
      obtain ⟨M42, hM42⟩ := sz_some xw34
      have lt_43 := k37.ltN hM42
      have lt_44 := k36.ltN hM42
      have lt_45 := k38.ltN hM42
      have lt_46 := k39.ltN hM42
      go_upto_region 3 with fail
      refine wp_region_later1 (M42) ?_
      try simp only [pA]
      iterate 14 (go_big_quiet_step (fail))
      refine wpQuiet_nil (laterE hM42 ?_)
      intro xw47 M48 hbxw47 hM48 lM48
      have k49 := k37.below hbxw47 (by omega)
      have k50 := k36.below hbxw47 (by omega)
      have k51 := k38.below hbxw47 (by omega)
      have k52 := k39.below hbxw47 (by omega)
      have lo53 := lo40.trans (hbxw47.mono (by omega))
      clear k37 k36 k38 k39 lo40 hbxw47
      go_upto_region 4 with fail
      refine wp_region_lit ?_
      try simp only [pA]
      change wpList _ _ _ ((_ :: _ :: []) ++ (_ :: _ :: _ :: [])) _ _
      refine wpList_prefix (C := fun w' => ∃ x : Later M48 xw47, w' = x.w') _ _ _ _ ⟨⟨_, Below.refl _ _⟩, rfl⟩ ?_
      refine later_val (fun q => run_bd 41 _ rfl (cellsOf (rC ⟨zeroN, 0#64, 0#64, 0#64, 0#64⟩) 6) (by kernel_rfl) q.w') (by rfl) ?_; simp only [pA]
      refine later_val (fun q => run_bd 41 _ rfl (cellsOf (rC ⟨zeroN, 0#64, 0#64, 0#64, 0#64⟩) 6) (by kernel_rfl) q.w') (by rfl) ?_; simp only [pA]
      refine wpQuiet_nil (laterE hM48 ?_)
      intro xw54 M55 hbxw54 hM55 lM55
      have k56 := k49.below hbxw54 (by omega)
      have k57 := k50.below hbxw54 (by omega)
      have k58 := k51.below hbxw54 (by omega)
      have k59 := k52.below hbxw54 (by omega)
      have lo60 := lo53.trans (hbxw54.mono (by omega))
      clear k49 k50 k51 k52 lo53 hbxw54
      refine wpl_store rfl 41 (.tmp 10) (.tmp 41) rfl (N + 1 + 1) 6 (rC ⟨zeroN, 0#64, 0#64, 0#64, 0#64⟩) rfl rfl 41 _ k58 szR (fun j _ => rC_one _ j) ?_
      intro xw61 t62 k63; try simp only [pA]
      have k64 := k56.touch t62 (by omega)
      have k65 := k57.touch t62 (by omega)
      have k66 := k59.touch t62 (by omega)
      have lo67 := t62.below lo60 (by omega)
      have h68 := t62.sz hM55
      clear k58 k56 k57 k59 lo60 hM55 t62
      refine wpl_store rfl 41 (.tmp 11) (.tmp 42) rfl (N + 1 + 1 + 1) 6 (rC ⟨zeroN, 0#64, 0#64, 0#64, 0#64⟩) rfl rfl 41 _ k66 szR (fun j _ => rC_one _ j) ?_
      intro xw69 t70 k71; try simp only [pA]
      have k72 := k64.touch t70 (by omega)
      have k73 := k65.touch t70 (by omega)
      have k74 := k63.touch t70 (by omega)
      have lo75 := t70.below lo67 (by omega)
      have h76 := t70.sz h68
      clear k66 k64 k65 k63 lo67 h68 t70
      refine wpl_run rfl (Value.bool false) _ (run_as (x := (.const (.bool false))) rfl _ rfl) ?_; simp only [pA]
      obtain ⟨M77, hM77⟩ := sz_some xw69
      have lt_78 := k72.ltN hM77
      have lt_79 := k73.ltN hM77
      have lt_80 := k74.ltN hM77
      have lt_81 := k71.ltN hM77
      go_wp2_with fail
      refine post_rrb rfl (N + 1 + 1) (N + 1 + 1 + 1) rfl rfl k74 k71 undR undR szR szR rfl rfl ?_
      exact ⟨by rw [ER.out]; first | rfl | (simp only [refZ, H1_.out, H2_.out, bB] <;> rfl), lo75⟩
    · have H2_ := hid h2_
      clear h2_
      have CS26 := fun w N hN => Near_any b w N hN
      rw [H2_.out] at CS26
      go_upto_region 2 with fail
      refine wp_region_lit ?_
      try simp only [pA]
      change wpList _ _ _ ((_ :: _ :: _ :: _ :: _ :: []) ++ (_ :: _ :: [])) _ _
      refine wpList_prefix (C := fun w' => ∃ x : Later M21 xw13, w' = x.w') _ _ _ _ ⟨⟨_, Below.refl _ _⟩, rfl⟩ ?_
      refine later_row hM21 41 (.tmp 8) rfl ((N + 1)) rfl 41 6 _ k16 undR szR (by rfl) ?_; simp only [pA]
      go_big_quiet_step ((go_at_call 69; exact later_of hM21 _ (fun K hK hKN => CS26 _ K hK)))
      iterate 3 (go_big_quiet_step (fail))
      refine wpQuiet_nil (laterE hM21 ?_)
      intro xw27 M28 hbxw27 hM28 lM28
      have k29 := k15.below hbxw27 (by omega)
      have k30 := k16.below hbxw27 (by omega)
      have k31 := k17.below hbxw27 (by omega)
      have k32 := k18.below hbxw27 (by omega)
      have lo33 := lo19.trans (hbxw27.mono (by omega))
      clear k15 k16 k17 k18 lo19 hbxw27
      refine wpl_store rfl 41 (.tmp 8) (.tmp 25) rfl (N + 1) 6 (rC (nearF b).1) rfl rfl 41 _ k30 szR (fun j _ => rC_one _ j) ?_
      intro xw34 t35 k36; try simp only [pA]
      have k37 := k29.touch t35 (by omega)
      have k38 := k31.touch t35 (by omega)
      have k39 := k32.touch t35 (by omega)
      have lo40 := t35.below lo33 (by omega)
      have h41 := t35.sz hM28
      clear k30 k29 k31 k32 lo33 hM28 t35
      refine wpl_run rfl (Value.bool true) _ (run_as (x := (.tmp 26)) rfl _ rfl) ?_; simp only [pA]
      obtain ⟨M42, hM42⟩ := sz_some xw34
      have lt_43 := k37.ltN hM42
      have lt_44 := k36.ltN hM42
      have lt_45 := k38.ltN hM42
      have lt_46 := k39.ltN hM42
      go_upto_region 3 with fail
      refine wp_region_later1 (M42) ?_
      try simp only [pA]
      iterate 14 (go_big_quiet_step (fail))
      refine wpQuiet_nil (laterE hM42 ?_)
      intro xw47 M48 hbxw47 hM48 lM48
      have k49 := k37.below hbxw47 (by omega)
      have k50 := k36.below hbxw47 (by omega)
      have k51 := k38.below hbxw47 (by omega)
      have k52 := k39.below hbxw47 (by omega)
      have lo53 := lo40.trans (hbxw47.mono (by omega))
      clear k37 k36 k38 k39 lo40 hbxw47
      go_upto_region 4 with fail
      refine wp_region_lit ?_
      try simp only [pA]
      change wpList _ _ _ ((_ :: _ :: []) ++ (_ :: _ :: _ :: [])) _ _
      refine wpList_prefix (C := fun w' => ∃ x : Later M48 xw47, w' = x.w') _ _ _ _ ⟨⟨_, Below.refl _ _⟩, rfl⟩ ?_
      refine later_val (fun q => run_bd 41 _ rfl (cellsOf (rC ⟨zeroN, 0#64, 0#64, 0#64, 0#64⟩) 6) (by kernel_rfl) q.w') (by rfl) ?_; simp only [pA]
      refine later_val (fun q => run_bd 41 _ rfl (cellsOf (rC ⟨zeroN, 0#64, 0#64, 0#64, 0#64⟩) 6) (by kernel_rfl) q.w') (by rfl) ?_; simp only [pA]
      refine wpQuiet_nil (laterE hM48 ?_)
      intro xw54 M55 hbxw54 hM55 lM55
      have k56 := k49.below hbxw54 (by omega)
      have k57 := k50.below hbxw54 (by omega)
      have k58 := k51.below hbxw54 (by omega)
      have k59 := k52.below hbxw54 (by omega)
      have lo60 := lo53.trans (hbxw54.mono (by omega))
      clear k49 k50 k51 k52 lo53 hbxw54
      refine wpl_store rfl 41 (.tmp 10) (.tmp 41) rfl (N + 1 + 1) 6 (rC ⟨zeroN, 0#64, 0#64, 0#64, 0#64⟩) rfl rfl 41 _ k58 szR (fun j _ => rC_one _ j) ?_
      intro xw61 t62 k63; try simp only [pA]
      have k64 := k56.touch t62 (by omega)
      have k65 := k57.touch t62 (by omega)
      have k66 := k59.touch t62 (by omega)
      have lo67 := t62.below lo60 (by omega)
      have h68 := t62.sz hM55
      clear k58 k56 k57 k59 lo60 hM55 t62
      refine wpl_store rfl 41 (.tmp 11) (.tmp 42) rfl (N + 1 + 1 + 1) 6 (rC ⟨zeroN, 0#64, 0#64, 0#64, 0#64⟩) rfl rfl 41 _ k66 szR (fun j _ => rC_one _ j) ?_
      intro xw69 t70 k71; try simp only [pA]
      have k72 := k64.touch t70 (by omega)
      have k73 := k65.touch t70 (by omega)
      have k74 := k63.touch t70 (by omega)
      have lo75 := t70.below lo67 (by omega)
      have h76 := t70.sz h68
      clear k66 k64 k65 k63 lo67 h68 t70
      refine wpl_run rfl (Value.bool false) _ (run_as (x := (.const (.bool false))) rfl _ rfl) ?_; simp only [pA]
      obtain ⟨M77, hM77⟩ := sz_some xw69
      have lt_78 := k72.ltN hM77
      have lt_79 := k73.ltN hM77
      have lt_80 := k74.ltN hM77
      have lt_81 := k71.ltN hM77
      go_wp2_with fail
      refine post_rrb rfl (N + 1 + 1) (N + 1 + 1 + 1) rfl rfl k74 k71 undR undR szR szR rfl rfl ?_
      exact ⟨by rw [ER.out]; first | rfl | (simp only [refZ, H1_.out, H2_.out, bB] <;> rfl), lo75⟩
  · have H1_ := hid h1_
    clear h1_
    have CS5 := fun w N hN => Near_any a w N hN
    rw [H1_.out] at CS5
    go_upto_region 1 with fail
    refine wp_region_lit ?_
    try simp only [pA]
    change wpList _ _ _ ((_ :: _ :: _ :: _ :: _ :: []) ++ (_ :: _ :: [])) _ _
    refine wpList_prefix (C := fun w' => ∃ x : Later (N + 1 + 1 + 1 + 1) w4, w' = x.w') _ _ _ _ ⟨⟨_, Below.refl _ _⟩, rfl⟩ ?_
    refine later_row hN4 41 (.tmp 7) rfl (N) rfl 41 6 _ k1 undR szR (by rfl) ?_; simp only [pA]
    go_big_quiet_step ((go_at_call 69; exact later_of hN4 _ (fun K hK hKN => CS5 _ K hK)))
    iterate 3 (go_big_quiet_step (fail))
    refine wpQuiet_nil (laterE hN4 ?_)
    intro xw6 M7 hbxw6 hM7 lM7
    have k8 := k1.below hbxw6 (by omega)
    have k9 := k2.below hbxw6 (by omega)
    have k10 := k3.below hbxw6 (by omega)
    have k11 := k4.below hbxw6 (by omega)
    have lo12 := lo0.trans (hbxw6.mono (by omega))
    clear k1 k2 k3 k4 lo0 hbxw6
    refine wpl_store rfl 41 (.tmp 7) (.tmp 20) rfl N 6 (rC (nearF a).1) rfl rfl 41 _ k8 szR (fun j _ => rC_one _ j) ?_
    intro xw13 t14 k15; try simp only [pA]
    have k16 := k9.touch t14 (by omega)
    have k17 := k10.touch t14 (by omega)
    have k18 := k11.touch t14 (by omega)
    have lo19 := t14.below lo12 (by omega)
    have h20 := t14.sz hM7
    clear k8 k9 k10 k11 lo12 hM7 t14
    refine wpl_run rfl (Value.bool true) _ (run_as (x := (.tmp 21)) rfl _ rfl) ?_; simp only [pA]
    obtain ⟨M21, hM21⟩ := sz_some xw13
    have lt_22 := k15.ltN hM21
    have lt_23 := k16.ltN hM21
    have lt_24 := k17.ltN hM21
    have lt_25 := k18.ltN hM21
    cases h2_ : (nearF b).2
    · have H2_ := hid h2_
      clear h2_
      have CS26 := fun w N hN => Near_any b w N hN
      rw [H2_.out] at CS26
      go_upto_region 2 with fail
      refine wp_region_lit ?_
      try simp only [pA]
      change wpList _ _ _ ((_ :: _ :: _ :: _ :: _ :: []) ++ (_ :: _ :: [])) _ _
      refine wpList_prefix (C := fun w' => ∃ x : Later M21 xw13, w' = x.w') _ _ _ _ ⟨⟨_, Below.refl _ _⟩, rfl⟩ ?_
      refine later_row hM21 41 (.tmp 8) rfl ((N + 1)) rfl 41 6 _ k16 undR szR (by rfl) ?_; simp only [pA]
      go_big_quiet_step ((go_at_call 69; exact later_of hM21 _ (fun K hK hKN => CS26 _ K hK)))
      iterate 3 (go_big_quiet_step (fail))
      refine wpQuiet_nil (laterE hM21 ?_)
      intro xw27 M28 hbxw27 hM28 lM28
      have k29 := k15.below hbxw27 (by omega)
      have k30 := k16.below hbxw27 (by omega)
      have k31 := k17.below hbxw27 (by omega)
      have k32 := k18.below hbxw27 (by omega)
      have lo33 := lo19.trans (hbxw27.mono (by omega))
      clear k15 k16 k17 k18 lo19 hbxw27
      refine wpl_store rfl 41 (.tmp 8) (.tmp 25) rfl (N + 1) 6 (rC (nearF b).1) rfl rfl 41 _ k30 szR (fun j _ => rC_one _ j) ?_
      intro xw34 t35 k36; try simp only [pA]
      have k37 := k29.touch t35 (by omega)
      have k38 := k31.touch t35 (by omega)
      have k39 := k32.touch t35 (by omega)
      have lo40 := t35.below lo33 (by omega)
      have h41 := t35.sz hM28
      clear k30 k29 k31 k32 lo33 hM28 t35
      refine wpl_run rfl (Value.bool false) _ (run_as (x := (.tmp 26)) rfl _ rfl) ?_; simp only [pA]
      obtain ⟨M42, hM42⟩ := sz_some xw34
      have lt_43 := k37.ltN hM42
      have lt_44 := k36.ltN hM42
      have lt_45 := k38.ltN hM42
      have lt_46 := k39.ltN hM42
      go_upto_region 3 with fail
      refine wp_region_later1 (M42) ?_
      try simp only [pA]
      iterate 14 (go_big_quiet_step (fail))
      refine wpQuiet_nil (laterE hM42 ?_)
      intro xw47 M48 hbxw47 hM48 lM48
      have k49 := k37.below hbxw47 (by omega)
      have k50 := k36.below hbxw47 (by omega)
      have k51 := k38.below hbxw47 (by omega)
      have k52 := k39.below hbxw47 (by omega)
      have lo53 := lo40.trans (hbxw47.mono (by omega))
      clear k37 k36 k38 k39 lo40 hbxw47
      go_upto_region 4 with fail
      refine wp_region_lit ?_
      try simp only [pA]
      change wpList _ _ _ ((_ :: _ :: []) ++ (_ :: _ :: _ :: [])) _ _
      refine wpList_prefix (C := fun w' => ∃ x : Later M48 xw47, w' = x.w') _ _ _ _ ⟨⟨_, Below.refl _ _⟩, rfl⟩ ?_
      refine later_val (fun q => run_bd 41 _ rfl (cellsOf (rC ⟨zeroN, 0#64, 0#64, 0#64, 0#64⟩) 6) (by kernel_rfl) q.w') (by rfl) ?_; simp only [pA]
      refine later_val (fun q => run_bd 41 _ rfl (cellsOf (rC ⟨zeroN, 0#64, 0#64, 0#64, 0#64⟩) 6) (by kernel_rfl) q.w') (by rfl) ?_; simp only [pA]
      refine wpQuiet_nil (laterE hM48 ?_)
      intro xw54 M55 hbxw54 hM55 lM55
      have k56 := k49.below hbxw54 (by omega)
      have k57 := k50.below hbxw54 (by omega)
      have k58 := k51.below hbxw54 (by omega)
      have k59 := k52.below hbxw54 (by omega)
      have lo60 := lo53.trans (hbxw54.mono (by omega))
      clear k49 k50 k51 k52 lo53 hbxw54
      refine wpl_store rfl 41 (.tmp 10) (.tmp 41) rfl (N + 1 + 1) 6 (rC ⟨zeroN, 0#64, 0#64, 0#64, 0#64⟩) rfl rfl 41 _ k58 szR (fun j _ => rC_one _ j) ?_
      intro xw61 t62 k63; try simp only [pA]
      have k64 := k56.touch t62 (by omega)
      have k65 := k57.touch t62 (by omega)
      have k66 := k59.touch t62 (by omega)
      have lo67 := t62.below lo60 (by omega)
      have h68 := t62.sz hM55
      clear k58 k56 k57 k59 lo60 hM55 t62
      refine wpl_store rfl 41 (.tmp 11) (.tmp 42) rfl (N + 1 + 1 + 1) 6 (rC ⟨zeroN, 0#64, 0#64, 0#64, 0#64⟩) rfl rfl 41 _ k66 szR (fun j _ => rC_one _ j) ?_
      intro xw69 t70 k71; try simp only [pA]
      have k72 := k64.touch t70 (by omega)
      have k73 := k65.touch t70 (by omega)
      have k74 := k63.touch t70 (by omega)
      have lo75 := t70.below lo67 (by omega)
      have h76 := t70.sz h68
      clear k66 k64 k65 k63 lo67 h68 t70
      refine wpl_run rfl (Value.bool false) _ (run_as (x := (.const (.bool false))) rfl _ rfl) ?_; simp only [pA]
      obtain ⟨M77, hM77⟩ := sz_some xw69
      have lt_78 := k72.ltN hM77
      have lt_79 := k73.ltN hM77
      have lt_80 := k74.ltN hM77
      have lt_81 := k71.ltN hM77
      go_wp2_with fail
      refine post_rrb rfl (N + 1 + 1) (N + 1 + 1 + 1) rfl rfl k74 k71 undR undR szR szR rfl rfl ?_
      exact ⟨by rw [ER.out]; first | rfl | (simp only [refZ, H1_.out, H2_.out, bB] <;> rfl), lo75⟩
    · have H2_ := hid h2_
      clear h2_
      have CS26 := fun w N hN => Near_any b w N hN
      rw [H2_.out] at CS26
      go_upto_region 2 with fail
      refine wp_region_lit ?_
      try simp only [pA]
      change wpList _ _ _ ((_ :: _ :: _ :: _ :: _ :: []) ++ (_ :: _ :: [])) _ _
      refine wpList_prefix (C := fun w' => ∃ x : Later M21 xw13, w' = x.w') _ _ _ _ ⟨⟨_, Below.refl _ _⟩, rfl⟩ ?_
      refine later_row hM21 41 (.tmp 8) rfl ((N + 1)) rfl 41 6 _ k16 undR szR (by rfl) ?_; simp only [pA]
      go_big_quiet_step ((go_at_call 69; exact later_of hM21 _ (fun K hK hKN => CS26 _ K hK)))
      iterate 3 (go_big_quiet_step (fail))
      refine wpQuiet_nil (laterE hM21 ?_)
      intro xw27 M28 hbxw27 hM28 lM28
      have k29 := k15.below hbxw27 (by omega)
      have k30 := k16.below hbxw27 (by omega)
      have k31 := k17.below hbxw27 (by omega)
      have k32 := k18.below hbxw27 (by omega)
      have lo33 := lo19.trans (hbxw27.mono (by omega))
      clear k15 k16 k17 k18 lo19 hbxw27
      refine wpl_store rfl 41 (.tmp 8) (.tmp 25) rfl (N + 1) 6 (rC (nearF b).1) rfl rfl 41 _ k30 szR (fun j _ => rC_one _ j) ?_
      intro xw34 t35 k36; try simp only [pA]
      have k37 := k29.touch t35 (by omega)
      have k38 := k31.touch t35 (by omega)
      have k39 := k32.touch t35 (by omega)
      have lo40 := t35.below lo33 (by omega)
      have h41 := t35.sz hM28
      clear k30 k29 k31 k32 lo33 hM28 t35
      refine wpl_run rfl (Value.bool true) _ (run_as (x := (.tmp 26)) rfl _ rfl) ?_; simp only [pA]
      obtain ⟨M42, hM42⟩ := sz_some xw34
      have lt_43 := k37.ltN hM42
      have lt_44 := k36.ltN hM42
      have lt_45 := k38.ltN hM42
      have lt_46 := k39.ltN hM42
      go_upto_region 3 with fail
      refine wp_region_later1 (M42) ?_
      try simp only [pA]
      iterate 10 (go_big_quiet_step (fail))
      go_big_quiet_step ((go_at_call 70; exact later_of hM42 _ (fun K hK hKN => hopp _ K hK)))
      iterate 3 (go_big_quiet_step (fail))
      refine wpQuiet_nil (laterE hM42 ?_)
      intro xw47 M48 hbxw47 hM48 lM48
      have k49 := k37.below hbxw47 (by omega)
      have k50 := k36.below hbxw47 (by omega)
      have k51 := k38.below hbxw47 (by omega)
      have k52 := k39.below hbxw47 (by omega)
      have lo53 := lo40.trans (hbxw47.mono (by omega))
      clear k37 k36 k38 k39 lo40 hbxw47
      go_upto_region 4 with fail
      refine wp_region_lit ?_
      try simp only [pA]
      change wpList _ _ _ ((_ :: _ :: []) ++ (_ :: _ :: _ :: [])) _ _
      refine wpList_prefix (C := fun w' => ∃ x : Later M48 xw47, w' = x.w') _ _ _ _ ⟨⟨_, Below.refl _ _⟩, rfl⟩ ?_
      refine later_val (fun q => run_bd 41 _ rfl (cellsOf (rC ⟨zeroN, 0#64, 0#64, 0#64, 0#64⟩) 6) (by kernel_rfl) q.w') (by rfl) ?_; simp only [pA]
      refine later_val (fun q => run_bd 41 _ rfl (cellsOf (rC ⟨zeroN, 0#64, 0#64, 0#64, 0#64⟩) 6) (by kernel_rfl) q.w') (by rfl) ?_; simp only [pA]
      refine wpQuiet_nil (laterE hM48 ?_)
      intro xw54 M55 hbxw54 hM55 lM55
      have k56 := k49.below hbxw54 (by omega)
      have k57 := k50.below hbxw54 (by omega)
      have k58 := k51.below hbxw54 (by omega)
      have k59 := k52.below hbxw54 (by omega)
      have lo60 := lo53.trans (hbxw54.mono (by omega))
      clear k49 k50 k51 k52 lo53 hbxw54
      refine wpl_store rfl 41 (.tmp 10) (.tmp 41) rfl (N + 1 + 1) 6 (rC ⟨zeroN, 0#64, 0#64, 0#64, 0#64⟩) rfl rfl 41 _ k58 szR (fun j _ => rC_one _ j) ?_
      intro xw61 t62 k63; try simp only [pA]
      have k64 := k56.touch t62 (by omega)
      have k65 := k57.touch t62 (by omega)
      have k66 := k59.touch t62 (by omega)
      have lo67 := t62.below lo60 (by omega)
      have h68 := t62.sz hM55
      clear k58 k56 k57 k59 lo60 hM55 t62
      refine wpl_store rfl 41 (.tmp 11) (.tmp 42) rfl (N + 1 + 1 + 1) 6 (rC ⟨zeroN, 0#64, 0#64, 0#64, 0#64⟩) rfl rfl 41 _ k66 szR (fun j _ => rC_one _ j) ?_
      intro xw69 t70 k71; try simp only [pA]
      have k72 := k64.touch t70 (by omega)
      have k73 := k65.touch t70 (by omega)
      have k74 := k63.touch t70 (by omega)
      have lo75 := t70.below lo67 (by omega)
      have h76 := t70.sz h68
      clear k66 k64 k65 k63 lo67 h68 t70
      refine wpl_run rfl (Value.bool false) _ (run_as (x := (.const (.bool false))) rfl _ rfl) ?_; simp only [pA]
      obtain ⟨M77, hM77⟩ := sz_some xw69
      have lt_78 := k72.ltN hM77
      have lt_79 := k73.ltN hM77
      have lt_80 := k74.ltN hM77
      have lt_81 := k71.ltN hM77
      go_wp2_with fail
      refine post_rrb rfl (N + 1 + 1) (N + 1 + 1 + 1) rfl rfl k74 k71 undR undR szR szR rfl rfl ?_
      exact ⟨by rw [ER.out]; first | rfl | (simp only [refZ, H1_.out, H2_.out, bB] <;> rfl), lo75⟩
end Go.Proofs.Ytmdcopmgkhjfnaa
