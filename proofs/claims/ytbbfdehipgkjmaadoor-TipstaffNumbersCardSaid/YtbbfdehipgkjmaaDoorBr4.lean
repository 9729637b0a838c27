/- Contracts of what a jump tells: both, the opposite, as long; equal, over, without, disjoint. -/
import Derived.Test.YtbbfdehipgkjmaaDoorBr3
import Derived.Test.YtbbfdehipgkjmaaDoorMgSe0
namespace Go.Proofs.YtbbfdehipgkjmaaDoor
open Go Go.RowKit
def bothF (a : Rn) (b : Rn) (s : Bool) : Rn × Rn × Bool :=
  bif s then (a, b, true)
  else (⟨zeroN, 0#64, 0#64, 0#64, 0#64⟩, ⟨zeroN, 0#64, 0#64, 0#64, 0#64⟩, false)
set_option maxRecDepth 100000 in
set_option maxHeartbeats 4000000 in
theorem Both_any (a : Rn) (b : Rn) (s : Bool) (w : World) (N : Nat) (hN : Sz w N) : Calls Tryd.prog 30 #[rV a, rV b, (Value.bool s)] w fun e w' => e = .returned (.tuple #[rV (bothF a b s).1, rV (bothF a b s).2.1, .bool (bothF a b s).2.2]) ∧ Below N w w' := by
  obtain ⟨rr, er⟩ : ∃ rr, rr = (bothF a b s) := ⟨_, rfl⟩
  rw [← er]
  have ER := hid er
  clear er
  unfold rV
  go_enter Tryd.func30, Tryd.ntmps30
  go_upto_region 1 with (first
    | (refine wpl_box rfl 27 (.tmp 0) rfl 6 _ rfl (N) hN ?_; intro w1 hN1 hb1 hh1)
    | (refine wpl_box rfl 27 (.tmp 1) rfl 6 _ rfl (N + 1) hN1 ?_; intro w2 hN2 hb2 hh2)
    | (refine wpl_alloc rfl 27 rfl 6 (rC zeroR) zeR (N + 1 + 1) hN2 ?_; intro w3 hN3 hb3 hh3)
    | (refine wpl_alloc rfl 27 rfl 6 (rC zeroR) zeR (N + 1 + 1 + 1) hN3 ?_; intro w4 hN4 hb4 hh4)
    | fail)
  have lo0 : Below N w w4 := (((hb1.trans (hb2.mono (by omega))).trans (hb3.mono (by omega))).trans (hb4.mono (by omega)))
  have k1 := (((hh1.below hb2 (by omega)).below hb3 (by omega)).below hb4 (by omega))
  have k2 := ((hh2.below hb3 (by omega)).below hb4 (by omega))
  have k3 := (hh3.below hb4 (by omega))
  have k4 := hh4
  clear hh1 hb1 hh2 hb2 hh3 hb3 hh4 hb4 hN1 hN2 hN3
  cases h1_ : s
  · have H1_ := hid h1_
    clear h1_
    go_upto_region 1 with fail
    refine wp_region_later1 ((N + 1 + 1 + 1 + 1)) ?_
    try simp only [pA]
    iterate 2 (go_big_quiet_step (fail))
    refine wpQuiet_nil (laterE hN4 ?_)
    intro xw5 M6 hbxw5 hM6 lM6
    have k7 := k1.below hbxw5 (by omega)
    have k8 := k2.below hbxw5 (by omega)
    have k9 := k3.below hbxw5 (by omega)
    have k10 := k4.below hbxw5 (by omega)
    have lo11 := lo0.trans (hbxw5.mono (by omega))
    clear k1 k2 k3 k4 lo0 hbxw5
    go_upto_region 2 with fail
    refine wp_region_lit ?_
    try simp only [pA]
    change wpList _ _ _ ((_ :: _ :: []) ++ (_ :: _ :: _ :: [])) _ _
    refine wpList_prefix (C := fun w' => ∃ x : Later M6 xw5, w' = x.w') _ _ _ _ ⟨⟨_, Below.refl _ _⟩, rfl⟩ ?_
    refine later_val (fun q => run_bd 27 _ rfl (cellsOf (rC ⟨zeroN, 0#64, 0#64, 0#64, 0#64⟩) 6) (by kernel_rfl) q.w') (by rfl) ?_; simp only [pA]
    refine later_val (fun q => run_bd 27 _ rfl (cellsOf (rC ⟨zeroN, 0#64, 0#64, 0#64, 0#64⟩) 6) (by kernel_rfl) q.w') (by rfl) ?_; simp only [pA]
    refine wpQuiet_nil (laterE hM6 ?_)
    intro xw12 M13 hbxw12 hM13 lM13
    have k14 := k7.below hbxw12 (by omega)
    have k15 := k8.below hbxw12 (by omega)
    have k16 := k9.below hbxw12 (by omega)
    have k17 := k10.below hbxw12 (by omega)
    have lo18 := lo11.trans (hbxw12.mono (by omega))
    clear k7 k8 k9 k10 lo11 hbxw12
    refine wpl_store rfl 27 (.tmp 6) (.tmp 11) rfl (N + 1 + 1) 6 (rC ⟨zeroN, 0#64, 0#64, 0#64, 0#64⟩) rfl rfl 27 _ k16 szR (fun j _ => rC_one _ j) ?_
    intro xw19 t20 k21; try simp only [pA]
    have k22 := k14.touch t20 (by omega)
    have k23 := k15.touch t20 (by omega)
    have k24 := k17.touch t20 (by omega)
    have lo25 := t20.below lo18 (by omega)
    have h26 := t20.sz hM13
    clear k16 k14 k15 k17 lo18 hM13 t20
    refine wpl_store rfl 27 (.tmp 7) (.tmp 12) rfl (N + 1 + 1 + 1) 6 (rC ⟨zeroN, 0#64, 0#64, 0#64, 0#64⟩) rfl rfl 27 _ k24 szR (fun j _ => rC_one _ j) ?_
    intro xw27 t28 k29; try simp only [pA]
    have k30 := k22.touch t28 (by omega)
    have k31 := k23.touch t28 (by omega)
    have k32 := k21.touch t28 (by omega)
    have lo33 := t28.below lo25 (by omega)
    have h34 := t28.sz h26
    clear k24 k22 k23 k21 lo25 h26 t28
    refine wpl_run rfl (Value.bool false) _ (run_as (x := (.const (.bool false))) rfl _ rfl) ?_; simp only [pA]
    obtain ⟨M35, hM35⟩ := sz_some xw27
    have lt_36 := k30.ltN hM35
    have lt_37 := k31.ltN hM35
    have lt_38 := k32.ltN hM35
    have lt_39 := k29.ltN hM35
    go_wp2_with fail
    refine post_rrb rfl (N + 1 + 1) (N + 1 + 1 + 1) rfl rfl k32 k29 undR undR szR szR rfl rfl ?_
    exact ⟨by rw [ER.out]; first | rfl | (simp only [bothF, H1_.out, bB] <;> rfl), lo33⟩
  · have H1_ := hid h1_
    clear h1_
    go_upto_region 1 with fail
    refine wp_region_later1 ((N + 1 + 1 + 1 + 1)) ?_
    try simp only [pA]
    iterate 2 (go_big_quiet_step (fail))
    refine wpQuiet_nil (laterE hN4 ?_)
    intro xw5 M6 hbxw5 hM6 lM6
    have k7 := k1.below hbxw5 (by omega)
    have k8 := k2.below hbxw5 (by omega)
    have k9 := k3.below hbxw5 (by omega)
    have k10 := k4.below hbxw5 (by omega)
    have lo11 := lo0.trans (hbxw5.mono (by omega))
    clear k1 k2 k3 k4 lo0 hbxw5
    go_upto_region 3 with fail
    refine wp_region_held (S := fun w' => (Has w' (N + 1) 27 6 (rC b)) ∧ (Has w' N 27 6 (rC a))) (by kernel_rfl) ?_
    replace k7 : Has xw5.drew N 27 6 (rC a) := k7
    replace k8 : Has xw5.drew (N + 1) 27 6 (rC b) := k8
    replace k9 : Has xw5.drew (N + 1 + 1) 27 6 (rC zeroR) := k9
    replace k10 : Has xw5.drew (N + 1 + 1 + 1) 27 6 (rC zeroR) := k10
    replace hM6 : Sz xw5.drew M6 := hM6
    replace lo11 : Below N w xw5.drew := lo11.drew
    change wpAnyH _ _ _ _ _ _ _ _ (World.drew _)
    generalize xw5.drew = xw12 at *
    refine held_take (i := 0) (v := (Value.agg (cellsOf (rC a) 6))) (d := some 13) rfl (by kernel_rfl) (by kernel_rfl) (by kernel_rfl) (by kernel_rfl) (fun _ _ _ h => h) (Or.inl ⟨by rfl, fun wq ⟨hq0, hq1⟩ => run_rw 27 (.tmp 3) rfl N rfl 27 6 _ hq1 undR szR⟩) ⟨k8, k7⟩ ?_; simp only [pA]
    refine held_take (i := 1) (v := (Value.agg (cellsOf (rC b) 6))) (d := some 14) rfl (by kernel_rfl) (by kernel_rfl) (by kernel_rfl) (by kernel_rfl) (fun _ _ _ h => h) (Or.inl ⟨by rfl, fun wq ⟨hq0, hq1⟩ => run_rw 27 (.tmp 4) rfl (N + 1) rfl 27 6 _ hq0 undR szR⟩) ⟨k8, k7⟩ ?_; simp only [pA]
    refine wpAnyH_all (rs := [2]) (by kernel_rfl) (by simp) ?_
    intro iq hiq; simp only [List.mem_singleton] at hiq; subst hiq
    refine opg_list rfl ?_
    refine wpl_storeN (by rfl) (by kernel_rfl) 27 (.tmp 6) (.tmp 13) rfl (N + 1 + 1) 6 (rC a) rfl rfl 27 _ k9 szR (fun j _ => rC_one _ j) ?_
    intro xw13 t14 k15; try simp only [pA]
    have k16 := k7.touch t14 (by omega)
    have k17 := k8.touch t14 (by omega)
    have k18 := k10.touch t14 (by omega)
    have lo19 := t14.below lo11 (by omega)
    have h20 := t14.sz hM6
    clear k9 k7 k8 k10 lo11 hM6 t14
    refine ⟨⟨k17, k16⟩, ?_⟩
    refine wpAnyH_all (rs := [3]) (by kernel_rfl) (by simp) ?_
    intro iq hiq; simp only [List.mem_singleton] at hiq; subst hiq
    refine opg_list rfl ?_
    refine wpl_storeN (by rfl) (by kernel_rfl) 27 (.tmp 7) (.tmp 14) rfl (N + 1 + 1 + 1) 6 (rC b) rfl rfl 27 _ k18 szR (fun j _ => rC_one _ j) ?_
    intro xw21 t22 k23; try simp only [pA]
    have k24 := k16.touch t22 (by omega)
    have k25 := k17.touch t22 (by omega)
    have k26 := k15.touch t22 (by omega)
    have lo27 := t22.below lo19 (by omega)
    have h28 := t22.sz h20
    clear k18 k16 k17 k15 lo19 h20 t22
    refine ⟨⟨k25, k24⟩, ?_⟩
    refine held_take (i := 4) (v := (Value.bool true)) (d := some 8) rfl (by kernel_rfl) (by kernel_rfl) (by kernel_rfl) (by kernel_rfl) (fun _ _ _ h => h) (Or.inl ⟨by rfl, fun wq ⟨hq0, hq1⟩ => run_as (x := (.const (.bool true))) rfl wq rfl⟩) ⟨k25, k24⟩ ?_; simp only [pA]
    refine wpAnyH_done (by kernel_rfl) ?_ _
    obtain ⟨M29, hM29⟩ := sz_some xw21
    have lt_30 := k24.ltN hM29
    have lt_31 := k25.ltN hM29
    have lt_32 := k26.ltN hM29
    have lt_33 := k23.ltN hM29
    go_wp2_with fail
    refine post_rrb rfl (N + 1 + 1) (N + 1 + 1 + 1) rfl rfl k26 k23 undR undR szR szR rfl rfl ?_
    exact ⟨by rw [ER.out]; first | rfl | (simp only [bothF, H1_.out, bB] <;> rfl), lo27⟩
def withoutF (a : Rn) (b : Rn) : Rn :=
  bif (aloneF b) then bif (a.lo == b.lo) then bif (a.hi == b.hi) then ⟨a.b, (a.lo + 1#64), (a.hi - 1#64), a.sl, a.sh⟩
      else ⟨a.b, (a.lo + 1#64), a.hi, a.sl, a.sh⟩
    else bif (a.hi == b.hi) then ⟨a.b, a.lo, (a.hi - 1#64), a.sl, a.sh⟩
    else a
  else a
set_option maxRecDepth 100000 in
set_option maxHeartbeats 4000000 in
theorem Without_any (a : Rn) (b : Rn) (w : World) (N : Nat) (hN : Sz w N) : Calls Tryd.prog 57 #[rV a, rV b] w fun e w' => e = .returned (rV (withoutF a b)) ∧ Below N w w' := by
  obtain ⟨rr, er⟩ : ∃ rr, rr = (withoutF a b) := ⟨_, rfl⟩
  rw [← er]
  have ER := hid er
  clear er
  unfold rV
  go_enter Tryd.func57, Tryd.ntmps57
  go_upto_region 1 with (first
    | (refine wpl_box rfl 27 (.tmp 0) rfl 6 _ rfl (N) hN ?_; intro w1 hN1 hb1 hh1)
    | (refine wpl_box rfl 27 (.tmp 1) rfl 6 _ rfl (N + 1) hN1 ?_; intro w2 hN2 hb2 hh2)
    | (refine wpl_alloc rfl 27 rfl 6 (rC zeroR) zeR (N + 1 + 1) hN2 ?_; intro w3 hN3 hb3 hh3)
    | fail)
  have lo0 : Below N w w3 := ((hb1.trans (hb2.mono (by omega))).trans (hb3.mono (by omega)))
  have k1 := ((hh1.below hb2 (by omega)).below hb3 (by omega))
  have k2 := (hh2.below hb3 (by omega))
  have k3 := hh3
  clear hh1 hb1 hh2 hb2 hh3 hb3 hN1 hN2
  cases h1_ : (aloneF b)
  · have H1_ := hid h1_
    clear h1_
    go_upto_region 1 with fail
    refine wp_region_later1 ((N + 1 + 1 + 1)) ?_
    try simp only [pA]
    refine later_row hN3 27 (.tmp 3) rfl ((N + 1)) rfl 27 6 _ k2 undR szR (by rfl) ?_; simp only [pA]
    go_big_quiet_step ((go_at_call 29; exact later_of hN3 _ (fun K hK hKN => ret_is H1_.out (Alone_any b) _ K hK)))
    go_big_quiet_step (fail)
    refine wpQuiet_nil (laterE hN3 ?_)
    intro xw4 M5 hbxw4 hM5 lM5
    have k6 := k1.below hbxw4 (by omega)
    have k7 := k2.below hbxw4 (by omega)
    have k8 := k3.below hbxw4 (by omega)
    have lo9 := lo0.trans (hbxw4.mono (by omega))
    clear k1 k2 k3 lo0 hbxw4
    go_upto_region 2 with fail
    refine wp_region_lit ?_
    try simp only [pA]
    change wpList _ _ _ ((_ :: []) ++ (_ :: [])) _ _
    refine wpList_prefix (C := fun w' => ∃ x : Later M5 xw4, w' = x.w') _ _ _ _ ⟨⟨_, Below.refl _ _⟩, rfl⟩ ?_
    refine later_row hM5 27 (.tmp 2) rfl (N) rfl 27 6 _ k6 undR szR (by rfl) ?_; simp only [pA]
    refine wpQuiet_nil (laterE hM5 ?_)
    intro xw10 M11 hbxw10 hM11 lM11
    have k12 := k6.below hbxw10 (by omega)
    have k13 := k7.below hbxw10 (by omega)
    have k14 := k8.below hbxw10 (by omega)
    have lo15 := lo9.trans (hbxw10.mono (by omega))
    clear k6 k7 k8 lo9 hbxw10
    refine wpl_store rfl 27 (.tmp 4) (.tmp 8) rfl (N + 1 + 1) 6 (rC a) rfl rfl 27 _ k14 szR (fun j _ => rC_one _ j) ?_
    intro xw16 t17 k18; try simp only [pA]
    have k19 := k12.touch t17 (by omega)
    have k20 := k13.touch t17 (by omega)
    have lo21 := t17.below lo15 (by omega)
    have h22 := t17.sz hM11
    clear k14 k12 k13 lo15 hM11 t17
    obtain ⟨M23, hM23⟩ := sz_some xw16
    have lt_24 := k19.ltN hM23
    have lt_25 := k20.ltN hM23
    have lt_26 := k18.ltN hM23
    go_wp2_with fail
    refine post_r rfl (N + 1 + 1) rfl k18 undR szR rfl ?_
    exact ⟨by rw [ER.out]; first | rfl | (simp only [withoutF, H1_.out, bB] <;> rfl), lo21⟩
  · have H1_ := hid h1_
    clear h1_
    go_upto_region 1 with fail
    refine wp_region_later1 ((N + 1 + 1 + 1)) ?_
    try simp only [pA]
    refine later_row hN3 27 (.tmp 3) rfl ((N + 1)) rfl 27 6 _ k2 undR szR (by rfl) ?_; simp only [pA]
    go_big_quiet_step ((go_at_call 29; exact later_of hN3 _ (fun K hK hKN => ret_is H1_.out (Alone_any b) _ K hK)))
    go_big_quiet_step (fail)
    refine wpQuiet_nil (laterE hN3 ?_)
    intro xw4 M5 hbxw4 hM5 lM5
    have k6 := k1.below hbxw4 (by omega)
    have k7 := k2.below hbxw4 (by omega)
    have k8 := k3.below hbxw4 (by omega)
    have lo9 := lo0.trans (hbxw4.mono (by omega))
    clear k1 k2 k3 lo0 hbxw4
    cases h2_ : (a.lo == b.lo)
    · have H2_ := hid h2_
      clear h2_
      go_upto_region 3 with fail
      obtain ⟨c10, c11, c12, c13, c14, c15⟩ := r_cells k6
      obtain ⟨c16, c17, c18, c19, c20, c21⟩ := r_cells k7
      refine wp_region_later1 (M5) ?_
      try simp only [pA]
      go_big_quiet_step (fail)
      refine later_c1 hM5 23 (.tmp 9) rfl rfl und64 rfl c12 (by rfl) ?_; simp only [pA]
      go_big_quiet_step (fail)
      refine later_c1 hM5 23 (.tmp 11) rfl rfl und64 rfl c18 (by rfl) ?_; simp only [pA]
      refine later_b (x := (.tmp 10)) (y := (.tmp 12)) rfl (BinRun.is H2_.out (bin_eql _ a.lo b.lo)) rfl rfl (by rfl) ?_; simp only [pA]
      refine wpQuiet_nil (laterE hM5 ?_)
      intro xw22 M23 hbxw22 hM23 lM23
      have k24 := k6.below hbxw22 (by omega)
      have k25 := k7.below hbxw22 (by omega)
      have k26 := k8.below hbxw22 (by omega)
      have lo27 := lo9.trans (hbxw22.mono (by omega))
      clear k6 c10 c11 c12 c13 c14 c15 k7 c16 c17 c18 c19 c20 c21 k8 lo9 hbxw22
      cases h3_ : (a.hi == b.hi)
      · have H3_ := hid h3_
        clear h3_
        go_upto_region 5 with fail
        obtain ⟨c28, c29, c30, c31, c32, c33⟩ := r_cells k24
        obtain ⟨c34, c35, c36, c37, c38, c39⟩ := r_cells k25
        refine wp_region_later1 (M23) ?_
        try simp only [pA]
        go_big_quiet_step (fail)
        refine later_c1 hM23 23 (.tmp 18) rfl rfl und64 rfl c31 (by rfl) ?_; simp only [pA]
        go_big_quiet_step (fail)
        refine later_c1 hM23 23 (.tmp 20) rfl rfl und64 rfl c37 (by rfl) ?_; simp only [pA]
        refine later_b (x := (.tmp 19)) (y := (.tmp 21)) rfl (BinRun.is H3_.out (bin_eql _ a.hi b.hi)) rfl rfl (by rfl) ?_; simp only [pA]
        refine wpQuiet_nil (laterE hM23 ?_)
        intro xw40 M41 hbxw40 hM41 lM41
        have k42 := k24.below hbxw40 (by omega)
        have k43 := k25.below hbxw40 (by omega)
        have k44 := k26.below hbxw40 (by omega)
        have lo45 := lo27.trans (hbxw40.mono (by omega))
        clear k24 c28 c29 c30 c31 c32 c33 k25 c34 c35 c36 c37 c38 c39 k26 lo27 hbxw40
        go_upto_region 7 with fail
        refine wp_region_lit ?_
        try simp only [pA]
        change wpList _ _ _ ((_ :: []) ++ (_ :: [])) _ _
        refine wpList_prefix (C := fun w' => ∃ x : Later M41 xw40, w' = x.w') _ _ _ _ ⟨⟨_, Below.refl _ _⟩, rfl⟩ ?_
        refine later_row hM41 27 (.tmp 2) rfl (N) rfl 27 6 _ k42 undR szR (by rfl) ?_; simp only [pA]
        refine wpQuiet_nil (laterE hM41 ?_)
        intro xw46 M47 hbxw46 hM47 lM47
        have k48 := k42.below hbxw46 (by omega)
        have k49 := k43.below hbxw46 (by omega)
        have k50 := k44.below hbxw46 (by omega)
        have lo51 := lo45.trans (hbxw46.mono (by omega))
        clear k42 k43 k44 lo45 hbxw46
        refine wpl_store rfl 27 (.tmp 4) (.tmp 27) rfl (N + 1 + 1) 6 (rC a) rfl rfl 27 _ k50 szR (fun j _ => rC_one _ j) ?_
        intro xw52 t53 k54; try simp only [pA]
        have k55 := k48.touch t53 (by omega)
        have k56 := k49.touch t53 (by omega)
        have lo57 := t53.below lo51 (by omega)
        have h58 := t53.sz hM47
        clear k50 k48 k49 lo51 hM47 t53
        obtain ⟨M59, hM59⟩ := sz_some xw52
        have lt_60 := k55.ltN hM59
        have lt_61 := k56.ltN hM59
        have lt_62 := k54.ltN hM59
        go_wp2_with fail
        refine post_r rfl (N + 1 + 1) rfl k54 undR szR rfl ?_
        exact ⟨by rw [ER.out]; first | rfl | (simp only [withoutF, H1_.out, H2_.out, H3_.out, bB] <;> rfl), lo57⟩
      · have H3_ := hid h3_
        clear h3_
        go_upto_region 5 with fail
        obtain ⟨c28, c29, c30, c31, c32, c33⟩ := r_cells k24
        obtain ⟨c34, c35, c36, c37, c38, c39⟩ := r_cells k25
        refine wp_region_later1 (M23) ?_
        try simp only [pA]
        go_big_quiet_step (fail)
        refine later_c1 hM23 23 (.tmp 18) rfl rfl und64 rfl c31 (by rfl) ?_; simp only [pA]
        go_big_quiet_step (fail)
        refine later_c1 hM23 23 (.tmp 20) rfl rfl und64 rfl c37 (by rfl) ?_; simp only [pA]
        refine later_b (x := (.tmp 19)) (y := (.tmp 21)) rfl (BinRun.is H3_.out (bin_eql _ a.hi b.hi)) rfl rfl (by rfl) ?_; simp only [pA]
        refine wpQuiet_nil (laterE hM23 ?_)
        intro xw40 M41 hbxw40 hM41 lM41
        have k42 := k24.below hbxw40 (by omega)
        have k43 := k25.below hbxw40 (by omega)
        have k44 := k26.below hbxw40 (by omega)
        have lo45 := lo27.trans (hbxw40.mono (by omega))
        clear k24 c28 c29 c30 c31 c32 c33 k25 c34 c35 c36 c37 c38 c39 k26 lo27 hbxw40
        go_upto_region 6 with fail
        refine wp_region_lit ?_
        try simp only [pA]
        change wpList _ _ _ ((_ :: _ :: _ :: _ :: []) ++ (_ :: [])) _ _
        obtain ⟨c46, c47, c48, c49, c50, c51⟩ := r_cells k42
        refine wpList_prefix (C := fun w' => ∃ x : Later M41 xw40, w' = x.w') _ _ _ _ ⟨⟨_, Below.refl _ _⟩, rfl⟩ ?_
        go_big_quiet_step (fail)
        refine later_c1 hM41 23 (.tmp 23) rfl rfl und64 rfl c49 (by rfl) ?_; simp only [pA]
        refine later_b (x := (.tmp 24)) (y := (.const (.int .u64 1))) rfl (bin_sub _ a.hi 1#64) rfl rfl (by rfl) ?_; simp only [pA]
        go_big_quiet_step (fail)
        refine wpQuiet_nil (laterE hM41 ?_)
        intro xw52 M53 hbxw52 hM53 lM53
        have k54 := k42.below hbxw52 (by omega)
        have k55 := k43.below hbxw52 (by omega)
        have k56 := k44.below hbxw52 (by omega)
        have lo57 := lo45.trans (hbxw52.mono (by omega))
        clear k42 c46 c47 c48 c49 c50 c51 k43 k44 lo45 hbxw52
        refine wpl_set rfl 23 (.tmp 26) (.tmp 25) rfl N 3 rfl _ rfl sz64 rfl rfl 27 6 _ k54 (by omega) ?_
        intro xw58 t59 k60_; try simp only [pA]
        have k60 : Has xw58 N 27 6 (rC ⟨a.b, a.lo, (a.hi - 1#64), a.sl, a.sh⟩) := k60_.congr (fun j hj => set_hi _ _ j)
        have k61 := k55.touch t59 (by omega)
        have k62 := k56.touch t59 (by omega)
        have lo63 := t59.below lo57 (by omega)
        have h64 := t59.sz hM53
        clear k54 k60_ k55 k56 lo57 hM53 t59
        obtain ⟨M65, hM65⟩ := sz_some xw58
        have lt_66 := k60.ltN hM65
        have lt_67 := k61.ltN hM65
        have lt_68 := k62.ltN hM65
        go_upto_region 7 with fail
        refine wp_region_lit ?_
        try simp only [pA]
        change wpList _ _ _ ((_ :: []) ++ (_ :: [])) _ _
        refine wpList_prefix (C := fun w' => ∃ x : Later M65 xw58, w' = x.w') _ _ _ _ ⟨⟨_, Below.refl _ _⟩, rfl⟩ ?_
        refine later_row hM65 27 (.tmp 2) rfl (N) rfl 27 6 _ k60 undR szR (by rfl) ?_; simp only [pA]
        refine wpQuiet_nil (laterE hM65 ?_)
        intro xw69 M70 hbxw69 hM70 lM70
        have k71 := k60.below hbxw69 (by omega)
        have k72 := k61.below hbxw69 (by omega)
        have k73 := k62.below hbxw69 (by omega)
        have lo74 := lo63.trans (hbxw69.mono (by omega))
        clear k60 k61 k62 lo63 hbxw69
        refine wpl_store rfl 27 (.tmp 4) (.tmp 27) rfl (N + 1 + 1) 6 (rC ⟨a.b, a.lo, (a.hi - 1#64), a.sl, a.sh⟩) rfl rfl 27 _ k73 szR (fun j _ => rC_one _ j) ?_
        intro xw75 t76 k77; try simp only [pA]
        have k78 := k71.touch t76 (by omega)
        have k79 := k72.touch t76 (by omega)
        have lo80 := t76.below lo74 (by omega)
        have h81 := t76.sz hM70
        clear k73 k71 k72 lo74 hM70 t76
        obtain ⟨M82, hM82⟩ := sz_some xw75
        have lt_83 := k78.ltN hM82
        have lt_84 := k79.ltN hM82
        have lt_85 := k77.ltN hM82
        go_wp2_with fail
        refine post_r rfl (N + 1 + 1) rfl k77 undR szR rfl ?_
        exact ⟨by rw [ER.out]; first | rfl | (simp only [withoutF, H1_.out, H2_.out, H3_.out, bB] <;> rfl), lo80⟩
    · have H2_ := hid h2_
      clear h2_
      go_upto_region 3 with fail
      obtain ⟨c10, c11, c12, c13, c14, c15⟩ := r_cells k6
      obtain ⟨c16, c17, c18, c19, c20, c21⟩ := r_cells k7
      refine wp_region_later1 (M5) ?_
      try simp only [pA]
      go_big_quiet_step (fail)
      refine later_c1 hM5 23 (.tmp 9) rfl rfl und64 rfl c12 (by rfl) ?_; simp only [pA]
      go_big_quiet_step (fail)
      refine later_c1 hM5 23 (.tmp 11) rfl rfl und64 rfl c18 (by rfl) ?_; simp only [pA]
      refine later_b (x := (.tmp 10)) (y := (.tmp 12)) rfl (BinRun.is H2_.out (bin_eql _ a.lo b.lo)) rfl rfl (by rfl) ?_; simp only [pA]
      refine wpQuiet_nil (laterE hM5 ?_)
      intro xw22 M23 hbxw22 hM23 lM23
      have k24 := k6.below hbxw22 (by omega)
      have k25 := k7.below hbxw22 (by omega)
      have k26 := k8.below hbxw22 (by omega)
      have lo27 := lo9.trans (hbxw22.mono (by omega))
      clear k6 c10 c11 c12 c13 c14 c15 k7 c16 c17 c18 c19 c20 c21 k8 lo9 hbxw22
      go_upto_region 4 with fail
      refine wp_region_lit ?_
      try simp only [pA]
      change wpList _ _ _ ((_ :: _ :: _ :: _ :: []) ++ (_ :: [])) _ _
      obtain ⟨c28, c29, c30, c31, c32, c33⟩ := r_cells k24
      refine wpList_prefix (C := fun w' => ∃ x : Later M23 xw22, w' = x.w') _ _ _ _ ⟨⟨_, Below.refl _ _⟩, rfl⟩ ?_
      go_big_quiet_step (fail)
      refine later_c1 hM23 23 (.tmp 14) rfl rfl und64 rfl c30 (by rfl) ?_; simp only [pA]
      refine later_b (x := (.tmp 15)) (y := (.const (.int .u64 1))) rfl (bin_add _ a.lo 1#64) rfl rfl (by rfl) ?_; simp only [pA]
      go_big_quiet_step (fail)
      refine wpQuiet_nil (laterE hM23 ?_)
      intro xw34 M35 hbxw34 hM35 lM35
      have k36 := k24.below hbxw34 (by omega)
      have k37 := k25.below hbxw34 (by omega)
      have k38 := k26.below hbxw34 (by omega)
      have lo39 := lo27.trans (hbxw34.mono (by omega))
      clear k24 c28 c29 c30 c31 c32 c33 k25 k26 lo27 hbxw34
      refine wpl_set rfl 23 (.tmp 17) (.tmp 16) rfl N 2 rfl _ rfl sz64 rfl rfl 27 6 _ k36 (by omega) ?_
      intro xw40 t41 k42_; try simp only [pA]
      have k42 : Has xw40 N 27 6 (rC ⟨a.b, (a.lo + 1#64), a.hi, a.sl, a.sh⟩) := k42_.congr (fun j hj => set_lo _ _ j)
      have k43 := k37.touch t41 (by omega)
      have k44 := k38.touch t41 (by omega)
      have lo45 := t41.below lo39 (by omega)
      have h46 := t41.sz hM35
      clear k36 k42_ k37 k38 lo39 hM35 t41
      obtain ⟨M47, hM47⟩ := sz_some xw40
      have lt_48 := k42.ltN hM47
      have lt_49 := k43.ltN hM47
      have lt_50 := k44.ltN hM47
      cases h3_ : (a.hi == b.hi)
      · have H3_ := hid h3_
        clear h3_
        go_upto_region 5 with fail
        obtain ⟨c51, c52, c53, c54, c55, c56⟩ := r_cells5 k42
        obtain ⟨c57, c58, c59, c60, c61, c62⟩ := r_cells k43
        refine wp_region_later1 (M47) ?_
        try simp only [pA]
        go_big_quiet_step (fail)
        refine later_c1 hM47 23 (.tmp 18) rfl rfl und64 rfl c54 (by rfl) ?_; simp only [pA]
        go_big_quiet_step (fail)
        refine later_c1 hM47 23 (.tmp 20) rfl rfl und64 rfl c60 (by rfl) ?_; simp only [pA]
        refine later_b (x := (.tmp 19)) (y := (.tmp 21)) rfl (BinRun.is H3_.out (bin_eql _ a.hi b.hi)) rfl rfl (by rfl) ?_; simp only [pA]
        refine wpQuiet_nil (laterE hM47 ?_)
        intro xw63 M64 hbxw63 hM64 lM64
        have k65 := k42.below hbxw63 (by omega)
        have k66 := k43.below hbxw63 (by omega)
        have k67 := k44.below hbxw63 (by omega)
        have lo68 := lo45.trans (hbxw63.mono (by omega))
        clear k42 c51 c52 c53 c54 c55 c56 k43 c57 c58 c59 c60 c61 c62 k44 lo45 hbxw63
        go_upto_region 7 with fail
        refine wp_region_lit ?_
        try simp only [pA]
        change wpList _ _ _ ((_ :: []) ++ (_ :: [])) _ _
        refine wpList_prefix (C := fun w' => ∃ x : Later M64 xw63, w' = x.w') _ _ _ _ ⟨⟨_, Below.refl _ _⟩, rfl⟩ ?_
        refine later_row hM64 27 (.tmp 2) rfl (N) rfl 27 6 _ k65 undR szR (by rfl) ?_; simp only [pA]
        refine wpQuiet_nil (laterE hM64 ?_)
        intro xw69 M70 hbxw69 hM70 lM70
        have k71 := k65.below hbxw69 (by omega)
        have k72 := k66.below hbxw69 (by omega)
        have k73 := k67.below hbxw69 (by omega)
        have lo74 := lo68.trans (hbxw69.mono (by omega))
        clear k65 k66 k67 lo68 hbxw69
        refine wpl_store rfl 27 (.tmp 4) (.tmp 27) rfl (N + 1 + 1) 6 (rC ⟨a.b, (a.lo + 1#64), a.hi, a.sl, a.sh⟩) rfl rfl 27 _ k73 szR (fun j _ => rC_one _ j) ?_
        intro xw75 t76 k77; try simp only [pA]
        have k78 := k71.touch t76 (by omega)
        have k79 := k72.touch t76 (by omega)
        have lo80 := t76.below lo74 (by omega)
        have h81 := t76.sz hM70
        clear k73 k71 k72 lo74 hM70 t76
        obtain ⟨M82, hM82⟩ := sz_some xw75
        have lt_83 := k78.ltN hM82
        have lt_84 := k79.ltN hM82
        have lt_85 := k77.ltN hM82
        go_wp2_with fail
        refine post_r rfl (N + 1 + 1) rfl k77 undR szR rfl ?_
        exact ⟨by rw [ER.out]; first | rfl | (simp only [withoutF, H1_.out, H2_.out, H3_.out, bB] <;> rfl), lo80⟩
      · have H3_ := hid h3_
        clear h3_
        go_upto_region 5 with fail
        obtain ⟨c51, c52, c53, c54, c55, c56⟩ := r_cells5 k42
        obtain ⟨c57, c58, c59, c60, c61, c62⟩ := r_cells k43
        refine wp_region_later1 (M47) ?_
        try simp only [pA]
        go_big_quiet_step (fail)
        refine later_c1 hM47 23 (.tmp 18) rfl rfl und64 rfl c54 (by rfl) ?_; simp only [pA]
        go_big_quiet_step (fail)
        refine later_c1 hM47 23 (.tmp 20) rfl rfl und64 rfl c60 (by rfl) ?_; simp only [pA]
        refine later_b (x := (.tmp 19)) (y := (.tmp 21)) rfl (BinRun.is H3_.out (bin_eql _ a.hi b.hi)) rfl rfl (by rfl) ?_; simp only [pA]
        refine wpQuiet_nil (laterE hM47 ?_)
        intro xw63 M64 hbxw63 hM64 lM64
        have k65 := k42.below hbxw63 (by omega)
        have k66 := k43.below hbxw63 (by omega)
        have k67 := k44.below hbxw63 (by omega)
        have lo68 := lo45.trans (hbxw63.mono (by omega))
        clear k42 c51 c52 c53 c54 c55 c56 k43 c57 c58 c59 c60 c61 c62 k44 lo45 hbxw63
        go_upto_region 6 with fail
        refine wp_region_lit ?_
        try simp only [pA]
        change wpList _ _ _ ((_ :: _ :: _ :: _ :: []) ++ (_ :: [])) _ _
        obtain ⟨c69, c70, c71, c72, c73, c74⟩ := r_cells5 k65
        refine wpList_prefix (C := fun w' => ∃ x : Later M64 xw63, w' = x.w') _ _ _ _ ⟨⟨_, Below.refl _ _⟩, rfl⟩ ?_
        go_big_quiet_step (fail)
        refine later_c1 hM64 23 (.tmp 23) rfl rfl und64 rfl c72 (by rfl) ?_; simp only [pA]
        refine later_b (x := (.tmp 24)) (y := (.const (.int .u64 1))) rfl (bin_sub _ a.hi 1#64) rfl rfl (by rfl) ?_; simp only [pA]
        go_big_quiet_step (fail)
        refine wpQuiet_nil (laterE hM64 ?_)
        intro xw75 M76 hbxw75 hM76 lM76
        have k77 := k65.below hbxw75 (by omega)
        have k78 := k66.below hbxw75 (by omega)
        have k79 := k67.below hbxw75 (by omega)
        have lo80 := lo68.trans (hbxw75.mono (by omega))
        clear k65 c69 c70 c71 c72 c73 c74 k66 k67 lo68 hbxw75
        refine wpl_set rfl 23 (.tmp 26) (.tmp 25) rfl N 3 rfl _ rfl sz64 rfl rfl 27 6 _ k77 (by omega) ?_
        intro xw81 t82 k83_; try simp only [pA]
        have k83 : Has xw81 N 27 6 (rC ⟨a.b, (a.lo + 1#64), (a.hi - 1#64), a.sl, a.sh⟩) := k83_.congr (fun j hj => set_hi _ _ j)
        have k84 := k78.touch t82 (by omega)
        have k85 := k79.touch t82 (by omega)
        have lo86 := t82.below lo80 (by omega)
        have h87 := t82.sz hM76
        clear k77 k83_ k78 k79 lo80 hM76 t82
        obtain ⟨M88, hM88⟩ := sz_some xw81
        have lt_89 := k83.ltN hM88
        have lt_90 := k84.ltN hM88
        have lt_91 := k85.ltN hM88
        go_upto_region 7 with fail
        refine wp_region_lit ?_
        try simp only [pA]
        change wpList _ _ _ ((_ :: []) ++ (_ :: [])) _ _
        refine wpList_prefix (C := fun w' => ∃ x : Later M88 xw81, w' = x.w') _ _ _ _ ⟨⟨_, Below.refl _ _⟩, rfl⟩ ?_
        refine later_row hM88 27 (.tmp 2) rfl (N) rfl 27 6 _ k83 undR szR (by rfl) ?_; simp only [pA]
        refine wpQuiet_nil (laterE hM88 ?_)
        intro xw92 M93 hbxw92 hM93 lM93
        have k94 := k83.below hbxw92 (by omega)
        have k95 := k84.below hbxw92 (by omega)
        have k96 := k85.below hbxw92 (by omega)
        have lo97 := lo86.trans (hbxw92.mono (by omega))
        clear k83 k84 k85 lo86 hbxw92
        refine wpl_store rfl 27 (.tmp 4) (.tmp 27) rfl (N + 1 + 1) 6 (rC ⟨a.b, (a.lo + 1#64), (a.hi - 1#64), a.sl, a.sh⟩) rfl rfl 27 _ k96 szR (fun j _ => rC_one _ j) ?_
        intro xw98 t99 k100; try simp only [pA]
        have k101 := k94.touch t99 (by omega)
        have k102 := k95.touch t99 (by omega)
        have lo103 := t99.below lo97 (by omega)
        have h104 := t99.sz hM93
        clear k96 k94 k95 lo97 hM93 t99
        obtain ⟨M105, hM105⟩ := sz_some xw98
        have lt_106 := k101.ltN hM105
        have lt_107 := k102.ltN hM105
        have lt_108 := k100.ltN hM105
        go_wp2_with fail
        refine post_r rfl (N + 1 + 1) rfl k100 undR szR rfl ?_
        exact ⟨by rw [ER.out]; first | rfl | (simp only [withoutF, H1_.out, H2_.out, H3_.out, bB] <;> rfl), lo103⟩
def sameF (a : Rn) (b : Rn) : Rn × Rn × Bool :=
  ((bothF ⟨(meetN a.b b.b), (uMax a.lo b.lo), (uMin a.hi b.hi), (sMax a.sl b.sl), (sMin a.sh b.sh)⟩ ⟨(meetN a.b b.b), (uMax a.lo b.lo), (uMin a.hi b.hi), (sMax a.sl b.sl), (sMin a.sh b.sh)⟩ (meetB a.b b.b)).1, (bothF ⟨(meetN a.b b.b), (uMax a.lo b.lo), (uMin a.hi b.hi), (sMax a.sl b.sl), (sMin a.sh b.sh)⟩ ⟨(meetN a.b b.b), (uMax a.lo b.lo), (uMin a.hi b.hi), (sMax a.sl b.sl), (sMin a.sh b.sh)⟩ (meetB a.b b.b)).2.1, (bothF ⟨(meetN a.b b.b), (uMax a.lo b.lo), (uMin a.hi b.hi), (sMax a.sl b.sl), (sMin a.sh b.sh)⟩ ⟨(meetN a.b b.b), (uMax a.lo b.lo), (uMin a.hi b.hi), (sMax a.sl b.sl), (sMin a.sh b.sh)⟩ (meetB a.b b.b)).2.2)
set_option maxRecDepth 100000 in
set_option maxHeartbeats 4000000 in
theorem Same_any (a : Rn) (b : Rn) (w : World) (N : Nat) (hN : Sz w N) : Calls Tryd.prog 54 #[rV a, rV b] w fun e w' => e = .returned (.tuple #[rV (sameF a b).1, rV (sameF a b).2.1, .bool (sameF a b).2.2]) ∧ Below N w w' := by
  obtain ⟨rr, er⟩ : ∃ rr, rr = (sameF a b) := ⟨_, rfl⟩
  rw [← er]
  have ER := hid er
  clear er
  unfold rV
  go_enter Tryd.func54, Tryd.ntmps54
  go_upto_region 1 with (first
    | (refine wpl_box rfl 27 (.tmp 0) rfl 6 _ rfl (N) hN ?_; intro w1 hN1 hb1 hh1)
    | (refine wpl_box rfl 27 (.tmp 1) rfl 6 _ rfl (N + 1) hN1 ?_; intro w2 hN2 hb2 hh2)
    | (refine wpl_alloc rfl 27 rfl 6 (rC zeroR) zeR (N + 1 + 1) hN2 ?_; intro w3 hN3 hb3 hh3)
    | (refine wpl_alloc rfl 27 rfl 6 (rC zeroR) zeR (N + 1 + 1 + 1) hN3 ?_; intro w4 hN4 hb4 hh4)
    | fail)
  have lo0 : Below N w w4 := (((hb1.trans (hb2.mono (by omega))).trans (hb3.mono (by omega))).trans (hb4.mono (by omega)))
  have k1 := (((hh1.below hb2 (by omega)).below hb3 (by omega)).below hb4 (by omega))
  have k2 := ((hh2.below hb3 (by omega)).below hb4 (by omega))
  have k3 := (hh3.below hb4 (by omega))
  have k4 := hh4
  clear hh1 hb1 hh2 hb2 hh3 hb3 hh4 hb4 hN1 hN2 hN3
  go_upto_region 1 with fail
  refine wp_region_lit ?_
  try simp only [pA]
  change wpList _ _ _ ((_ :: _ :: _ :: _ :: _ :: _ :: _ :: _ :: []) ++ (_ :: _ :: _ :: [])) _ _
  obtain ⟨c5, c6, c7, c8, c9, c10⟩ := r_cells k1
  obtain ⟨c11, c12, c13, c14, c15, c16⟩ := r_cells k2
  refine wpList_prefix (C := fun w' => ∃ x : Later (N + 1 + 1 + 1 + 1) w4, w' = x.w') _ _ _ _ ⟨⟨_, Below.refl _ _⟩, rfl⟩ ?_
  go_big_quiet_step (fail)
  refine later_val (fun qq => run_bits 25 (.tmp 10) rfl N rfl 27 (Later.has hN4 k1 qq) undT szT) (by rfl) ?_; simp only [pA]
  go_big_quiet_step (fail)
  refine later_val (fun qq => run_bits 25 (.tmp 12) rfl (N + 1) rfl 27 (Later.has hN4 k2 qq) undT szT) (by rfl) ?_; simp only [pA]
  go_big_quiet_step ((go_at_call 36; exact later_of hN4 _ (fun K hK hKN => Meet_any a.b b.b _ K hK)))
  iterate 3 (go_big_quiet_step (fail))
  refine wpQuiet_nil (laterE hN4 ?_)
  intro xw17 M18 hbxw17 hM18 lM18
  have k19 := k1.below hbxw17 (by omega)
  have k20 := k2.below hbxw17 (by omega)
  have k21 := k3.below hbxw17 (by omega)
  have k22 := k4.below hbxw17 (by omega)
  have lo23 := lo0.trans (hbxw17.mono (by omega))
  clear k1 c5 c6 c7 c8 c9 c10 k2 c11 c12 c13 c14 c15 c16 k3 k4 lo0 hbxw17
  obtain ⟨b_xw24, eb_xw24⟩ : ∃ b_xw24, b_xw24 = M18 := ⟨_, rfl⟩
  have hzb_xw24 : Sz xw17 b_xw24 := by rw [eb_xw24]; exact hM18
  have lob_xw24 : M18 ≤ b_xw24 := by omega
  have upb_xw24 : b_xw24 ≤ M18 := by omega
  clear eb_xw24
  refine wpl_alloc rfl 25 rfl 2 (nC zeroN) zeT b_xw24 hzb_xw24 ?_
  intro xw24 hMxw24 hbxw24 hhxw24; simp only [pA]
  have k25 := k19.below hbxw24 (by omega)
  have k26 := k20.below hbxw24 (by omega)
  have k27 := k21.below hbxw24 (by omega)
  have k28 := k22.below hbxw24 (by omega)
  have lo29 := lo23.trans (hbxw24.mono (by omega))
  clear k19 k20 k21 k22 lo23 hbxw24 hzb_xw24
  obtain ⟨M30, eM30⟩ : ∃ M30, M30 = b_xw24 + 1 := ⟨_, rfl⟩
  rw [← eM30] at hMxw24
  have loM30 : b_xw24 + 1 ≤ M30 := by omega
  have upM30 : M30 ≤ b_xw24 + 1 := by omega
  clear eM30
  refine wpl_store rfl 25 (.tmp 7) (.tmp 15) rfl b_xw24 2 (nC (meetN a.b b.b)) rfl rfl 25 _ hhxw24 szT (fun j _ => nC_one _ j) ?_
  intro xw31 t32 k33; try simp only [pA]
  have k34 := k25.touch t32 (by omega)
  have k35 := k26.touch t32 (by omega)
  have k36 := k27.touch t32 (by omega)
  have k37 := k28.touch t32 (by omega)
  have lo38 := t32.below lo29 (by omega)
  have h39 := t32.sz hMxw24
  clear hhxw24 k25 k26 k27 k28 lo29 hMxw24 t32
  refine wpl_run rfl (Value.bool (meetB a.b b.b)) _ (run_as (x := (.tmp 16)) rfl _ rfl) ?_; simp only [pA]
  obtain ⟨M40, hM40⟩ := sz_some xw31
  have lt_41 := k34.ltN hM40
  have lt_42 := k35.ltN hM40
  have lt_43 := k36.ltN hM40
  have lt_44 := k37.ltN hM40
  have lt_45 := k33.ltN hM40
  go_upto_region 2 with fail
  refine wp_region_lit ?_
  try simp only [pA]
  change wpList _ _ _ ((_ :: _ :: []) ++ (_ :: [])) _ _
  obtain ⟨c46, c47, c48, c49, c50, c51⟩ := r_cells k34
  refine wpList_prefix (C := fun w' => ∃ x : Later M40 xw31, w' = x.w') _ _ _ _ ⟨⟨_, Below.refl _ _⟩, rfl⟩ ?_
  refine later_row hM40 25 (.tmp 7) rfl (b_xw24) rfl 25 2 _ k33 undT szT (by rfl) ?_; simp only [pA]
  go_big_quiet_step (fail)
  refine wpQuiet_nil (laterE hM40 ?_)
  intro xw52 M53 hbxw52 hM53 lM53
  have k54 := k34.below hbxw52 (by omega)
  have k55 := k35.below hbxw52 (by omega)
  have k56 := k36.below hbxw52 (by omega)
  have k57 := k37.below hbxw52 (by omega)
  have k58 := k33.below hbxw52 (by omega)
  have lo59 := lo38.trans (hbxw52.mono (by omega))
  clear k34 c46 c47 c48 c49 c50 c51 k35 k36 k37 k33 lo38 hbxw52
  refine wpl_partN (by rfl) (by kernel_rfl) 25 (.tmp 18) (.tmp 17) rfl N rfl (meetN a.b b.b) rfl 27 _ k54 szT ?_
  intro xw60 t61 k62; try simp only [pA]
  have k63 := k55.touch t61 (by omega)
  have k64 := k56.touch t61 (by omega)
  have k65 := k57.touch t61 (by omega)
  have k66 := k58.touch t61 (by omega)
  have lo67 := t61.below lo59 (by omega)
  have h68 := t61.sz hM53
  clear k54 k55 k56 k57 k58 lo59 hM53 t61
  obtain ⟨M69, hM69⟩ := sz_some xw60
  have lt_70 := k62.ltN hM69
  have lt_71 := k63.ltN hM69
  have lt_72 := k64.ltN hM69
  have lt_73 := k65.ltN hM69
  have lt_74 := k66.ltN hM69
  go_upto_region 3 with fail
  refine wp_mid (fun ac (_ : Unit) => ((((((((((((ac.put (some 19) (Value.pointer (some ⟨N, 2, none⟩))).put (some 20) (Q a.lo)).put (some 21) (Value.pointer (some ⟨(N + 1), 2, none⟩))).put (some 22) (Q b.lo)).put (some 23) (Q (uMax a.lo b.lo))).put (some 24) (Value.pointer (some ⟨N, 3, none⟩))).put (some 25) (Q a.hi)).put (some 26) (Value.pointer (some ⟨(N + 1), 3, none⟩))).put (some 27) (Q b.hi)).put (some 28) (Q (uMin a.hi b.hi))).put (some 29) (Value.pointer (some ⟨N, 2, none⟩))).put (some 30) (Value.pointer (some ⟨N, 3, none⟩)))) (fun _ w' => Has w' N 27 6 (rC ⟨(meetN a.b b.b), (uMax a.lo b.lo), (uMin a.hi b.hi), a.sl, a.sh⟩) ∧ Has w' (N + 1) 27 6 (rC b) ∧ Has w' (N + 1 + 1) 27 6 (rC zeroR) ∧ Has w' (N + 1 + 1 + 1) 27 6 (rC zeroR) ∧ Has w' b_xw24 25 2 (nC (meetN a.b b.b)) ∧ Below N w w') ?_ ?_
  · refine wp_region_held (S := fun w' => (Has w' (N + 1) 27 6 (rC b))) (by kernel_rfl) ?_
    replace k62 : Has xw60.drew N 27 6 (rC ⟨(meetN a.b b.b), a.lo, a.hi, a.sl, a.sh⟩) := k62
    replace k63 : Has xw60.drew (N + 1) 27 6 (rC b) := k63
    replace k64 : Has xw60.drew (N + 1 + 1) 27 6 (rC zeroR) := k64
    replace k65 : Has xw60.drew (N + 1 + 1 + 1) 27 6 (rC zeroR) := k65
    replace k66 : Has xw60.drew b_xw24 25 2 (nC (meetN a.b b.b)) := k66
    replace hM69 : Sz xw60.drew M69 := hM69
    replace lo67 : Below N w xw60.drew := lo67.drew
    change wpAnyH _ _ _ _ _ _ _ _ (World.drew _)
    generalize xw60.drew = xw75 at *
    refine held_take (i := 0) (v := (Value.pointer (some ⟨N, 2, none⟩))) (d := some 19) rfl (by kernel_rfl) (by kernel_rfl) (by kernel_rfl) (by kernel_rfl) (fun _ _ _ h => by cases h.1) (Or.inl ⟨by rfl, fun wq hq0 => run_fa 27 (.tmp 2) 1 2 rfl rfl faR1⟩) k63 ?_; simp only [pA]
    refine held_take (i := 2) (v := (Value.pointer (some ⟨(N + 1), 2, none⟩))) (d := some 21) rfl (by kernel_rfl) (by kernel_rfl) (by kernel_rfl) (by kernel_rfl) (fun _ _ _ h => by cases h.1) (Or.inl ⟨by rfl, fun wq hq0 => run_fa 27 (.tmp 3) 1 2 rfl rfl faR1⟩) k63 ?_; simp only [pA]
    refine held_take (i := 3) (v := (Q b.lo)) (d := some 22) rfl (by kernel_rfl) (by kernel_rfl) (by kernel_rfl) (by kernel_rfl) (fun _ _ _ h => by cases h.1) (Or.inl ⟨by rfl, fun wq hq0 => run_c1 23 (.tmp 21) rfl ⟨(N + 1), 2, none⟩ rfl und64 rfl (r_cells hq0).2.2.1⟩) k63 ?_; simp only [pA]
    refine held_take (i := 5) (v := (Value.pointer (some ⟨N, 3, none⟩))) (d := some 24) rfl (by kernel_rfl) (by kernel_rfl) (by kernel_rfl) (by kernel_rfl) (fun _ _ _ h => by cases h.1) (Or.inl ⟨by rfl, fun wq hq0 => run_fa 27 (.tmp 2) 2 3 rfl rfl faR2⟩) k63 ?_; simp only [pA]
    refine held_take (i := 7) (v := (Value.pointer (some ⟨(N + 1), 3, none⟩))) (d := some 26) rfl (by kernel_rfl) (by kernel_rfl) (by kernel_rfl) (by kernel_rfl) (fun _ _ _ h => by cases h.1) (Or.inl ⟨by rfl, fun wq hq0 => run_fa 27 (.tmp 3) 2 3 rfl rfl faR2⟩) k63 ?_; simp only [pA]
    refine held_take (i := 8) (v := (Q b.hi)) (d := some 27) rfl (by kernel_rfl) (by kernel_rfl) (by kernel_rfl) (by kernel_rfl) (fun _ _ _ h => by cases h.1) (Or.inl ⟨by rfl, fun wq hq0 => run_c1 23 (.tmp 26) rfl ⟨(N + 1), 3, none⟩ rfl und64 rfl (r_cells hq0).2.2.2.1⟩) k63 ?_; simp only [pA]
    refine wpAnyH_all (rs := [1, 6]) (by kernel_rfl) (by simp) ?_
    intro iq hiq; simp only [List.mem_cons, List.not_mem_nil, or_false] at hiq
    rcases hiq with rfl | rfl
    · refine opg_list rfl ?_
      refine wpl_runD (d := some 20) rfl (by kernel_rfl) (Q a.lo) (run_c1 23 (.tmp 19) rfl ⟨N, 2, none⟩ rfl und64 rfl (r_cells5 k62).2.2.1) ?_; simp only [pA]
      refine ⟨k63, ?_⟩
      refine held_take (i := 4) (v := (Q (uMax a.lo b.lo))) (d := some 23) rfl (by kernel_rfl) (by kernel_rfl) (by kernel_rfl) (by kernel_rfl) (fun _ _ _ h => by cases h.1) (Or.inl ⟨by rfl, fun wq hq0 => run_maxQ (x := (.tmp 20)) (y := (.tmp 22)) (p := a.lo) (q := b.lo) rfl rfl rfl wq⟩) k63 ?_; simp only [pA]
      refine wpAnyH_all (rs := [6]) (by kernel_rfl) (by simp) ?_
      intro iq hiq; simp only [List.mem_singleton] at hiq; subst hiq
      refine opg_list rfl ?_
      refine wpl_runD (d := some 25) rfl (by kernel_rfl) (Q a.hi) (run_c1 23 (.tmp 24) rfl ⟨N, 3, none⟩ rfl und64 rfl (r_cells5 k62).2.2.2.1) ?_; simp only [pA]
      refine ⟨k63, ?_⟩
      refine held_take (i := 9) (v := (Q (uMin a.hi b.hi))) (d := some 28) rfl (by kernel_rfl) (by kernel_rfl) (by kernel_rfl) (by kernel_rfl) (fun _ _ _ h => by cases h.1) (Or.inl ⟨by rfl, fun wq hq0 => run_minQ (x := (.tmp 25)) (y := (.tmp 27)) (p := a.hi) (q := b.hi) rfl rfl rfl wq⟩) k63 ?_; simp only [pA]
      refine held_take (i := 10) (v := (Value.pointer (some ⟨N, 2, none⟩))) (d := some 29) rfl (by kernel_rfl) (by kernel_rfl) (by kernel_rfl) (by kernel_rfl) (fun _ _ _ h => by cases h.1) (Or.inl ⟨by rfl, fun wq hq0 => run_fa 27 (.tmp 2) 1 2 rfl rfl faR1⟩) k63 ?_; simp only [pA]
      refine wpAnyH_all (rs := [11]) (by kernel_rfl) (by simp) ?_
      intro iq hiq; simp only [List.mem_singleton] at hiq; subst hiq
      refine opg_list rfl ?_
      refine wpl_setN (by rfl) (by kernel_rfl) 23 (.tmp 29) (.tmp 23) rfl N 2 rfl _ rfl sz64 rfl rfl 27 6 _ k62 (by omega) ?_
      intro xw76 t77 k78_; try simp only [pA]
      have k78 : Has xw76 N 27 6 (rC ⟨(meetN a.b b.b), (uMax a.lo b.lo), a.hi, a.sl, a.sh⟩) := k78_.congr (fun j hj => set_lo _ _ j)
      have k79 := k63.touch t77 (by omega)
      have k80 := k64.touch t77 (by omega)
      have k81 := k65.touch t77 (by omega)
      have k82 := k66.touch t77 (by omega)
      have lo83 := t77.below lo67 (by omega)
      have h84 := t77.sz hM69
      clear k62 k78_ k63 k64 k65 k66 lo67 hM69 t77
      refine ⟨k79, ?_⟩
      refine held_take (i := 12) (v := (Value.pointer (some ⟨N, 3, none⟩))) (d := some 30) rfl (by kernel_rfl) (by kernel_rfl) (by kernel_rfl) (by kernel_rfl) (fun _ _ _ h => by cases h.1) (Or.inl ⟨by rfl, fun wq hq0 => run_fa 27 (.tmp 2) 2 3 rfl rfl faR2⟩) k79 ?_; simp only [pA]
      refine wpAnyH_all (rs := [13]) (by kernel_rfl) (by simp) ?_
      intro iq hiq; simp only [List.mem_singleton] at hiq; subst hiq
      refine opg_list rfl ?_
      refine wpl_setN (by rfl) (by kernel_rfl) 23 (.tmp 30) (.tmp 28) rfl N 3 rfl _ rfl sz64 rfl rfl 27 6 _ k78 (by omega) ?_
      intro xw85 t86 k87_; try simp only [pA]
      have k87 : Has xw85 N 27 6 (rC ⟨(meetN a.b b.b), (uMax a.lo b.lo), (uMin a.hi b.hi), a.sl, a.sh⟩) := k87_.congr (fun j hj => set_hi _ _ j)
      have k88 := k79.touch t86 (by omega)
      have k89 := k80.touch t86 (by omega)
      have k90 := k81.touch t86 (by omega)
      have k91 := k82.touch t86 (by omega)
      have lo92 := t86.below lo83 (by omega)
      have h93 := t86.sz h84
      clear k78 k87_ k79 k80 k81 k82 lo83 h84 t86
      refine ⟨k88, ?_⟩
      refine wpAnyH_done (by kernel_rfl) ?_ _
      refine ⟨rfl, (), (by simp only [pA]), k87, k88, k89, k90, k91, lo92⟩
    · refine opg_list rfl ?_
      refine wpl_runD (d := some 25) rfl (by kernel_rfl) (Q a.hi) (run_c1 23 (.tmp 24) rfl ⟨N, 3, none⟩ rfl und64 rfl (r_cells5 k62).2.2.2.1) ?_; simp only [pA]
      refine ⟨k63, ?_⟩
      refine held_take (i := 9) (v := (Q (uMin a.hi b.hi))) (d := some 28) rfl (by kernel_rfl) (by kernel_rfl) (by kernel_rfl) (by kernel_rfl) (fun _ _ _ h => by cases h.1) (Or.inl ⟨by rfl, fun wq hq0 => run_minQ (x := (.tmp 25)) (y := (.tmp 27)) (p := a.hi) (q := b.hi) rfl rfl rfl wq⟩) k63 ?_; simp only [pA]
      refine wpAnyH_all (rs := [1]) (by kernel_rfl) (by simp) ?_
      intro iq hiq; simp only [List.mem_singleton] at hiq; subst hiq
      refine opg_list rfl ?_
      refine wpl_runD (d := some 20) rfl (by kernel_rfl) (Q a.lo) (run_c1 23 (.tmp 19) rfl ⟨N, 2, none⟩ rfl und64 rfl (r_cells5 k62).2.2.1) ?_; simp only [pA]
      refine ⟨k63, ?_⟩
      refine held_take (i := 4) (v := (Q (uMax a.lo b.lo))) (d := some 23) rfl (by kernel_rfl) (by kernel_rfl) (by kernel_rfl) (by kernel_rfl) (fun _ _ _ h => by cases h.1) (Or.inl ⟨by rfl, fun wq hq0 => run_maxQ (x := (.tmp 20)) (y := (.tmp 22)) (p := a.lo) (q := b.lo) rfl rfl rfl wq⟩) k63 ?_; simp only [pA]
      refine held_take (i := 10) (v := (Value.pointer (some ⟨N, 2, none⟩))) (d := some 29) rfl (by kernel_rfl) (by kernel_rfl) (by kernel_rfl) (by kernel_rfl) (fun _ _ _ h => by cases h.1) (Or.inl ⟨by rfl, fun wq hq0 => run_fa 27 (.tmp 2) 1 2 rfl rfl faR1⟩) k63 ?_; simp only [pA]
      refine wpAnyH_all (rs := [11]) (by kernel_rfl) (by simp) ?_
      intro iq hiq; simp only [List.mem_singleton] at hiq; subst hiq
      refine opg_list rfl ?_
      refine wpl_setN (by rfl) (by kernel_rfl) 23 (.tmp 29) (.tmp 23) rfl N 2 rfl _ rfl sz64 rfl rfl 27 6 _ k62 (by omega) ?_
      intro xw76 t77 k78_; try simp only [pA]
      have k78 : Has xw76 N 27 6 (rC ⟨(meetN a.b b.b), (uMax a.lo b.lo), a.hi, a.sl, a.sh⟩) := k78_.congr (fun j hj => set_lo _ _ j)
      have k79 := k63.touch t77 (by omega)
      have k80 := k64.touch t77 (by omega)
      have k81 := k65.touch t77 (by omega)
      have k82 := k66.touch t77 (by omega)
      have lo83 := t77.below lo67 (by omega)
      have h84 := t77.sz hM69
      clear k62 k78_ k63 k64 k65 k66 lo67 hM69 t77
      refine ⟨k79, ?_⟩
      refine held_take (i := 12) (v := (Value.pointer (some ⟨N, 3, none⟩))) (d := some 30) rfl (by kernel_rfl) (by kernel_rfl) (by kernel_rfl) (by kernel_rfl) (fun _ _ _ h => by cases h.1) (Or.inl ⟨by rfl, fun wq hq0 => run_fa 27 (.tmp 2) 2 3 rfl rfl faR2⟩) k79 ?_; simp only [pA]
      refine wpAnyH_all (rs := [13]) (by kernel_rfl) (by simp) ?_
      intro iq hiq; simp only [List.mem_singleton] at hiq; subst hiq
      refine opg_list rfl ?_
      refine wpl_setN (by rfl) (by kernel_rfl) 23 (.tmp 30) (.tmp 28) rfl N 3 rfl _ rfl sz64 rfl rfl 27 6 _ k78 (by omega) ?_
      intro xw85 t86 k87_; try simp only [pA]
      have k87 : Has xw85 N 27 6 (rC ⟨(meetN a.b b.b), (uMax a.lo b.lo), (uMin a.hi b.hi), a.sl, a.sh⟩) := k87_.congr (fun j hj => set_hi _ _ j)
      have k88 := k79.touch t86 (by omega)
      have k89 := k80.touch t86 (by omega)
      have k90 := k81.touch t86 (by omega)
      have k91 := k82.touch t86 (by omega)
      have lo92 := t86.below lo83 (by omega)
      have h93 := t86.sz h84
      clear k78 k87_ k79 k80 k81 k82 lo83 h84 t86
      refine ⟨k88, ?_⟩
      refine wpAnyH_done (by kernel_rfl) ?_ _
      refine ⟨rfl, (), (by simp only [pA]), k87, k88, k89, k90, k91, lo92⟩
  · skip
    rintro _ xw82 ⟨k76, k77, k78, k79, k80, lo81⟩
    try dsimp only
    try simp only [pA]
    obtain ⟨M83, hM83⟩ := sz_some xw82
    have lt_84 := k76.ltN hM83
    have lt_85 := k77.ltN hM83
    have lt_86 := k78.ltN hM83
    have lt_87 := k79.ltN hM83
    have lt_88 := k80.ltN hM83
    go_upto_region 4 with fail
    refine wp_mid (fun ac (_ : Unit) => ((((((((((((ac.put (some 31) (Value.pointer (some ⟨N, 4, none⟩))).put (some 32) (S a.sl)).put (some 33) (Value.pointer (some ⟨(N + 1), 4, none⟩))).put (some 34) (S b.sl)).put (some 35) (S (sMax a.sl b.sl))).put (some 36) (Value.pointer (some ⟨N, 5, none⟩))).put (some 37) (S a.sh)).put (some 38) (Value.pointer (some ⟨(N + 1), 5, none⟩))).put (some 39) (S b.sh)).put (some 40) (S (sMin a.sh b.sh))).put (some 41) (Value.pointer (some ⟨N, 4, none⟩))).put (some 42) (Value.pointer (some ⟨N, 5, none⟩)))) (fun _ w' => Has w' N 27 6 (rC ⟨(meetN a.b b.b), (uMax a.lo b.lo), (uMin a.hi b.hi), (sMax a.sl b.sl), (sMin a.sh b.sh)⟩) ∧ Has w' (N + 1) 27 6 (rC b) ∧ Has w' (N + 1 + 1) 27 6 (rC zeroR) ∧ Has w' (N + 1 + 1 + 1) 27 6 (rC zeroR) ∧ Has w' b_xw24 25 2 (nC (meetN a.b b.b)) ∧ Below N w w') ?_ ?_
    · refine wp_region_held (S := fun w' => (Has w' (N + 1) 27 6 (rC b))) (by kernel_rfl) ?_
      replace k76 : Has xw82.drew N 27 6 (rC ⟨(meetN a.b b.b), (uMax a.lo b.lo), (uMin a.hi b.hi), a.sl, a.sh⟩) := k76
      replace k77 : Has xw82.drew (N + 1) 27 6 (rC b) := k77
      replace k78 : Has xw82.drew (N + 1 + 1) 27 6 (rC zeroR) := k78
      replace k79 : Has xw82.drew (N + 1 + 1 + 1) 27 6 (rC zeroR) := k79
      replace k80 : Has xw82.drew b_xw24 25 2 (nC (meetN a.b b.b)) := k80
      replace hM83 : Sz xw82.drew M83 := hM83
      replace lo81 : Below N w xw82.drew := lo81.drew
      change wpAnyH _ _ _ _ _ _ _ _ (World.drew _)
      generalize xw82.drew = xw89 at *
      refine held_take (i := 0) (v := (Value.pointer (some ⟨N, 4, none⟩))) (d := some 31) rfl (by kernel_rfl) (by kernel_rfl) (by kernel_rfl) (by kernel_rfl) (fun _ _ _ h => by cases h.1) (Or.inl ⟨by rfl, fun wq hq0 => run_fa 27 (.tmp 2) 3 4 rfl rfl faR3⟩) k77 ?_; simp only [pA]
      refine held_take (i := 2) (v := (Value.pointer (some ⟨(N + 1), 4, none⟩))) (d := some 33) rfl (by kernel_rfl) (by kernel_rfl) (by kernel_rfl) (by kernel_rfl) (fun _ _ _ h => by cases h.1) (Or.inl ⟨by rfl, fun wq hq0 => run_fa 27 (.tmp 3) 3 4 rfl rfl faR3⟩) k77 ?_; simp only [pA]
      refine held_take (i := 3) (v := (S b.sl)) (d := some 34) rfl (by kernel_rfl) (by kernel_rfl) (by kernel_rfl) (by kernel_rfl) (fun _ _ _ h => by cases h.1) (Or.inl ⟨by rfl, fun wq hq0 => run_c1 2 (.tmp 33) rfl ⟨(N + 1), 4, none⟩ rfl undI64 rfl (r_cells hq0).2.2.2.2.1⟩) k77 ?_; simp only [pA]
      refine held_take (i := 5) (v := (Value.pointer (some ⟨N, 5, none⟩))) (d := some 36) rfl (by kernel_rfl) (by kernel_rfl) (by kernel_rfl) (by kernel_rfl) (fun _ _ _ h => by cases h.1) (Or.inl ⟨by rfl, fun wq hq0 => run_fa 27 (.tmp 2) 4 5 rfl rfl faR4⟩) k77 ?_; simp only [pA]
      refine held_take (i := 7) (v := (Value.pointer (some ⟨(N + 1), 5, none⟩))) (d := some 38) rfl (by kernel_rfl) (by kernel_rfl) (by kernel_rfl) (by kernel_rfl) (fun _ _ _ h => by cases h.1) (Or.inl ⟨by rfl, fun wq hq0 => run_fa 27 (.tmp 3) 4 5 rfl rfl faR4⟩) k77 ?_; simp only [pA]
      refine held_take (i := 8) (v := (S b.sh)) (d := some 39) rfl (by kernel_rfl) (by kernel_rfl) (by kernel_rfl) (by kernel_rfl) (fun _ _ _ h => by cases h.1) (Or.inl ⟨by rfl, fun wq hq0 => run_c1 2 (.tmp 38) rfl ⟨(N + 1), 5, none⟩ rfl undI64 rfl (r_cells hq0).2.2.2.2.2⟩) k77 ?_; simp only [pA]
      refine wpAnyH_all (rs := [1, 6]) (by kernel_rfl) (by simp) ?_
      intro iq hiq; simp only [List.mem_cons, List.not_mem_nil, or_false] at hiq
      rcases hiq with rfl | rfl
      · refine opg_list rfl ?_
        refine wpl_runD (d := some 32) rfl (by kernel_rfl) (S a.sl) (run_c1 2 (.tmp 31) rfl ⟨N, 4, none⟩ rfl undI64 rfl (r_cells5 k76).2.2.2.2.1) ?_; simp only [pA]
        refine ⟨k77, ?_⟩
        refine held_take (i := 4) (v := (S (sMax a.sl b.sl))) (d := some 35) rfl (by kernel_rfl) (by kernel_rfl) (by kernel_rfl) (by kernel_rfl) (fun _ _ _ h => by cases h.1) (Or.inl ⟨by rfl, fun wq hq0 => run_maxS (x := (.tmp 32)) (y := (.tmp 34)) (p := a.sl) (q := b.sl) rfl rfl rfl wq⟩) k77 ?_; simp only [pA]
        refine wpAnyH_all (rs := [6]) (by kernel_rfl) (by simp) ?_
        intro iq hiq; simp only [List.mem_singleton] at hiq; subst hiq
        refine opg_list rfl ?_
        refine wpl_runD (d := some 37) rfl (by kernel_rfl) (S a.sh) (run_c1 2 (.tmp 36) rfl ⟨N, 5, none⟩ rfl undI64 rfl (r_cells5 k76).2.2.2.2.2) ?_; simp only [pA]
        refine ⟨k77, ?_⟩
        refine held_take (i := 9) (v := (S (sMin a.sh b.sh))) (d := some 40) rfl (by kernel_rfl) (by kernel_rfl) (by kernel_rfl) (by kernel_rfl) (fun _ _ _ h => by cases h.1) (Or.inl ⟨by rfl, fun wq hq0 => run_minS (x := (.tmp 37)) (y := (.tmp 39)) (p := a.sh) (q := b.sh) rfl rfl rfl wq⟩) k77 ?_; simp only [pA]
        refine held_take (i := 10) (v := (Value.pointer (some ⟨N, 4, none⟩))) (d := some 41) rfl (by kernel_rfl) (by kernel_rfl) (by kernel_rfl) (by kernel_rfl) (fun _ _ _ h => by cases h.1) (Or.inl ⟨by rfl, fun wq hq0 => run_fa 27 (.tmp 2) 3 4 rfl rfl faR3⟩) k77 ?_; simp only [pA]
        refine wpAnyH_all (rs := [11]) (by kernel_rfl) (by simp) ?_
        intro iq hiq; simp only [List.mem_singleton] at hiq; subst hiq
        refine opg_list rfl ?_
        refine wpl_setN (by rfl) (by kernel_rfl) 2 (.tmp 41) (.tmp 35) rfl N 4 rfl _ rfl szI rfl rfl 27 6 _ k76 (by omega) ?_
        intro xw90 t91 k92_; try simp only [pA]
        have k92 : Has xw90 N 27 6 (rC ⟨(meetN a.b b.b), (uMax a.lo b.lo), (uMin a.hi b.hi), (sMax a.sl b.sl), a.sh⟩) := k92_.congr (fun j hj => set_sl _ _ j)
        have k93 := k77.touch t91 (by omega)
        have k94 := k78.touch t91 (by omega)
        have k95 := k79.touch t91 (by omega)
        have k96 := k80.touch t91 (by omega)
        have lo97 := t91.below lo81 (by omega)
        have h98 := t91.sz hM83
        clear k76 k92_ k77 k78 k79 k80 lo81 hM83 t91
        refine ⟨k93, ?_⟩
        refine held_take (i := 12) (v := (Value.pointer (some ⟨N, 5, none⟩))) (d := some 42) rfl (by kernel_rfl) (by kernel_rfl) (by kernel_rfl) (by kernel_rfl) (fun _ _ _ h => by cases h.1) (Or.inl ⟨by rfl, fun wq hq0 => run_fa 27 (.tmp 2) 4 5 rfl rfl faR4⟩) k93 ?_; simp only [pA]
        refine wpAnyH_all (rs := [13]) (by kernel_rfl) (by simp) ?_
        intro iq hiq; simp only [List.mem_singleton] at hiq; subst hiq
        refine opg_list rfl ?_
        refine wpl_setN (by rfl) (by kernel_rfl) 2 (.tmp 42) (.tmp 40) rfl N 5 rfl _ rfl szI rfl rfl 27 6 _ k92 (by omega) ?_
        intro xw99 t100 k101_; try simp only [pA]
        have k101 : Has xw99 N 27 6 (rC ⟨(meetN a.b b.b), (uMax a.lo b.lo), (uMin a.hi b.hi), (sMax a.sl b.sl), (sMin a.sh b.sh)⟩) := k101_.congr (fun j hj => set_sh _ _ j hj)
        have k102 := k93.touch t100 (by omega)
        have k103 := k94.touch t100 (by omega)
        have k104 := k95.touch t100 (by omega)
        have k105 := k96.touch t100 (by omega)
        have lo106 := t100.below lo97 (by omega)
        have h107 := t100.sz h98
        clear k92 k101_ k93 k94 k95 k96 lo97 h98 t100
        refine ⟨k102, ?_⟩
        refine wpAnyH_done (by kernel_rfl) ?_ _
        refine ⟨rfl, (), (by simp only [pA]), k101, k102, k103, k104, k105, lo106⟩
      · refine opg_list rfl ?_
        refine wpl_runD (d := some 37) rfl (by kernel_rfl) (S a.sh) (run_c1 2 (.tmp 36) rfl ⟨N, 5, none⟩ rfl undI64 rfl (r_cells5 k76).2.2.2.2.2) ?_; simp only [pA]
        refine ⟨k77, ?_⟩
        refine held_take (i := 9) (v := (S (sMin a.sh b.sh))) (d := some 40) rfl (by kernel_rfl) (by kernel_rfl) (by kernel_rfl) (by kernel_rfl) (fun _ _ _ h => by cases h.1) (Or.inl ⟨by rfl, fun wq hq0 => run_minS (x := (.tmp 37)) (y := (.tmp 39)) (p := a.sh) (q := b.sh) rfl rfl rfl wq⟩) k77 ?_; simp only [pA]
        refine wpAnyH_all (rs := [1]) (by kernel_rfl) (by simp) ?_
        intro iq hiq; simp only [List.mem_singleton] at hiq; subst hiq
        refine opg_list rfl ?_
        refine wpl_runD (d := some 32) rfl (by kernel_rfl) (S a.sl) (run_c1 2 (.tmp 31) rfl ⟨N, 4, none⟩ rfl undI64 rfl (r_cells5 k76).2.2.2.2.1) ?_; simp only [pA]
        refine ⟨k77, ?_⟩
        refine held_take (i := 4) (v := (S (sMax a.sl b.sl))) (d := some 35) rfl (by kernel_rfl) (by kernel_rfl) (by kernel_rfl) (by kernel_rfl) (fun _ _ _ h => by cases h.1) (Or.inl ⟨by rfl, fun wq hq0 => run_maxS (x := (.tmp 32)) (y := (.tmp 34)) (p := a.sl) (q := b.sl) rfl rfl rfl wq⟩) k77 ?_; simp only [pA]
        refine held_take (i := 10) (v := (Value.pointer (some ⟨N, 4, none⟩))) (d := some 41) rfl (by kernel_rfl) (by kernel_rfl) (by kernel_rfl) (by kernel_rfl) (fun _ _ _ h => by cases h.1) (Or.inl ⟨by rfl, fun wq hq0 => run_fa 27 (.tmp 2) 3 4 rfl rfl faR3⟩) k77 ?_; simp only [pA]
        refine wpAnyH_all (rs := [11]) (by kernel_rfl) (by simp) ?_
        intro iq hiq; simp only [List.mem_singleton] at hiq; subst hiq
        refine opg_list rfl ?_
        refine wpl_setN (by rfl) (by kernel_rfl) 2 (.tmp 41) (.tmp 35) rfl N 4 rfl _ rfl szI rfl rfl 27 6 _ k76 (by omega) ?_
        intro xw90 t91 k92_; try simp only [pA]
        have k92 : Has xw90 N 27 6 (rC ⟨(meetN a.b b.b), (uMax a.lo b.lo), (uMin a.hi b.hi), (sMax a.sl b.sl), a.sh⟩) := k92_.congr (fun j hj => set_sl _ _ j)
        have k93 := k77.touch t91 (by omega)
        have k94 := k78.touch t91 (by omega)
        have k95 := k79.touch t91 (by omega)
        have k96 := k80.touch t91 (by omega)
        have lo97 := t91.below lo81 (by omega)
        have h98 := t91.sz hM83
        clear k76 k92_ k77 k78 k79 k80 lo81 hM83 t91
        refine ⟨k93, ?_⟩
        refine held_take (i := 12) (v := (Value.pointer (some ⟨N, 5, none⟩))) (d := some 42) rfl (by kernel_rfl) (by kernel_rfl) (by kernel_rfl) (by kernel_rfl) (fun _ _ _ h => by cases h.1) (Or.inl ⟨by rfl, fun wq hq0 => run_fa 27 (.tmp 2) 4 5 rfl rfl faR4⟩) k93 ?_; simp only [pA]
        refine wpAnyH_all (rs := [13]) (by kernel_rfl) (by simp) ?_
        intro iq hiq; simp only [List.mem_singleton] at hiq; subst hiq
        refine opg_list rfl ?_
        refine wpl_setN (by rfl) (by kernel_rfl) 2 (.tmp 42) (.tmp 40) rfl N 5 rfl _ rfl szI rfl rfl 27 6 _ k92 (by omega) ?_
        intro xw99 t100 k101_; try simp only [pA]
        have k101 : Has xw99 N 27 6 (rC ⟨(meetN a.b b.b), (uMax a.lo b.lo), (uMin a.hi b.hi), (sMax a.sl b.sl), (sMin a.sh b.sh)⟩) := k101_.congr (fun j hj => set_sh _ _ j hj)
        have k102 := k93.touch t100 (by omega)
        have k103 := k94.touch t100 (by omega)
        have k104 := k95.touch t100 (by omega)
        have k105 := k96.touch t100 (by omega)
        have lo106 := t100.below lo97 (by omega)
        have h107 := t100.sz h98
        clear k92 k101_ k93 k94 k95 k96 lo97 h98 t100
        refine ⟨k102, ?_⟩
        refine wpAnyH_done (by kernel_rfl) ?_ _
        refine ⟨rfl, (), (by simp only [pA]), k101, k102, k103, k104, k105, lo106⟩
    · skip
      rintro _ xw96 ⟨k90, k91, k92, k93, k94, lo95⟩
      try dsimp only
      try simp only [pA]
      obtain ⟨M97, hM97⟩ := sz_some xw96
      have lt_98 := k90.ltN hM97
      have lt_99 := k91.ltN hM97
      have lt_100 := k92.ltN hM97
      have lt_101 := k93.ltN hM97
      have lt_102 := k94.ltN hM97
      go_upto_region 5 with fail
      refine wp_region_lit ?_
      try simp only [pA]
      change wpList _ _ _ ((_ :: _ :: _ :: _ :: _ :: _ :: _ :: []) ++ (_ :: _ :: _ :: [])) _ _
      refine wpList_prefix (C := fun w' => ∃ x : Later M97 xw96, w' = x.w') _ _ _ _ ⟨⟨_, Below.refl _ _⟩, rfl⟩ ?_
      refine later_row hM97 27 (.tmp 2) rfl (N) rfl 27 6 _ k90 undR szR (by rfl) ?_; simp only [pA]
      refine later_row hM97 27 (.tmp 2) rfl (N) rfl 27 6 _ k90 undR szR (by rfl) ?_; simp only [pA]
      go_big_quiet_step (fail)
      go_big_quiet_step ((go_at_call 30; exact later_of hM97 _ (fun K hK hKN => Both_any ⟨(meetN a.b b.b), (uMax a.lo b.lo), (uMin a.hi b.hi), (sMax a.sl b.sl), (sMin a.sh b.sh)⟩ ⟨(meetN a.b b.b), (uMax a.lo b.lo), (uMin a.hi b.hi), (sMax a.sl b.sl), (sMin a.sh b.sh)⟩ (meetB a.b b.b) _ K hK)))
      iterate 3 (go_big_quiet_step (fail))
      refine wpQuiet_nil (laterE hM97 ?_)
      intro xw103 M104 hbxw103 hM104 lM104
      have k105 := k90.below hbxw103 (by omega)
      have k106 := k91.below hbxw103 (by omega)
      have k107 := k92.below hbxw103 (by omega)
      have k108 := k93.below hbxw103 (by omega)
      have k109 := k94.below hbxw103 (by omega)
      have lo110 := lo95.trans (hbxw103.mono (by omega))
      clear k90 k91 k92 k93 k94 lo95 hbxw103
      refine wpl_store rfl 27 (.tmp 4) (.tmp 47) rfl (N + 1 + 1) 6 (rC (bothF ⟨(meetN a.b b.b), (uMax a.lo b.lo), (uMin a.hi b.hi), (sMax a.sl b.sl), (sMin a.sh b.sh)⟩ ⟨(meetN a.b b.b), (uMax a.lo b.lo), (uMin a.hi b.hi), (sMax a.sl b.sl), (sMin a.sh b.sh)⟩ (meetB a.b b.b)).1) rfl rfl 27 _ k107 szR (fun j _ => rC_one _ j) ?_
      intro xw111 t112 k113; try simp only [pA]
      have k114 := k105.touch t112 (by omega)
      have k115 := k106.touch t112 (by omega)
      have k116 := k108.touch t112 (by omega)
      have k117 := k109.touch t112 (by omega)
      have lo118 := t112.below lo110 (by omega)
      have h119 := t112.sz hM104
      clear k107 k105 k106 k108 k109 lo110 hM104 t112
      refine wpl_store rfl 27 (.tmp 5) (.tmp 48) rfl (N + 1 + 1 + 1) 6 (rC (bothF ⟨(meetN a.b b.b), (uMax a.lo b.lo), (uMin a.hi b.hi), (sMax a.sl b.sl), (sMin a.sh b.sh)⟩ ⟨(meetN a.b b.b), (uMax a.lo b.lo), (uMin a.hi b.hi), (sMax a.sl b.sl), (sMin a.sh b.sh)⟩ (meetB a.b b.b)).2.1) rfl rfl 27 _ k116 szR (fun j _ => rC_one _ j) ?_
      intro xw120 t121 k122; try simp only [pA]
      have k123 := k114.touch t121 (by omega)
      have k124 := k115.touch t121 (by omega)
      have k125 := k113.touch t121 (by omega)
      have k126 := k117.touch t121 (by omega)
      have lo127 := t121.below lo118 (by omega)
      have h128 := t121.sz h119
      clear k116 k114 k115 k113 k117 lo118 h119 t121
      refine wpl_run rfl (Value.bool (bothF ⟨(meetN a.b b.b), (uMax a.lo b.lo), (uMin a.hi b.hi), (sMax a.sl b.sl), (sMin a.sh b.sh)⟩ ⟨(meetN a.b b.b), (uMax a.lo b.lo), (uMin a.hi b.hi), (sMax a.sl b.sl), (sMin a.sh b.sh)⟩ (meetB a.b b.b)).2.2) _ (run_as (x := (.tmp 49)) rfl _ rfl) ?_; simp only [pA]
      obtain ⟨M129, hM129⟩ := sz_some xw120
      have lt_130 := k123.ltN hM129
      have lt_131 := k124.ltN hM129
      have lt_132 := k125.ltN hM129
      have lt_133 := k122.ltN hM129
      have lt_134 := k126.ltN hM129
      go_wp2_with fail
      refine post_rrb rfl (N + 1 + 1) (N + 1 + 1 + 1) rfl rfl k125 k122 undR undR szR szR rfl rfl ?_
      exact ⟨by rw [ER.out]; first | rfl | (simp only [sameF, bB] <;> rfl), lo127⟩
def overF (a : Rn) (b : Rn) (n : W) : Rn × Rn × Bool :=
  bif (BitVec.ult (18446744073709551615#64 - n) b.lo) then (⟨zeroN, 0#64, 0#64, 0#64, 0#64⟩, ⟨zeroN, 0#64, 0#64, 0#64, 0#64⟩, false)
  else bif (BitVec.ult a.hi n) then (⟨zeroN, 0#64, 0#64, 0#64, 0#64⟩, ⟨zeroN, 0#64, 0#64, 0#64, 0#64⟩, false)
  else (⟨a.b, (uMax a.lo (b.lo + n)), a.hi, a.sl, a.sh⟩, ⟨b.b, b.lo, (uMin b.hi (a.hi - n)), b.sl, b.sh⟩, true)
set_option maxRecDepth 100000 in
set_option maxHeartbeats 4000000 in
theorem Over_any (a : Rn) (b : Rn) (n : W) (w : World) (N : Nat) (hN : Sz w N) : Calls Tryd.prog 55 #[rV a, rV b, (Q n)] w fun e w' => e = .returned (.tuple #[rV (overF a b n).1, rV (overF a b n).2.1, .bool (overF a b n).2.2]) ∧ Below N w w' := by
  obtain ⟨rr, er⟩ : ∃ rr, rr = (overF a b n) := ⟨_, rfl⟩
  rw [← er]
  have ER := hid er
  clear er
  unfold rV
  go_enter Tryd.func55, Tryd.ntmps55
  go_upto_region 1 with (first
    | (refine wpl_box rfl 27 (.tmp 0) rfl 6 _ rfl (N) hN ?_; intro w1 hN1 hb1 hh1)
    | (refine wpl_box rfl 27 (.tmp 1) rfl 6 _ rfl (N + 1) hN1 ?_; intro w2 hN2 hb2 hh2)
    | (refine wpl_alloc rfl 27 rfl 6 (rC zeroR) zeR (N + 1 + 1) hN2 ?_; intro w3 hN3 hb3 hh3)
    | (refine wpl_alloc rfl 27 rfl 6 (rC zeroR) zeR (N + 1 + 1 + 1) hN3 ?_; intro w4 hN4 hb4 hh4)
    | fail)
  have lo0 : Below N w w4 := (((hb1.trans (hb2.mono (by omega))).trans (hb3.mono (by omega))).trans (hb4.mono (by omega)))
  have k1 := (((hh1.below hb2 (by omega)).below hb3 (by omega)).below hb4 (by omega))
  have k2 := ((hh2.below hb3 (by omega)).below hb4 (by omega))
  have k3 := (hh3.below hb4 (by omega))
  have k4 := hh4
  clear hh1 hb1 hh2 hb2 hh3 hb3 hh4 hb4 hN1 hN2 hN3
  cases h1_ : (BitVec.ult (18446744073709551615#64 - n) b.lo)
  · have H1_ := hid h1_
    clear h1_
    cases h2_ : (BitVec.ult a.hi n)
    · have H2_ := hid h2_
      clear h2_
      go_upto_region 1 with fail
      obtain ⟨c5, c6, c7, c8, c9, c10⟩ := r_cells k2
      obtain ⟨c11, c12, c13, c14, c15, c16⟩ := r_cells k1
      refine wp_region_later1 ((N + 1 + 1 + 1 + 1)) ?_
      try simp only [pA]
      go_big_quiet_step (fail)
      refine later_c1 hN4 23 (.tmp 9) rfl rfl und64 rfl c7 (by rfl) ?_; simp only [pA]
      go_big_quiet_step (fail)
      refine later_b (x := (.const (.int .u64 18446744073709551615))) (y := (.tmp 11)) rfl (bin_sub _ 18446744073709551615#64 n) rfl rfl (by rfl) ?_; simp only [pA]
      refine later_b (x := (.tmp 10)) (y := (.tmp 12)) rfl (BinRun.is H1_.out (bin_gtr _ b.lo (18446744073709551615#64 - n))) rfl rfl (by rfl) ?_; simp only [pA]
      iterate 2 (go_big_quiet_step (fail))
      refine later_c1 hN4 23 (.tmp 15) rfl rfl und64 rfl c14 (by rfl) ?_; simp only [pA]
      go_big_quiet_step (fail)
      refine later_b (x := (.tmp 16)) (y := (.tmp 17)) rfl (BinRun.is H2_.out (bin_lss _ a.hi n)) rfl rfl (by rfl) ?_; simp only [pA]
      go_big_quiet_step (fail)
      refine wpQuiet_nil (laterE hN4 ?_)
      intro xw17 M18 hbxw17 hM18 lM18
      have k19 := k1.below hbxw17 (by omega)
      have k20 := k2.below hbxw17 (by omega)
      have k21 := k3.below hbxw17 (by omega)
      have k22 := k4.below hbxw17 (by omega)
      have lo23 := lo0.trans (hbxw17.mono (by omega))
      clear k1 c11 c12 c13 c14 c15 c16 k2 c5 c6 c7 c8 c9 c10 k3 k4 lo0 hbxw17
      go_upto_region 3 with fail
      refine wp_region_lit ?_
      try simp only [pA]
      change wpList _ _ _ ((_ :: _ :: _ :: _ :: _ :: _ :: _ :: _ :: []) ++ (_ :: [])) _ _
      obtain ⟨c24, c25, c26, c27, c28, c29⟩ := r_cells k19
      obtain ⟨c30, c31, c32, c33, c34, c35⟩ := r_cells k20
      refine wpList_prefix (C := fun w' => ∃ x : Later M18 xw17, w' = x.w') _ _ _ _ ⟨⟨_, Below.refl _ _⟩, rfl⟩ ?_
      go_big_quiet_step (fail)
      refine later_c1 hM18 23 (.tmp 22) rfl rfl und64 rfl c26 (by rfl) ?_; simp only [pA]
      go_big_quiet_step (fail)
      refine later_c1 hM18 23 (.tmp 24) rfl rfl und64 rfl c32 (by rfl) ?_; simp only [pA]
      go_big_quiet_step (fail)
      refine later_b (x := (.tmp 25)) (y := (.tmp 26)) rfl (bin_add _ b.lo n) rfl rfl (by rfl) ?_; simp only [pA]
      refine later_val (fun qq => run_maxQ (x := (.tmp 23)) (y := (.tmp 27)) (p := a.lo) (q := (b.lo + n)) rfl rfl rfl qq.w') (by rfl) ?_; simp only [pA]
      go_big_quiet_step (fail)
      refine wpQuiet_nil (laterE hM18 ?_)
      intro xw36 M37 hbxw36 hM37 lM37
      have k38 := k19.below hbxw36 (by omega)
      have k39 := k20.below hbxw36 (by omega)
      have k40 := k21.below hbxw36 (by omega)
      have k41 := k22.below hbxw36 (by omega)
      have lo42 := lo23.trans (hbxw36.mono (by omega))
      clear k19 c24 c25 c26 c27 c28 c29 k20 c30 c31 c32 c33 c34 c35 k21 k22 lo23 hbxw36
      refine wpl_set rfl 23 (.tmp 29) (.tmp 28) rfl N 2 rfl _ rfl sz64 rfl rfl 27 6 _ k38 (by omega) ?_
      intro xw43 t44 k45_; try simp only [pA]
      have k45 : Has xw43 N 27 6 (rC ⟨a.b, (uMax a.lo (b.lo + n)), a.hi, a.sl, a.sh⟩) := k45_.congr (fun j hj => set_lo _ _ j)
      have k46 := k39.touch t44 (by omega)
      have k47 := k40.touch t44 (by omega)
      have k48 := k41.touch t44 (by omega)
      have lo49 := t44.below lo42 (by omega)
      have h50 := t44.sz hM37
      clear k38 k45_ k39 k40 k41 lo42 hM37 t44
      obtain ⟨M51, hM51⟩ := sz_some xw43
      have lt_52 := k45.ltN hM51
      have lt_53 := k46.ltN hM51
      have lt_54 := k47.ltN hM51
      have lt_55 := k48.ltN hM51
      go_upto_region 4 with fail
      refine wp_region_lit ?_
      try simp only [pA]
      change wpList _ _ _ ((_ :: _ :: _ :: _ :: _ :: _ :: _ :: _ :: []) ++ (_ :: [])) _ _
      obtain ⟨c56, c57, c58, c59, c60, c61⟩ := r_cells k46
      obtain ⟨c62, c63, c64, c65, c66, c67⟩ := r_cells5 k45
      refine wpList_prefix (C := fun w' => ∃ x : Later M51 xw43, w' = x.w') _ _ _ _ ⟨⟨_, Below.refl _ _⟩, rfl⟩ ?_
      go_big_quiet_step (fail)
      refine later_c1 hM51 23 (.tmp 30) rfl rfl und64 rfl c59 (by rfl) ?_; simp only [pA]
      go_big_quiet_step (fail)
      refine later_c1 hM51 23 (.tmp 32) rfl rfl und64 rfl c65 (by rfl) ?_; simp only [pA]
      go_big_quiet_step (fail)
      refine later_b (x := (.tmp 33)) (y := (.tmp 34)) rfl (bin_sub _ a.hi n) rfl rfl (by rfl) ?_; simp only [pA]
      refine later_val (fun qq => run_minQ (x := (.tmp 31)) (y := (.tmp 35)) (p := b.hi) (q := (a.hi - n)) rfl rfl rfl qq.w') (by rfl) ?_; simp only [pA]
      go_big_quiet_step (fail)
      refine wpQuiet_nil (laterE hM51 ?_)
      intro xw68 M69 hbxw68 hM69 lM69
      have k70 := k45.below hbxw68 (by omega)
      have k71 := k46.below hbxw68 (by omega)
      have k72 := k47.below hbxw68 (by omega)
      have k73 := k48.below hbxw68 (by omega)
      have lo74 := lo49.trans (hbxw68.mono (by omega))
      clear k45 c62 c63 c64 c65 c66 c67 k46 c56 c57 c58 c59 c60 c61 k47 k48 lo49 hbxw68
      refine wpl_set rfl 23 (.tmp 37) (.tmp 36) rfl (N + 1) 3 rfl _ rfl sz64 rfl rfl 27 6 _ k71 (by omega) ?_
      intro xw75 t76 k77_; try simp only [pA]
      have k77 : Has xw75 (N + 1) 27 6 (rC ⟨b.b, b.lo, (uMin b.hi (a.hi - n)), b.sl, b.sh⟩) := k77_.congr (fun j hj => set_hi _ _ j)
      have k78 := k70.touch t76 (by omega)
      have k79 := k72.touch t76 (by omega)
      have k80 := k73.touch t76 (by omega)
      have lo81 := t76.below lo74 (by omega)
      have h82 := t76.sz hM69
      clear k71 k77_ k70 k72 k73 lo74 hM69 t76
      obtain ⟨M83, hM83⟩ := sz_some xw75
      have lt_84 := k78.ltN hM83
      have lt_85 := k77.ltN hM83
      have lt_86 := k79.ltN hM83
      have lt_87 := k80.ltN hM83
      go_upto_region 5 with fail
      refine wp_region_held (S := fun w' => (Has w' (N + 1) 27 6 (rC ⟨b.b, b.lo, (uMin b.hi (a.hi - n)), b.sl, b.sh⟩)) ∧ (Has w' N 27 6 (rC ⟨a.b, (uMax a.lo (b.lo + n)), a.hi, a.sl, a.sh⟩))) (by kernel_rfl) ?_
      replace k78 : Has xw75.drew N 27 6 (rC ⟨a.b, (uMax a.lo (b.lo + n)), a.hi, a.sl, a.sh⟩) := k78
      replace k77 : Has xw75.drew (N + 1) 27 6 (rC ⟨b.b, b.lo, (uMin b.hi (a.hi - n)), b.sl, b.sh⟩) := k77
      replace k79 : Has xw75.drew (N + 1 + 1) 27 6 (rC zeroR) := k79
      replace k80 : Has xw75.drew (N + 1 + 1 + 1) 27 6 (rC zeroR) := k80
      replace hM83 : Sz xw75.drew M83 := hM83
      replace lo81 : Below N w xw75.drew := lo81.drew
      change wpAnyH _ _ _ _ _ _ _ _ (World.drew _)
      generalize xw75.drew = xw88 at *
      refine held_take (i := 0) (v := (Value.agg (cellsOf (rC ⟨a.b, (uMax a.lo (b.lo + n)), a.hi, a.sl, a.sh⟩) 6))) (d := some 38) rfl (by kernel_rfl) (by kernel_rfl) (by kernel_rfl) (by kernel_rfl) (fun _ _ _ h => h) (Or.inl ⟨by rfl, fun wq ⟨hq0, hq1⟩ => run_rw 27 (.tmp 3) rfl N rfl 27 6 _ hq1 undR szR⟩) ⟨k77, k78⟩ ?_; simp only [pA]
      refine held_take (i := 1) (v := (Value.agg (cellsOf (rC ⟨b.b, b.lo, (uMin b.hi (a.hi - n)), b.sl, b.sh⟩) 6))) (d := some 39) rfl (by kernel_rfl) (by kernel_rfl) (by kernel_rfl) (by kernel_rfl) (fun _ _ _ h => h) (Or.inl ⟨by rfl, fun wq ⟨hq0, hq1⟩ => run_rw 27 (.tmp 4) rfl (N + 1) rfl 27 6 _ hq0 undR szR⟩) ⟨k77, k78⟩ ?_; simp only [pA]
      refine wpAnyH_all (rs := [2]) (by kernel_rfl) (by simp) ?_
      intro iq hiq; simp only [List.mem_singleton] at hiq; subst hiq
      refine opg_list rfl ?_
      refine wpl_storeN (by rfl) (by kernel_rfl) 27 (.tmp 6) (.tmp 38) rfl (N + 1 + 1) 6 (rC ⟨a.b, (uMax a.lo (b.lo + n)), a.hi, a.sl, a.sh⟩) rfl rfl 27 _ k79 szR (fun j _ => rC_one _ j) ?_
      intro xw89 t90 k91; try simp only [pA]
      have k92 := k78.touch t90 (by omega)
      have k93 := k77.touch t90 (by omega)
      have k94 := k80.touch t90 (by omega)
      have lo95 := t90.below lo81 (by omega)
      have h96 := t90.sz hM83
      clear k79 k78 k77 k80 lo81 hM83 t90
      refine ⟨⟨k93, k92⟩, ?_⟩
      refine wpAnyH_all (rs := [3]) (by kernel_rfl) (by simp) ?_
      intro iq hiq; simp only [List.mem_singleton] at hiq; subst hiq
      refine opg_list rfl ?_
      refine wpl_storeN (by rfl) (by kernel_rfl) 27 (.tmp 7) (.tmp 39) rfl (N + 1 + 1 + 1) 6 (rC ⟨b.b, b.lo, (uMin b.hi (a.hi - n)), b.sl, b.sh⟩) rfl rfl 27 _ k94 szR (fun j _ => rC_one _ j) ?_
      intro xw97 t98 k99; try simp only [pA]
      have k100 := k92.touch t98 (by omega)
      have k101 := k93.touch t98 (by omega)
      have k102 := k91.touch t98 (by omega)
      have lo103 := t98.below lo95 (by omega)
      have h104 := t98.sz h96
      clear k94 k92 k93 k91 lo95 h96 t98
      refine ⟨⟨k101, k100⟩, ?_⟩
      refine held_take (i := 4) (v := (Value.bool true)) (d := some 8) rfl (by kernel_rfl) (by kernel_rfl) (by kernel_rfl) (by kernel_rfl) (fun _ _ _ h => h) (Or.inl ⟨by rfl, fun wq ⟨hq0, hq1⟩ => run_as (x := (.const (.bool true))) rfl wq rfl⟩) ⟨k101, k100⟩ ?_; simp only [pA]
      refine wpAnyH_done (by kernel_rfl) ?_ _
      obtain ⟨M105, hM105⟩ := sz_some xw97
      have lt_106 := k100.ltN hM105
      have lt_107 := k101.ltN hM105
      have lt_108 := k102.ltN hM105
      have lt_109 := k99.ltN hM105
      go_wp2_with fail
      refine post_rrb rfl (N + 1 + 1) (N + 1 + 1 + 1) rfl rfl k102 k99 undR undR szR szR rfl rfl ?_
      exact ⟨by rw [ER.out]; first | rfl | (simp only [overF, H1_.out, H2_.out, bB] <;> rfl), lo103⟩
    · have H2_ := hid h2_
      clear h2_
      go_upto_region 1 with fail
      obtain ⟨c5, c6, c7, c8, c9, c10⟩ := r_cells k2
      obtain ⟨c11, c12, c13, c14, c15, c16⟩ := r_cells k1
      refine wp_region_later1 ((N + 1 + 1 + 1 + 1)) ?_
      try simp only [pA]
      go_big_quiet_step (fail)
      refine later_c1 hN4 23 (.tmp 9) rfl rfl und64 rfl c7 (by rfl) ?_; simp only [pA]
      go_big_quiet_step (fail)
      refine later_b (x := (.const (.int .u64 18446744073709551615))) (y := (.tmp 11)) rfl (bin_sub _ 18446744073709551615#64 n) rfl rfl (by rfl) ?_; simp only [pA]
      refine later_b (x := (.tmp 10)) (y := (.tmp 12)) rfl (BinRun.is H1_.out (bin_gtr _ b.lo (18446744073709551615#64 - n))) rfl rfl (by rfl) ?_; simp only [pA]
      iterate 2 (go_big_quiet_step (fail))
      refine later_c1 hN4 23 (.tmp 15) rfl rfl und64 rfl c14 (by rfl) ?_; simp only [pA]
      go_big_quiet_step (fail)
      refine later_b (x := (.tmp 16)) (y := (.tmp 17)) rfl (BinRun.is H2_.out (bin_lss _ a.hi n)) rfl rfl (by rfl) ?_; simp only [pA]
      go_big_quiet_step (fail)
      refine wpQuiet_nil (laterE hN4 ?_)
      intro xw17 M18 hbxw17 hM18 lM18
      have k19 := k1.below hbxw17 (by omega)
      have k20 := k2.below hbxw17 (by omega)
      have k21 := k3.below hbxw17 (by omega)
      have k22 := k4.below hbxw17 (by omega)
      have lo23 := lo0.trans (hbxw17.mono (by omega))
      clear k1 c11 c12 c13 c14 c15 c16 k2 c5 c6 c7 c8 c9 c10 k3 k4 lo0 hbxw17
      go_upto_region 2 with fail
      refine wp_region_lit ?_
      try simp only [pA]
      change wpList _ _ _ ((_ :: _ :: []) ++ (_ :: _ :: _ :: [])) _ _
      refine wpList_prefix (C := fun w' => ∃ x : Later M18 xw17, w' = x.w') _ _ _ _ ⟨⟨_, Below.refl _ _⟩, rfl⟩ ?_
      refine later_val (fun q => run_bd 27 _ rfl (cellsOf (rC ⟨zeroN, 0#64, 0#64, 0#64, 0#64⟩) 6) (by kernel_rfl) q.w') (by rfl) ?_; simp only [pA]
      refine later_val (fun q => run_bd 27 _ rfl (cellsOf (rC ⟨zeroN, 0#64, 0#64, 0#64, 0#64⟩) 6) (by kernel_rfl) q.w') (by rfl) ?_; simp only [pA]
      refine wpQuiet_nil (laterE hM18 ?_)
      intro xw24 M25 hbxw24 hM25 lM25
      have k26 := k19.below hbxw24 (by omega)
      have k27 := k20.below hbxw24 (by omega)
      have k28 := k21.below hbxw24 (by omega)
      have k29 := k22.below hbxw24 (by omega)
      have lo30 := lo23.trans (hbxw24.mono (by omega))
      clear k19 k20 k21 k22 lo23 hbxw24
      refine wpl_store rfl 27 (.tmp 6) (.tmp 20) rfl (N + 1 + 1) 6 (rC ⟨zeroN, 0#64, 0#64, 0#64, 0#64⟩) rfl rfl 27 _ k28 szR (fun j _ => rC_one _ j) ?_
      intro xw31 t32 k33; try simp only [pA]
      have k34 := k26.touch t32 (by omega)
      have k35 := k27.touch t32 (by omega)
      have k36 := k29.touch t32 (by omega)
      have lo37 := t32.below lo30 (by omega)
      have h38 := t32.sz hM25
      clear k28 k26 k27 k29 lo30 hM25 t32
      refine wpl_store rfl 27 (.tmp 7) (.tmp 21) rfl (N + 1 + 1 + 1) 6 (rC ⟨zeroN, 0#64, 0#64, 0#64, 0#64⟩) rfl rfl 27 _ k36 szR (fun j _ => rC_one _ j) ?_
      intro xw39 t40 k41; try simp only [pA]
      have k42 := k34.touch t40 (by omega)
      have k43 := k35.touch t40 (by omega)
      have k44 := k33.touch t40 (by omega)
      have lo45 := t40.below lo37 (by omega)
      have h46 := t40.sz h38
      clear k36 k34 k35 k33 lo37 h38 t40
      refine wpl_run rfl (Value.bool false) _ (run_as (x := (.const (.bool false))) rfl _ rfl) ?_; simp only [pA]
      obtain ⟨M47, hM47⟩ := sz_some xw39
      have lt_48 := k42.ltN hM47
      have lt_49 := k43.ltN hM47
      have lt_50 := k44.ltN hM47
      have lt_51 := k41.ltN hM47
      go_wp2_with fail
      refine post_rrb rfl (N + 1 + 1) (N + 1 + 1 + 1) rfl rfl k44 k41 undR undR szR szR rfl rfl ?_
      exact ⟨by rw [ER.out]; first | rfl | (simp only [overF, H1_.out, H2_.out, bB] <;> rfl), lo45⟩
  · have H1_ := hid h1_
    clear h1_
    go_upto_region 1 with fail
    obtain ⟨c5, c6, c7, c8, c9, c10⟩ := r_cells k2
    obtain ⟨c11, c12, c13, c14, c15, c16⟩ := r_cells k1
    refine wp_region_later1 ((N + 1 + 1 + 1 + 1)) ?_
    try simp only [pA]
    go_big_quiet_step (fail)
    refine later_c1 hN4 23 (.tmp 9) rfl rfl und64 rfl c7 (by rfl) ?_; simp only [pA]
    go_big_quiet_step (fail)
    refine later_b (x := (.const (.int .u64 18446744073709551615))) (y := (.tmp 11)) rfl (bin_sub _ 18446744073709551615#64 n) rfl rfl (by rfl) ?_; simp only [pA]
    refine later_b (x := (.tmp 10)) (y := (.tmp 12)) rfl (BinRun.is H1_.out (bin_gtr _ b.lo (18446744073709551615#64 - n))) rfl rfl (by rfl) ?_; simp only [pA]
    iterate 6 (go_big_quiet_step (fail))
    refine wpQuiet_nil (laterE hN4 ?_)
    intro xw17 M18 hbxw17 hM18 lM18
    have k19 := k1.below hbxw17 (by omega)
    have k20 := k2.below hbxw17 (by omega)
    have k21 := k3.below hbxw17 (by omega)
    have k22 := k4.below hbxw17 (by omega)
    have lo23 := lo0.trans (hbxw17.mono (by omega))
    clear k1 c11 c12 c13 c14 c15 c16 k2 c5 c6 c7 c8 c9 c10 k3 k4 lo0 hbxw17
    go_upto_region 2 with fail
    refine wp_region_lit ?_
    try simp only [pA]
    change wpList _ _ _ ((_ :: _ :: []) ++ (_ :: _ :: _ :: [])) _ _
    refine wpList_prefix (C := fun w' => ∃ x : Later M18 xw17, w' = x.w') _ _ _ _ ⟨⟨_, Below.refl _ _⟩, rfl⟩ ?_
    refine later_val (fun q => run_bd 27 _ rfl (cellsOf (rC ⟨zeroN, 0#64, 0#64, 0#64, 0#64⟩) 6) (by kernel_rfl) q.w') (by rfl) ?_; simp only [pA]
    refine later_val (fun q => run_bd 27 _ rfl (cellsOf (rC ⟨zeroN, 0#64, 0#64, 0#64, 0#64⟩) 6) (by kernel_rfl) q.w') (by rfl) ?_; simp only [pA]
    refine wpQuiet_nil (laterE hM18 ?_)
    intro xw24 M25 hbxw24 hM25 lM25
    have k26 := k19.below hbxw24 (by omega)
    have k27 := k20.below hbxw24 (by omega)
    have k28 := k21.below hbxw24 (by omega)
    have k29 := k22.below hbxw24 (by omega)
    have lo30 := lo23.trans (hbxw24.mono (by omega))
    clear k19 k20 k21 k22 lo23 hbxw24
    refine wpl_store rfl 27 (.tmp 6) (.tmp 20) rfl (N + 1 + 1) 6 (rC ⟨zeroN, 0#64, 0#64, 0#64, 0#64⟩) rfl rfl 27 _ k28 szR (fun j _ => rC_one _ j) ?_
    intro xw31 t32 k33; try simp only [pA]
    have k34 := k26.touch t32 (by omega)
    have k35 := k27.touch t32 (by omega)
    have k36 := k29.touch t32 (by omega)
    have lo37 := t32.below lo30 (by omega)
    have h38 := t32.sz hM25
    clear k28 k26 k27 k29 lo30 hM25 t32
    refine wpl_store rfl 27 (.tmp 7) (.tmp 21) rfl (N + 1 + 1 + 1) 6 (rC ⟨zeroN, 0#64, 0#64, 0#64, 0#64⟩) rfl rfl 27 _ k36 szR (fun j _ => rC_one _ j) ?_
    intro xw39 t40 k41; try simp only [pA]
    have k42 := k34.touch t40 (by omega)
    have k43 := k35.touch t40 (by omega)
    have k44 := k33.touch t40 (by omega)
    have lo45 := t40.below lo37 (by omega)
    have h46 := t40.sz h38
    clear k36 k34 k35 k33 lo37 h38 t40
    refine wpl_run rfl (Value.bool false) _ (run_as (x := (.const (.bool false))) rfl _ rfl) ?_; simp only [pA]
    obtain ⟨M47, hM47⟩ := sz_some xw39
    have lt_48 := k42.ltN hM47
    have lt_49 := k43.ltN hM47
    have lt_50 := k44.ltN hM47
    have lt_51 := k41.ltN hM47
    go_wp2_with fail
    refine post_rrb rfl (N + 1 + 1) (N + 1 + 1 + 1) rfl rfl k44 k41 undR undR szR szR rfl rfl ?_
    exact ⟨by rw [ER.out]; first | rfl | (simp only [overF, H1_.out, bB] <;> rfl), lo45⟩
def overSF (a : Rn) (b : Rn) (n : W) : Rn × Rn × Bool :=
  bif (BitVec.slt (9223372036854775807#64 - n) b.sl) then (⟨zeroN, 0#64, 0#64, 0#64, 0#64⟩, ⟨zeroN, 0#64, 0#64, 0#64, 0#64⟩, false)
  else bif (BitVec.slt a.sh ((BitVec.ofInt 64 (-9223372036854775808)) + n)) then (⟨zeroN, 0#64, 0#64, 0#64, 0#64⟩, ⟨zeroN, 0#64, 0#64, 0#64, 0#64⟩, false)
  else (⟨a.b, a.lo, a.hi, (sMax a.sl (b.sl + n)), a.sh⟩, ⟨b.b, b.lo, b.hi, b.sl, (sMin b.sh (a.sh - n))⟩, true)
set_option maxRecDepth 100000 in
set_option maxHeartbeats 4000000 in
theorem OverS_any (a : Rn) (b : Rn) (n : W) (w : World) (N : Nat) (hN : Sz w N) : Calls Tryd.prog 56 #[rV a, rV b, (S n)] w fun e w' => e = .returned (.tuple #[rV (overSF a b n).1, rV (overSF a b n).2.1, .bool (overSF a b n).2.2]) ∧ Below N w w' := by
  obtain ⟨rr, er⟩ : ∃ rr, rr = (overSF a b n) := ⟨_, rfl⟩
  rw [← er]
  have ER := hid er
  clear er
  unfold rV
  go_enter Tryd.func56, Tryd.ntmps56
  go_upto_region 1 with (first
    | (refine wpl_box rfl 27 (.tmp 0) rfl 6 _ rfl (N) hN ?_; intro w1 hN1 hb1 hh1)
    | (refine wpl_box rfl 27 (.tmp 1) rfl 6 _ rfl (N + 1) hN1 ?_; intro w2 hN2 hb2 hh2)
    | (refine wpl_alloc rfl 27 rfl 6 (rC zeroR) zeR (N + 1 + 1) hN2 ?_; intro w3 hN3 hb3 hh3)
    | (refine wpl_alloc rfl 27 rfl 6 (rC zeroR) zeR (N + 1 + 1 + 1) hN3 ?_; intro w4 hN4 hb4 hh4)
    | fail)
  have lo0 : Below N w w4 := (((hb1.trans (hb2.mono (by omega))).trans (hb3.mono (by omega))).trans (hb4.mono (by omega)))
  have k1 := (((hh1.below hb2 (by omega)).below hb3 (by omega)).below hb4 (by omega))
  have k2 := ((hh2.below hb3 (by omega)).below hb4 (by omega))
  have k3 := (hh3.below hb4 (by omega))
  have k4 := hh4
  clear hh1 hb1 hh2 hb2 hh3 hb3 hh4 hb4 hN1 hN2 hN3
  cases h1_ : (BitVec.slt (9223372036854775807#64 - n) b.sl)
  · have H1_ := hid h1_
    clear h1_
    cases h2_ : (BitVec.slt a.sh ((BitVec.ofInt 64 (-9223372036854775808)) + n))
    · have H2_ := hid h2_
      clear h2_
      go_upto_region 1 with fail
      obtain ⟨c5, c6, c7, c8, c9, c10⟩ := r_cells k2
      obtain ⟨c11, c12, c13, c14, c15, c16⟩ := r_cells k1
      refine wp_region_later1 ((N + 1 + 1 + 1 + 1)) ?_
      try simp only [pA]
      go_big_quiet_step (fail)
      refine later_c1 hN4 2 (.tmp 9) rfl rfl undI64 rfl c9 (by rfl) ?_; simp only [pA]
      go_big_quiet_step (fail)
      refine later_b (x := (.const (.int .i64 9223372036854775807))) (y := (.tmp 11)) rfl (bin_ssub _ 9223372036854775807#64 n) rfl rfl (by rfl) ?_; simp only [pA]
      refine later_b (x := (.tmp 10)) (y := (.tmp 12)) rfl (BinRun.is H1_.out (bin_sgtr _ b.sl (9223372036854775807#64 - n))) rfl rfl (by rfl) ?_; simp only [pA]
      iterate 2 (go_big_quiet_step (fail))
      refine later_c1 hN4 2 (.tmp 15) rfl rfl undI64 rfl c16 (by rfl) ?_; simp only [pA]
      go_big_quiet_step (fail)
      refine later_b (x := (.const (.int .i64 (-9223372036854775808)))) (y := (.tmp 17)) rfl (bin_sadd _ (BitVec.ofInt 64 (-9223372036854775808)) n) rfl rfl (by rfl) ?_; simp only [pA]
      refine later_b (x := (.tmp 16)) (y := (.tmp 18)) rfl (BinRun.is H2_.out (bin_slss _ a.sh ((BitVec.ofInt 64 (-9223372036854775808)) + n))) rfl rfl (by rfl) ?_; simp only [pA]
      go_big_quiet_step (fail)
      refine wpQuiet_nil (laterE hN4 ?_)
      intro xw17 M18 hbxw17 hM18 lM18
      have k19 := k1.below hbxw17 (by omega)
      have k20 := k2.below hbxw17 (by omega)
      have k21 := k3.below hbxw17 (by omega)
      have k22 := k4.below hbxw17 (by omega)
      have lo23 := lo0.trans (hbxw17.mono (by omega))
      clear k1 c11 c12 c13 c14 c15 c16 k2 c5 c6 c7 c8 c9 c10 k3 k4 lo0 hbxw17
      go_upto_region 3 with fail
      refine wp_region_lit ?_
      try simp only [pA]
      change wpList _ _ _ ((_ :: _ :: _ :: _ :: _ :: _ :: _ :: _ :: []) ++ (_ :: [])) _ _
      obtain ⟨c24, c25, c26, c27, c28, c29⟩ := r_cells k19
      obtain ⟨c30, c31, c32, c33, c34, c35⟩ := r_cells k20
      refine wpList_prefix (C := fun w' => ∃ x : Later M18 xw17, w' = x.w') _ _ _ _ ⟨⟨_, Below.refl _ _⟩, rfl⟩ ?_
      go_big_quiet_step (fail)
      refine later_c1 hM18 2 (.tmp 23) rfl rfl undI64 rfl c28 (by rfl) ?_; simp only [pA]
      go_big_quiet_step (fail)
      refine later_c1 hM18 2 (.tmp 25) rfl rfl undI64 rfl c34 (by rfl) ?_; simp only [pA]
      go_big_quiet_step (fail)
      refine later_b (x := (.tmp 26)) (y := (.tmp 27)) rfl (bin_sadd _ b.sl n) rfl rfl (by rfl) ?_; simp only [pA]
      refine later_val (fun qq => run_maxS (x := (.tmp 24)) (y := (.tmp 28)) (p := a.sl) (q := (b.sl + n)) rfl rfl rfl qq.w') (by rfl) ?_; simp only [pA]
      go_big_quiet_step (fail)
      refine wpQuiet_nil (laterE hM18 ?_)
      intro xw36 M37 hbxw36 hM37 lM37
      have k38 := k19.below hbxw36 (by omega)
      have k39 := k20.below hbxw36 (by omega)
      have k40 := k21.below hbxw36 (by omega)
      have k41 := k22.below hbxw36 (by omega)
      have lo42 := lo23.trans (hbxw36.mono (by omega))
      clear k19 c24 c25 c26 c27 c28 c29 k20 c30 c31 c32 c33 c34 c35 k21 k22 lo23 hbxw36
      refine wpl_set rfl 2 (.tmp 30) (.tmp 29) rfl N 4 rfl _ rfl szI rfl rfl 27 6 _ k38 (by omega) ?_
      intro xw43 t44 k45_; try simp only [pA]
      have k45 : Has xw43 N 27 6 (rC ⟨a.b, a.lo, a.hi, (sMax a.sl (b.sl + n)), a.sh⟩) := k45_.congr (fun j hj => set_sl _ _ j)
      have k46 := k39.touch t44 (by omega)
      have k47 := k40.touch t44 (by omega)
      have k48 := k41.touch t44 (by omega)
      have lo49 := t44.below lo42 (by omega)
      have h50 := t44.sz hM37
      clear k38 k45_ k39 k40 k41 lo42 hM37 t44
      obtain ⟨M51, hM51⟩ := sz_some xw43
      have lt_52 := k45.ltN hM51
      have lt_53 := k46.ltN hM51
      have lt_54 := k47.ltN hM51
      have lt_55 := k48.ltN hM51
      go_upto_region 4 with fail
      refine wp_region_lit ?_
      try simp only [pA]
      change wpList _ _ _ ((_ :: _ :: _ :: _ :: _ :: _ :: _ :: _ :: []) ++ (_ :: [])) _ _
      obtain ⟨c56, c57, c58, c59, c60, c61⟩ := r_cells k46
      obtain ⟨c62, c63, c64, c65, c66, c67⟩ := r_cells5 k45
      refine wpList_prefix (C := fun w' => ∃ x : Later M51 xw43, w' = x.w') _ _ _ _ ⟨⟨_, Below.refl _ _⟩, rfl⟩ ?_
      go_big_quiet_step (fail)
      refine later_c1 hM51 2 (.tmp 31) rfl rfl undI64 rfl c61 (by rfl) ?_; simp only [pA]
      go_big_quiet_step (fail)
      refine later_c1 hM51 2 (.tmp 33) rfl rfl undI64 rfl c67 (by rfl) ?_; simp only [pA]
      go_big_quiet_step (fail)
      refine later_b (x := (.tmp 34)) (y := (.tmp 35)) rfl (bin_ssub _ a.sh n) rfl rfl (by rfl) ?_; simp only [pA]
      refine later_val (fun qq => run_minS (x := (.tmp 32)) (y := (.tmp 36)) (p := b.sh) (q := (a.sh - n)) rfl rfl rfl qq.w') (by rfl) ?_; simp only [pA]
      go_big_quiet_step (fail)
      refine wpQuiet_nil (laterE hM51 ?_)
      intro xw68 M69 hbxw68 hM69 lM69
      have k70 := k45.below hbxw68 (by omega)
      have k71 := k46.below hbxw68 (by omega)
      have k72 := k47.below hbxw68 (by omega)
      have k73 := k48.below hbxw68 (by omega)
      have lo74 := lo49.trans (hbxw68.mono (by omega))
      clear k45 c62 c63 c64 c65 c66 c67 k46 c56 c57 c58 c59 c60 c61 k47 k48 lo49 hbxw68
      refine wpl_set rfl 2 (.tmp 38) (.tmp 37) rfl (N + 1) 5 rfl _ rfl szI rfl rfl 27 6 _ k71 (by omega) ?_
      intro xw75 t76 k77_; try simp only [pA]
      have k77 : Has xw75 (N + 1) 27 6 (rC ⟨b.b, b.lo, b.hi, b.sl, (sMin b.sh (a.sh - n))⟩) := k77_.congr (fun j hj => set_sh _ _ j hj)
      have k78 := k70.touch t76 (by omega)
      have k79 := k72.touch t76 (by omega)
      have k80 := k73.touch t76 (by omega)
      have lo81 := t76.below lo74 (by omega)
      have h82 := t76.sz hM69
      clear k71 k77_ k70 k72 k73 lo74 hM69 t76
      obtain ⟨M83, hM83⟩ := sz_some xw75
      have lt_84 := k78.ltN hM83
      have lt_85 := k77.ltN hM83
      have lt_86 := k79.ltN hM83
      have lt_87 := k80.ltN hM83
      go_upto_region 5 with fail
      refine wp_region_held (S := fun w' => (Has w' (N + 1) 27 6 (rC ⟨b.b, b.lo, b.hi, b.sl, (sMin b.sh (a.sh - n))⟩)) ∧ (Has w' N 27 6 (rC ⟨a.b, a.lo, a.hi, (sMax a.sl (b.sl + n)), a.sh⟩))) (by kernel_rfl) ?_
      replace k78 : Has xw75.drew N 27 6 (rC ⟨a.b, a.lo, a.hi, (sMax a.sl (b.sl + n)), a.sh⟩) := k78
      replace k77 : Has xw75.drew (N + 1) 27 6 (rC ⟨b.b, b.lo, b.hi, b.sl, (sMin b.sh (a.sh - n))⟩) := k77
      replace k79 : Has xw75.drew (N + 1 + 1) 27 6 (rC zeroR) := k79
      replace k80 : Has xw75.drew (N + 1 + 1 + 1) 27 6 (rC zeroR) := k80
      replace hM83 : Sz xw75.drew M83 := hM83
      replace lo81 : Below N w xw75.drew := lo81.drew
      change wpAnyH _ _ _ _ _ _ _ _ (World.drew _)
      generalize xw75.drew = xw88 at *
      refine held_take (i := 0) (v := (Value.agg (cellsOf (rC ⟨a.b, a.lo, a.hi, (sMax a.sl (b.sl + n)), a.sh⟩) 6))) (d := some 39) rfl (by kernel_rfl) (by kernel_rfl) (by kernel_rfl) (by kernel_rfl) (fun _ _ _ h => h) (Or.inl ⟨by rfl, fun wq ⟨hq0, hq1⟩ => run_rw 27 (.tmp 3) rfl N rfl 27 6 _ hq1 undR szR⟩) ⟨k77, k78⟩ ?_; simp only [pA]
      refine held_take (i := 1) (v := (Value.agg (cellsOf (rC ⟨b.b, b.lo, b.hi, b.sl, (sMin b.sh (a.sh - n))⟩) 6))) (d := some 40) rfl (by kernel_rfl) (by kernel_rfl) (by kernel_rfl) (by kernel_rfl) (fun _ _ _ h => h) (Or.inl ⟨by rfl, fun wq ⟨hq0, hq1⟩ => run_rw 27 (.tmp 4) rfl (N + 1) rfl 27 6 _ hq0 undR szR⟩) ⟨k77, k78⟩ ?_; simp only [pA]
      refine wpAnyH_all (rs := [2]) (by kernel_rfl) (by simp) ?_
      intro iq hiq; simp only [List.mem_singleton] at hiq; subst hiq
      refine opg_list rfl ?_
      refine wpl_storeN (by rfl) (by kernel_rfl) 27 (.tmp 6) (.tmp 39) rfl (N + 1 + 1) 6 (rC ⟨a.b, a.lo, a.hi, (sMax a.sl (b.sl + n)), a.sh⟩) rfl rfl 27 _ k79 szR (fun j _ => rC_one _ j) ?_
      intro xw89 t90 k91; try simp only [pA]
      have k92 := k78.touch t90 (by omega)
      have k93 := k77.touch t90 (by omega)
      have k94 := k80.touch t90 (by omega)
      have lo95 := t90.below lo81 (by omega)
      have h96 := t90.sz hM83
      clear k79 k78 k77 k80 lo81 hM83 t90
      refine ⟨⟨k93, k92⟩, ?_⟩
      refine wpAnyH_all (rs := [3]) (by kernel_rfl) (by simp) ?_
      intro iq hiq; simp only [List.mem_singleton] at hiq; subst hiq
      refine opg_list rfl ?_
      refine wpl_storeN (by rfl) (by kernel_rfl) 27 (.tmp 7) (.tmp 40) rfl (N + 1 + 1 + 1) 6 (rC ⟨b.b, b.lo, b.hi, b.sl, (sMin b.sh (a.sh - n))⟩) rfl rfl 27 _ k94 szR (fun j _ => rC_one _ j) ?_
      intro xw97 t98 k99; try simp only [pA]
      have k100 := k92.touch t98 (by omega)
      have k101 := k93.touch t98 (by omega)
      have k102 := k91.touch t98 (by omega)
      have lo103 := t98.below lo95 (by omega)
      have h104 := t98.sz h96
      clear k94 k92 k93 k91 lo95 h96 t98
      refine ⟨⟨k101, k100⟩, ?_⟩
      refine held_take (i := 4) (v := (Value.bool true)) (d := some 8) rfl (by kernel_rfl) (by kernel_rfl) (by kernel_rfl) (by kernel_rfl) (fun _ _ _ h => h) (Or.inl ⟨by rfl, fun wq ⟨hq0, hq1⟩ => run_as (x := (.const (.bool true))) rfl wq rfl⟩) ⟨k101, k100⟩ ?_; simp only [pA]
      refine wpAnyH_done (by kernel_rfl) ?_ _
      obtain ⟨M105, hM105⟩ := sz_some xw97
      have lt_106 := k100.ltN hM105
      have lt_107 := k101.ltN hM105
      have lt_108 := k102.ltN hM105
      have lt_109 := k99.ltN hM105
      go_wp2_with fail
      refine post_rrb rfl (N + 1 + 1) (N + 1 + 1 + 1) rfl rfl k102 k99 undR undR szR szR rfl rfl ?_
      exact ⟨by rw [ER.out]; first | rfl | (simp only [overSF, H1_.out, H2_.out, bB] <;> rfl), lo103⟩
    · have H2_ := hid h2_
      clear h2_
      go_upto_region 1 with fail
      obtain ⟨c5, c6, c7, c8, c9, c10⟩ := r_cells k2
      obtain ⟨c11, c12, c13, c14, c15, c16⟩ := r_cells k1
      refine wp_region_later1 ((N + 1 + 1 + 1 + 1)) ?_
      try simp only [pA]
      go_big_quiet_step (fail)
      refine later_c1 hN4 2 (.tmp 9) rfl rfl undI64 rfl c9 (by rfl) ?_; simp only [pA]
      go_big_quiet_step (fail)
      refine later_b (x := (.const (.int .i64 9223372036854775807))) (y := (.tmp 11)) rfl (bin_ssub _ 9223372036854775807#64 n) rfl rfl (by rfl) ?_; simp only [pA]
      refine later_b (x := (.tmp 10)) (y := (.tmp 12)) rfl (BinRun.is H1_.out (bin_sgtr _ b.sl (9223372036854775807#64 - n))) rfl rfl (by rfl) ?_; simp only [pA]
      iterate 2 (go_big_quiet_step (fail))
      refine later_c1 hN4 2 (.tmp 15) rfl rfl undI64 rfl c16 (by rfl) ?_; simp only [pA]
      go_big_quiet_step (fail)
      refine later_b (x := (.const (.int .i64 (-9223372036854775808)))) (y := (.tmp 17)) rfl (bin_sadd _ (BitVec.ofInt 64 (-9223372036854775808)) n) rfl rfl (by rfl) ?_; simp only [pA]
      refine later_b (x := (.tmp 16)) (y := (.tmp 18)) rfl (BinRun.is H2_.out (bin_slss _ a.sh ((BitVec.ofInt 64 (-9223372036854775808)) + n))) rfl rfl (by rfl) ?_; simp only [pA]
      go_big_quiet_step (fail)
      refine wpQuiet_nil (laterE hN4 ?_)
      intro xw17 M18 hbxw17 hM18 lM18
      have k19 := k1.below hbxw17 (by omega)
      have k20 := k2.below hbxw17 (by omega)
      have k21 := k3.below hbxw17 (by omega)
      have k22 := k4.below hbxw17 (by omega)
      have lo23 := lo0.trans (hbxw17.mono (by omega))
      clear k1 c11 c12 c13 c14 c15 c16 k2 c5 c6 c7 c8 c9 c10 k3 k4 lo0 hbxw17
      go_upto_region 2 with fail
      refine wp_region_lit ?_
      try simp only [pA]
      change wpList _ _ _ ((_ :: _ :: []) ++ (_ :: _ :: _ :: [])) _ _
      refine wpList_prefix (C := fun w' => ∃ x : Later M18 xw17, w' = x.w') _ _ _ _ ⟨⟨_, Below.refl _ _⟩, rfl⟩ ?_
      refine later_val (fun q => run_bd 27 _ rfl (cellsOf (rC ⟨zeroN, 0#64, 0#64, 0#64, 0#64⟩) 6) (by kernel_rfl) q.w') (by rfl) ?_; simp only [pA]
      refine later_val (fun q => run_bd 27 _ rfl (cellsOf (rC ⟨zeroN, 0#64, 0#64, 0#64, 0#64⟩) 6) (by kernel_rfl) q.w') (by rfl) ?_; simp only [pA]
      refine wpQuiet_nil (laterE hM18 ?_)
      intro xw24 M25 hbxw24 hM25 lM25
      have k26 := k19.below hbxw24 (by omega)
      have k27 := k20.below hbxw24 (by omega)
      have k28 := k21.below hbxw24 (by omega)
      have k29 := k22.below hbxw24 (by omega)
      have lo30 := lo23.trans (hbxw24.mono (by omega))
      clear k19 k20 k21 k22 lo23 hbxw24
      refine wpl_store rfl 27 (.tmp 6) (.tmp 21) rfl (N + 1 + 1) 6 (rC ⟨zeroN, 0#64, 0#64, 0#64, 0#64⟩) rfl rfl 27 _ k28 szR (fun j _ => rC_one _ j) ?_
      intro xw31 t32 k33; try simp only [pA]
      have k34 := k26.touch t32 (by omega)
      have k35 := k27.touch t32 (by omega)
      have k36 := k29.touch t32 (by omega)
      have lo37 := t32.below lo30 (by omega)
      have h38 := t32.sz hM25
      clear k28 k26 k27 k29 lo30 hM25 t32
      refine wpl_store rfl 27 (.tmp 7) (.tmp 22) rfl (N + 1 + 1 + 1) 6 (rC ⟨zeroN, 0#64, 0#64, 0#64, 0#64⟩) rfl rfl 27 _ k36 szR (fun j _ => rC_one _ j) ?_
      intro xw39 t40 k41; try simp only [pA]
      have k42 := k34.touch t40 (by omega)
      have k43 := k35.touch t40 (by omega)
      have k44 := k33.touch t40 (by omega)
      have lo45 := t40.below lo37 (by omega)
      have h46 := t40.sz h38
      clear k36 k34 k35 k33 lo37 h38 t40
      refine wpl_run rfl (Value.bool false) _ (run_as (x := (.const (.bool false))) rfl _ rfl) ?_; simp only [pA]
      obtain ⟨M47, hM47⟩ := sz_some xw39
      have lt_48 := k42.ltN hM47
      have lt_49 := k43.ltN hM47
      have lt_50 := k44.ltN hM47
      have lt_51 := k41.ltN hM47
      go_wp2_with fail
      refine post_rrb rfl (N + 1 + 1) (N + 1 + 1 + 1) rfl rfl k44 k41 undR undR szR szR rfl rfl ?_
      exact ⟨by rw [ER.out]; first | rfl | (simp only [overSF, H1_.out, H2_.out, bB] <;> rfl), lo45⟩
  · have H1_ := hid h1_
    clear h1_
    go_upto_region 1 with fail
    obtain ⟨c5, c6, c7, c8, c9, c10⟩ := r_cells k2
    obtain ⟨c11, c12, c13, c14, c15, c16⟩ := r_cells k1
    refine wp_region_later1 ((N + 1 + 1 + 1 + 1)) ?_
    try simp only [pA]
    go_big_quiet_step (fail)
    refine later_c1 hN4 2 (.tmp 9) rfl rfl undI64 rfl c9 (by rfl) ?_; simp only [pA]
    go_big_quiet_step (fail)
    refine later_b (x := (.const (.int .i64 9223372036854775807))) (y := (.tmp 11)) rfl (bin_ssub _ 9223372036854775807#64 n) rfl rfl (by rfl) ?_; simp only [pA]
    refine later_b (x := (.tmp 10)) (y := (.tmp 12)) rfl (BinRun.is H1_.out (bin_sgtr _ b.sl (9223372036854775807#64 - n))) rfl rfl (by rfl) ?_; simp only [pA]
    iterate 7 (go_big_quiet_step (fail))
    refine wpQuiet_nil (laterE hN4 ?_)
    intro xw17 M18 hbxw17 hM18 lM18
    have k19 := k1.below hbxw17 (by omega)
    have k20 := k2.below hbxw17 (by omega)
    have k21 := k3.below hbxw17 (by omega)
    have k22 := k4.below hbxw17 (by omega)
    have lo23 := lo0.trans (hbxw17.mono (by omega))
    clear k1 c11 c12 c13 c14 c15 c16 k2 c5 c6 c7 c8 c9 c10 k3 k4 lo0 hbxw17
    go_upto_region 2 with fail
    refine wp_region_lit ?_
    try simp only [pA]
    change wpList _ _ _ ((_ :: _ :: []) ++ (_ :: _ :: _ :: [])) _ _
    refine wpList_prefix (C := fun w' => ∃ x : Later M18 xw17, w' = x.w') _ _ _ _ ⟨⟨_, Below.refl _ _⟩, rfl⟩ ?_
    refine later_val (fun q => run_bd 27 _ rfl (cellsOf (rC ⟨zeroN, 0#64, 0#64, 0#64, 0#64⟩) 6) (by kernel_rfl) q.w') (by rfl) ?_; simp only [pA]
    refine later_val (fun q => run_bd 27 _ rfl (cellsOf (rC ⟨zeroN, 0#64, 0#64, 0#64, 0#64⟩) 6) (by kernel_rfl) q.w') (by rfl) ?_; simp only [pA]
    refine wpQuiet_nil (laterE hM18 ?_)
    intro xw24 M25 hbxw24 hM25 lM25
    have k26 := k19.below hbxw24 (by omega)
    have k27 := k20.below hbxw24 (by omega)
    have k28 := k21.below hbxw24 (by omega)
    have k29 := k22.below hbxw24 (by omega)
    have lo30 := lo23.trans (hbxw24.mono (by omega))
    clear k19 k20 k21 k22 lo23 hbxw24
    refine wpl_store rfl 27 (.tmp 6) (.tmp 21) rfl (N + 1 + 1) 6 (rC ⟨zeroN, 0#64, 0#64, 0#64, 0#64⟩) rfl rfl 27 _ k28 szR (fun j _ => rC_one _ j) ?_
    intro xw31 t32 k33; try simp only [pA]
    have k34 := k26.touch t32 (by omega)
    have k35 := k27.touch t32 (by omega)
    have k36 := k29.touch t32 (by omega)
    have lo37 := t32.below lo30 (by omega)
    have h38 := t32.sz hM25
    clear k28 k26 k27 k29 lo30 hM25 t32
    refine wpl_store rfl 27 (.tmp 7) (.tmp 22) rfl (N + 1 + 1 + 1) 6 (rC ⟨zeroN, 0#64, 0#64, 0#64, 0#64⟩) rfl rfl 27 _ k36 szR (fun j _ => rC_one _ j) ?_
    intro xw39 t40 k41; try simp only [pA]
    have k42 := k34.touch t40 (by omega)
    have k43 := k35.touch t40 (by omega)
    have k44 := k33.touch t40 (by omega)
    have lo45 := t40.below lo37 (by omega)
    have h46 := t40.sz h38
    clear k36 k34 k35 k33 lo37 h38 t40
    refine wpl_run rfl (Value.bool false) _ (run_as (x := (.const (.bool false))) rfl _ rfl) ?_; simp only [pA]
    obtain ⟨M47, hM47⟩ := sz_some xw39
    have lt_48 := k42.ltN hM47
    have lt_49 := k43.ltN hM47
    have lt_50 := k44.ltN hM47
    have lt_51 := k41.ltN hM47
    go_wp2_with fail
    refine post_rrb rfl (N + 1 + 1) (N + 1 + 1 + 1) rfl rfl k44 k41 undR undR szR szR rfl rfl ?_
    exact ⟨by rw [ER.out]; first | rfl | (simp only [overSF, H1_.out, bB] <;> rfl), lo45⟩
def disjointF (a : Rn) (b : Rn) : Rn × Rn × Bool :=
  bif (meetB a.b ⟨0#64, (~~~b.b.v)⟩) then ((bothF ⟨(meetN a.b ⟨0#64, (~~~b.b.v)⟩), a.lo, a.hi, a.sl, a.sh⟩ ⟨(meetN b.b ⟨0#64, (~~~a.b.v)⟩), b.lo, b.hi, b.sl, b.sh⟩ (meetB b.b ⟨0#64, (~~~a.b.v)⟩)).1, (bothF ⟨(meetN a.b ⟨0#64, (~~~b.b.v)⟩), a.lo, a.hi, a.sl, a.sh⟩ ⟨(meetN b.b ⟨0#64, (~~~a.b.v)⟩), b.lo, b.hi, b.sl, b.sh⟩ (meetB b.b ⟨0#64, (~~~a.b.v)⟩)).2.1, (bothF ⟨(meetN a.b ⟨0#64, (~~~b.b.v)⟩), a.lo, a.hi, a.sl, a.sh⟩ ⟨(meetN b.b ⟨0#64, (~~~a.b.v)⟩), b.lo, b.hi, b.sl, b.sh⟩ (meetB b.b ⟨0#64, (~~~a.b.v)⟩)).2.2)
  else ((bothF ⟨(meetN a.b ⟨0#64, (~~~b.b.v)⟩), a.lo, a.hi, a.sl, a.sh⟩ ⟨(meetN b.b ⟨0#64, (~~~a.b.v)⟩), b.lo, b.hi, b.sl, b.sh⟩ false).1, (bothF ⟨(meetN a.b ⟨0#64, (~~~b.b.v)⟩), a.lo, a.hi, a.sl, a.sh⟩ ⟨(meetN b.b ⟨0#64, (~~~a.b.v)⟩), b.lo, b.hi, b.sl, b.sh⟩ false).2.1, (bothF ⟨(meetN a.b ⟨0#64, (~~~b.b.v)⟩), a.lo, a.hi, a.sl, a.sh⟩ ⟨(meetN b.b ⟨0#64, (~~~a.b.v)⟩), b.lo, b.hi, b.sl, b.sh⟩ false).2.2)
set_option maxRecDepth 100000 in
set_option maxHeartbeats 4000000 in
theorem Disjoint_any (a : Rn) (b : Rn) (w : World) (N : Nat) (hN : Sz w N) : Calls Tryd.prog 58 #[rV a, rV b] w fun e w' => e = .returned (.tuple #[rV (disjointF a b).1, rV (disjointF a b).2.1, .bool (disjointF a b).2.2]) ∧ Below N w w' := by
  obtain ⟨rr, er⟩ : ∃ rr, rr = (disjointF a b) := ⟨_, rfl⟩
  rw [← er]
  have ER := hid er
  clear er
  unfold rV
  go_enter Tryd.func58, Tryd.ntmps58
  go_upto_region 1 with (first
    | (refine wpl_box rfl 27 (.tmp 0) rfl 6 _ rfl (N) hN ?_; intro w1 hN1 hb1 hh1)
    | (refine wpl_box rfl 27 (.tmp 1) rfl 6 _ rfl (N + 1) hN1 ?_; intro w2 hN2 hb2 hh2)
    | (refine wpl_alloc rfl 27 rfl 6 (rC zeroR) zeR (N + 1 + 1) hN2 ?_; intro w3 hN3 hb3 hh3)
    | (refine wpl_alloc rfl 27 rfl 6 (rC zeroR) zeR (N + 1 + 1 + 1) hN3 ?_; intro w4 hN4 hb4 hh4)
    | fail)
  have lo0 : Below N w w4 := (((hb1.trans (hb2.mono (by omega))).trans (hb3.mono (by omega))).trans (hb4.mono (by omega)))
  have k1 := (((hh1.below hb2 (by omega)).below hb3 (by omega)).below hb4 (by omega))
  have k2 := ((hh2.below hb3 (by omega)).below hb4 (by omega))
  have k3 := (hh3.below hb4 (by omega))
  have k4 := hh4
  clear hh1 hb1 hh2 hb2 hh3 hb3 hh4 hb4 hN1 hN2 hN3
  cases h1_ : (meetB a.b ⟨0#64, (~~~b.b.v)⟩)
  · have H1_ := hid h1_
    clear h1_
    have CS5 := fun w N hN => Meet_any a.b ⟨0#64, (~~~b.b.v)⟩ w N hN
    rw [H1_.out] at CS5
    go_upto_region 1 with fail
    refine wp_region_lit ?_
    try simp only [pA]
    change wpList _ _ _ ((_ :: _ :: _ :: _ :: _ :: _ :: _ :: _ :: _ :: _ :: _ :: []) ++ (_ :: _ :: _ :: [])) _ _
    obtain ⟨c6, c7, c8, c9, c10, c11⟩ := r_cells k1
    obtain ⟨c12, c13, c14, c15, c16, c17⟩ := r_cells k2
    refine wpList_prefix (C := fun w' => ∃ x : Later (N + 1 + 1 + 1 + 1) w4, w' = x.w') _ _ _ _ ⟨⟨_, Below.refl _ _⟩, rfl⟩ ?_
    go_big_quiet_step (fail)
    refine later_val (fun qq => run_bits 25 (.tmp 12) rfl N rfl 27 (Later.has hN4 k1 qq) undT szT) (by rfl) ?_; simp only [pA]
    iterate 2 (go_big_quiet_step (fail))
    refine later_c1 hN4 23 (.tmp 15) rfl rfl und64 rfl c12 (by rfl) ?_; simp only [pA]
    refine later_val (fun q => run_qnot (x := (.tmp 16)) rfl rfl q.w') (by rfl) ?_; simp only [pA]
    refine later_val (fun q => run_bd 25 _ rfl (cellsOf (nC ⟨0#64, (~~~b.b.v)⟩) 2) (by kernel_rfl) q.w') (by rfl) ?_; simp only [pA]
    go_big_quiet_step ((go_at_call 36; exact later_of hN4 _ (fun K hK hKN => CS5 _ K hK)))
    iterate 3 (go_big_quiet_step (fail))
    refine wpQuiet_nil (laterE hN4 ?_)
    intro xw18 M19 hbxw18 hM19 lM19
    have k20 := k1.below hbxw18 (by omega)
    have k21 := k2.below hbxw18 (by omega)
    have k22 := k3.below hbxw18 (by omega)
    have k23 := k4.below hbxw18 (by omega)
    have lo24 := lo0.trans (hbxw18.mono (by omega))
    clear k1 c6 c7 c8 c9 c10 c11 k2 c12 c13 c14 c15 c16 c17 k3 k4 lo0 hbxw18
    obtain ⟨b_xw25, eb_xw25⟩ : ∃ b_xw25, b_xw25 = M19 := ⟨_, rfl⟩
    have hzb_xw25 : Sz xw18 b_xw25 := by rw [eb_xw25]; exact hM19
    have lob_xw25 : M19 ≤ b_xw25 := by omega
    have upb_xw25 : b_xw25 ≤ M19 := by omega
    clear eb_xw25
    refine wpl_alloc rfl 25 rfl 2 (nC zeroN) zeT b_xw25 hzb_xw25 ?_
    intro xw25 hMxw25 hbxw25 hhxw25; simp only [pA]
    have k26 := k20.below hbxw25 (by omega)
    have k27 := k21.below hbxw25 (by omega)
    have k28 := k22.below hbxw25 (by omega)
    have k29 := k23.below hbxw25 (by omega)
    have lo30 := lo24.trans (hbxw25.mono (by omega))
    clear k20 k21 k22 k23 lo24 hbxw25 hzb_xw25
    obtain ⟨M31, eM31⟩ : ∃ M31, M31 = b_xw25 + 1 := ⟨_, rfl⟩
    rw [← eM31] at hMxw25
    have loM31 : b_xw25 + 1 ≤ M31 := by omega
    have upM31 : M31 ≤ b_xw25 + 1 := by omega
    clear eM31
    refine wpl_store rfl 25 (.tmp 7) (.tmp 20) rfl b_xw25 2 (nC (meetN a.b ⟨0#64, (~~~b.b.v)⟩)) rfl rfl 25 _ hhxw25 szT (fun j _ => nC_one _ j) ?_
    intro xw32 t33 k34; try simp only [pA]
    have k35 := k26.touch t33 (by omega)
    have k36 := k27.touch t33 (by omega)
    have k37 := k28.touch t33 (by omega)
    have k38 := k29.touch t33 (by omega)
    have lo39 := t33.below lo30 (by omega)
    have h40 := t33.sz hMxw25
    clear hhxw25 k26 k27 k28 k29 lo30 hMxw25 t33
    refine wpl_run rfl (Value.bool false) _ (run_as (x := (.tmp 21)) rfl _ rfl) ?_; simp only [pA]
    obtain ⟨M41, hM41⟩ := sz_some xw32
    have lt_42 := k35.ltN hM41
    have lt_43 := k36.ltN hM41
    have lt_44 := k37.ltN hM41
    have lt_45 := k38.ltN hM41
    have lt_46 := k34.ltN hM41
    go_upto_region 2 with fail
    refine wp_region_lit ?_
    try simp only [pA]
    change wpList _ _ _ ((_ :: _ :: _ :: _ :: _ :: _ :: _ :: _ :: _ :: _ :: _ :: []) ++ (_ :: _ :: _ :: [])) _ _
    obtain ⟨c47, c48, c49, c50, c51, c52⟩ := r_cells k36
    obtain ⟨c53, c54, c55, c56, c57, c58⟩ := r_cells k35
    refine wpList_prefix (C := fun w' => ∃ x : Later M41 xw32, w' = x.w') _ _ _ _ ⟨⟨_, Below.refl _ _⟩, rfl⟩ ?_
    go_big_quiet_step (fail)
    refine later_val (fun qq => run_bits 25 (.tmp 23) rfl (N + 1) rfl 27 (Later.has hM41 k36 qq) undT szT) (by rfl) ?_; simp only [pA]
    iterate 2 (go_big_quiet_step (fail))
    refine later_c1 hM41 23 (.tmp 26) rfl rfl und64 rfl c53 (by rfl) ?_; simp only [pA]
    refine later_val (fun q => run_qnot (x := (.tmp 27)) rfl rfl q.w') (by rfl) ?_; simp only [pA]
    refine later_val (fun q => run_bd 25 _ rfl (cellsOf (nC ⟨0#64, (~~~a.b.v)⟩) 2) (by kernel_rfl) q.w') (by rfl) ?_; simp only [pA]
    go_big_quiet_step ((go_at_call 36; exact later_of hM41 _ (fun K hK hKN => Meet_any b.b ⟨0#64, (~~~a.b.v)⟩ _ K hK)))
    iterate 3 (go_big_quiet_step (fail))
    refine wpQuiet_nil (laterE hM41 ?_)
    intro xw59 M60 hbxw59 hM60 lM60
    have k61 := k35.below hbxw59 (by omega)
    have k62 := k36.below hbxw59 (by omega)
    have k63 := k37.below hbxw59 (by omega)
    have k64 := k38.below hbxw59 (by omega)
    have k65 := k34.below hbxw59 (by omega)
    have lo66 := lo39.trans (hbxw59.mono (by omega))
    clear k35 c53 c54 c55 c56 c57 c58 k36 c47 c48 c49 c50 c51 c52 k37 k38 k34 lo39 hbxw59
    obtain ⟨b_xw67, eb_xw67⟩ : ∃ b_xw67, b_xw67 = M60 := ⟨_, rfl⟩
    have hzb_xw67 : Sz xw59 b_xw67 := by rw [eb_xw67]; exact hM60
    have lob_xw67 : M60 ≤ b_xw67 := by omega
    have upb_xw67 : b_xw67 ≤ M60 := by omega
    clear eb_xw67
    refine wpl_alloc rfl 25 rfl 2 (nC zeroN) zeT b_xw67 hzb_xw67 ?_
    intro xw67 hMxw67 hbxw67 hhxw67; simp only [pA]
    have k68 := k61.below hbxw67 (by omega)
    have k69 := k62.below hbxw67 (by omega)
    have k70 := k63.below hbxw67 (by omega)
    have k71 := k64.below hbxw67 (by omega)
    have k72 := k65.below hbxw67 (by omega)
    have lo73 := lo66.trans (hbxw67.mono (by omega))
    clear k61 k62 k63 k64 k65 lo66 hbxw67 hzb_xw67
    obtain ⟨M74, eM74⟩ : ∃ M74, M74 = b_xw67 + 1 := ⟨_, rfl⟩
    rw [← eM74] at hMxw67
    have loM74 : b_xw67 + 1 ≤ M74 := by omega
    have upM74 : M74 ≤ b_xw67 + 1 := by omega
    clear eM74
    refine wpl_store rfl 25 (.tmp 9) (.tmp 31) rfl b_xw67 2 (nC (meetN b.b ⟨0#64, (~~~a.b.v)⟩)) rfl rfl 25 _ hhxw67 szT (fun j _ => nC_one _ j) ?_
    intro xw75 t76 k77; try simp only [pA]
    have k78 := k68.touch t76 (by omega)
    have k79 := k69.touch t76 (by omega)
    have k80 := k70.touch t76 (by omega)
    have k81 := k71.touch t76 (by omega)
    have k82 := k72.touch t76 (by omega)
    have lo83 := t76.below lo73 (by omega)
    have h84 := t76.sz hMxw67
    clear hhxw67 k68 k69 k70 k71 k72 lo73 hMxw67 t76
    refine wpl_run rfl (Value.bool (meetB b.b ⟨0#64, (~~~a.b.v)⟩)) _ (run_as (x := (.tmp 32)) rfl _ rfl) ?_; simp only [pA]
    obtain ⟨M85, hM85⟩ := sz_some xw75
    have lt_86 := k78.ltN hM85
    have lt_87 := k79.ltN hM85
    have lt_88 := k80.ltN hM85
    have lt_89 := k81.ltN hM85
    have lt_90 := k82.ltN hM85
    have lt_91 := k77.ltN hM85
    go_upto_region 3 with fail
    refine wp_region_held (S := fun w' => (Has w' b_xw25 25 2 (nC (meetN a.b ⟨0#64, (~~~b.b.v)⟩))) ∧ (Has w' b_xw67 25 2 (nC (meetN b.b ⟨0#64, (~~~a.b.v)⟩)))) (by kernel_rfl) ?_
    replace k78 : Has xw75.drew N 27 6 (rC a) := k78
    replace k79 : Has xw75.drew (N + 1) 27 6 (rC b) := k79
    replace k80 : Has xw75.drew (N + 1 + 1) 27 6 (rC zeroR) := k80
    replace k81 : Has xw75.drew (N + 1 + 1 + 1) 27 6 (rC zeroR) := k81
    replace k82 : Has xw75.drew b_xw25 25 2 (nC (meetN a.b ⟨0#64, (~~~b.b.v)⟩)) := k82
    replace k77 : Has xw75.drew b_xw67 25 2 (nC (meetN b.b ⟨0#64, (~~~a.b.v)⟩)) := k77
    replace hM85 : Sz xw75.drew M85 := hM85
    replace lo83 : Below N w xw75.drew := lo83.drew
    change wpAnyH _ _ _ _ _ _ _ _ (World.drew _)
    generalize xw75.drew = xw92 at *
    refine held_take (i := 0) (v := (Value.agg (cellsOf (nC (meetN a.b ⟨0#64, (~~~b.b.v)⟩)) 2))) (d := some 33) rfl (by kernel_rfl) (by kernel_rfl) (by kernel_rfl) (by kernel_rfl) (fun _ _ _ h => h) (Or.inl ⟨by rfl, fun wq ⟨hq0, hq1⟩ => run_rw 25 (.tmp 7) rfl b_xw25 rfl 25 2 _ hq0 undT szT⟩) ⟨k82, k77⟩ ?_; simp only [pA]
    refine held_take (i := 1) (v := (Value.agg (cellsOf (nC (meetN b.b ⟨0#64, (~~~a.b.v)⟩)) 2))) (d := some 34) rfl (by kernel_rfl) (by kernel_rfl) (by kernel_rfl) (by kernel_rfl) (fun _ _ _ h => h) (Or.inl ⟨by rfl, fun wq ⟨hq0, hq1⟩ => run_rw 25 (.tmp 9) rfl b_xw67 rfl 25 2 _ hq1 undT szT⟩) ⟨k82, k77⟩ ?_; simp only [pA]
    refine held_take (i := 2) (v := (Value.pointer (some ⟨N, 0, none⟩))) (d := some 35) rfl (by kernel_rfl) (by kernel_rfl) (by kernel_rfl) (by kernel_rfl) (fun _ _ _ h => h) (Or.inl ⟨by rfl, fun wq ⟨hq0, hq1⟩ => run_fa 27 (.tmp 2) 0 0 rfl rfl faR0⟩) ⟨k82, k77⟩ ?_; simp only [pA]
    refine wpAnyH_all (rs := [3]) (by kernel_rfl) (by simp) ?_
    intro iq hiq; simp only [List.mem_singleton] at hiq; subst hiq
    refine opg_list rfl ?_
    refine wpl_partN (by rfl) (by kernel_rfl) 25 (.tmp 35) (.tmp 33) rfl N rfl (meetN a.b ⟨0#64, (~~~b.b.v)⟩) rfl 27 _ k78 szT ?_
    intro xw93 t94 k95; try simp only [pA]
    have k96 := k79.touch t94 (by omega)
    have k97 := k80.touch t94 (by omega)
    have k98 := k81.touch t94 (by omega)
    have k99 := k82.touch t94 (by omega)
    have k100 := k77.touch t94 (by omega)
    have lo101 := t94.below lo83 (by omega)
    have h102 := t94.sz hM85
    clear k78 k79 k80 k81 k82 k77 lo83 hM85 t94
    refine ⟨⟨k99, k100⟩, ?_⟩
    refine held_take (i := 4) (v := (Value.pointer (some ⟨(N + 1), 0, none⟩))) (d := some 36) rfl (by kernel_rfl) (by kernel_rfl) (by kernel_rfl) (by kernel_rfl) (fun _ _ _ h => h) (Or.inl ⟨by rfl, fun wq ⟨hq0, hq1⟩ => run_fa 27 (.tmp 3) 0 0 rfl rfl faR0⟩) ⟨k99, k100⟩ ?_; simp only [pA]
    refine wpAnyH_all (rs := [5]) (by kernel_rfl) (by simp) ?_
    intro iq hiq; simp only [List.mem_singleton] at hiq; subst hiq
    refine opg_list rfl ?_
    refine wpl_partN (by rfl) (by kernel_rfl) 25 (.tmp 36) (.tmp 34) rfl (N + 1) rfl (meetN b.b ⟨0#64, (~~~a.b.v)⟩) rfl 27 _ k96 szT ?_
    intro xw103 t104 k105; try simp only [pA]
    have k106 := k95.touch t104 (by omega)
    have k107 := k97.touch t104 (by omega)
    have k108 := k98.touch t104 (by omega)
    have k109 := k99.touch t104 (by omega)
    have k110 := k100.touch t104 (by omega)
    have lo111 := t104.below lo101 (by omega)
    have h112 := t104.sz h102
    clear k96 k95 k97 k98 k99 k100 lo101 h102 t104
    refine ⟨⟨k109, k110⟩, ?_⟩
    refine wpAnyH_done (by kernel_rfl) ?_ _
    obtain ⟨M113, hM113⟩ := sz_some xw103
    have lt_114 := k106.ltN hM113
    have lt_115 := k105.ltN hM113
    have lt_116 := k107.ltN hM113
    have lt_117 := k108.ltN hM113
    have lt_118 := k109.ltN hM113
    have lt_119 := k110.ltN hM113
    go_upto_region 4 with fail
    refine wp_region_lit ?_
    try simp only [pA]
    change wpList _ _ _ ((_ :: _ :: _ :: _ :: _ :: _ :: _ :: _ :: _ :: _ :: []) ++ (_ :: _ :: _ :: [])) _ _
    refine wpList_prefix (C := fun w' => ∃ x : Later M113 xw103, w' = x.w') _ _ _ _ ⟨⟨_, Below.refl _ _⟩, rfl⟩ ?_
    refine later_row hM113 27 (.tmp 2) rfl (N) rfl 27 6 _ k106 undR szR (by rfl) ?_; simp only [pA]
    refine later_row hM113 27 (.tmp 3) rfl ((N + 1)) rfl 27 6 _ k105 undR szR (by rfl) ?_; simp only [pA]
    iterate 4 (go_big_quiet_step (fail))
    go_big_quiet_step ((go_at_call 30; exact later_of hM113 _ (fun K hK hKN => Both_any ⟨(meetN a.b ⟨0#64, (~~~b.b.v)⟩), a.lo, a.hi, a.sl, a.sh⟩ ⟨(meetN b.b ⟨0#64, (~~~a.b.v)⟩), b.lo, b.hi, b.sl, b.sh⟩ false _ K hK)))
    iterate 3 (go_big_quiet_step (fail))
    refine wpQuiet_nil (laterE hM113 ?_)
    intro xw120 M121 hbxw120 hM121 lM121
    have k122 := k106.below hbxw120 (by omega)
    have k123 := k105.below hbxw120 (by omega)
    have k124 := k107.below hbxw120 (by omega)
    have k125 := k108.below hbxw120 (by omega)
    have k126 := k109.below hbxw120 (by omega)
    have k127 := k110.below hbxw120 (by omega)
    have lo128 := lo111.trans (hbxw120.mono (by omega))
    clear k106 k105 k107 k108 k109 k110 lo111 hbxw120
    refine wpl_store rfl 27 (.tmp 4) (.tmp 44) rfl (N + 1 + 1) 6 (rC (bothF ⟨(meetN a.b ⟨0#64, (~~~b.b.v)⟩), a.lo, a.hi, a.sl, a.sh⟩ ⟨(meetN b.b ⟨0#64, (~~~a.b.v)⟩), b.lo, b.hi, b.sl, b.sh⟩ false).1) rfl rfl 27 _ k124 szR (fun j _ => rC_one _ j) ?_
    intro xw129 t130 k131; try simp only [pA]
    have k132 := k122.touch t130 (by omega)
    have k133 := k123.touch t130 (by omega)
    have k134 := k125.touch t130 (by omega)
    have k135 := k126.touch t130 (by omega)
    have k136 := k127.touch t130 (by omega)
    have lo137 := t130.below lo128 (by omega)
    have h138 := t130.sz hM121
    clear k124 k122 k123 k125 k126 k127 lo128 hM121 t130
    refine wpl_store rfl 27 (.tmp 5) (.tmp 45) rfl (N + 1 + 1 + 1) 6 (rC (bothF ⟨(meetN a.b ⟨0#64, (~~~b.b.v)⟩), a.lo, a.hi, a.sl, a.sh⟩ ⟨(meetN b.b ⟨0#64, (~~~a.b.v)⟩), b.lo, b.hi, b.sl, b.sh⟩ false).2.1) rfl rfl 27 _ k134 szR (fun j _ => rC_one _ j) ?_
    intro xw139 t140 k141; try simp only [pA]
    have k142 := k132.touch t140 (by omega)
    have k143 := k133.touch t140 (by omega)
    have k144 := k131.touch t140 (by omega)
    have k145 := k135.touch t140 (by omega)
    have k146 := k136.touch t140 (by omega)
    have lo147 := t140.below lo137 (by omega)
    have h148 := t140.sz h138
    clear k134 k132 k133 k131 k135 k136 lo137 h138 t140
    refine wpl_run rfl (Value.bool (bothF ⟨(meetN a.b ⟨0#64, (~~~b.b.v)⟩), a.lo, a.hi, a.sl, a.sh⟩ ⟨(meetN b.b ⟨0#64, (~~~a.b.v)⟩), b.lo, b.hi, b.sl, b.sh⟩ false).2.2) _ (run_as (x := (.tmp 46)) rfl _ rfl) ?_; simp only [pA]
    obtain ⟨M149, hM149⟩ := sz_some xw139
    have lt_150 := k142.ltN hM149
    have lt_151 := k143.ltN hM149
    have lt_152 := k144.ltN hM149
    have lt_153 := k141.ltN hM149
    have lt_154 := k145.ltN hM149
    have lt_155 := k146.ltN hM149
    go_wp2_with fail
    refine post_rrb rfl (N + 1 + 1) (N + 1 + 1 + 1) rfl rfl k144 k141 undR undR szR szR rfl rfl ?_
    exact ⟨by rw [ER.out]; first | rfl | (simp only [disjointF, H1_.out, bB] <;> rfl), lo147⟩
  · have H1_ := hid h1_
    clear h1_
    have CS5 := fun w N hN => Meet_any a.b ⟨0#64, (~~~b.b.v)⟩ w N hN
    rw [H1_.out] at CS5
    go_upto_region 1 with fail
    refine wp_region_lit ?_
    try simp only [pA]
    change wpList _ _ _ ((_ :: _ :: _ :: _ :: _ :: _ :: _ :: _ :: _ :: _ :: _ :: []) ++ (_ :: _ :: _ :: [])) _ _
    obtain ⟨c6, c7, c8, c9, c10, c11⟩ := r_cells k1
    obtain ⟨c12, c13, c14, c15, c16, c17⟩ := r_cells k2
    refine wpList_prefix (C := fun w' => ∃ x : Later (N + 1 + 1 + 1 + 1) w4, w' = x.w') _ _ _ _ ⟨⟨_, Below.refl _ _⟩, rfl⟩ ?_
    go_big_quiet_step (fail)
    refine later_val (fun qq => run_bits 25 (.tmp 12) rfl N rfl 27 (Later.has hN4 k1 qq) undT szT) (by rfl) ?_; simp only [pA]
    iterate 2 (go_big_quiet_step (fail))
    refine later_c1 hN4 23 (.tmp 15) rfl rfl und64 rfl c12 (by rfl) ?_; simp only [pA]
    refine later_val (fun q => run_qnot (x := (.tmp 16)) rfl rfl q.w') (by rfl) ?_; simp only [pA]
    refine later_val (fun q => run_bd 25 _ rfl (cellsOf (nC ⟨0#64, (~~~b.b.v)⟩) 2) (by kernel_rfl) q.w') (by rfl) ?_; simp only [pA]
    go_big_quiet_step ((go_at_call 36; exact later_of hN4 _ (fun K hK hKN => CS5 _ K hK)))
    iterate 3 (go_big_quiet_step (fail))
    refine wpQuiet_nil (laterE hN4 ?_)
    intro xw18 M19 hbxw18 hM19 lM19
    have k20 := k1.below hbxw18 (by omega)
    have k21 := k2.below hbxw18 (by omega)
    have k22 := k3.below hbxw18 (by omega)
    have k23 := k4.below hbxw18 (by omega)
    have lo24 := lo0.trans (hbxw18.mono (by omega))
    clear k1 c6 c7 c8 c9 c10 c11 k2 c12 c13 c14 c15 c16 c17 k3 k4 lo0 hbxw18
    obtain ⟨b_xw25, eb_xw25⟩ : ∃ b_xw25, b_xw25 = M19 := ⟨_, rfl⟩
    have hzb_xw25 : Sz xw18 b_xw25 := by rw [eb_xw25]; exact hM19
    have lob_xw25 : M19 ≤ b_xw25 := by omega
    have upb_xw25 : b_xw25 ≤ M19 := by omega
    clear eb_xw25
    refine wpl_alloc rfl 25 rfl 2 (nC zeroN) zeT b_xw25 hzb_xw25 ?_
    intro xw25 hMxw25 hbxw25 hhxw25; simp only [pA]
    have k26 := k20.below hbxw25 (by omega)
    have k27 := k21.below hbxw25 (by omega)
    have k28 := k22.below hbxw25 (by omega)
    have k29 := k23.below hbxw25 (by omega)
    have lo30 := lo24.trans (hbxw25.mono (by omega))
    clear k20 k21 k22 k23 lo24 hbxw25 hzb_xw25
    obtain ⟨M31, eM31⟩ : ∃ M31, M31 = b_xw25 + 1 := ⟨_, rfl⟩
    rw [← eM31] at hMxw25
    have loM31 : b_xw25 + 1 ≤ M31 := by omega
    have upM31 : M31 ≤ b_xw25 + 1 := by omega
    clear eM31
    refine wpl_store rfl 25 (.tmp 7) (.tmp 20) rfl b_xw25 2 (nC (meetN a.b ⟨0#64, (~~~b.b.v)⟩)) rfl rfl 25 _ hhxw25 szT (fun j _ => nC_one _ j) ?_
    intro xw32 t33 k34; try simp only [pA]
    have k35 := k26.touch t33 (by omega)
    have k36 := k27.touch t33 (by omega)
    have k37 := k28.touch t33 (by omega)
    have k38 := k29.touch t33 (by omega)
    have lo39 := t33.below lo30 (by omega)
    have h40 := t33.sz hMxw25
    clear hhxw25 k26 k27 k28 k29 lo30 hMxw25 t33
    refine wpl_run rfl (Value.bool true) _ (run_as (x := (.tmp 21)) rfl _ rfl) ?_; simp only [pA]
    obtain ⟨M41, hM41⟩ := sz_some xw32
    have lt_42 := k35.ltN hM41
    have lt_43 := k36.ltN hM41
    have lt_44 := k37.ltN hM41
    have lt_45 := k38.ltN hM41
    have lt_46 := k34.ltN hM41
    go_upto_region 2 with fail
    refine wp_region_lit ?_
    try simp only [pA]
    change wpList _ _ _ ((_ :: _ :: _ :: _ :: _ :: _ :: _ :: _ :: _ :: _ :: _ :: []) ++ (_ :: _ :: _ :: [])) _ _
    obtain ⟨c47, c48, c49, c50, c51, c52⟩ := r_cells k36
    obtain ⟨c53, c54, c55, c56, c57, c58⟩ := r_cells k35
    refine wpList_prefix (C := fun w' => ∃ x : Later M41 xw32, w' = x.w') _ _ _ _ ⟨⟨_, Below.refl _ _⟩, rfl⟩ ?_
    go_big_quiet_step (fail)
    refine later_val (fun qq => run_bits 25 (.tmp 23) rfl (N + 1) rfl 27 (Later.has hM41 k36 qq) undT szT) (by rfl) ?_; simp only [pA]
    iterate 2 (go_big_quiet_step (fail))
    refine later_c1 hM41 23 (.tmp 26) rfl rfl und64 rfl c53 (by rfl) ?_; simp only [pA]
    refine later_val (fun q => run_qnot (x := (.tmp 27)) rfl rfl q.w') (by rfl) ?_; simp only [pA]
    refine later_val (fun q => run_bd 25 _ rfl (cellsOf (nC ⟨0#64, (~~~a.b.v)⟩) 2) (by kernel_rfl) q.w') (by rfl) ?_; simp only [pA]
    go_big_quiet_step ((go_at_call 36; exact later_of hM41 _ (fun K hK hKN => Meet_any b.b ⟨0#64, (~~~a.b.v)⟩ _ K hK)))
    iterate 3 (go_big_quiet_step (fail))
    refine wpQuiet_nil (laterE hM41 ?_)
    intro xw59 M60 hbxw59 hM60 lM60
    have k61 := k35.below hbxw59 (by omega)
    have k62 := k36.below hbxw59 (by omega)
    have k63 := k37.below hbxw59 (by omega)
    have k64 := k38.below hbxw59 (by omega)
    have k65 := k34.below hbxw59 (by omega)
    have lo66 := lo39.trans (hbxw59.mono (by omega))
    clear k35 c53 c54 c55 c56 c57 c58 k36 c47 c48 c49 c50 c51 c52 k37 k38 k34 lo39 hbxw59
    obtain ⟨b_xw67, eb_xw67⟩ : ∃ b_xw67, b_xw67 = M60 := ⟨_, rfl⟩
    have hzb_xw67 : Sz xw59 b_xw67 := by rw [eb_xw67]; exact hM60
    have lob_xw67 : M60 ≤ b_xw67 := by omega
    have upb_xw67 : b_xw67 ≤ M60 := by omega
    clear eb_xw67
    refine wpl_alloc rfl 25 rfl 2 (nC zeroN) zeT b_xw67 hzb_xw67 ?_
    intro xw67 hMxw67 hbxw67 hhxw67; simp only [pA]
    have k68 := k61.below hbxw67 (by omega)
    have k69 := k62.below hbxw67 (by omega)
    have k70 := k63.below hbxw67 (by omega)
    have k71 := k64.below hbxw67 (by omega)
    have k72 := k65.below hbxw67 (by omega)
    have lo73 := lo66.trans (hbxw67.mono (by omega))
    clear k61 k62 k63 k64 k65 lo66 hbxw67 hzb_xw67
    obtain ⟨M74, eM74⟩ : ∃ M74, M74 = b_xw67 + 1 := ⟨_, rfl⟩
    rw [← eM74] at hMxw67
    have loM74 : b_xw67 + 1 ≤ M74 := by omega
    have upM74 : M74 ≤ b_xw67 + 1 := by omega
    clear eM74
    refine wpl_store rfl 25 (.tmp 9) (.tmp 31) rfl b_xw67 2 (nC (meetN b.b ⟨0#64, (~~~a.b.v)⟩)) rfl rfl 25 _ hhxw67 szT (fun j _ => nC_one _ j) ?_
    intro xw75 t76 k77; try simp only [pA]
    have k78 := k68.touch t76 (by omega)
    have k79 := k69.touch t76 (by omega)
    have k80 := k70.touch t76 (by omega)
    have k81 := k71.touch t76 (by omega)
    have k82 := k72.touch t76 (by omega)
    have lo83 := t76.below lo73 (by omega)
    have h84 := t76.sz hMxw67
    clear hhxw67 k68 k69 k70 k71 k72 lo73 hMxw67 t76
    refine wpl_run rfl (Value.bool (meetB b.b ⟨0#64, (~~~a.b.v)⟩)) _ (run_as (x := (.tmp 32)) rfl _ rfl) ?_; simp only [pA]
    obtain ⟨M85, hM85⟩ := sz_some xw75
    have lt_86 := k78.ltN hM85
    have lt_87 := k79.ltN hM85
    have lt_88 := k80.ltN hM85
    have lt_89 := k81.ltN hM85
    have lt_90 := k82.ltN hM85
    have lt_91 := k77.ltN hM85
    go_upto_region 3 with fail
    refine wp_region_held (S := fun w' => (Has w' b_xw25 25 2 (nC (meetN a.b ⟨0#64, (~~~b.b.v)⟩))) ∧ (Has w' b_xw67 25 2 (nC (meetN b.b ⟨0#64, (~~~a.b.v)⟩)))) (by kernel_rfl) ?_
    replace k78 : Has xw75.drew N 27 6 (rC a) := k78
    replace k79 : Has xw75.drew (N + 1) 27 6 (rC b) := k79
    replace k80 : Has xw75.drew (N + 1 + 1) 27 6 (rC zeroR) := k80
    replace k81 : Has xw75.drew (N + 1 + 1 + 1) 27 6 (rC zeroR) := k81
    replace k82 : Has xw75.drew b_xw25 25 2 (nC (meetN a.b ⟨0#64, (~~~b.b.v)⟩)) := k82
    replace k77 : Has xw75.drew b_xw67 25 2 (nC (meetN b.b ⟨0#64, (~~~a.b.v)⟩)) := k77
    replace hM85 : Sz xw75.drew M85 := hM85
    replace lo83 : Below N w xw75.drew := lo83.drew
    change wpAnyH _ _ _ _ _ _ _ _ (World.drew _)
    generalize xw75.drew = xw92 at *
    refine held_take (i := 0) (v := (Value.agg (cellsOf (nC (meetN a.b ⟨0#64, (~~~b.b.v)⟩)) 2))) (d := some 33) rfl (by kernel_rfl) (by kernel_rfl) (by kernel_rfl) (by kernel_rfl) (fun _ _ _ h => h) (Or.inl ⟨by rfl, fun wq ⟨hq0, hq1⟩ => run_rw 25 (.tmp 7) rfl b_xw25 rfl 25 2 _ hq0 undT szT⟩) ⟨k82, k77⟩ ?_; simp only [pA]
    refine held_take (i := 1) (v := (Value.agg (cellsOf (nC (meetN b.b ⟨0#64, (~~~a.b.v)⟩)) 2))) (d := some 34) rfl (by kernel_rfl) (by kernel_rfl) (by kernel_rfl) (by kernel_rfl) (fun _ _ _ h => h) (Or.inl ⟨by rfl, fun wq ⟨hq0, hq1⟩ => run_rw 25 (.tmp 9) rfl b_xw67 rfl 25 2 _ hq1 undT szT⟩) ⟨k82, k77⟩ ?_; simp only [pA]
    refine held_take (i := 2) (v := (Value.pointer (some ⟨N, 0, none⟩))) (d := some 35) rfl (by kernel_rfl) (by kernel_rfl) (by kernel_rfl) (by kernel_rfl) (fun _ _ _ h => h) (Or.inl ⟨by rfl, fun wq ⟨hq0, hq1⟩ => run_fa 27 (.tmp 2) 0 0 rfl rfl faR0⟩) ⟨k82, k77⟩ ?_; simp only [pA]
    refine wpAnyH_all (rs := [3]) (by kernel_rfl) (by simp) ?_
    intro iq hiq; simp only [List.mem_singleton] at hiq; subst hiq
    refine opg_list rfl ?_
    refine wpl_partN (by rfl) (by kernel_rfl) 25 (.tmp 35) (.tmp 33) rfl N rfl (meetN a.b ⟨0#64, (~~~b.b.v)⟩) rfl 27 _ k78 szT ?_
    intro xw93 t94 k95; try simp only [pA]
    have k96 := k79.touch t94 (by omega)
    have k97 := k80.touch t94 (by omega)
    have k98 := k81.touch t94 (by omega)
    have k99 := k82.touch t94 (by omega)
    have k100 := k77.touch t94 (by omega)
    have lo101 := t94.below lo83 (by omega)
    have h102 := t94.sz hM85
    clear k78 k79 k80 k81 k82 k77 lo83 hM85 t94
    refine ⟨⟨k99, k100⟩, ?_⟩
    refine held_take (i := 4) (v := (Value.pointer (some ⟨(N + 1), 0, none⟩))) (d := some 36) rfl (by kernel_rfl) (by kernel_rfl) (by kernel_rfl) (by kernel_rfl) (fun _ _ _ h => h) (Or.inl ⟨by rfl, fun wq ⟨hq0, hq1⟩ => run_fa 27 (.tmp 3) 0 0 rfl rfl faR0⟩) ⟨k99, k100⟩ ?_; simp only [pA]
    refine wpAnyH_all (rs := [5]) (by kernel_rfl) (by simp) ?_
    intro iq hiq; simp only [List.mem_singleton] at hiq; subst hiq
    refine opg_list rfl ?_
    refine wpl_partN (by rfl) (by kernel_rfl) 25 (.tmp 36) (.tmp 34) rfl (N + 1) rfl (meetN b.b ⟨0#64, (~~~a.b.v)⟩) rfl 27 _ k96 szT ?_
    intro xw103 t104 k105; try simp only [pA]
    have k106 := k95.touch t104 (by omega)
    have k107 := k97.touch t104 (by omega)
    have k108 := k98.touch t104 (by omega)
    have k109 := k99.touch t104 (by omega)
    have k110 := k100.touch t104 (by omega)
    have lo111 := t104.below lo101 (by omega)
    have h112 := t104.sz h102
    clear k96 k95 k97 k98 k99 k100 lo101 h102 t104
    refine ⟨⟨k109, k110⟩, ?_⟩
    refine wpAnyH_done (by kernel_rfl) ?_ _
    obtain ⟨M113, hM113⟩ := sz_some xw103
    have lt_114 := k106.ltN hM113
    have lt_115 := k105.ltN hM113
    have lt_116 := k107.ltN hM113
    have lt_117 := k108.ltN hM113
    have lt_118 := k109.ltN hM113
    have lt_119 := k110.ltN hM113
    go_upto_region 4 with fail
    refine wp_region_lit ?_
    try simp only [pA]
    change wpList _ _ _ ((_ :: _ :: _ :: _ :: _ :: _ :: _ :: _ :: _ :: _ :: []) ++ (_ :: _ :: _ :: [])) _ _
    refine wpList_prefix (C := fun w' => ∃ x : Later M113 xw103, w' = x.w') _ _ _ _ ⟨⟨_, Below.refl _ _⟩, rfl⟩ ?_
    refine later_row hM113 27 (.tmp 2) rfl (N) rfl 27 6 _ k106 undR szR (by rfl) ?_; simp only [pA]
    refine later_row hM113 27 (.tmp 3) rfl ((N + 1)) rfl 27 6 _ k105 undR szR (by rfl) ?_; simp only [pA]
    iterate 4 (go_big_quiet_step (fail))
    go_big_quiet_step ((go_at_call 30; exact later_of hM113 _ (fun K hK hKN => Both_any ⟨(meetN a.b ⟨0#64, (~~~b.b.v)⟩), a.lo, a.hi, a.sl, a.sh⟩ ⟨(meetN b.b ⟨0#64, (~~~a.b.v)⟩), b.lo, b.hi, b.sl, b.sh⟩ (meetB b.b ⟨0#64, (~~~a.b.v)⟩) _ K hK)))
    iterate 3 (go_big_quiet_step (fail))
    refine wpQuiet_nil (laterE hM113 ?_)
    intro xw120 M121 hbxw120 hM121 lM121
    have k122 := k106.below hbxw120 (by omega)
    have k123 := k105.below hbxw120 (by omega)
    have k124 := k107.below hbxw120 (by omega)
    have k125 := k108.below hbxw120 (by omega)
    have k126 := k109.below hbxw120 (by omega)
    have k127 := k110.below hbxw120 (by omega)
    have lo128 := lo111.trans (hbxw120.mono (by omega))
    clear k106 k105 k107 k108 k109 k110 lo111 hbxw120
    refine wpl_store rfl 27 (.tmp 4) (.tmp 44) rfl (N + 1 + 1) 6 (rC (bothF ⟨(meetN a.b ⟨0#64, (~~~b.b.v)⟩), a.lo, a.hi, a.sl, a.sh⟩ ⟨(meetN b.b ⟨0#64, (~~~a.b.v)⟩), b.lo, b.hi, b.sl, b.sh⟩ (meetB b.b ⟨0#64, (~~~a.b.v)⟩)).1) rfl rfl 27 _ k124 szR (fun j _ => rC_one _ j) ?_
    intro xw129 t130 k131; try simp only [pA]
    have k132 := k122.touch t130 (by omega)
    have k133 := k123.touch t130 (by omega)
    have k134 := k125.touch t130 (by omega)
    have k135 := k126.touch t130 (by omega)
    have k136 := k127.touch t130 (by omega)
    have lo137 := t130.below lo128 (by omega)
    have h138 := t130.sz hM121
    clear k124 k122 k123 k125 k126 k127 lo128 hM121 t130
    refine wpl_store rfl 27 (.tmp 5) (.tmp 45) rfl (N + 1 + 1 + 1) 6 (rC (bothF ⟨(meetN a.b ⟨0#64, (~~~b.b.v)⟩), a.lo, a.hi, a.sl, a.sh⟩ ⟨(meetN b.b ⟨0#64, (~~~a.b.v)⟩), b.lo, b.hi, b.sl, b.sh⟩ (meetB b.b ⟨0#64, (~~~a.b.v)⟩)).2.1) rfl rfl 27 _ k134 szR (fun j _ => rC_one _ j) ?_
    intro xw139 t140 k141; try simp only [pA]
    have k142 := k132.touch t140 (by omega)
    have k143 := k133.touch t140 (by omega)
    have k144 := k131.touch t140 (by omega)
    have k145 := k135.touch t140 (by omega)
    have k146 := k136.touch t140 (by omega)
    have lo147 := t140.below lo137 (by omega)
    have h148 := t140.sz h138
    clear k134 k132 k133 k131 k135 k136 lo137 h138 t140
    refine wpl_run rfl (Value.bool (bothF ⟨(meetN a.b ⟨0#64, (~~~b.b.v)⟩), a.lo, a.hi, a.sl, a.sh⟩ ⟨(meetN b.b ⟨0#64, (~~~a.b.v)⟩), b.lo, b.hi, b.sl, b.sh⟩ (meetB b.b ⟨0#64, (~~~a.b.v)⟩)).2.2) _ (run_as (x := (.tmp 46)) rfl _ rfl) ?_; simp only [pA]
    obtain ⟨M149, hM149⟩ := sz_some xw139
    have lt_150 := k142.ltN hM149
    have lt_151 := k143.ltN hM149
    have lt_152 := k144.ltN hM149
    have lt_153 := k141.ltN hM149
    have lt_154 := k145.ltN hM149
    have lt_155 := k146.ltN hM149
    go_wp2_with fail
    refine post_rrb rfl (N + 1 + 1) (N + 1 + 1 + 1) rfl rfl k144 k141 undR undR szR szR rfl rfl ?_
    exact ⟨by rw [ER.out]; first | rfl | (simp only [disjointF, H1_.out, bB] <;> rfl), lo147⟩
end Go.Proofs.YtbbfdehipgkjmaaDoor
