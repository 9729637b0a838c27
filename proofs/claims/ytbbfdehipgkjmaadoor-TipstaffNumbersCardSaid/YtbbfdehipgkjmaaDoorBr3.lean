/- Contracts of what a jump tells: near. -/
import Derived.Test.YtbbfdehipgkjmaaDoorMgBr0
namespace Go.Proofs.YtbbfdehipgkjmaaDoor
open Go Go.RowKit
def nearF (a : Rn) : Rn × Bool :=
  bif (settleF a).2 then bif (nxtF (settleF a).1 0#64).2 then bif (nxtF (settleF a).1 ((nxtF (settleF a).1 0#64).1 + 1#64)).2 then bif ((nxtF (settleF a).1 ((nxtF (settleF a).1 0#64).1 + 1#64)).1 == (nxtF (settleF a).1 0#64).1) then ((cR (nxtF (settleF a).1 0#64).1), true)
        else ((settleF a).1, true)
      else ((cR (nxtF (settleF a).1 0#64).1), true)
    else (⟨zeroN, 0#64, 0#64, 0#64, 0#64⟩, false)
  else (⟨zeroN, 0#64, 0#64, 0#64, 0#64⟩, false)
set_option maxRecDepth 100000 in
set_option maxHeartbeats 4000000 in
theorem Near_any (a : Rn) (w : World) (N : Nat) (hN : Sz w N) : Calls Tryd.prog 27 #[rV a] w fun e w' => e = .returned (.tuple #[rV (nearF a).1, .bool (nearF a).2]) ∧ Below N w w' := by
  obtain ⟨rr, er⟩ : ∃ rr, rr = (nearF a) := ⟨_, rfl⟩
  rw [← er]
  have ER := hid er
  clear er
  unfold rV
  go_enter Tryd.func27, Tryd.ntmps27
  go_upto_region 1 with (first
    | (refine wpl_box rfl 27 (.tmp 0) rfl 6 _ rfl (N) hN ?_; intro w1 hN1 hb1 hh1)
    | (refine wpl_alloc rfl 27 rfl 6 (rC zeroR) zeR (N + 1) hN1 ?_; intro w2 hN2 hb2 hh2)
    | fail)
  have lo0 : Below N w w2 := (hb1.trans (hb2.mono (by omega)))
  have k1 := (hh1.below hb2 (by omega))
  have k2 := hh2
  clear hh1 hb1 hh2 hb2 hN1
  cases h1_ : (settleF a).2
  · have H1_ := hid h1_
    clear h1_
    have CS3 := fun w N hN => Settle_any a w N hN
    rw [H1_.out] at CS3
    go_upto_region 1 with fail
    refine wp_region_lit ?_
    try simp only [pA]
    change wpList _ _ _ ((_ :: _ :: _ :: _ :: _ :: []) ++ (_ :: _ :: [])) _ _
    refine wpList_prefix (C := fun w' => ∃ x : Later (N + 1 + 1) w2, w' = x.w') _ _ _ _ ⟨⟨_, Below.refl _ _⟩, rfl⟩ ?_
    refine later_row hN2 27 (.tmp 1) rfl (N) rfl 27 6 _ k1 undR szR (by rfl) ?_; simp only [pA]
    go_big_quiet_step ((go_at_call 13; exact later_of hN2 _ (fun K hK hKN => CS3 _ K hK)))
    iterate 3 (go_big_quiet_step (fail))
    refine wpQuiet_nil (laterE hN2 ?_)
    intro xw4 M5 hbxw4 hM5 lM5
    have k6 := k1.below hbxw4 (by omega)
    have k7 := k2.below hbxw4 (by omega)
    have lo8 := lo0.trans (hbxw4.mono (by omega))
    clear k1 k2 lo0 hbxw4
    refine wpl_store rfl 27 (.tmp 1) (.tmp 11) rfl N 6 (rC (settleF a).1) rfl rfl 27 _ k6 szR (fun j _ => rC_one _ j) ?_
    intro xw9 t10 k11; try simp only [pA]
    have k12 := k7.touch t10 (by omega)
    have lo13 := t10.below lo8 (by omega)
    have h14 := t10.sz hM5
    clear k6 k7 lo8 hM5 t10
    refine wpl_run rfl (Value.bool false) _ (run_as (x := (.tmp 12)) rfl _ rfl) ?_; simp only [pA]
    obtain ⟨M15, hM15⟩ := sz_some xw9
    have lt_16 := k11.ltN hM15
    have lt_17 := k12.ltN hM15
    go_upto_region 2 with fail
    refine wp_region_later1 (M15) ?_
    try simp only [pA]
    iterate 2 (go_big_quiet_step (fail))
    refine wpQuiet_nil (laterE hM15 ?_)
    intro xw18 M19 hbxw18 hM19 lM19
    have k20 := k11.below hbxw18 (by omega)
    have k21 := k12.below hbxw18 (by omega)
    have lo22 := lo13.trans (hbxw18.mono (by omega))
    clear k11 k12 lo13 hbxw18
    go_upto_region 3 with fail
    refine wp_region_lit ?_
    try simp only [pA]
    change wpList _ _ _ ((_ :: []) ++ (_ :: _ :: [])) _ _
    refine wpList_prefix (C := fun w' => ∃ x : Later M19 xw18, w' = x.w') _ _ _ _ ⟨⟨_, Below.refl _ _⟩, rfl⟩ ?_
    refine later_val (fun q => run_bd 27 _ rfl (cellsOf (rC ⟨zeroN, 0#64, 0#64, 0#64, 0#64⟩) 6) (by kernel_rfl) q.w') (by rfl) ?_; simp only [pA]
    refine wpQuiet_nil (laterE hM19 ?_)
    intro xw23 M24 hbxw23 hM24 lM24
    have k25 := k20.below hbxw23 (by omega)
    have k26 := k21.below hbxw23 (by omega)
    have lo27 := lo22.trans (hbxw23.mono (by omega))
    clear k20 k21 lo22 hbxw23
    refine wpl_store rfl 27 (.tmp 2) (.tmp 15) rfl (N + 1) 6 (rC ⟨zeroN, 0#64, 0#64, 0#64, 0#64⟩) rfl rfl 27 _ k26 szR (fun j _ => rC_one _ j) ?_
    intro xw28 t29 k30; try simp only [pA]
    have k31 := k25.touch t29 (by omega)
    have lo32 := t29.below lo27 (by omega)
    have h33 := t29.sz hM24
    clear k26 k25 lo27 hM24 t29
    refine wpl_run rfl (Value.bool false) _ (run_as (x := (.const (.bool false))) rfl _ rfl) ?_; simp only [pA]
    obtain ⟨M34, hM34⟩ := sz_some xw28
    have lt_35 := k31.ltN hM34
    have lt_36 := k30.ltN hM34
    go_wp2_with fail
    refine post_rb rfl (N + 1) rfl k30 undR szR rfl rfl ?_
    exact ⟨by rw [ER.out]; first | rfl | (simp only [nearF, H1_.out, bB] <;> rfl), lo32⟩
  · have H1_ := hid h1_
    clear h1_
    have CS3 := fun w N hN => Settle_any a w N hN
    rw [H1_.out] at CS3
    go_upto_region 1 with fail
    refine wp_region_lit ?_
    try simp only [pA]
    change wpList _ _ _ ((_ :: _ :: _ :: _ :: _ :: []) ++ (_ :: _ :: [])) _ _
    refine wpList_prefix (C := fun w' => ∃ x : Later (N + 1 + 1) w2, w' = x.w') _ _ _ _ ⟨⟨_, Below.refl _ _⟩, rfl⟩ ?_
    refine later_row hN2 27 (.tmp 1) rfl (N) rfl 27 6 _ k1 undR szR (by rfl) ?_; simp only [pA]
    go_big_quiet_step ((go_at_call 13; exact later_of hN2 _ (fun K hK hKN => CS3 _ K hK)))
    iterate 3 (go_big_quiet_step (fail))
    refine wpQuiet_nil (laterE hN2 ?_)
    intro xw4 M5 hbxw4 hM5 lM5
    have k6 := k1.below hbxw4 (by omega)
    have k7 := k2.below hbxw4 (by omega)
    have lo8 := lo0.trans (hbxw4.mono (by omega))
    clear k1 k2 lo0 hbxw4
    refine wpl_store rfl 27 (.tmp 1) (.tmp 11) rfl N 6 (rC (settleF a).1) rfl rfl 27 _ k6 szR (fun j _ => rC_one _ j) ?_
    intro xw9 t10 k11; try simp only [pA]
    have k12 := k7.touch t10 (by omega)
    have lo13 := t10.below lo8 (by omega)
    have h14 := t10.sz hM5
    clear k6 k7 lo8 hM5 t10
    refine wpl_run rfl (Value.bool true) _ (run_as (x := (.tmp 12)) rfl _ rfl) ?_; simp only [pA]
    obtain ⟨M15, hM15⟩ := sz_some xw9
    have lt_16 := k11.ltN hM15
    have lt_17 := k12.ltN hM15
    go_upto_region 2 with fail
    refine wp_region_later1 (M15) ?_
    try simp only [pA]
    iterate 2 (go_big_quiet_step (fail))
    refine wpQuiet_nil (laterE hM15 ?_)
    intro xw18 M19 hbxw18 hM19 lM19
    have k20 := k11.below hbxw18 (by omega)
    have k21 := k12.below hbxw18 (by omega)
    have lo22 := lo13.trans (hbxw18.mono (by omega))
    clear k11 k12 lo13 hbxw18
    cases h2_ : (nxtF (settleF a).1 0#64).2
    · have H2_ := hid h2_
      clear h2_
      have CS23 := fun w N hN => Next_any (settleF a).1 0#64 w N hN
      rw [H2_.out] at CS23
      go_upto_region 4 with fail
      refine wp_region_later1 (M19) ?_
      try simp only [pA]
      refine later_row hM19 27 (.tmp 1) rfl (N) rfl 27 6 _ k20 undR szR (by rfl) ?_; simp only [pA]
      go_big_quiet_step ((go_at_call 53; exact later_of hM19 _ (fun K hK hKN => CS23 _ K hK)))
      iterate 5 (go_big_quiet_step (fail))
      refine wpQuiet_nil (laterE hM19 ?_)
      intro xw24 M25 hbxw24 hM25 lM25
      have k26 := k20.below hbxw24 (by omega)
      have k27 := k21.below hbxw24 (by omega)
      have lo28 := lo22.trans (hbxw24.mono (by omega))
      clear k20 k21 lo22 hbxw24
      go_upto_region 5 with fail
      refine wp_region_later1 (M25) ?_
      try simp only [pA]
      iterate 2 (go_big_quiet_step (fail))
      refine wpQuiet_nil (laterE hM25 ?_)
      intro xw29 M30 hbxw29 hM30 lM30
      have k31 := k26.below hbxw29 (by omega)
      have k32 := k27.below hbxw29 (by omega)
      have lo33 := lo28.trans (hbxw29.mono (by omega))
      clear k26 k27 lo28 hbxw29
      go_upto_region 6 with fail
      refine wp_region_lit ?_
      try simp only [pA]
      change wpList _ _ _ ((_ :: []) ++ (_ :: _ :: [])) _ _
      refine wpList_prefix (C := fun w' => ∃ x : Later M30 xw29, w' = x.w') _ _ _ _ ⟨⟨_, Below.refl _ _⟩, rfl⟩ ?_
      refine later_val (fun q => run_bd 27 _ rfl (cellsOf (rC ⟨zeroN, 0#64, 0#64, 0#64, 0#64⟩) 6) (by kernel_rfl) q.w') (by rfl) ?_; simp only [pA]
      refine wpQuiet_nil (laterE hM30 ?_)
      intro xw34 M35 hbxw34 hM35 lM35
      have k36 := k31.below hbxw34 (by omega)
      have k37 := k32.below hbxw34 (by omega)
      have lo38 := lo33.trans (hbxw34.mono (by omega))
      clear k31 k32 lo33 hbxw34
      refine wpl_store rfl 27 (.tmp 2) (.tmp 23) rfl (N + 1) 6 (rC ⟨zeroN, 0#64, 0#64, 0#64, 0#64⟩) rfl rfl 27 _ k37 szR (fun j _ => rC_one _ j) ?_
      intro xw39 t40 k41; try simp only [pA]
      have k42 := k36.touch t40 (by omega)
      have lo43 := t40.below lo38 (by omega)
      have h44 := t40.sz hM35
      clear k37 k36 lo38 hM35 t40
      refine wpl_run rfl (Value.bool false) _ (run_as (x := (.const (.bool false))) rfl _ rfl) ?_; simp only [pA]
      obtain ⟨M45, hM45⟩ := sz_some xw39
      have lt_46 := k42.ltN hM45
      have lt_47 := k41.ltN hM45
      go_wp2_with fail
      refine post_rb rfl (N + 1) rfl k41 undR szR rfl rfl ?_
      exact ⟨by rw [ER.out]; first | rfl | (simp only [nearF, H1_.out, H2_.out, bB] <;> rfl), lo43⟩
    · have H2_ := hid h2_
      clear h2_
      have CS23 := fun w N hN => Next_any (settleF a).1 0#64 w N hN
      rw [H2_.out] at CS23
      go_upto_region 4 with fail
      refine wp_region_later1 (M19) ?_
      try simp only [pA]
      refine later_row hM19 27 (.tmp 1) rfl (N) rfl 27 6 _ k20 undR szR (by rfl) ?_; simp only [pA]
      go_big_quiet_step ((go_at_call 53; exact later_of hM19 _ (fun K hK hKN => CS23 _ K hK)))
      iterate 5 (go_big_quiet_step (fail))
      refine wpQuiet_nil (laterE hM19 ?_)
      intro xw24 M25 hbxw24 hM25 lM25
      have k26 := k20.below hbxw24 (by omega)
      have k27 := k21.below hbxw24 (by omega)
      have lo28 := lo22.trans (hbxw24.mono (by omega))
      clear k20 k21 lo22 hbxw24
      go_upto_region 5 with fail
      refine wp_region_later1 (M25) ?_
      try simp only [pA]
      iterate 2 (go_big_quiet_step (fail))
      refine wpQuiet_nil (laterE hM25 ?_)
      intro xw29 M30 hbxw29 hM30 lM30
      have k31 := k26.below hbxw29 (by omega)
      have k32 := k27.below hbxw29 (by omega)
      have lo33 := lo28.trans (hbxw29.mono (by omega))
      clear k26 k27 lo28 hbxw29
      cases h3_ : (nxtF (settleF a).1 ((nxtF (settleF a).1 0#64).1 + 1#64)).2
      · have H3_ := hid h3_
        clear h3_
        have CS34 := fun w N hN => Next_any (settleF a).1 ((nxtF (settleF a).1 0#64).1 + 1#64) w N hN
        rw [H3_.out] at CS34
        go_upto_region 7 with fail
        refine wp_region_later1 (M30) ?_
        try simp only [pA]
        refine later_row hM30 27 (.tmp 1) rfl (N) rfl 27 6 _ k31 undR szR (by rfl) ?_; simp only [pA]
        go_big_quiet_step (fail)
        refine later_b (x := (.tmp 26)) (y := (.const (.int .u64 1))) rfl (bin_add _ (nxtF (settleF a).1 0#64).1 1#64) rfl rfl (by rfl) ?_; simp only [pA]
        go_big_quiet_step ((go_at_call 53; exact later_of hM30 _ (fun K hK hKN => CS34 _ K hK)))
        iterate 5 (go_big_quiet_step (fail))
        refine wpQuiet_nil (laterE hM30 ?_)
        intro xw35 M36 hbxw35 hM36 lM36
        have k37 := k31.below hbxw35 (by omega)
        have k38 := k32.below hbxw35 (by omega)
        have lo39 := lo33.trans (hbxw35.mono (by omega))
        clear k31 k32 lo33 hbxw35
        go_upto_region 8 with fail
        refine wp_region_later1 (M36) ?_
        try simp only [pA]
        iterate 7 (go_big_quiet_step (fail))
        refine wpQuiet_nil (laterE hM36 ?_)
        intro xw40 M41 hbxw40 hM41 lM41
        have k42 := k37.below hbxw40 (by omega)
        have k43 := k38.below hbxw40 (by omega)
        have lo44 := lo39.trans (hbxw40.mono (by omega))
        clear k37 k38 lo39 hbxw40
        go_upto_region 9 with fail
        refine wp_region_lit ?_
        try simp only [pA]
        change wpList _ _ _ ((_ :: _ :: []) ++ (_ :: _ :: [])) _ _
        refine wpList_prefix (C := fun w' => ∃ x : Later M41 xw40, w' = x.w') _ _ _ _ ⟨⟨_, Below.refl _ _⟩, rfl⟩ ?_
        go_big_quiet_step (fail)
        go_big_quiet_step ((go_at_call 7; exact later_of hM41 _ (fun K hK hKN => SConst_any (nxtF (settleF a).1 0#64).1 _ K hK)))
        refine wpQuiet_nil (laterE hM41 ?_)
        intro xw45 M46 hbxw45 hM46 lM46
        have k47 := k42.below hbxw45 (by omega)
        have k48 := k43.below hbxw45 (by omega)
        have lo49 := lo44.trans (hbxw45.mono (by omega))
        clear k42 k43 lo44 hbxw45
        refine wpl_store rfl 27 (.tmp 2) (.tmp 39) rfl (N + 1) 6 (rC (cR (nxtF (settleF a).1 0#64).1)) rfl rfl 27 _ k48 szR (fun j _ => rC_one _ j) ?_
        intro xw50 t51 k52; try simp only [pA]
        have k53 := k47.touch t51 (by omega)
        have lo54 := t51.below lo49 (by omega)
        have h55 := t51.sz hM46
        clear k48 k47 lo49 hM46 t51
        refine wpl_run rfl (Value.bool true) _ (run_as (x := (.const (.bool true))) rfl _ rfl) ?_; simp only [pA]
        obtain ⟨M56, hM56⟩ := sz_some xw50
        have lt_57 := k53.ltN hM56
        have lt_58 := k52.ltN hM56
        go_wp2_with fail
        refine post_rb rfl (N + 1) rfl k52 undR szR rfl rfl ?_
        exact ⟨by rw [ER.out]; first | rfl | (simp only [nearF, H1_.out, H2_.out, H3_.out, bB] <;> rfl), lo54⟩
      · have H3_ := hid h3_
        clear h3_
        have CS34 := fun w N hN => Next_any (settleF a).1 ((nxtF (settleF a).1 0#64).1 + 1#64) w N hN
        rw [H3_.out] at CS34
        go_upto_region 7 with fail
        refine wp_region_later1 (M30) ?_
        try simp only [pA]
        refine later_row hM30 27 (.tmp 1) rfl (N) rfl 27 6 _ k31 undR szR (by rfl) ?_; simp only [pA]
        go_big_quiet_step (fail)
        refine later_b (x := (.tmp 26)) (y := (.const (.int .u64 1))) rfl (bin_add _ (nxtF (settleF a).1 0#64).1 1#64) rfl rfl (by rfl) ?_; simp only [pA]
        go_big_quiet_step ((go_at_call 53; exact later_of hM30 _ (fun K hK hKN => CS34 _ K hK)))
        iterate 5 (go_big_quiet_step (fail))
        refine wpQuiet_nil (laterE hM30 ?_)
        intro xw35 M36 hbxw35 hM36 lM36
        have k37 := k31.below hbxw35 (by omega)
        have k38 := k32.below hbxw35 (by omega)
        have lo39 := lo33.trans (hbxw35.mono (by omega))
        clear k31 k32 lo33 hbxw35
        cases h4_ : ((nxtF (settleF a).1 ((nxtF (settleF a).1 0#64).1 + 1#64)).1 == (nxtF (settleF a).1 0#64).1)
        · have H4_ := hid h4_
          clear h4_
          go_upto_region 8 with fail
          refine wp_region_later1 (M36) ?_
          try simp only [pA]
          iterate 5 (go_big_quiet_step (fail))
          refine later_b (x := (.tmp 34)) (y := (.tmp 35)) rfl (BinRun.is H4_.out (bin_eql _ (nxtF (settleF a).1 ((nxtF (settleF a).1 0#64).1 + 1#64)).1 (nxtF (settleF a).1 0#64).1)) rfl rfl (by rfl) ?_; simp only [pA]
          go_big_quiet_step (fail)
          refine wpQuiet_nil (laterE hM36 ?_)
          intro xw40 M41 hbxw40 hM41 lM41
          have k42 := k37.below hbxw40 (by omega)
          have k43 := k38.below hbxw40 (by omega)
          have lo44 := lo39.trans (hbxw40.mono (by omega))
          clear k37 k38 lo39 hbxw40
          go_upto_region 10 with fail
          refine wp_region_lit ?_
          try simp only [pA]
          change wpList _ _ _ ((_ :: []) ++ (_ :: _ :: [])) _ _
          refine wpList_prefix (C := fun w' => ∃ x : Later M41 xw40, w' = x.w') _ _ _ _ ⟨⟨_, Below.refl _ _⟩, rfl⟩ ?_
          refine later_row hM41 27 (.tmp 1) rfl (N) rfl 27 6 _ k42 undR szR (by rfl) ?_; simp only [pA]
          refine wpQuiet_nil (laterE hM41 ?_)
          intro xw45 M46 hbxw45 hM46 lM46
          have k47 := k42.below hbxw45 (by omega)
          have k48 := k43.below hbxw45 (by omega)
          have lo49 := lo44.trans (hbxw45.mono (by omega))
          clear k42 k43 lo44 hbxw45
          refine wpl_store rfl 27 (.tmp 2) (.tmp 40) rfl (N + 1) 6 (rC (settleF a).1) rfl rfl 27 _ k48 szR (fun j _ => rC_one _ j) ?_
          intro xw50 t51 k52; try simp only [pA]
          have k53 := k47.touch t51 (by omega)
          have lo54 := t51.below lo49 (by omega)
          have h55 := t51.sz hM46
          clear k48 k47 lo49 hM46 t51
          refine wpl_run rfl (Value.bool true) _ (run_as (x := (.const (.bool true))) rfl _ rfl) ?_; simp only [pA]
          obtain ⟨M56, hM56⟩ := sz_some xw50
          have lt_57 := k53.ltN hM56
          have lt_58 := k52.ltN hM56
          go_wp2_with fail
          refine post_rb rfl (N + 1) rfl k52 undR szR rfl rfl ?_
          exact ⟨by rw [ER.out]; first | rfl | (simp only [nearF, H1_.out, H2_.out, H3_.out, H4_.out, bB] <;> rfl), lo54⟩
        · have H4_ := hid h4_
          clear h4_
          go_upto_region 8 with fail
          refine wp_region_later1 (M36) ?_
          try simp only [pA]
          iterate 5 (go_big_quiet_step (fail))
          refine later_b (x := (.tmp 34)) (y := (.tmp 35)) rfl (BinRun.is H4_.out (bin_eql _ (nxtF (settleF a).1 ((nxtF (settleF a).1 0#64).1 + 1#64)).1 (nxtF (settleF a).1 0#64).1)) rfl rfl (by rfl) ?_; simp only [pA]
          go_big_quiet_step (fail)
          refine wpQuiet_nil (laterE hM36 ?_)
          intro xw40 M41 hbxw40 hM41 lM41
          have k42 := k37.below hbxw40 (by omega)
          have k43 := k38.below hbxw40 (by omega)
          have lo44 := lo39.trans (hbxw40.mono (by omega))
          clear k37 k38 lo39 hbxw40
          go_upto_region 9 with fail
          refine wp_region_lit ?_
          try simp only [pA]
          change wpList _ _ _ ((_ :: _ :: []) ++ (_ :: _ :: [])) _ _
          refine wpList_prefix (C := fun w' => ∃ x : Later M41 xw40, w' = x.w') _ _ _ _ ⟨⟨_, Below.refl _ _⟩, rfl⟩ ?_
          go_big_quiet_step (fail)
          go_big_quiet_step ((go_at_call 7; exact later_of hM41 _ (fun K hK hKN => SConst_any (nxtF (settleF a).1 0#64).1 _ K hK)))
          refine wpQuiet_nil (laterE hM41 ?_)
          intro xw45 M46 hbxw45 hM46 lM46
          have k47 := k42.below hbxw45 (by omega)
          have k48 := k43.below hbxw45 (by omega)
          have lo49 := lo44.trans (hbxw45.mono (by omega))
          clear k42 k43 lo44 hbxw45
          refine wpl_store rfl 27 (.tmp 2) (.tmp 39) rfl (N + 1) 6 (rC (cR (nxtF (settleF a).1 0#64).1)) rfl rfl 27 _ k48 szR (fun j _ => rC_one _ j) ?_
          intro xw50 t51 k52; try simp only [pA]
          have k53 := k47.touch t51 (by omega)
          have lo54 := t51.below lo49 (by omega)
          have h55 := t51.sz hM46
          clear k48 k47 lo49 hM46 t51
          refine wpl_run rfl (Value.bool true) _ (run_as (x := (.const (.bool true))) rfl _ rfl) ?_; simp only [pA]
          obtain ⟨M56, hM56⟩ := sz_some xw50
          have lt_57 := k53.ltN hM56
          have lt_58 := k52.ltN hM56
          go_wp2_with fail
          refine post_rb rfl (N + 1) rfl k52 undR szR rfl rfl ?_
          exact ⟨by rw [ER.out]; first | rfl | (simp only [nearF, H1_.out, H2_.out, H3_.out, H4_.out, bB] <;> rfl), lo54⟩
def aloneF (a : Rn) : Bool :=
  (a.lo == a.hi)
set_option maxRecDepth 100000 in
set_option maxHeartbeats 4000000 in
theorem Alone_any (a : Rn) (w : World) (N : Nat) (hN : Sz w N) : Calls Tryd.prog 29 #[rV a] w fun e w' => e = .returned (.bool (aloneF a)) ∧ Below N w w' := by
  obtain ⟨rr, er⟩ : ∃ rr, rr = (aloneF a) := ⟨_, rfl⟩
  rw [← er]
  have ER := hid er
  clear er
  unfold rV
  go_enter Tryd.func29, Tryd.ntmps29
  go_upto_region 1 with (first
    | (refine wpl_box rfl 27 (.tmp 0) rfl 6 _ rfl (N) hN ?_; intro w1 hN1 hb1 hh1)
    | fail)
  have lo0 : Below N w w1 := hb1
  have k1 := hh1
  clear hh1 hb1
  go_upto_region 1 with fail
  obtain ⟨c2, c3, c4, c5, c6, c7⟩ := r_cells k1
  refine wp_region_later1 ((N + 1)) ?_
  try simp only [pA]
  go_big_quiet_step (fail)
  refine later_c1 hN1 23 (.tmp 3) rfl rfl und64 rfl c4 (by rfl) ?_; simp only [pA]
  go_big_quiet_step (fail)
  refine later_c1 hN1 23 (.tmp 5) rfl rfl und64 rfl c5 (by rfl) ?_; simp only [pA]
  refine later_b (x := (.tmp 4)) (y := (.tmp 6)) rfl (bin_eql _ a.lo a.hi) rfl rfl (by rfl) ?_; simp only [pA]
  go_big_quiet_step (fail)
  refine wpQuiet_nil (laterE hN1 ?_)
  intro xw8 M9 hbxw8 hM9 lM9
  have k10 := k1.below hbxw8 (by omega)
  have lo11 := lo0.trans (hbxw8.mono (by omega))
  clear k1 c2 c3 c4 c5 c6 c7 lo0 hbxw8
  go_wp2_with fail
  go_ret
  exact ⟨by rw [ER.out]; first | rfl | (simp only [aloneF, bB] <;> rfl), lo11⟩
end Go.Proofs.YtbbfdehipgkjmaaDoor
