/- Contract of what a jump tells: of all numbers and ranges. -/
import Derived.Test.YtbbfdehipgkjmaaDoorBr20
namespace Go.Proofs.YtbbfdehipgkjmaaDoor
open Go Go.RowKit
def refF (op : Int) (l : Bool) (a : Rn) (b : Rn) (h : Bool) : Rn × Rn × Bool :=
  bif (!(nearF a).2 || (!(nearF b).2 || (h && ((oppF op) == 0)))) then (⟨zeroN, 0#64, 0#64, 0#64, 0#64⟩, ⟨zeroN, 0#64, 0#64, 0#64, 0#64⟩, false)
  else bif ((aloneF (nearF a).1) && (aloneF (nearF b).1)) then ((bothF (nearF a).1 (nearF b).1 ((holF op l (nearF a).1.lo (nearF b).1.lo) == h)).1, (bothF (nearF a).1 (nearF b).1 ((holF op l (nearF a).1.lo (nearF b).1.lo) == h)).2.1, (bothF (nearF a).1 (nearF b).1 ((holF op l (nearF a).1.lo (nearF b).1.lo) == h)).2.2)
  else bif (bndF (bif (!l && !(aslF op (nearF a).1 (nearF b).1)) then 0 else (bif h then op else oppF op)) (nearF a).1 (nearF b).1).2.2 then bif (settleF (bndF (bif (!l && !(aslF op (nearF a).1 (nearF b).1)) then 0 else (bif h then op else oppF op)) (nearF a).1 (nearF b).1).1).2 then ((bothF (settleF (bndF (bif (!l && !(aslF op (nearF a).1 (nearF b).1)) then 0 else (bif h then op else oppF op)) (nearF a).1 (nearF b).1).1).1 (settleF (bndF (bif (!l && !(aslF op (nearF a).1 (nearF b).1)) then 0 else (bif h then op else oppF op)) (nearF a).1 (nearF b).1).2.1).1 (settleF (bndF (bif (!l && !(aslF op (nearF a).1 (nearF b).1)) then 0 else (bif h then op else oppF op)) (nearF a).1 (nearF b).1).2.1).2).1, (bothF (settleF (bndF (bif (!l && !(aslF op (nearF a).1 (nearF b).1)) then 0 else (bif h then op else oppF op)) (nearF a).1 (nearF b).1).1).1 (settleF (bndF (bif (!l && !(aslF op (nearF a).1 (nearF b).1)) then 0 else (bif h then op else oppF op)) (nearF a).1 (nearF b).1).2.1).1 (settleF (bndF (bif (!l && !(aslF op (nearF a).1 (nearF b).1)) then 0 else (bif h then op else oppF op)) (nearF a).1 (nearF b).1).2.1).2).2.1, (bothF (settleF (bndF (bif (!l && !(aslF op (nearF a).1 (nearF b).1)) then 0 else (bif h then op else oppF op)) (nearF a).1 (nearF b).1).1).1 (settleF (bndF (bif (!l && !(aslF op (nearF a).1 (nearF b).1)) then 0 else (bif h then op else oppF op)) (nearF a).1 (nearF b).1).2.1).1 (settleF (bndF (bif (!l && !(aslF op (nearF a).1 (nearF b).1)) then 0 else (bif h then op else oppF op)) (nearF a).1 (nearF b).1).2.1).2).2.2)
    else ((bothF (settleF (bndF (bif (!l && !(aslF op (nearF a).1 (nearF b).1)) then 0 else (bif h then op else oppF op)) (nearF a).1 (nearF b).1).1).1 (settleF (bndF (bif (!l && !(aslF op (nearF a).1 (nearF b).1)) then 0 else (bif h then op else oppF op)) (nearF a).1 (nearF b).1).2.1).1 false).1, (bothF (settleF (bndF (bif (!l && !(aslF op (nearF a).1 (nearF b).1)) then 0 else (bif h then op else oppF op)) (nearF a).1 (nearF b).1).1).1 (settleF (bndF (bif (!l && !(aslF op (nearF a).1 (nearF b).1)) then 0 else (bif h then op else oppF op)) (nearF a).1 (nearF b).1).2.1).1 false).2.1, (bothF (settleF (bndF (bif (!l && !(aslF op (nearF a).1 (nearF b).1)) then 0 else (bif h then op else oppF op)) (nearF a).1 (nearF b).1).1).1 (settleF (bndF (bif (!l && !(aslF op (nearF a).1 (nearF b).1)) then 0 else (bif h then op else oppF op)) (nearF a).1 (nearF b).1).2.1).1 false).2.2)
  else (⟨zeroN, 0#64, 0#64, 0#64, 0#64⟩, ⟨zeroN, 0#64, 0#64, 0#64, 0#64⟩, false)
set_option maxRecDepth 100000 in
set_option maxHeartbeats 4000000 in
theorem Refine_all (op : Int) (l : Bool) (a : Rn) (b : Rn) (h : Bool) (w : World) (N : Nat) (hN : Sz w N) : Calls Tryd.prog 11 #[(Value.int .i64 op), (Value.bool l), rV a, rV b, (Value.bool h)] w fun e w' => e = .returned (.tuple #[rV (refF op l a b h).1, rV (refF op l a b h).2.1, .bool (refF op l a b h).2.2]) ∧ Below N w w' := by
  obtain ⟨rr, er⟩ : ∃ rr, rr = (refF op l a b h) := ⟨_, rfl⟩
  rw [← er]
  have ER := hid er
  clear er
  unfold rV
  go_enter Tryd.func11, Tryd.ntmps11
  go_upto_region 1 with (first
    | (refine wpl_box rfl 27 (.tmp 2) rfl 6 _ rfl (N) hN ?_; intro w1 hN1 hb1 hh1)
    | (refine wpl_box rfl 27 (.tmp 3) rfl 6 _ rfl (N + 1) hN1 ?_; intro w2 hN2 hb2 hh2)
    | (refine wpl_alloc rfl 27 rfl 6 (rC zeroR) zeR (N + 1 + 1) hN2 ?_; intro w3 hN3 hb3 hh3)
    | (refine wpl_alloc rfl 27 rfl 6 (rC zeroR) zeR (N + 1 + 1 + 1) hN3 ?_; intro w4 hN4 hb4 hh4)
    | fail)
  have lo0 : Below N w w4 := (((hb1.trans (hb2.mono (by omega))).trans (hb3.mono (by omega))).trans (hb4.mono (by omega)))
  have k1 := (((hh1.below hb2 (by omega)).below hb3 (by omega)).below hb4 (by omega))
  have k2 := ((hh2.below hb3 (by omega)).below hb4 (by omega))
  have k3 := (hh3.below hb4 (by omega))
  have k4 := hh4
  clear hh1 hb1 hh2 hb2 hh3 hb3 hh4 hb4 hN1 hN2 hN3
  go_upto_region 1 with fail
  refine wp_region_lit ?_
  try simp only [pA]
  change wpList _ _ _ ((_ :: _ :: _ :: _ :: _ :: []) ++ (_ :: _ :: [])) _ _
  refine wpList_prefix (C := fun w' => ∃ x : Later (N + 1 + 1 + 1 + 1) w4, w' = x.w') _ _ _ _ ⟨⟨_, Below.refl _ _⟩, rfl⟩ ?_
  refine later_row hN4 27 (.tmp 7) rfl (N) rfl 27 6 _ k1 undR szR (by rfl) ?_; simp only [pA]
  go_big_quiet_step ((go_at_call 27; exact later_of hN4 _ (fun K hK hKN => Near_any a _ K hK)))
  iterate 3 (go_big_quiet_step (fail))
  refine wpQuiet_nil (laterE hN4 ?_)
  intro xw5 M6 hbxw5 hM6 lM6
  have k7 := k1.below hbxw5 (by omega)
  have k8 := k2.below hbxw5 (by omega)
  have k9 := k3.below hbxw5 (by omega)
  have k10 := k4.below hbxw5 (by omega)
  have lo11 := lo0.trans (hbxw5.mono (by omega))
  clear k1 k2 k3 k4 lo0 hbxw5
  refine wpl_store rfl 27 (.tmp 7) (.tmp 20) rfl N 6 (rC (nearF a).1) rfl rfl 27 _ k7 szR (fun j _ => rC_one _ j) ?_
  intro xw12 t13 k14; try simp only [pA]
  have k15 := k8.touch t13 (by omega)
  have k16 := k9.touch t13 (by omega)
  have k17 := k10.touch t13 (by omega)
  have lo18 := t13.below lo11 (by omega)
  have h19 := t13.sz hM6
  clear k7 k8 k9 k10 lo11 hM6 t13
  refine wpl_run rfl (Value.bool (nearF a).2) _ (run_as (x := (.tmp 21)) rfl _ rfl) ?_; simp only [pA]
  obtain ⟨M20, hM20⟩ := sz_some xw12
  have lt_21 := k14.ltN hM20
  have lt_22 := k15.ltN hM20
  have lt_23 := k16.ltN hM20
  have lt_24 := k17.ltN hM20
  go_upto_region 2 with fail
  refine wp_region_lit ?_
  try simp only [pA]
  change wpList _ _ _ ((_ :: _ :: _ :: _ :: _ :: []) ++ (_ :: _ :: [])) _ _
  refine wpList_prefix (C := fun w' => ∃ x : Later M20 xw12, w' = x.w') _ _ _ _ ⟨⟨_, Below.refl _ _⟩, rfl⟩ ?_
  refine later_row hM20 27 (.tmp 8) rfl ((N + 1)) rfl 27 6 _ k15 undR szR (by rfl) ?_; simp only [pA]
  go_big_quiet_step ((go_at_call 27; exact later_of hM20 _ (fun K hK hKN => Near_any b _ K hK)))
  iterate 3 (go_big_quiet_step (fail))
  refine wpQuiet_nil (laterE hM20 ?_)
  intro xw25 M26 hbxw25 hM26 lM26
  have k27 := k14.below hbxw25 (by omega)
  have k28 := k15.below hbxw25 (by omega)
  have k29 := k16.below hbxw25 (by omega)
  have k30 := k17.below hbxw25 (by omega)
  have lo31 := lo18.trans (hbxw25.mono (by omega))
  clear k14 k15 k16 k17 lo18 hbxw25
  refine wpl_store rfl 27 (.tmp 8) (.tmp 25) rfl (N + 1) 6 (rC (nearF b).1) rfl rfl 27 _ k28 szR (fun j _ => rC_one _ j) ?_
  intro xw32 t33 k34; try simp only [pA]
  have k35 := k27.touch t33 (by omega)
  have k36 := k29.touch t33 (by omega)
  have k37 := k30.touch t33 (by omega)
  have lo38 := t33.below lo31 (by omega)
  have h39 := t33.sz hM26
  clear k28 k27 k29 k30 lo31 hM26 t33
  refine wpl_run rfl (Value.bool (nearF b).2) _ (run_as (x := (.tmp 26)) rfl _ rfl) ?_; simp only [pA]
  obtain ⟨M40, hM40⟩ := sz_some xw32
  have lt_41 := k35.ltN hM40
  have lt_42 := k34.ltN hM40
  have lt_43 := k36.ltN hM40
  have lt_44 := k37.ltN hM40
  go_upto_region 3 with fail
  obtain ⟨sa, esa⟩ : ∃ s, s = (nearF a).2 := ⟨_, rfl⟩
  rw [← esa]
  have Esa := hid esa
  clear esa
  obtain ⟨sb, esb⟩ : ∃ s, s = (nearF b).2 := ⟨_, rfl⟩
  rw [← esb]
  have Esb := hid esb
  clear esb
  go_cut [40] (fun v wx => v = (Value.bool (!sa || (!sb || (h && ((oppF op) == 0))))) ∧ Below M40 xw32 wx)
  case first =>
    have lc := Below.refl M40 xw32
    cases sa
    · skip
      go_upto_region 3 with fail
      refine wp_region_later1 (M40) ?_
      try simp only [pA]
      iterate 14 (go_big_quiet_step (fail))
      refine wpQuiet_nil (laterE hM40 ?_)
      intro xw45 M46 hbxw45 hM46 lM46
      have k47 := k35.below hbxw45 (by omega)
      have k48 := k34.below hbxw45 (by omega)
      have k49 := k36.below hbxw45 (by omega)
      have k50 := k37.below hbxw45 (by omega)
      have lo51 := lc.trans (hbxw45.mono (by omega))
      clear k35 k34 k36 k37 lc hbxw45
      go_wp2_with fail
      go_meet
      exact ⟨by first | rfl | (simp only [bB] <;> rfl), lo51⟩
    · skip
      cases sb
      · skip
        go_upto_region 3 with fail
        refine wp_region_later1 (M40) ?_
        try simp only [pA]
        iterate 14 (go_big_quiet_step (fail))
        refine wpQuiet_nil (laterE hM40 ?_)
        intro xw45 M46 hbxw45 hM46 lM46
        have k47 := k35.below hbxw45 (by omega)
        have k48 := k34.below hbxw45 (by omega)
        have k49 := k36.below hbxw45 (by omega)
        have k50 := k37.below hbxw45 (by omega)
        have lo51 := lc.trans (hbxw45.mono (by omega))
        clear k35 k34 k36 k37 lc hbxw45
        go_wp2_with fail
        go_meet
        exact ⟨by first | rfl | (simp only [bB] <;> rfl), lo51⟩
      · skip
        cases h
        · skip
          go_upto_region 3 with fail
          refine wp_region_later1 (M40) ?_
          try simp only [pA]
          iterate 14 (go_big_quiet_step (fail))
          refine wpQuiet_nil (laterE hM40 ?_)
          intro xw45 M46 hbxw45 hM46 lM46
          have k47 := k35.below hbxw45 (by omega)
          have k48 := k34.below hbxw45 (by omega)
          have k49 := k36.below hbxw45 (by omega)
          have k50 := k37.below hbxw45 (by omega)
          have lo51 := lc.trans (hbxw45.mono (by omega))
          clear k35 k34 k36 k37 lc hbxw45
          go_wp2_with fail
          go_meet
          exact ⟨by first | rfl | (simp only [bB] <;> rfl), lo51⟩
        · skip
          cases h4_ : ((oppF op) == 0)
          · have H4_ := hid h4_
            clear h4_
            go_upto_region 3 with fail
            refine wp_region_later1 (M40) ?_
            try simp only [pA]
            iterate 10 (go_big_quiet_step (fail))
            go_big_quiet_step ((go_at_call 28; exact later_of hM40 _ (fun K hK hKN => Opp_all op _ K hK)))
            refine later_val (fun q => run_eqlI (x := (.tmp 37)) (y := (.const (.int .i64 0))) rfl rfl rfl (p := (oppF op)) (q := 0) (r := false) H4_.out q.w') (by rfl) ?_; simp only [pA]
            iterate 2 (go_big_quiet_step (fail))
            refine wpQuiet_nil (laterE hM40 ?_)
            intro xw45 M46 hbxw45 hM46 lM46
            have k47 := k35.below hbxw45 (by omega)
            have k48 := k34.below hbxw45 (by omega)
            have k49 := k36.below hbxw45 (by omega)
            have k50 := k37.below hbxw45 (by omega)
            have lo51 := lc.trans (hbxw45.mono (by omega))
            clear k35 k34 k36 k37 lc hbxw45
            go_wp2_with fail
            go_meet
            exact ⟨by first | rfl | (simp only [H4_.out, bB] <;> rfl), lo51⟩
          · have H4_ := hid h4_
            clear h4_
            go_upto_region 3 with fail
            refine wp_region_later1 (M40) ?_
            try simp only [pA]
            iterate 10 (go_big_quiet_step (fail))
            go_big_quiet_step ((go_at_call 28; exact later_of hM40 _ (fun K hK hKN => Opp_all op _ K hK)))
            refine later_val (fun q => run_eqlI (x := (.tmp 37)) (y := (.const (.int .i64 0))) rfl rfl rfl (p := (oppF op)) (q := 0) (r := true) H4_.out q.w') (by rfl) ?_; simp only [pA]
            iterate 2 (go_big_quiet_step (fail))
            refine wpQuiet_nil (laterE hM40 ?_)
            intro xw45 M46 hbxw45 hM46 lM46
            have k47 := k35.below hbxw45 (by omega)
            have k48 := k34.below hbxw45 (by omega)
            have k49 := k36.below hbxw45 (by omega)
            have k50 := k37.below hbxw45 (by omega)
            have lo51 := lc.trans (hbxw45.mono (by omega))
            clear k35 k34 k36 k37 lc hbxw45
            go_wp2_with fail
            go_meet
            exact ⟨by first | rfl | (simp only [H4_.out, bB] <;> rfl), lo51⟩
  case rest =>
    obtain ⟨rfl, hbxc1_⟩ := hcut
    obtain ⟨M45, hM45⟩ := sz_some wc
    have lM45 := below_sz hbxc1_ hM40 hM45
    have k46 := k35.below hbxc1_ (by omega)
    have k47 := k34.below hbxc1_ (by omega)
    have k48 := k36.below hbxc1_ (by omega)
    have k49 := k37.below hbxc1_ (by omega)
    have lo50 := lo38.trans (hbxc1_.mono (by omega))
    clear k35 k34 k36 k37 lo38 hbxc1_
    cases h1_ : (!sa || (!sb || (h && ((oppF op) == 0))))
    · have H1_ := hid h1_
      clear h1_
      go_upto_region 5 with fail
      go_cut [48] (fun v wx => v = (Value.bool ((aloneF (nearF a).1) && (aloneF (nearF b).1))) ∧ Below M45 wc wx)
      case first =>
        have lc := Below.refl M45 wc
        cases h2_ : (aloneF (nearF a).1)
        · have H2_ := hid h2_
          clear h2_
          go_upto_region 5 with fail
          refine wp_region_later1 (M45) ?_
          try simp only [pA]
          refine later_row hM45 27 (.tmp 7) rfl (N) rfl 27 6 _ k46 undR szR (by rfl) ?_; simp only [pA]
          go_big_quiet_step ((go_at_call 29; exact later_of hM45 _ (fun K hK hKN => ret_is H2_.out (Alone_any (nearF a).1) _ K hK)))
          iterate 4 (go_big_quiet_step (fail))
          refine wpQuiet_nil (laterE hM45 ?_)
          intro xw51 M52 hbxw51 hM52 lM52
          have k53 := k46.below hbxw51 (by omega)
          have k54 := k47.below hbxw51 (by omega)
          have k55 := k48.below hbxw51 (by omega)
          have k56 := k49.below hbxw51 (by omega)
          have lo57 := lc.trans (hbxw51.mono (by omega))
          clear k46 k47 k48 k49 lc hbxw51
          go_wp2_with fail
          go_meet
          exact ⟨by first | rfl | (simp only [H1_.out, H2_.out, bB] <;> rfl), lo57⟩
        · have H2_ := hid h2_
          clear h2_
          cases h3_ : (aloneF (nearF b).1)
          · have H3_ := hid h3_
            clear h3_
            go_upto_region 5 with fail
            refine wp_region_later1 (M45) ?_
            try simp only [pA]
            refine later_row hM45 27 (.tmp 7) rfl (N) rfl 27 6 _ k46 undR szR (by rfl) ?_; simp only [pA]
            go_big_quiet_step ((go_at_call 29; exact later_of hM45 _ (fun K hK hKN => ret_is H2_.out (Alone_any (nearF a).1) _ K hK)))
            go_big_quiet_step (fail)
            refine later_row hM45 27 (.tmp 8) rfl ((N + 1)) rfl 27 6 _ k47 undR szR (by rfl) ?_; simp only [pA]
            go_big_quiet_step ((go_at_call 29; exact later_of hM45 _ (fun K hK hKN => ret_is H3_.out (Alone_any (nearF b).1) _ K hK)))
            go_big_quiet_step (fail)
            refine wpQuiet_nil (laterE hM45 ?_)
            intro xw51 M52 hbxw51 hM52 lM52
            have k53 := k46.below hbxw51 (by omega)
            have k54 := k47.below hbxw51 (by omega)
            have k55 := k48.below hbxw51 (by omega)
            have k56 := k49.below hbxw51 (by omega)
            have lo57 := lc.trans (hbxw51.mono (by omega))
            clear k46 k47 k48 k49 lc hbxw51
            go_wp2_with fail
            go_meet
            exact ⟨by first | rfl | (simp only [H1_.out, H2_.out, H3_.out, bB] <;> rfl), lo57⟩
          · have H3_ := hid h3_
            clear h3_
            go_upto_region 5 with fail
            refine wp_region_later1 (M45) ?_
            try simp only [pA]
            refine later_row hM45 27 (.tmp 7) rfl (N) rfl 27 6 _ k46 undR szR (by rfl) ?_; simp only [pA]
            go_big_quiet_step ((go_at_call 29; exact later_of hM45 _ (fun K hK hKN => ret_is H2_.out (Alone_any (nearF a).1) _ K hK)))
            go_big_quiet_step (fail)
            refine later_row hM45 27 (.tmp 8) rfl ((N + 1)) rfl 27 6 _ k47 undR szR (by rfl) ?_; simp only [pA]
            go_big_quiet_step ((go_at_call 29; exact later_of hM45 _ (fun K hK hKN => ret_is H3_.out (Alone_any (nearF b).1) _ K hK)))
            go_big_quiet_step (fail)
            refine wpQuiet_nil (laterE hM45 ?_)
            intro xw51 M52 hbxw51 hM52 lM52
            have k53 := k46.below hbxw51 (by omega)
            have k54 := k47.below hbxw51 (by omega)
            have k55 := k48.below hbxw51 (by omega)
            have k56 := k49.below hbxw51 (by omega)
            have lo57 := lc.trans (hbxw51.mono (by omega))
            clear k46 k47 k48 k49 lc hbxw51
            go_wp2_with fail
            go_meet
            exact ⟨by first | rfl | (simp only [H1_.out, H2_.out, H3_.out, bB] <;> rfl), lo57⟩
      case rest =>
        obtain ⟨rfl, hbxc2_⟩ := hcut
        obtain ⟨M51, hM51⟩ := sz_some wc
        have lM51 := below_sz hbxc2_ hM45 hM51
        have k52 := k46.below hbxc2_ (by omega)
        have k53 := k47.below hbxc2_ (by omega)
        have k54 := k48.below hbxc2_ (by omega)
        have k55 := k49.below hbxc2_ (by omega)
        have lo56 := lo50.trans (hbxc2_.mono (by omega))
        clear k46 k47 k48 k49 lo50 hbxc2_
        cases h2_ : ((aloneF (nearF a).1) && (aloneF (nearF b).1))
        · have H2_ := hid h2_
          clear h2_
          go_upto_region 8 with fail
          go_cut [66] (fun v wx => v = (Value.bool (!h)) ∧ Below M51 wc wx)
          case first =>
            have lc := Below.refl M51 wc
            cases h
            · skip
              go_upto_region 8 with fail
              refine wp_region_later1 (M51) ?_
              try simp only [pA]
              iterate 2 (go_big_quiet_step (fail))
              refine wpQuiet_nil (laterE hM51 ?_)
              intro xw57 M58 hbxw57 hM58 lM58
              have k59 := k52.below hbxw57 (by omega)
              have k60 := k53.below hbxw57 (by omega)
              have k61 := k54.below hbxw57 (by omega)
              have k62 := k55.below hbxw57 (by omega)
              have lo63 := lc.trans (hbxw57.mono (by omega))
              clear k52 k53 k54 k55 lc hbxw57
              go_wp2_with fail
              go_meet
              exact ⟨by first | rfl | (simp only [H1_.out, H2_.out, bB] <;> rfl), lo63⟩
            · skip
              go_upto_region 8 with fail
              refine wp_region_later1 (M51) ?_
              try simp only [pA]
              iterate 2 (go_big_quiet_step (fail))
              refine wpQuiet_nil (laterE hM51 ?_)
              intro xw57 M58 hbxw57 hM58 lM58
              have k59 := k52.below hbxw57 (by omega)
              have k60 := k53.below hbxw57 (by omega)
              have k61 := k54.below hbxw57 (by omega)
              have k62 := k55.below hbxw57 (by omega)
              have lo63 := lc.trans (hbxw57.mono (by omega))
              clear k52 k53 k54 k55 lc hbxw57
              go_wp2_with fail
              go_meet
              exact ⟨by first | rfl | (simp only [H1_.out, H2_.out, bB] <;> rfl), lo63⟩
          case rest =>
            obtain ⟨rfl, hbxc3_⟩ := hcut
            obtain ⟨M57, hM57⟩ := sz_some wc
            have lM57 := below_sz hbxc3_ hM51 hM57
            have k58 := k52.below hbxc3_ (by omega)
            have k59 := k53.below hbxc3_ (by omega)
            have k60 := k54.below hbxc3_ (by omega)
            have k61 := k55.below hbxc3_ (by omega)
            have lo62 := lo56.trans (hbxc3_.mono (by omega))
            clear k52 k53 k54 k55 lo56 hbxc3_
            go_upto_if 66 with fail
            go_cut [15] (fun v wx => v = (Value.int .i64 (bif h then op else oppF op)) ∧ Below M57 wc wx)
            case first =>
              have lc := Below.refl M57 wc
              cases h
              · skip
                go_upto_region 9 with fail
                refine wp_region_later1 (M57) ?_
                try simp only [pA]
                go_big_quiet_step (fail)
                go_big_quiet_step ((go_at_call 28; exact later_of hM57 _ (fun K hK hKN => Opp_all op _ K hK)))
                go_big_quiet_step (fail)
                refine wpQuiet_nil (laterE hM57 ?_)
                intro xw63 M64 hbxw63 hM64 lM64
                have k65 := k58.below hbxw63 (by omega)
                have k66 := k59.below hbxw63 (by omega)
                have k67 := k60.below hbxw63 (by omega)
                have k68 := k61.below hbxw63 (by omega)
                have lo69 := lc.trans (hbxw63.mono (by omega))
                clear k58 k59 k60 k61 lc hbxw63
                go_wp2_with fail
                go_meet
                exact ⟨by first | rfl | (simp only [H1_.out, H2_.out, bB] <;> rfl), lo69⟩
              · skip
                go_wp2_with fail
                go_meet
                exact ⟨by first | rfl | (simp only [H1_.out, H2_.out, bB] <;> rfl), lc⟩
            case rest =>
              obtain ⟨rfl, hbxc4_⟩ := hcut
              obtain ⟨M63, hM63⟩ := sz_some wc
              have lM63 := below_sz hbxc4_ hM57 hM63
              have k64 := k58.below hbxc4_ (by omega)
              have k65 := k59.below hbxc4_ (by omega)
              have k66 := k60.below hbxc4_ (by omega)
              have k67 := k61.below hbxc4_ (by omega)
              have lo68 := lo62.trans (hbxc4_.mono (by omega))
              clear k58 k59 k60 k61 lo62 hbxc4_
              go_upto_region 10 with fail
              go_cut [77] (fun v wx => v = (Value.bool (!l && !(aslF op (nearF a).1 (nearF b).1))) ∧ Below M63 wc wx)
              case first =>
                have lc := Below.refl M63 wc
                cases l
                · skip
                  cases h4_ : (aslF op (nearF a).1 (nearF b).1)
                  · have H4_ := hid h4_
                    clear h4_
                    go_upto_region 10 with fail
                    refine wp_region_later1 (M63) ?_
                    try simp only [pA]
                    iterate 4 (go_big_quiet_step (fail))
                    refine later_row hM63 27 (.tmp 7) rfl (N) rfl 27 6 _ k64 undR szR (by rfl) ?_; simp only [pA]
                    refine later_row hM63 27 (.tmp 8) rfl ((N + 1)) rfl 27 6 _ k65 undR szR (by rfl) ?_; simp only [pA]
                    go_big_quiet_step ((go_at_call 32; exact later_of hM63 _ (fun K hK hKN => ret_is H4_.out (AsLong_all op (nearF a).1 (nearF b).1) _ K hK)))
                    iterate 2 (go_big_quiet_step (fail))
                    refine wpQuiet_nil (laterE hM63 ?_)
                    intro xw69 M70 hbxw69 hM70 lM70
                    have k71 := k64.below hbxw69 (by omega)
                    have k72 := k65.below hbxw69 (by omega)
                    have k73 := k66.below hbxw69 (by omega)
                    have k74 := k67.below hbxw69 (by omega)
                    have lo75 := lc.trans (hbxw69.mono (by omega))
                    clear k64 k65 k66 k67 lc hbxw69
                    go_wp2_with fail
                    go_meet
                    exact ⟨by first | rfl | (simp only [H1_.out, H2_.out, H4_.out, bB] <;> rfl), lo75⟩
                  · have H4_ := hid h4_
                    clear h4_
                    go_upto_region 10 with fail
                    refine wp_region_later1 (M63) ?_
                    try simp only [pA]
                    iterate 4 (go_big_quiet_step (fail))
                    refine later_row hM63 27 (.tmp 7) rfl (N) rfl 27 6 _ k64 undR szR (by rfl) ?_; simp only [pA]
                    refine later_row hM63 27 (.tmp 8) rfl ((N + 1)) rfl 27 6 _ k65 undR szR (by rfl) ?_; simp only [pA]
                    go_big_quiet_step ((go_at_call 32; exact later_of hM63 _ (fun K hK hKN => ret_is H4_.out (AsLong_all op (nearF a).1 (nearF b).1) _ K hK)))
                    iterate 2 (go_big_quiet_step (fail))
                    refine wpQuiet_nil (laterE hM63 ?_)
                    intro xw69 M70 hbxw69 hM70 lM70
                    have k71 := k64.below hbxw69 (by omega)
                    have k72 := k65.below hbxw69 (by omega)
                    have k73 := k66.below hbxw69 (by omega)
                    have k74 := k67.below hbxw69 (by omega)
                    have lo75 := lc.trans (hbxw69.mono (by omega))
                    clear k64 k65 k66 k67 lc hbxw69
                    go_wp2_with fail
                    go_meet
                    exact ⟨by first | rfl | (simp only [H1_.out, H2_.out, H4_.out, bB] <;> rfl), lo75⟩
                · skip
                  go_upto_region 10 with fail
                  refine wp_region_later1 (M63) ?_
                  try simp only [pA]
                  iterate 9 (go_big_quiet_step (fail))
                  refine wpQuiet_nil (laterE hM63 ?_)
                  intro xw69 M70 hbxw69 hM70 lM70
                  have k71 := k64.below hbxw69 (by omega)
                  have k72 := k65.below hbxw69 (by omega)
                  have k73 := k66.below hbxw69 (by omega)
                  have k74 := k67.below hbxw69 (by omega)
                  have lo75 := lc.trans (hbxw69.mono (by omega))
                  clear k64 k65 k66 k67 lc hbxw69
                  go_wp2_with fail
                  go_meet
                  exact ⟨by first | rfl | (simp only [H1_.out, H2_.out, bB] <;> rfl), lo75⟩
              case rest =>
                obtain ⟨rfl, hbxc5_⟩ := hcut
                obtain ⟨M69, hM69⟩ := sz_some wc
                have lM69 := below_sz hbxc5_ hM63 hM69
                have k70 := k64.below hbxc5_ (by omega)
                have k71 := k65.below hbxc5_ (by omega)
                have k72 := k66.below hbxc5_ (by omega)
                have k73 := k67.below hbxc5_ (by omega)
                have lo74 := lo68.trans (hbxc5_.mono (by omega))
                clear k64 k65 k66 k67 lo68 hbxc5_
                go_upto_if 77 with fail
                obtain ⟨s77, es77⟩ : ∃ s, s = (!l && !(aslF op (nearF a).1 (nearF b).1)) := ⟨_, rfl⟩
                rw [← es77]
                have Es77 := hid es77
                clear es77
                go_cut [15] (fun v wx => v = (Value.int .i64 (bif s77 then 0 else (bif h then op else oppF op))) ∧ Below M69 wc wx)
                case first =>
                  have lc := Below.refl M69 wc
                  cases s77
                  · skip
                    go_wp2_with fail
                    go_meet
                    exact ⟨by first | rfl | (simp only [H1_.out, H2_.out, bB] <;> rfl), lc⟩
                  · skip
                    go_wp2_with fail
                    go_meet
                    exact ⟨by first | rfl | (simp only [H1_.out, H2_.out, bB] <;> rfl), lc⟩
                case rest =>
                  obtain ⟨rfl, hbxc6_⟩ := hcut
                  obtain ⟨M75, hM75⟩ := sz_some wc
                  have lM75 := below_sz hbxc6_ hM69 hM75
                  have k76 := k70.below hbxc6_ (by omega)
                  have k77 := k71.below hbxc6_ (by omega)
                  have k78 := k72.below hbxc6_ (by omega)
                  have k79 := k73.below hbxc6_ (by omega)
                  have lo80 := lo74.trans (hbxc6_.mono (by omega))
                  clear k70 k71 k72 k73 lo74 hbxc6_
                  go_upto_region 12 with fail
                  refine wp_region_lit ?_
                  try simp only [pA]
                  change wpList _ _ _ ((_ :: _ :: _ :: _ :: _ :: _ :: _ :: _ :: []) ++ (_ :: _ :: _ :: [])) _ _
                  refine wpList_prefix (C := fun w' => ∃ x : Later M75 wc, w' = x.w') _ _ _ _ ⟨⟨_, Below.refl _ _⟩, rfl⟩ ?_
                  go_big_quiet_step (fail)
                  refine later_row hM75 27 (.tmp 7) rfl (N) rfl 27 6 _ k76 undR szR (by rfl) ?_; simp only [pA]
                  refine later_row hM75 27 (.tmp 8) rfl ((N + 1)) rfl 27 6 _ k77 undR szR (by rfl) ?_; simp only [pA]
                  go_big_quiet_step ((go_at_call 33; exact later_of hM75 _ (fun K hK hKN => Bnd_all (bif s77 then 0 else (bif h then op else oppF op)) (nearF a).1 (nearF b).1 _ K hK)))
                  iterate 4 (go_big_quiet_step (fail))
                  refine wpQuiet_nil (laterE hM75 ?_)
                  intro xw81 M82 hbxw81 hM82 lM82
                  have k83 := k76.below hbxw81 (by omega)
                  have k84 := k77.below hbxw81 (by omega)
                  have k85 := k78.below hbxw81 (by omega)
                  have k86 := k79.below hbxw81 (by omega)
                  have lo87 := lo80.trans (hbxw81.mono (by omega))
                  clear k76 k77 k78 k79 lo80 hbxw81
                  refine wpl_store rfl 27 (.tmp 7) (.tmp 83) rfl N 6 (rC (bndF (bif s77 then 0 else (bif h then op else oppF op)) (nearF a).1 (nearF b).1).1) rfl rfl 27 _ k83 szR (fun j _ => rC_one _ j) ?_
                  intro xw88 t89 k90; try simp only [pA]
                  have k91 := k84.touch t89 (by omega)
                  have k92 := k85.touch t89 (by omega)
                  have k93 := k86.touch t89 (by omega)
                  have lo94 := t89.below lo87 (by omega)
                  have h95 := t89.sz hM82
                  clear k83 k84 k85 k86 lo87 hM82 t89
                  refine wpl_store rfl 27 (.tmp 8) (.tmp 84) rfl (N + 1) 6 (rC (bndF (bif s77 then 0 else (bif h then op else oppF op)) (nearF a).1 (nearF b).1).2.1) rfl rfl 27 _ k91 szR (fun j _ => rC_one _ j) ?_
                  intro xw96 t97 k98; try simp only [pA]
                  have k99 := k90.touch t97 (by omega)
                  have k100 := k92.touch t97 (by omega)
                  have k101 := k93.touch t97 (by omega)
                  have lo102 := t97.below lo94 (by omega)
                  have h103 := t97.sz h95
                  clear k91 k90 k92 k93 lo94 h95 t97
                  refine wpl_run rfl (Value.bool (bndF (bif s77 then 0 else (bif h then op else oppF op)) (nearF a).1 (nearF b).1).2.2) _ (run_as (x := (.tmp 85)) rfl _ rfl) ?_; simp only [pA]
                  obtain ⟨M104, hM104⟩ := sz_some xw96
                  have lt_105 := k99.ltN hM104
                  have lt_106 := k98.ltN hM104
                  have lt_107 := k100.ltN hM104
                  have lt_108 := k101.ltN hM104
                  cases h3_ : (bndF (bif s77 then 0 else (bif h then op else oppF op)) (nearF a).1 (nearF b).1).2.2
                  · have H3_ := hid h3_
                    clear h3_
                    go_upto_region 13 with fail
                    refine wp_region_later1 (M104) ?_
                    try simp only [pA]
                    iterate 2 (go_big_quiet_step (fail))
                    refine wpQuiet_nil (laterE hM104 ?_)
                    intro xw109 M110 hbxw109 hM110 lM110
                    have k111 := k99.below hbxw109 (by omega)
                    have k112 := k98.below hbxw109 (by omega)
                    have k113 := k100.below hbxw109 (by omega)
                    have k114 := k101.below hbxw109 (by omega)
                    have lo115 := lo102.trans (hbxw109.mono (by omega))
                    clear k99 k98 k100 k101 lo102 hbxw109
                    go_upto_region 14 with fail
                    refine wp_region_lit ?_
                    try simp only [pA]
                    change wpList _ _ _ ((_ :: _ :: []) ++ (_ :: _ :: _ :: [])) _ _
                    refine wpList_prefix (C := fun w' => ∃ x : Later M110 xw109, w' = x.w') _ _ _ _ ⟨⟨_, Below.refl _ _⟩, rfl⟩ ?_
                    refine later_val (fun q => run_bd 27 _ rfl (cellsOf (rC ⟨zeroN, 0#64, 0#64, 0#64, 0#64⟩) 6) (by kernel_rfl) q.w') (by rfl) ?_; simp only [pA]
                    refine later_val (fun q => run_bd 27 _ rfl (cellsOf (rC ⟨zeroN, 0#64, 0#64, 0#64, 0#64⟩) 6) (by kernel_rfl) q.w') (by rfl) ?_; simp only [pA]
                    refine wpQuiet_nil (laterE hM110 ?_)
                    intro xw116 M117 hbxw116 hM117 lM117
                    have k118 := k111.below hbxw116 (by omega)
                    have k119 := k112.below hbxw116 (by omega)
                    have k120 := k113.below hbxw116 (by omega)
                    have k121 := k114.below hbxw116 (by omega)
                    have lo122 := lo115.trans (hbxw116.mono (by omega))
                    clear k111 k112 k113 k114 lo115 hbxw116
                    refine wpl_store rfl 27 (.tmp 10) (.tmp 88) rfl (N + 1 + 1) 6 (rC ⟨zeroN, 0#64, 0#64, 0#64, 0#64⟩) rfl rfl 27 _ k120 szR (fun j _ => rC_one _ j) ?_
                    intro xw123 t124 k125; try simp only [pA]
                    have k126 := k118.touch t124 (by omega)
                    have k127 := k119.touch t124 (by omega)
                    have k128 := k121.touch t124 (by omega)
                    have lo129 := t124.below lo122 (by omega)
                    have h130 := t124.sz hM117
                    clear k120 k118 k119 k121 lo122 hM117 t124
                    refine wpl_store rfl 27 (.tmp 11) (.tmp 89) rfl (N + 1 + 1 + 1) 6 (rC ⟨zeroN, 0#64, 0#64, 0#64, 0#64⟩) rfl rfl 27 _ k128 szR (fun j _ => rC_one _ j) ?_
                    intro xw131 t132 k133; try simp only [pA]
                    have k134 := k126.touch t132 (by omega)
                    have k135 := k127.touch t132 (by omega)
                    have k136 := k125.touch t132 (by omega)
                    have lo137 := t132.below lo129 (by omega)
                    have h138 := t132.sz h130
                    clear k128 k126 k127 k125 lo129 h130 t132
                    refine wpl_run rfl (Value.bool false) _ (run_as (x := (.const (.bool false))) rfl _ rfl) ?_; simp only [pA]
                    obtain ⟨M139, hM139⟩ := sz_some xw131
                    have lt_140 := k134.ltN hM139
                    have lt_141 := k135.ltN hM139
                    have lt_142 := k136.ltN hM139
                    have lt_143 := k133.ltN hM139
                    go_wp2_with fail
                    refine post_rrb rfl (N + 1 + 1) (N + 1 + 1 + 1) rfl rfl k136 k133 undR undR szR szR rfl rfl ?_
                    have eg_ := Es77.out
                    subst eg_
                    have eg_ := Esb.out
                    subst eg_
                    have eg_ := Esa.out
                    subst eg_
                    exact ⟨by rw [ER.out]; first | rfl | (simp only [refF, H1_.out, H2_.out, H3_.out, bB] <;> rfl), lo137⟩
                  · have H3_ := hid h3_
                    clear h3_
                    go_upto_region 13 with fail
                    refine wp_region_later1 (M104) ?_
                    try simp only [pA]
                    iterate 2 (go_big_quiet_step (fail))
                    refine wpQuiet_nil (laterE hM104 ?_)
                    intro xw109 M110 hbxw109 hM110 lM110
                    have k111 := k99.below hbxw109 (by omega)
                    have k112 := k98.below hbxw109 (by omega)
                    have k113 := k100.below hbxw109 (by omega)
                    have k114 := k101.below hbxw109 (by omega)
                    have lo115 := lo102.trans (hbxw109.mono (by omega))
                    clear k99 k98 k100 k101 lo102 hbxw109
                    go_upto_region 15 with fail
                    refine wp_region_lit ?_
                    try simp only [pA]
                    change wpList _ _ _ ((_ :: _ :: _ :: _ :: _ :: []) ++ (_ :: _ :: [])) _ _
                    refine wpList_prefix (C := fun w' => ∃ x : Later M110 xw109, w' = x.w') _ _ _ _ ⟨⟨_, Below.refl _ _⟩, rfl⟩ ?_
                    refine later_row hM110 27 (.tmp 7) rfl (N) rfl 27 6 _ k111 undR szR (by rfl) ?_; simp only [pA]
                    go_big_quiet_step ((go_at_call 13; exact later_of hM110 _ (fun K hK hKN => Settle_any (bndF (bif s77 then 0 else (bif h then op else oppF op)) (nearF a).1 (nearF b).1).1 _ K hK)))
                    iterate 3 (go_big_quiet_step (fail))
                    refine wpQuiet_nil (laterE hM110 ?_)
                    intro xw116 M117 hbxw116 hM117 lM117
                    have k118 := k111.below hbxw116 (by omega)
                    have k119 := k112.below hbxw116 (by omega)
                    have k120 := k113.below hbxw116 (by omega)
                    have k121 := k114.below hbxw116 (by omega)
                    have lo122 := lo115.trans (hbxw116.mono (by omega))
                    clear k111 k112 k113 k114 lo115 hbxw116
                    refine wpl_store rfl 27 (.tmp 7) (.tmp 93) rfl N 6 (rC (settleF (bndF (bif s77 then 0 else (bif h then op else oppF op)) (nearF a).1 (nearF b).1).1).1) rfl rfl 27 _ k118 szR (fun j _ => rC_one _ j) ?_
                    intro xw123 t124 k125; try simp only [pA]
                    have k126 := k119.touch t124 (by omega)
                    have k127 := k120.touch t124 (by omega)
                    have k128 := k121.touch t124 (by omega)
                    have lo129 := t124.below lo122 (by omega)
                    have h130 := t124.sz hM117
                    clear k118 k119 k120 k121 lo122 hM117 t124
                    refine wpl_run rfl (Value.bool (settleF (bndF (bif s77 then 0 else (bif h then op else oppF op)) (nearF a).1 (nearF b).1).1).2) _ (run_as (x := (.tmp 94)) rfl _ rfl) ?_; simp only [pA]
                    obtain ⟨M131, hM131⟩ := sz_some xw123
                    have lt_132 := k125.ltN hM131
                    have lt_133 := k126.ltN hM131
                    have lt_134 := k127.ltN hM131
                    have lt_135 := k128.ltN hM131
                    go_upto_region 16 with fail
                    refine wp_region_lit ?_
                    try simp only [pA]
                    change wpList _ _ _ ((_ :: _ :: _ :: _ :: _ :: []) ++ (_ :: _ :: [])) _ _
                    refine wpList_prefix (C := fun w' => ∃ x : Later M131 xw123, w' = x.w') _ _ _ _ ⟨⟨_, Below.refl _ _⟩, rfl⟩ ?_
                    refine later_row hM131 27 (.tmp 8) rfl ((N + 1)) rfl 27 6 _ k126 undR szR (by rfl) ?_; simp only [pA]
                    go_big_quiet_step ((go_at_call 13; exact later_of hM131 _ (fun K hK hKN => Settle_any (bndF (bif s77 then 0 else (bif h then op else oppF op)) (nearF a).1 (nearF b).1).2.1 _ K hK)))
                    iterate 3 (go_big_quiet_step (fail))
                    refine wpQuiet_nil (laterE hM131 ?_)
                    intro xw136 M137 hbxw136 hM137 lM137
                    have k138 := k125.below hbxw136 (by omega)
                    have k139 := k126.below hbxw136 (by omega)
                    have k140 := k127.below hbxw136 (by omega)
                    have k141 := k128.below hbxw136 (by omega)
                    have lo142 := lo129.trans (hbxw136.mono (by omega))
                    clear k125 k126 k127 k128 lo129 hbxw136
                    refine wpl_store rfl 27 (.tmp 8) (.tmp 98) rfl (N + 1) 6 (rC (settleF (bndF (bif s77 then 0 else (bif h then op else oppF op)) (nearF a).1 (nearF b).1).2.1).1) rfl rfl 27 _ k139 szR (fun j _ => rC_one _ j) ?_
                    intro xw143 t144 k145; try simp only [pA]
                    have k146 := k138.touch t144 (by omega)
                    have k147 := k140.touch t144 (by omega)
                    have k148 := k141.touch t144 (by omega)
                    have lo149 := t144.below lo142 (by omega)
                    have h150 := t144.sz hM137
                    clear k139 k138 k140 k141 lo142 hM137 t144
                    refine wpl_run rfl (Value.bool (settleF (bndF (bif s77 then 0 else (bif h then op else oppF op)) (nearF a).1 (nearF b).1).2.1).2) _ (run_as (x := (.tmp 99)) rfl _ rfl) ?_; simp only [pA]
                    obtain ⟨M151, hM151⟩ := sz_some xw143
                    have lt_152 := k146.ltN hM151
                    have lt_153 := k145.ltN hM151
                    have lt_154 := k147.ltN hM151
                    have lt_155 := k148.ltN hM151
                    cases h4_ : (settleF (bndF (bif s77 then 0 else (bif h then op else oppF op)) (nearF a).1 (nearF b).1).1).2
                    · have H4_ := hid h4_
                      clear h4_
                      go_upto_region 17 with fail
                      refine wp_region_lit ?_
                      try simp only [pA]
                      change wpList _ _ _ ((_ :: _ :: _ :: _ :: _ :: _ :: _ :: _ :: _ :: _ :: []) ++ (_ :: _ :: _ :: [])) _ _
                      refine wpList_prefix (C := fun w' => ∃ x : Later M151 xw143, w' = x.w') _ _ _ _ ⟨⟨_, Below.refl _ _⟩, rfl⟩ ?_
                      refine later_row hM151 27 (.tmp 7) rfl (N) rfl 27 6 _ k146 undR szR (by rfl) ?_; simp only [pA]
                      refine later_row hM151 27 (.tmp 8) rfl ((N + 1)) rfl 27 6 _ k145 undR szR (by rfl) ?_; simp only [pA]
                      iterate 4 (go_big_quiet_step (fail))
                      go_big_quiet_step ((go_at_call 30; exact later_of hM151 _ (fun K hK hKN => Both_any (settleF (bndF (bif s77 then 0 else (bif h then op else oppF op)) (nearF a).1 (nearF b).1).1).1 (settleF (bndF (bif s77 then 0 else (bif h then op else oppF op)) (nearF a).1 (nearF b).1).2.1).1 false _ K hK)))
                      iterate 3 (go_big_quiet_step (fail))
                      refine wpQuiet_nil (laterE hM151 ?_)
                      intro xw156 M157 hbxw156 hM157 lM157
                      have k158 := k146.below hbxw156 (by omega)
                      have k159 := k145.below hbxw156 (by omega)
                      have k160 := k147.below hbxw156 (by omega)
                      have k161 := k148.below hbxw156 (by omega)
                      have lo162 := lo149.trans (hbxw156.mono (by omega))
                      clear k146 k145 k147 k148 lo149 hbxw156
                      refine wpl_store rfl 27 (.tmp 10) (.tmp 107) rfl (N + 1 + 1) 6 (rC (bothF (settleF (bndF (bif s77 then 0 else (bif h then op else oppF op)) (nearF a).1 (nearF b).1).1).1 (settleF (bndF (bif s77 then 0 else (bif h then op else oppF op)) (nearF a).1 (nearF b).1).2.1).1 false).1) rfl rfl 27 _ k160 szR (fun j _ => rC_one _ j) ?_
                      intro xw163 t164 k165; try simp only [pA]
                      have k166 := k158.touch t164 (by omega)
                      have k167 := k159.touch t164 (by omega)
                      have k168 := k161.touch t164 (by omega)
                      have lo169 := t164.below lo162 (by omega)
                      have h170 := t164.sz hM157
                      clear k160 k158 k159 k161 lo162 hM157 t164
                      refine wpl_store rfl 27 (.tmp 11) (.tmp 108) rfl (N + 1 + 1 + 1) 6 (rC (bothF (settleF (bndF (bif s77 then 0 else (bif h then op else oppF op)) (nearF a).1 (nearF b).1).1).1 (settleF (bndF (bif s77 then 0 else (bif h then op else oppF op)) (nearF a).1 (nearF b).1).2.1).1 false).2.1) rfl rfl 27 _ k168 szR (fun j _ => rC_one _ j) ?_
                      intro xw171 t172 k173; try simp only [pA]
                      have k174 := k166.touch t172 (by omega)
                      have k175 := k167.touch t172 (by omega)
                      have k176 := k165.touch t172 (by omega)
                      have lo177 := t172.below lo169 (by omega)
                      have h178 := t172.sz h170
                      clear k168 k166 k167 k165 lo169 h170 t172
                      refine wpl_run rfl (Value.bool (bothF (settleF (bndF (bif s77 then 0 else (bif h then op else oppF op)) (nearF a).1 (nearF b).1).1).1 (settleF (bndF (bif s77 then 0 else (bif h then op else oppF op)) (nearF a).1 (nearF b).1).2.1).1 false).2.2) _ (run_as (x := (.tmp 109)) rfl _ rfl) ?_; simp only [pA]
                      obtain ⟨M179, hM179⟩ := sz_some xw171
                      have lt_180 := k174.ltN hM179
                      have lt_181 := k175.ltN hM179
                      have lt_182 := k176.ltN hM179
                      have lt_183 := k173.ltN hM179
                      go_wp2_with fail
                      refine post_rrb rfl (N + 1 + 1) (N + 1 + 1 + 1) rfl rfl k176 k173 undR undR szR szR rfl rfl ?_
                      have eg_ := Es77.out
                      subst eg_
                      have eg_ := Esb.out
                      subst eg_
                      have eg_ := Esa.out
                      subst eg_
                      exact ⟨by rw [ER.out]; first | rfl | (simp only [refF, H1_.out, H2_.out, H3_.out, H4_.out, bB] <;> rfl), lo177⟩
                    · have H4_ := hid h4_
                      clear h4_
                      go_upto_region 17 with fail
                      refine wp_region_lit ?_
                      try simp only [pA]
                      change wpList _ _ _ ((_ :: _ :: _ :: _ :: _ :: _ :: _ :: _ :: _ :: _ :: []) ++ (_ :: _ :: _ :: [])) _ _
                      refine wpList_prefix (C := fun w' => ∃ x : Later M151 xw143, w' = x.w') _ _ _ _ ⟨⟨_, Below.refl _ _⟩, rfl⟩ ?_
                      refine later_row hM151 27 (.tmp 7) rfl (N) rfl 27 6 _ k146 undR szR (by rfl) ?_; simp only [pA]
                      refine later_row hM151 27 (.tmp 8) rfl ((N + 1)) rfl 27 6 _ k145 undR szR (by rfl) ?_; simp only [pA]
                      iterate 4 (go_big_quiet_step (fail))
                      go_big_quiet_step ((go_at_call 30; exact later_of hM151 _ (fun K hK hKN => Both_any (settleF (bndF (bif s77 then 0 else (bif h then op else oppF op)) (nearF a).1 (nearF b).1).1).1 (settleF (bndF (bif s77 then 0 else (bif h then op else oppF op)) (nearF a).1 (nearF b).1).2.1).1 (settleF (bndF (bif s77 then 0 else (bif h then op else oppF op)) (nearF a).1 (nearF b).1).2.1).2 _ K hK)))
                      iterate 3 (go_big_quiet_step (fail))
                      refine wpQuiet_nil (laterE hM151 ?_)
                      intro xw156 M157 hbxw156 hM157 lM157
                      have k158 := k146.below hbxw156 (by omega)
                      have k159 := k145.below hbxw156 (by omega)
                      have k160 := k147.below hbxw156 (by omega)
                      have k161 := k148.below hbxw156 (by omega)
                      have lo162 := lo149.trans (hbxw156.mono (by omega))
                      clear k146 k145 k147 k148 lo149 hbxw156
                      refine wpl_store rfl 27 (.tmp 10) (.tmp 107) rfl (N + 1 + 1) 6 (rC (bothF (settleF (bndF (bif s77 then 0 else (bif h then op else oppF op)) (nearF a).1 (nearF b).1).1).1 (settleF (bndF (bif s77 then 0 else (bif h then op else oppF op)) (nearF a).1 (nearF b).1).2.1).1 (settleF (bndF (bif s77 then 0 else (bif h then op else oppF op)) (nearF a).1 (nearF b).1).2.1).2).1) rfl rfl 27 _ k160 szR (fun j _ => rC_one _ j) ?_
                      intro xw163 t164 k165; try simp only [pA]
                      have k166 := k158.touch t164 (by omega)
                      have k167 := k159.touch t164 (by omega)
                      have k168 := k161.touch t164 (by omega)
                      have lo169 := t164.below lo162 (by omega)
                      have h170 := t164.sz hM157
                      clear k160 k158 k159 k161 lo162 hM157 t164
                      refine wpl_store rfl 27 (.tmp 11) (.tmp 108) rfl (N + 1 + 1 + 1) 6 (rC (bothF (settleF (bndF (bif s77 then 0 else (bif h then op else oppF op)) (nearF a).1 (nearF b).1).1).1 (settleF (bndF (bif s77 then 0 else (bif h then op else oppF op)) (nearF a).1 (nearF b).1).2.1).1 (settleF (bndF (bif s77 then 0 else (bif h then op else oppF op)) (nearF a).1 (nearF b).1).2.1).2).2.1) rfl rfl 27 _ k168 szR (fun j _ => rC_one _ j) ?_
                      intro xw171 t172 k173; try simp only [pA]
                      have k174 := k166.touch t172 (by omega)
                      have k175 := k167.touch t172 (by omega)
                      have k176 := k165.touch t172 (by omega)
                      have lo177 := t172.below lo169 (by omega)
                      have h178 := t172.sz h170
                      clear k168 k166 k167 k165 lo169 h170 t172
                      refine wpl_run rfl (Value.bool (bothF (settleF (bndF (bif s77 then 0 else (bif h then op else oppF op)) (nearF a).1 (nearF b).1).1).1 (settleF (bndF (bif s77 then 0 else (bif h then op else oppF op)) (nearF a).1 (nearF b).1).2.1).1 (settleF (bndF (bif s77 then 0 else (bif h then op else oppF op)) (nearF a).1 (nearF b).1).2.1).2).2.2) _ (run_as (x := (.tmp 109)) rfl _ rfl) ?_; simp only [pA]
                      obtain ⟨M179, hM179⟩ := sz_some xw171
                      have lt_180 := k174.ltN hM179
                      have lt_181 := k175.ltN hM179
                      have lt_182 := k176.ltN hM179
                      have lt_183 := k173.ltN hM179
                      go_wp2_with fail
                      refine post_rrb rfl (N + 1 + 1) (N + 1 + 1 + 1) rfl rfl k176 k173 undR undR szR szR rfl rfl ?_
                      have eg_ := Es77.out
                      subst eg_
                      have eg_ := Esb.out
                      subst eg_
                      have eg_ := Esa.out
                      subst eg_
                      exact ⟨by rw [ER.out]; first | rfl | (simp only [refF, H1_.out, H2_.out, H3_.out, H4_.out, bB] <;> rfl), lo177⟩
        · have H2_ := hid h2_
          clear h2_
          go_upto_region 6 with fail
          refine wp_region_any (by kernel_rfl) ?_
          replace k52 : Has wc.drew N 27 6 (rC (nearF a).1) := k52
          replace k53 : Has wc.drew (N + 1) 27 6 (rC (nearF b).1) := k53
          replace k54 : Has wc.drew (N + 1 + 1) 27 6 (rC zeroR) := k54
          replace k55 : Has wc.drew (N + 1 + 1 + 1) 27 6 (rC zeroR) := k55
          replace hM51 : Sz wc.drew M51 := hM51
          replace lo56 : Below N w wc.drew := lo56.drew
          change wpAny _ _ _ _ _ _ _ (World.drew _)
          generalize wc.drew = xw57 at *
          obtain ⟨c58, c59, c60, c61, c62, c63⟩ := r_cells k52
          obtain ⟨c64, c65, c66, c67, c68, c69⟩ := r_cells k53
          refine wpAny_pot (rem := [0, 1, 2, 3, 4, 5, 6, 7, 8, 9, 10, 11, 12, 13, 14]) (FG M51 (fun j => if j = 0 then some (Value.agg (cellsOf (rC (nearF a).1) 6)) else if j = 1 then some (Value.agg (cellsOf (rC (nearF b).1) 6)) else if j = 2 then some (Value.int .i64 op) else if j = 3 then some (Value.bool l) else if j = 4 then some (Value.pointer (some ⟨N, 2, none⟩)) else if j = 5 then some (Q (nearF a).1.lo) else if j = 6 then some (Value.pointer (some ⟨(N + 1), 2, none⟩)) else if j = 7 then some (Q (nearF b).1.lo) else if j = 8 then some (Value.bool (holF op l (nearF a).1.lo (nearF b).1.lo)) else if j = 9 then some (Value.bool h) else if j = 10 then some (Value.bool ((holF op l (nearF a).1.lo (nearF b).1.lo) == h)) else if j = 11 then some (Value.tuple #[(Value.agg (cellsOf (rC (bothF (nearF a).1 (nearF b).1 ((holF op l (nearF a).1.lo (nearF b).1.lo) == h)).1) 6)), (Value.agg (cellsOf (rC (bothF (nearF a).1 (nearF b).1 ((holF op l (nearF a).1.lo (nearF b).1.lo) == h)).2.1) 6)), (Value.bool (bothF (nearF a).1 (nearF b).1 ((holF op l (nearF a).1.lo (nearF b).1.lo) == h)).2.2)]) else if j = 12 then some (Value.agg (cellsOf (rC (bothF (nearF a).1 (nearF b).1 ((holF op l (nearF a).1.lo (nearF b).1.lo) == h)).1) 6)) else if j = 13 then some (Value.agg (cellsOf (rC (bothF (nearF a).1 (nearF b).1 ((holF op l (nearF a).1.lo (nearF b).1.lo) == h)).2.1) 6)) else some (Value.bool (bothF (nearF a).1 (nearF b).1 ((holF op l (nearF a).1.lo (nearF b).1.lo) == h)).2.2)) (fun j => (0, 0, fun _ => undef))) (TwoN (fun j => if j = 0 then some (Value.agg (cellsOf (rC (nearF a).1) 6)) else if j = 1 then some (Value.agg (cellsOf (rC (nearF b).1) 6)) else if j = 2 then some (Value.int .i64 op) else if j = 3 then some (Value.bool l) else if j = 4 then some (Value.pointer (some ⟨N, 2, none⟩)) else if j = 5 then some (Q (nearF a).1.lo) else if j = 6 then some (Value.pointer (some ⟨(N + 1), 2, none⟩)) else if j = 7 then some (Q (nearF b).1.lo) else if j = 8 then some (Value.bool (holF op l (nearF a).1.lo (nearF b).1.lo)) else if j = 9 then some (Value.bool h) else if j = 10 then some (Value.bool ((holF op l (nearF a).1.lo (nearF b).1.lo) == h)) else if j = 11 then some (Value.tuple #[(Value.agg (cellsOf (rC (bothF (nearF a).1 (nearF b).1 ((holF op l (nearF a).1.lo (nearF b).1.lo) == h)).1) 6)), (Value.agg (cellsOf (rC (bothF (nearF a).1 (nearF b).1 ((holF op l (nearF a).1.lo (nearF b).1.lo) == h)).2.1) 6)), (Value.bool (bothF (nearF a).1 (nearF b).1 ((holF op l (nearF a).1.lo (nearF b).1.lo) == h)).2.2)]) else if j = 12 then some (Value.agg (cellsOf (rC (bothF (nearF a).1 (nearF b).1 ((holF op l (nearF a).1.lo (nearF b).1.lo) == h)).1) 6)) else if j = 13 then some (Value.agg (cellsOf (rC (bothF (nearF a).1 (nearF b).1 ((holF op l (nearF a).1.lo (nearF b).1.lo) == h)).2.1) 6)) else some (Value.bool (bothF (nearF a).1 (nearF b).1 ((holF op l (nearF a).1.lo (nearF b).1.lo) == h)).2.2))) (Below M51 xw57) _ _ _ _ (by kernel_rfl) (size_dstG (by kernel_rfl)) (Below.refl _ _) ?_ ?_
          · intro i hi ac wa hI ha hv
            simp only [List.mem_cons, List.not_mem_nil, or_false] at hi
            rcases hi with rfl | rfl | rfl | rfl | rfl | rfl | rfl | rfl | rfl | rfl | rfl | rfl | rfl | rfl | rfl
            · exact potg_run rfl rfl (Value.agg (cellsOf (rC (nearF a).1) 6)) rfl (run_rw 27 (.tmp 7) rfl N (ha 7 (not_dstG (by kernel_rfl))) 27 6 _ (Has.below k52 hI (Has.ltN k52 hM51)) undR szR) hM51 hI
            · exact potg_run rfl rfl (Value.agg (cellsOf (rC (nearF b).1) 6)) rfl (run_rw 27 (.tmp 8) rfl (N + 1) (ha 8 (not_dstG (by kernel_rfl))) 27 6 _ (Has.below k53 hI (Has.ltN k53 hM51)) undR szR) hM51 hI
            · exact potg_run rfl rfl (Value.int .i64 op) rfl (run_mv (x := (.tmp 0)) rfl _ (ha 0 (not_dstG (by kernel_rfl)))) hM51 hI
            · exact potg_run rfl rfl (Value.bool l) rfl (run_mv (x := (.tmp 1)) rfl _ (ha 1 (not_dstG (by kernel_rfl)))) hM51 hI
            · exact potg_run rfl rfl (Value.pointer (some ⟨N, 2, none⟩)) rfl (run_fa 27 (.tmp 7) 1 2 rfl (ha 7 (not_dstG (by kernel_rfl))) faR1) hM51 hI
            · obtain ⟨v4, hv4a, hv4b⟩ := hv 4 (by simp) (by kernel_rfl)
              have ev4 := hv4b.val rfl
              subst ev4
              exact potg_run rfl rfl (Q (nearF a).1.lo) rfl (run_c1 23 (.tmp 53) rfl ⟨N, 2, none⟩ (hv4a 53 rfl) und64 rfl (keep_c hI hM51 c60)) hM51 hI
            · exact potg_run rfl rfl (Value.pointer (some ⟨(N + 1), 2, none⟩)) rfl (run_fa 27 (.tmp 8) 1 2 rfl (ha 8 (not_dstG (by kernel_rfl))) faR1) hM51 hI
            · obtain ⟨v6, hv6a, hv6b⟩ := hv 6 (by simp) (by kernel_rfl)
              have ev6 := hv6b.val rfl
              subst ev6
              exact potg_run rfl rfl (Q (nearF b).1.lo) rfl (run_c1 23 (.tmp 55) rfl ⟨(N + 1), 2, none⟩ (hv6a 55 rfl) und64 rfl (keep_c hI hM51 c66)) hM51 hI
            · obtain ⟨v2, hv2a, hv2b⟩ := hv 2 (by simp) (by kernel_rfl)
              have ev2 := hv2b.val rfl
              subst ev2
              obtain ⟨v3, hv3a, hv3b⟩ := hv 3 (by simp) (by kernel_rfl)
              have ev3 := hv3b.val rfl
              subst ev3
              obtain ⟨v5, hv5a, hv5b⟩ := hv 5 (by simp) (by kernel_rfl)
              have ev5 := hv5b.val rfl
              subst ev5
              obtain ⟨v7, hv7a, hv7b⟩ := hv 7 (by simp) (by kernel_rfl)
              have ev7 := hv7b.val rfl
              subst ev7
              exact potg_cl rfl rfl 31 _ _ rfl #[(Value.int .i64 op), (Value.bool l), (Q (nearF a).1.lo), (Q (nearF b).1.lo)] (by simp only [List.map_toArray, List.map_cons, List.map_nil, (show ac.eval (.tmp 51) = (Value.int .i64 op) from (hv2a 51 rfl)), (show ac.eval (.tmp 52) = (Value.bool l) from (hv3a 52 rfl)), (show ac.eval (.tmp 54) = (Q (nearF a).1.lo) from (hv5a 54 rfl)), (show ac.eval (.tmp 56) = (Q (nearF b).1.lo) from (hv7a 56 rfl))] <;> rfl) (by kernel_rfl) (Value.bool (holF op l (nearF a).1.lo (nearF b).1.lo)) (fun K hK => Hol_all op l (nearF a).1.lo (nearF b).1.lo wa K hK) rfl hM51 hI
            · exact potg_run rfl rfl (Value.bool h) rfl (run_mv (x := (.tmp 4)) rfl _ (ha 4 (not_dstG (by kernel_rfl)))) hM51 hI
            · obtain ⟨v8, hv8a, hv8b⟩ := hv 8 (by simp) (by kernel_rfl)
              have ev8 := hv8b.val rfl
              subst ev8
              obtain ⟨v9, hv9a, hv9b⟩ := hv 9 (by simp) (by kernel_rfl)
              have ev9 := hv9b.val rfl
              subst ev9
              exact potg_run rfl rfl (Value.bool ((holF op l (nearF a).1.lo (nearF b).1.lo) == h)) rfl ((bin_beqb undBool (holF op l (nearF a).1.lo (nearF b).1.lo) h) _ _ (.tmp 57) (.tmp 58) _ wa rfl (hv8a 57 rfl) (hv9a 58 rfl)) hM51 hI
            · obtain ⟨v0, hv0a, hv0b⟩ := hv 0 (by simp) (by kernel_rfl)
              have ev0 := hv0b.val rfl
              subst ev0
              obtain ⟨v1, hv1a, hv1b⟩ := hv 1 (by simp) (by kernel_rfl)
              have ev1 := hv1b.val rfl
              subst ev1
              obtain ⟨v10, hv10a, hv10b⟩ := hv 10 (by simp) (by kernel_rfl)
              have ev10 := hv10b.val rfl
              subst ev10
              exact potg_cl rfl rfl 30 _ _ rfl #[(Value.agg (cellsOf (rC (nearF a).1) 6)), (Value.agg (cellsOf (rC (nearF b).1) 6)), (Value.bool ((holF op l (nearF a).1.lo (nearF b).1.lo) == h))] (by simp only [List.map_toArray, List.map_cons, List.map_nil, (show ac.eval (.tmp 49) = (Value.agg (cellsOf (rC (nearF a).1) 6)) from (hv0a 49 rfl)), (show ac.eval (.tmp 50) = (Value.agg (cellsOf (rC (nearF b).1) 6)) from (hv1a 50 rfl)), (show ac.eval (.tmp 59) = (Value.bool ((holF op l (nearF a).1.lo (nearF b).1.lo) == h)) from (hv10a 59 rfl))] <;> rfl) (by kernel_rfl) (Value.tuple #[(Value.agg (cellsOf (rC (bothF (nearF a).1 (nearF b).1 ((holF op l (nearF a).1.lo (nearF b).1.lo) == h)).1) 6)), (Value.agg (cellsOf (rC (bothF (nearF a).1 (nearF b).1 ((holF op l (nearF a).1.lo (nearF b).1.lo) == h)).2.1) 6)), (Value.bool (bothF (nearF a).1 (nearF b).1 ((holF op l (nearF a).1.lo (nearF b).1.lo) == h)).2.2)]) (fun K hK => Both_any (nearF a).1 (nearF b).1 ((holF op l (nearF a).1.lo (nearF b).1.lo) == h) wa K hK) rfl hM51 hI
            · obtain ⟨v11, hv11a, hv11b⟩ := hv 11 (by simp) (by kernel_rfl)
              have ev11 := hv11b.val rfl
              subst ev11
              exact potg_run rfl rfl (Value.agg (cellsOf (rC (bothF (nearF a).1 (nearF b).1 ((holF op l (nearF a).1.lo (nearF b).1.lo) == h)).1) 6)) rfl (run_ex (x := (.tmp 60)) rfl _ (hv11a 60 rfl) rfl) hM51 hI
            · obtain ⟨v11, hv11a, hv11b⟩ := hv 11 (by simp) (by kernel_rfl)
              have ev11 := hv11b.val rfl
              subst ev11
              exact potg_run rfl rfl (Value.agg (cellsOf (rC (bothF (nearF a).1 (nearF b).1 ((holF op l (nearF a).1.lo (nearF b).1.lo) == h)).2.1) 6)) rfl (run_ex (x := (.tmp 60)) rfl _ (hv11a 60 rfl) rfl) hM51 hI
            · obtain ⟨v11, hv11a, hv11b⟩ := hv 11 (by simp) (by kernel_rfl)
              have ev11 := hv11b.val rfl
              subst ev11
              exact potg_run rfl rfl (Value.bool (bothF (nearF a).1 (nearF b).1 ((holF op l (nearF a).1.lo (nearF b).1.lo) == h)).2.2) rfl (run_ex (x := (.tmp 60)) rfl _ (hv11a 60 rfl) rfl) hM51 hI
          · intro vals w5_70_ hb5_70_ hF hG
            have e_70_0 := (hF 0 (by simp)).val rfl
            have e_70_1 := (hF 1 (by simp)).val rfl
            have e_70_2 := (hF 2 (by simp)).val rfl
            have e_70_3 := (hF 3 (by simp)).val rfl
            have e_70_4 := (hF 4 (by simp)).val rfl
            have e_70_5 := (hF 5 (by simp)).val rfl
            have e_70_6 := (hF 6 (by simp)).val rfl
            have e_70_7 := (hF 7 (by simp)).val rfl
            have e_70_8 := (hF 8 (by simp)).val rfl
            have e_70_9 := (hF 9 (by simp)).val rfl
            have e_70_10 := (hF 10 (by simp)).val rfl
            have e_70_11 := (hF 11 (by simp)).val rfl
            have e_70_12 := (hF 12 (by simp)).val rfl
            have e_70_13 := (hF 13 (by simp)).val rfl
            have e_70_14 := (hF 14 (by simp)).val rfl
            clear hF hG
            simp only [List.foldl_cons, List.foldl_nil, dstOf, List.getElem?_toArray, List.getElem?_cons_succ, List.getElem?_cons_zero, Option.bind_some, Act.put, List.setIfInBounds_toArray, List.set_cons_succ, List.set_cons_zero, e_70_0, e_70_1, e_70_2, e_70_3, e_70_4, e_70_5, e_70_6, e_70_7, e_70_8, e_70_9, e_70_10, e_70_11, e_70_12, e_70_13, e_70_14]
            clear e_70_0 e_70_1 e_70_2 e_70_3 e_70_4 e_70_5 e_70_6 e_70_7 e_70_8 e_70_9 e_70_10 e_70_11 e_70_12 e_70_13 e_70_14
            refine wpAny_chain [15, 16, 17] _ _ _ _ (by kernel_rfl) (by decide) ?_
            simp only [List.filterMap_cons, List.filterMap_nil, List.getElem?_toArray, List.getElem?_cons_succ, List.getElem?_cons_zero]
            have k71 := k52.below hb5_70_ (by omega)
            have k72 := k53.below hb5_70_ (by omega)
            have k73 := k54.below hb5_70_ (by omega)
            have k74 := k55.below hb5_70_ (by omega)
            have lo75 := lo56.trans (hb5_70_.mono (by omega))
            clear k52 c58 c59 c60 c61 c62 c63 k53 c64 c65 c66 c67 c68 c69 k54 k55 lo56 hb5_70_
            refine wpl_store rfl 27 (.tmp 10) (.tmp 61) rfl (N + 1 + 1) 6 (rC (bothF (nearF a).1 (nearF b).1 ((holF op l (nearF a).1.lo (nearF b).1.lo) == h)).1) rfl rfl 27 _ k73 szR (fun j _ => rC_one _ j) ?_
            intro xw76 t77 k78
            have k79 := k71.touch t77 (by omega)
            have k80 := k72.touch t77 (by omega)
            have k81 := k74.touch t77 (by omega)
            have lo82 := t77.below lo75 (by omega)
            clear k73 k71 k72 k74 lo75 t77
            refine wpl_store rfl 27 (.tmp 11) (.tmp 62) rfl (N + 1 + 1 + 1) 6 (rC (bothF (nearF a).1 (nearF b).1 ((holF op l (nearF a).1.lo (nearF b).1.lo) == h)).2.1) rfl rfl 27 _ k81 szR (fun j _ => rC_one _ j) ?_
            intro xw83 t84 k85
            have k86 := k79.touch t84 (by omega)
            have k87 := k80.touch t84 (by omega)
            have k88 := k78.touch t84 (by omega)
            have lo89 := t84.below lo82 (by omega)
            clear k81 k79 k80 k78 lo82 t84
            refine wpl_run rfl (Value.bool (bothF (nearF a).1 (nearF b).1 ((holF op l (nearF a).1.lo (nearF b).1.lo) == h)).2.2) _ (run_as (x := (.tmp 63)) rfl _ rfl) ?_; simp only [pA]
            obtain ⟨M90, hM90⟩ := sz_some xw83
            have lt_91 := k86.ltN hM90
            have lt_92 := k87.ltN hM90
            have lt_93 := k88.ltN hM90
            have lt_94 := k85.ltN hM90
            go_wp2_with fail
            refine post_rrb rfl (N + 1 + 1) (N + 1 + 1 + 1) rfl rfl k88 k85 undR undR szR szR rfl rfl ?_
            have eg_ := Esb.out
            subst eg_
            have eg_ := Esa.out
            subst eg_
            exact ⟨by rw [ER.out]; first | rfl | (simp only [refF, H1_.out, H2_.out, bB] <;> rfl), lo89⟩
    · have H1_ := hid h1_
      clear h1_
      go_upto_region 4 with fail
      refine wp_region_lit ?_
      try simp only [pA]
      change wpList _ _ _ ((_ :: _ :: []) ++ (_ :: _ :: _ :: [])) _ _
      refine wpList_prefix (C := fun w' => ∃ x : Later M45 wc, w' = x.w') _ _ _ _ ⟨⟨_, Below.refl _ _⟩, rfl⟩ ?_
      refine later_val (fun q => run_bd 27 _ rfl (cellsOf (rC ⟨zeroN, 0#64, 0#64, 0#64, 0#64⟩) 6) (by kernel_rfl) q.w') (by rfl) ?_; simp only [pA]
      refine later_val (fun q => run_bd 27 _ rfl (cellsOf (rC ⟨zeroN, 0#64, 0#64, 0#64, 0#64⟩) 6) (by kernel_rfl) q.w') (by rfl) ?_; simp only [pA]
      refine wpQuiet_nil (laterE hM45 ?_)
      intro xw51 M52 hbxw51 hM52 lM52
      have k53 := k46.below hbxw51 (by omega)
      have k54 := k47.below hbxw51 (by omega)
      have k55 := k48.below hbxw51 (by omega)
      have k56 := k49.below hbxw51 (by omega)
      have lo57 := lo50.trans (hbxw51.mono (by omega))
      clear k46 k47 k48 k49 lo50 hbxw51
      refine wpl_store rfl 27 (.tmp 10) (.tmp 41) rfl (N + 1 + 1) 6 (rC ⟨zeroN, 0#64, 0#64, 0#64, 0#64⟩) rfl rfl 27 _ k55 szR (fun j _ => rC_one _ j) ?_
      intro xw58 t59 k60; try simp only [pA]
      have k61 := k53.touch t59 (by omega)
      have k62 := k54.touch t59 (by omega)
      have k63 := k56.touch t59 (by omega)
      have lo64 := t59.below lo57 (by omega)
      have h65 := t59.sz hM52
      clear k55 k53 k54 k56 lo57 hM52 t59
      refine wpl_store rfl 27 (.tmp 11) (.tmp 42) rfl (N + 1 + 1 + 1) 6 (rC ⟨zeroN, 0#64, 0#64, 0#64, 0#64⟩) rfl rfl 27 _ k63 szR (fun j _ => rC_one _ j) ?_
      intro xw66 t67 k68; try simp only [pA]
      have k69 := k61.touch t67 (by omega)
      have k70 := k62.touch t67 (by omega)
      have k71 := k60.touch t67 (by omega)
      have lo72 := t67.below lo64 (by omega)
      have h73 := t67.sz h65
      clear k63 k61 k62 k60 lo64 h65 t67
      refine wpl_run rfl (Value.bool false) _ (run_as (x := (.const (.bool false))) rfl _ rfl) ?_; simp only [pA]
      obtain ⟨M74, hM74⟩ := sz_some xw66
      have lt_75 := k69.ltN hM74
      have lt_76 := k70.ltN hM74
      have lt_77 := k71.ltN hM74
      have lt_78 := k68.ltN hM74
      go_wp2_with fail
      refine post_rrb rfl (N + 1 + 1) (N + 1 + 1 + 1) rfl rfl k71 k68 undR undR szR szR rfl rfl ?_
      have eg_ := Esb.out
      subst eg_
      have eg_ := Esa.out
      subst eg_
      exact ⟨by rw [ER.out]; first | rfl | (simp only [refF, H1_.out, bB] <;> rfl), lo72⟩
end Go.Proofs.YtbbfdehipgkjmaaDoor
