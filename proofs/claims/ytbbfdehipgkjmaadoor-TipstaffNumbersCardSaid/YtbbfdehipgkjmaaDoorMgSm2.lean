/- Contracts of ranges: the lower half. Plain: ranges of one number alone: what is settled, the lower bytes and operations of them. -/
import Derived.Test.YtbbfdehipgkjmaaDoorMgSe0
namespace Go.Proofs.YtbbfdehipgkjmaaDoor
open Go Go.RowKit
def lowR4 (a : Rn) : Rn :=
 bif (((settleF a).1.lo &&& ~~~4294967295#64) == ((settleF a).1.hi &&& ~~~4294967295#64)) then (tightR ⟨(obR (tLow (settleF a).1.b 4)).b, ((settleF a).1.lo &&& 4294967295#64), ((settleF a).1.hi &&& 4294967295#64), (obR (tLow (settleF a).1.b 4)).sl, (obR (tLow (settleF a).1.b 4)).sh⟩)
 else (tightR (obR (tLow (settleF a).1.b 4)))
set_option maxRecDepth 100000 in
set_option maxHeartbeats 4000000 in
theorem SLow_4 (a : Rn) (w : World) (N : Nat) (hN : Sz w N) : Calls Tryd.prog 5 #[rV a, (Value.int .i64 4)] w fun e w' => e = .returned (rV (lowR4 a)) ∧ Below N w w' := by
 obtain ⟨rr, er⟩ : ∃ rr, rr = (lowR4 a) := ⟨_, rfl⟩
 rw [← er]
 have ER := hid er
 clear er
 unfold rV
 go_enter Tryd.func5, Tryd.ntmps5
 go_upto_region 1 with (first
  | (refine wpl_box rfl 27 (.tmp 0) rfl 6 _ rfl (N) hN ?_; intro w1 hN1 hb1 hh1)
  | (refine wpl_alloc rfl 27 rfl 6 (rC zeroR) zeR (N + 1) hN1 ?_; intro w2 hN2 hb2 hh2)
  | fail)
 have lo0 : Below N w w2 := (hb1.trans (hb2.mono (by omega)))
 have k1 := (hh1.below hb2 (by omega))
 have k2 := hh2
 clear hh1 hb1 hh2 hb2 hN1
 go_upto_region 1 with fail
 refine wp_region_later1 ((N + 1 + 1)) ?_
 try simp only [pA]
 go_big_quiet_step (fail)
 refine wpQuiet_nil (laterE hN2 ?_)
 intro xw3 M4 hbxw3 hM4 lM4
 have k5 := k1.below hbxw3 (by omega)
 have k6 := k2.below hbxw3 (by omega)
 have lo7 := lo0.trans (hbxw3.mono (by omega))
 clear k1 k2 lo0 hbxw3
 go_upto_region 9 with fail
 refine wp_region_later1 (M4) ?_
 try simp only [pA]
 go_big_quiet_step (fail)
 refine wpQuiet_nil (laterE hM4 ?_)
 intro xw8 M9 hbxw8 hM9 lM9
 have k10 := k5.below hbxw8 (by omega)
 have k11 := k6.below hbxw8 (by omega)
 have lo12 := lo7.trans (hbxw8.mono (by omega))
 clear k5 k6 lo7 hbxw8
 go_upto_region 10 with fail
 refine wp_region_lit ?_
 try simp only [pA]
 change wpList _ _ _ ((_ :: _ :: _ :: _ :: _ :: []) ++ (_ :: [])) _ _
 refine wpList_prefix (C := fun w' => ∃ x : Later M9 xw8, w' = x.w') _ _ _ _ ⟨⟨_, Below.refl _ _⟩, rfl⟩ ?_
 refine later_row hM9 27 (.tmp 2) rfl (N) rfl 27 6 _ k10 undR szR (by rfl) ?_; simp only [pA]
 go_big_quiet_step ((go_at_call 13; exact later_of hM9 _ (fun K hK hKN => Settle_any a _ K hK)))
 iterate 3 (go_big_quiet_step (fail))
 refine wpQuiet_nil (laterE hM9 ?_)
 intro xw13 M14 hbxw13 hM14 lM14
 have k15 := k10.below hbxw13 (by omega)
 have k16 := k11.below hbxw13 (by omega)
 have lo17 := lo12.trans (hbxw13.mono (by omega))
 clear k10 k11 lo12 hbxw13
 refine wpl_store rfl 27 (.tmp 2) (.tmp 18) rfl N 6 (rC (settleF a).1) rfl rfl 27 _ k15 szR (fun j _ => rC_one _ j) ?_
 intro xw18 t19 k20; try simp only [pA]
 have k21 := k16.touch t19 (by omega)
 have lo22 := t19.below lo17 (by omega)
 have h23 := t19.sz hM14
 clear k15 k16 lo17 hM14 t19
 obtain ⟨M24, hM24⟩ := sz_some xw18
 have lt_25 := k20.ltN hM24
 have lt_26 := k21.ltN hM24
 go_upto_region 11 with fail
 refine wp_region_lit ?_
 try simp only [pA]
 change wpList _ _ _ ((_ :: _ :: _ :: _ :: _ :: []) ++ (_ :: _ :: [])) _ _
 obtain ⟨c27, c28, c29, c30, c31, c32⟩ := r_cells k20
 refine wpList_prefix (C := fun w' => ∃ x : Later M24 xw18, w' = x.w') _ _ _ _ ⟨⟨_, Below.refl _ _⟩, rfl⟩ ?_
 go_big_quiet_step (fail)
 refine later_val (fun qq => run_bits 25 (.tmp 20) rfl N rfl 27 (Later.has hM24 k20 qq) undT szT) (by rfl) ?_; simp only [pA]
 go_big_quiet_step (fail)
 go_big_quiet_step ((go_at_call 18; exact later_of hM24 _ (fun K hK hKN => Low_any (settleF a).1.b 4 _ K hK)))
 go_big_quiet_step ((go_at_call 17; exact later_of hM24 _ (fun K hK hKN => OfBits_any (tLow (settleF a).1.b 4) _ K hK)))
 refine wpQuiet_nil (laterE hM24 ?_)
 intro xw33 M34 hbxw33 hM34 lM34
 have k35 := k20.below hbxw33 (by omega)
 have k36 := k21.below hbxw33 (by omega)
 have lo37 := lo22.trans (hbxw33.mono (by omega))
 clear k20 c27 c28 c29 c30 c31 c32 k21 lo22 hbxw33
 obtain ⟨b_xw38, eb_xw38⟩ : ∃ b_xw38, b_xw38 = M34 := ⟨_, rfl⟩
 have hzb_xw38 : Sz xw33 b_xw38 := by rw [eb_xw38]; exact hM34
 have lob_xw38 : M34 ≤ b_xw38 := by omega
 have upb_xw38 : b_xw38 ≤ M34 := by omega
 clear eb_xw38
 refine wpl_alloc rfl 27 rfl 6 (rC zeroR) zeR b_xw38 hzb_xw38 ?_
 intro xw38 hMxw38 hbxw38 hhxw38; simp only [pA]
 have k39 := k35.below hbxw38 (by omega)
 have k40 := k36.below hbxw38 (by omega)
 have lo41 := lo37.trans (hbxw38.mono (by omega))
 clear k35 k36 lo37 hbxw38 hzb_xw38
 obtain ⟨M42, eM42⟩ : ∃ M42, M42 = b_xw38 + 1 := ⟨_, rfl⟩
 rw [← eM42] at hMxw38
 have loM42 : b_xw38 + 1 ≤ M42 := by omega
 have upM42 : M42 ≤ b_xw38 + 1 := by omega
 clear eM42
 refine wpl_store rfl 27 (.tmp 6) (.tmp 24) rfl b_xw38 6 (rC (obR (tLow (settleF a).1.b 4))) rfl rfl 27 _ hhxw38 szR (fun j _ => rC_one _ j) ?_
 intro xw43 t44 k45; try simp only [pA]
 have k46 := k39.touch t44 (by omega)
 have k47 := k40.touch t44 (by omega)
 have lo48 := t44.below lo41 (by omega)
 have h49 := t44.sz hMxw38
 clear hhxw38 k39 k40 lo41 hMxw38 t44
 obtain ⟨M50, hM50⟩ := sz_some xw43
 have lt_51 := k46.ltN hM50
 have lt_52 := k47.ltN hM50
 have lt_53 := k45.ltN hM50
 cases h1_ : (((settleF a).1.lo &&& ~~~4294967295#64) == ((settleF a).1.hi &&& ~~~4294967295#64))
 ·have H1_ := hid h1_
  clear h1_
  go_upto_region 12 with fail
  obtain ⟨c54, c55, c56, c57, c58, c59⟩ := r_cells k46
  refine wp_region_later1 (M50) ?_
  try simp only [pA]
  go_big_quiet_step (fail)
  refine later_c1 hM50 23 (.tmp 25) rfl rfl und64 rfl c56 (by rfl) ?_; simp only [pA]
  go_big_quiet_step (fail)
  refine later_b (x := (.tmp 26)) (y := (.tmp 27)) rfl (bin_andn _ (settleF a).1.lo 4294967295#64) rfl rfl (by rfl) ?_; simp only [pA]
  go_big_quiet_step (fail)
  refine later_c1 hM50 23 (.tmp 29) rfl rfl und64 rfl c57 (by rfl) ?_; simp only [pA]
  go_big_quiet_step (fail)
  refine later_b (x := (.tmp 30)) (y := (.tmp 31)) rfl (bin_andn _ (settleF a).1.hi 4294967295#64) rfl rfl (by rfl) ?_; simp only [pA]
  refine later_b (x := (.tmp 28)) (y := (.tmp 32)) rfl (BinRun.is H1_.out (bin_eql _ ((settleF a).1.lo &&& ~~~4294967295#64) ((settleF a).1.hi &&& ~~~4294967295#64))) rfl rfl (by rfl) ?_; simp only [pA]
  refine wpQuiet_nil (laterE hM50 ?_)
  intro xw60 M61 hbxw60 hM61 lM61
  have k62 := k46.below hbxw60 (by omega)
  have k63 := k47.below hbxw60 (by omega)
  have k64 := k45.below hbxw60 (by omega)
  have lo65 := lo48.trans (hbxw60.mono (by omega))
  clear k46 c54 c55 c56 c57 c58 c59 k47 k45 lo48 hbxw60
  go_upto_region 14 with fail
  refine wp_region_lit ?_
  try simp only [pA]
  change wpList _ _ _ ((_ :: _ :: []) ++ (_ :: [])) _ _
  refine wpList_prefix (C := fun w' => ∃ x : Later M61 xw60, w' = x.w') _ _ _ _ ⟨⟨_, Below.refl _ _⟩, rfl⟩ ?_
  refine later_row hM61 27 (.tmp 6) rfl (b_xw38) rfl 27 6 _ k64 undR szR (by rfl) ?_; simp only [pA]
  go_big_quiet_step ((go_at_call 16; exact later_of hM61 _ (fun K hK hKN => Tight_any (obR (tLow (settleF a).1.b 4)) _ K hK)))
  refine wpQuiet_nil (laterE hM61 ?_)
  intro xw66 M67 hbxw66 hM67 lM67
  have k68 := k62.below hbxw66 (by omega)
  have k69 := k63.below hbxw66 (by omega)
  have k70 := k64.below hbxw66 (by omega)
  have lo71 := lo65.trans (hbxw66.mono (by omega))
  clear k62 k63 k64 lo65 hbxw66
  refine wpl_store rfl 27 (.tmp 4) (.tmp 45) rfl (N + 1) 6 (rC (tightR (obR (tLow (settleF a).1.b 4)))) rfl rfl 27 _ k69 szR (fun j _ => rC_one _ j) ?_
  intro xw72 t73 k74; try simp only [pA]
  have k75 := k68.touch t73 (by omega)
  have k76 := k70.touch t73 (by omega)
  have lo77 := t73.below lo71 (by omega)
  have h78 := t73.sz hM67
  clear k69 k68 k70 lo71 hM67 t73
  obtain ⟨M79, hM79⟩ := sz_some xw72
  have lt_80 := k75.ltN hM79
  have lt_81 := k74.ltN hM79
  have lt_82 := k76.ltN hM79
  go_wp2_with fail
  refine post_r rfl (N + 1) rfl k74 undR szR rfl ?_
  exact ⟨by rw [ER.out]; first | rfl | (simp only [lowR4, H1_.out, bB] <;> rfl), lo77⟩
 ·have H1_ := hid h1_
  clear h1_
  go_upto_region 12 with fail
  obtain ⟨c54, c55, c56, c57, c58, c59⟩ := r_cells k46
  refine wp_region_later1 (M50) ?_
  try simp only [pA]
  go_big_quiet_step (fail)
  refine later_c1 hM50 23 (.tmp 25) rfl rfl und64 rfl c56 (by rfl) ?_; simp only [pA]
  go_big_quiet_step (fail)
  refine later_b (x := (.tmp 26)) (y := (.tmp 27)) rfl (bin_andn _ (settleF a).1.lo 4294967295#64) rfl rfl (by rfl) ?_; simp only [pA]
  go_big_quiet_step (fail)
  refine later_c1 hM50 23 (.tmp 29) rfl rfl und64 rfl c57 (by rfl) ?_; simp only [pA]
  go_big_quiet_step (fail)
  refine later_b (x := (.tmp 30)) (y := (.tmp 31)) rfl (bin_andn _ (settleF a).1.hi 4294967295#64) rfl rfl (by rfl) ?_; simp only [pA]
  refine later_b (x := (.tmp 28)) (y := (.tmp 32)) rfl (BinRun.is H1_.out (bin_eql _ ((settleF a).1.lo &&& ~~~4294967295#64) ((settleF a).1.hi &&& ~~~4294967295#64))) rfl rfl (by rfl) ?_; simp only [pA]
  refine wpQuiet_nil (laterE hM50 ?_)
  intro xw60 M61 hbxw60 hM61 lM61
  have k62 := k46.below hbxw60 (by omega)
  have k63 := k47.below hbxw60 (by omega)
  have k64 := k45.below hbxw60 (by omega)
  have lo65 := lo48.trans (hbxw60.mono (by omega))
  clear k46 c54 c55 c56 c57 c58 c59 k47 k45 lo48 hbxw60
  go_upto_region 13 with fail
  refine wp_region_held (S := fun w' => (Has w' N 27 6 (rC (settleF a).1))) (by kernel_rfl) ?_
  replace k62 : Has xw60.drew N 27 6 (rC (settleF a).1) := k62
  replace k63 : Has xw60.drew (N + 1) 27 6 (rC zeroR) := k63
  replace k64 : Has xw60.drew b_xw38 27 6 (rC (obR (tLow (settleF a).1.b 4))) := k64
  replace hM61 : Sz xw60.drew M61 := hM61
  replace lo65 : Below N w xw60.drew := lo65.drew
  change wpAnyH _ _ _ _ _ _ _ _ (World.drew _)
  generalize xw60.drew = xw66 at *
  refine held_take (i := 0) (v := (Value.pointer (some ⟨N, 2, none⟩))) (d := some 34) rfl (by kernel_rfl) (by kernel_rfl) (by kernel_rfl) (by kernel_rfl) (fun _ _ _ h => h) (Or.inl ⟨by rfl, fun wq hq0 => run_fa 27 (.tmp 2) 1 2 rfl rfl faR1⟩) k62 ?_; simp only [pA]
  refine held_take (i := 1) (v := (Q (settleF a).1.lo)) (d := some 35) rfl (by kernel_rfl) (by kernel_rfl) (by kernel_rfl) (by kernel_rfl) (fun _ _ _ h => h) (Or.inl ⟨by rfl, fun wq hq0 => run_c1 23 (.tmp 34) rfl ⟨N, 2, none⟩ rfl und64 rfl (r_cells hq0).2.2.1⟩) k62 ?_; simp only [pA]
  refine held_take (i := 2) (v := (Q 4294967295#64)) (d := some 36) rfl (by kernel_rfl) (by kernel_rfl) (by kernel_rfl) (by kernel_rfl) (fun _ _ _ h => h) (Or.inl ⟨by rfl, fun wq hq0 => run_mv (x := (.tmp 5)) rfl wq rfl⟩) k62 ?_; simp only [pA]
  refine held_take (i := 3) (v := (Q ((settleF a).1.lo &&& 4294967295#64))) (d := some 37) rfl (by kernel_rfl) (by kernel_rfl) (by kernel_rfl) (by kernel_rfl) (fun _ _ _ h => h) (Or.inl ⟨by rfl, fun wq hq0 => (bin_and _ (settleF a).1.lo 4294967295#64) _ _ (.tmp 35) (.tmp 36) _ wq rfl rfl rfl⟩) k62 ?_; simp only [pA]
  refine held_take (i := 4) (v := (Value.pointer (some ⟨N, 3, none⟩))) (d := some 38) rfl (by kernel_rfl) (by kernel_rfl) (by kernel_rfl) (by kernel_rfl) (fun _ _ _ h => h) (Or.inl ⟨by rfl, fun wq hq0 => run_fa 27 (.tmp 2) 2 3 rfl rfl faR2⟩) k62 ?_; simp only [pA]
  refine held_take (i := 5) (v := (Q (settleF a).1.hi)) (d := some 39) rfl (by kernel_rfl) (by kernel_rfl) (by kernel_rfl) (by kernel_rfl) (fun _ _ _ h => h) (Or.inl ⟨by rfl, fun wq hq0 => run_c1 23 (.tmp 38) rfl ⟨N, 3, none⟩ rfl und64 rfl (r_cells hq0).2.2.2.1⟩) k62 ?_; simp only [pA]
  refine held_take (i := 6) (v := (Q 4294967295#64)) (d := some 40) rfl (by kernel_rfl) (by kernel_rfl) (by kernel_rfl) (by kernel_rfl) (fun _ _ _ h => h) (Or.inl ⟨by rfl, fun wq hq0 => run_mv (x := (.tmp 5)) rfl wq rfl⟩) k62 ?_; simp only [pA]
  refine held_take (i := 7) (v := (Q ((settleF a).1.hi &&& 4294967295#64))) (d := some 41) rfl (by kernel_rfl) (by kernel_rfl) (by kernel_rfl) (by kernel_rfl) (fun _ _ _ h => h) (Or.inl ⟨by rfl, fun wq hq0 => (bin_and _ (settleF a).1.hi 4294967295#64) _ _ (.tmp 39) (.tmp 40) _ wq rfl rfl rfl⟩) k62 ?_; simp only [pA]
  refine held_take (i := 8) (v := (Value.pointer (some ⟨b_xw38, 2, none⟩))) (d := some 42) rfl (by kernel_rfl) (by kernel_rfl) (by kernel_rfl) (by kernel_rfl) (fun _ _ _ h => h) (Or.inl ⟨by rfl, fun wq hq0 => run_fa 27 (.tmp 6) 1 2 rfl rfl faR1⟩) k62 ?_; simp only [pA]
  refine wpAnyH_all (rs := [9]) (by kernel_rfl) (by simp) ?_
  intro iq hiq; simp only [List.mem_singleton] at hiq; subst hiq
  refine opg_list rfl ?_
  refine wpl_setN (by rfl) (by kernel_rfl) 23 (.tmp 42) (.tmp 37) rfl b_xw38 2 rfl _ rfl sz64 rfl rfl 27 6 _ k64 (by omega) ?_
  intro xw68 t69 k70_; try simp only [pA]
  have k70 : Has xw68 b_xw38 27 6 (rC ⟨(obR (tLow (settleF a).1.b 4)).b, ((settleF a).1.lo &&& 4294967295#64), (obR (tLow (settleF a).1.b 4)).hi, (obR (tLow (settleF a).1.b 4)).sl, (obR (tLow (settleF a).1.b 4)).sh⟩) := k70_.congr (fun j hj => set_lo _ _ j)
  have k71 := k62.touch t69 (by omega)
  have k72 := k63.touch t69 (by omega)
  have lo73 := t69.below lo65 (by omega)
  have h74 := t69.sz hM61
  clear k64 k70_ k62 k63 lo65 hM61 t69
  refine ⟨k71, ?_⟩
  refine held_take (i := 10) (v := (Value.pointer (some ⟨b_xw38, 3, none⟩))) (d := some 43) rfl (by kernel_rfl) (by kernel_rfl) (by kernel_rfl) (by kernel_rfl) (fun _ _ _ h => h) (Or.inl ⟨by rfl, fun wq hq0 => run_fa 27 (.tmp 6) 2 3 rfl rfl faR2⟩) k71 ?_; simp only [pA]
  refine wpAnyH_all (rs := [11]) (by kernel_rfl) (by simp) ?_
  intro iq hiq; simp only [List.mem_singleton] at hiq; subst hiq
  refine opg_list rfl ?_
  refine wpl_setN (by rfl) (by kernel_rfl) 23 (.tmp 43) (.tmp 41) rfl b_xw38 3 rfl _ rfl sz64 rfl rfl 27 6 _ k70 (by omega) ?_
  intro xw75 t76 k77_; try simp only [pA]
  have k77 : Has xw75 b_xw38 27 6 (rC ⟨(obR (tLow (settleF a).1.b 4)).b, ((settleF a).1.lo &&& 4294967295#64), ((settleF a).1.hi &&& 4294967295#64), (obR (tLow (settleF a).1.b 4)).sl, (obR (tLow (settleF a).1.b 4)).sh⟩) := k77_.congr (fun j hj => set_hi _ _ j)
  have k78 := k71.touch t76 (by omega)
  have k79 := k72.touch t76 (by omega)
  have lo80 := t76.below lo73 (by omega)
  have h81 := t76.sz h74
  clear k70 k77_ k71 k72 lo73 h74 t76
  refine ⟨k78, ?_⟩
  refine wpAnyH_done (by kernel_rfl) ?_ _
  obtain ⟨M82, hM82⟩ := sz_some xw75
  have lt_83 := k78.ltN hM82
  have lt_84 := k79.ltN hM82
  have lt_85 := k77.ltN hM82
  go_upto_region 14 with fail
  refine wp_region_lit ?_
  try simp only [pA]
  change wpList _ _ _ ((_ :: _ :: []) ++ (_ :: [])) _ _
  refine wpList_prefix (C := fun w' => ∃ x : Later M82 xw75, w' = x.w') _ _ _ _ ⟨⟨_, Below.refl _ _⟩, rfl⟩ ?_
  refine later_row hM82 27 (.tmp 6) rfl (b_xw38) rfl 27 6 _ k77 undR szR (by rfl) ?_; simp only [pA]
  go_big_quiet_step ((go_at_call 16; exact later_of hM82 _ (fun K hK hKN => Tight_any ⟨(obR (tLow (settleF a).1.b 4)).b, ((settleF a).1.lo &&& 4294967295#64), ((settleF a).1.hi &&& 4294967295#64), (obR (tLow (settleF a).1.b 4)).sl, (obR (tLow (settleF a).1.b 4)).sh⟩ _ K hK)))
  refine wpQuiet_nil (laterE hM82 ?_)
  intro xw86 M87 hbxw86 hM87 lM87
  have k88 := k78.below hbxw86 (by omega)
  have k89 := k79.below hbxw86 (by omega)
  have k90 := k77.below hbxw86 (by omega)
  have lo91 := lo80.trans (hbxw86.mono (by omega))
  clear k78 k79 k77 lo80 hbxw86
  refine wpl_store rfl 27 (.tmp 4) (.tmp 45) rfl (N + 1) 6 (rC (tightR ⟨(obR (tLow (settleF a).1.b 4)).b, ((settleF a).1.lo &&& 4294967295#64), ((settleF a).1.hi &&& 4294967295#64), (obR (tLow (settleF a).1.b 4)).sl, (obR (tLow (settleF a).1.b 4)).sh⟩)) rfl rfl 27 _ k89 szR (fun j _ => rC_one _ j) ?_
  intro xw92 t93 k94; try simp only [pA]
  have k95 := k88.touch t93 (by omega)
  have k96 := k90.touch t93 (by omega)
  have lo97 := t93.below lo91 (by omega)
  have h98 := t93.sz hM87
  clear k89 k88 k90 lo91 hM87 t93
  obtain ⟨M99, hM99⟩ := sz_some xw92
  have lt_100 := k95.ltN hM99
  have lt_101 := k94.ltN hM99
  have lt_102 := k96.ltN hM99
  go_wp2_with fail
  refine post_r rfl (N + 1) rfl k94 undR szR rfl ?_
  exact ⟨by rw [ER.out]; first | rfl | (simp only [lowR4, H1_.out, bB] <;> rfl), lo97⟩
end Go.Proofs.YtbbfdehipgkjmaaDoor
namespace Go.Proofs.YtbbfdehipgkjmaaDoor
open Go
theorem and_lo32 (x : W) : x &&& 4294967295#64 = lo32 x := by
  apply BitVec.eq_of_toNat_eq
  unfold lo32
  rw [BitVec.toNat_and, BitVec.toNat_umod]
  exact Nat.and_two_pow_sub_one_eq_mod x.toNat 32
theorem cut_lo32 (x : W) : tCut x 4 = lo32 x := by
  have h := qn_cut x 4
  have e := qn_lo32 x
  apply qn_inj
  rw [h, e]
  rfl
theorem lo32_lo32 (x : W) : lo32 (lo32 x) = lo32 x := by
  apply qn_inj; rw [qn_lo32, qn_lo32]; omega
theorem evS_lo (op : Int) (x y : W) : evS op (lo32 x) (lo32 y) = evS op x y := by
  unfold evS; simp only [lo32_lo32]
end Go.Proofs.YtbbfdehipgkjmaaDoor
