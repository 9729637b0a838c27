/- Do at some operations: add, sub, and; shift up of 64 bits. -/
import Derived.Test.YtbbfdehipgkjmaaDoorSe9
import Derived.Test.YtbbfdehipgkjmaaDoorMgSm9
namespace Go.Proofs.YtbbfdehipgkjmaaDoor
open Go Go.RowKit
def okQ (op : Int) (l : Bool) : Prop := op = 0 ∨ op = 1 ∨ op = 5 ∨ (op = 6 ∧ l = true)
theorem Reck_q (op : Int) (l : Bool) (a b : Rn) (HQ : Hid (okQ op l)) (w : World) (N : Nat) (hN : Sz w N) : Calls Tryd.prog 15 #[.int .i64 op, .bool l, rV a, rV b] w fun e w' => e = .returned (rV (reckF op l a b)) ∧ Below N w w' := by
  rcases HQ.out with rfl | rfl | rfl | ⟨rfl, rfl⟩
  · exact Reck_0 l a b w N hN
  · exact Reck_1 l a b w N hN
  · exact Reck_5 l a b w N hN
  · exact Reck_6t a b w N hN
set_option maxRecDepth 100000 in
set_option maxHeartbeats 4000000 in
theorem Do_trueQ (op : Int) (a : Rn) (b : Rn) (HQ : Hid (okQ op true)) (w : World) (N : Nat) (hN : Sz w N) : Calls Tryd.prog 4 #[(Value.int .i64 op), (Value.bool true), rV a, rV b] w fun e w' => e = .returned (rV (do_t op a b)) ∧ Below N w w' := by
 obtain ⟨rr, er⟩ : ∃ rr, rr = (do_t op a b) := ⟨_, rfl⟩
 rw [← er]
 have ER := hid er
 clear er
 unfold rV
 go_enter Tryd.func4, Tryd.ntmps4
 go_upto_region 1 with (first
  | (refine wpl_box rfl 27 (.tmp 2) rfl 6 _ rfl (N) hN ?_; intro w1 hN1 hb1 hh1)
  | (refine wpl_box rfl 27 (.tmp 3) rfl 6 _ rfl (N + 1) hN1 ?_; intro w2 hN2 hb2 hh2)
  | (refine wpl_alloc rfl 27 rfl 6 (rC zeroR) zeR (N + 1 + 1) hN2 ?_; intro w3 hN3 hb3 hh3)
  | fail)
 have lo0 : Below N w w3 := ((hb1.trans (hb2.mono (by omega))).trans (hb3.mono (by omega)))
 have k1 := ((hh1.below hb2 (by omega)).below hb3 (by omega))
 have k2 := (hh2.below hb3 (by omega))
 have k3 := hh3
 clear hh1 hb1 hh2 hb2 hh3 hb3 hN1 hN2
 go_upto_region 1 with fail
 refine wp_region_later1 ((N + 1 + 1 + 1)) ?_
 try simp only [pA]
 iterate 2 (go_big_quiet_step (fail))
 refine wpQuiet_nil (laterE hN3 ?_)
 intro xw4 M5 hbxw4 hM5 lM5
 have k6 := k1.below hbxw4 (by omega)
 have k7 := k2.below hbxw4 (by omega)
 have k8 := k3.below hbxw4 (by omega)
 have lo9 := lo0.trans (hbxw4.mono (by omega))
 clear k1 k2 k3 lo0 hbxw4
 go_upto_region 3 with fail
 refine wp_region_lit ?_
 try simp only [pA]
 change wpList _ _ _ ((_ :: _ :: _ :: _ :: _ :: []) ++ (_ :: [])) _ _
 refine wpList_prefix (C := fun w' => ∃ x : Later M5 xw4, w' = x.w') _ _ _ _ ⟨⟨_, Below.refl _ _⟩, rfl⟩ ?_
 refine later_row hM5 27 (.tmp 6) rfl (N) rfl 27 6 _ k6 undR szR (by rfl) ?_; simp only [pA]
 go_big_quiet_step ((go_at_call 13; exact later_of hM5 _ (fun K hK hKN => Settle_any a _ K hK)))
 iterate 3 (go_big_quiet_step (fail))
 refine wpQuiet_nil (laterE hM5 ?_)
 intro xw10 M11 hbxw10 hM11 lM11
 have k12 := k6.below hbxw10 (by omega)
 have k13 := k7.below hbxw10 (by omega)
 have k14 := k8.below hbxw10 (by omega)
 have lo15 := lo9.trans (hbxw10.mono (by omega))
 clear k6 k7 k8 lo9 hbxw10
 refine wpl_store rfl 27 (.tmp 6) (.tmp 19) rfl N 6 (rC (settleF a).1) rfl rfl 27 _ k12 szR (fun j _ => rC_one _ j) ?_
 intro xw16 t17 k18; try simp only [pA]
 have k19 := k13.touch t17 (by omega)
 have k20 := k14.touch t17 (by omega)
 have lo21 := t17.below lo15 (by omega)
 have h22 := t17.sz hM11
 clear k12 k13 k14 lo15 hM11 t17
 obtain ⟨M23, hM23⟩ := sz_some xw16
 have lt_24 := k18.ltN hM23
 have lt_25 := k19.ltN hM23
 have lt_26 := k20.ltN hM23
 go_upto_region 4 with fail
 refine wp_region_lit ?_
 try simp only [pA]
 change wpList _ _ _ ((_ :: _ :: _ :: _ :: _ :: []) ++ (_ :: [])) _ _
 refine wpList_prefix (C := fun w' => ∃ x : Later M23 xw16, w' = x.w') _ _ _ _ ⟨⟨_, Below.refl _ _⟩, rfl⟩ ?_
 refine later_row hM23 27 (.tmp 7) rfl ((N + 1)) rfl 27 6 _ k19 undR szR (by rfl) ?_; simp only [pA]
 go_big_quiet_step ((go_at_call 13; exact later_of hM23 _ (fun K hK hKN => Settle_any b _ K hK)))
 iterate 3 (go_big_quiet_step (fail))
 refine wpQuiet_nil (laterE hM23 ?_)
 intro xw27 M28 hbxw27 hM28 lM28
 have k29 := k18.below hbxw27 (by omega)
 have k30 := k19.below hbxw27 (by omega)
 have k31 := k20.below hbxw27 (by omega)
 have lo32 := lo21.trans (hbxw27.mono (by omega))
 clear k18 k19 k20 lo21 hbxw27
 refine wpl_store rfl 27 (.tmp 7) (.tmp 24) rfl (N + 1) 6 (rC (settleF b).1) rfl rfl 27 _ k30 szR (fun j _ => rC_one _ j) ?_
 intro xw33 t34 k35; try simp only [pA]
 have k36 := k29.touch t34 (by omega)
 have k37 := k31.touch t34 (by omega)
 have lo38 := t34.below lo32 (by omega)
 have h39 := t34.sz hM28
 clear k30 k29 k31 lo32 hM28 t34
 obtain ⟨M40, hM40⟩ := sz_some xw33
 have lt_41 := k36.ltN hM40
 have lt_42 := k35.ltN hM40
 have lt_43 := k37.ltN hM40
 cases h1_ : ((settleF a).1.lo == (settleF a).1.hi)
 ·have H1_ := hid h1_
  clear h1_
  go_upto_region 5 with fail
  obtain ⟨c44, c45, c46, c47, c48, c49⟩ := r_cells k36
  obtain ⟨c50, c51, c52, c53, c54, c55⟩ := r_cells k35
  refine wp_region_later1 (M40) ?_
  try simp only [pA]
  go_big_quiet_step (fail)
  refine later_c1 hM40 23 (.tmp 26) rfl rfl und64 rfl c46 (by rfl) ?_; simp only [pA]
  go_big_quiet_step (fail)
  refine later_c1 hM40 23 (.tmp 28) rfl rfl und64 rfl c47 (by rfl) ?_; simp only [pA]
  refine later_b (x := (.tmp 27)) (y := (.tmp 29)) rfl (BinRun.is H1_.out (bin_eql _ (settleF a).1.lo (settleF a).1.hi)) rfl rfl (by rfl) ?_; simp only [pA]
  iterate 7 (go_big_quiet_step (fail))
  refine wpQuiet_nil (laterE hM40 ?_)
  intro xw56 M57 hbxw56 hM57 lM57
  have k58 := k36.below hbxw56 (by omega)
  have k59 := k35.below hbxw56 (by omega)
  have k60 := k37.below hbxw56 (by omega)
  have lo61 := lo38.trans (hbxw56.mono (by omega))
  clear k36 c44 c45 c46 c47 c48 c49 k35 c50 c51 c52 c53 c54 c55 k37 lo38 hbxw56
  go_upto_region 7 with fail
  refine wp_region_lit ?_
  try simp only [pA]
  change wpList _ _ _ ((_ :: _ :: _ :: _ :: _ :: []) ++ (_ :: _ :: [])) _ _
  refine wpList_prefix (C := fun w' => ∃ x : Later M57 xw56, w' = x.w') _ _ _ _ ⟨⟨_, Below.refl _ _⟩, rfl⟩ ?_
  iterate 2 (go_big_quiet_step (fail))
  refine later_row hM57 27 (.tmp 6) rfl (N) rfl 27 6 _ k58 undR szR (by rfl) ?_; simp only [pA]
  refine later_row hM57 27 (.tmp 7) rfl ((N + 1)) rfl 27 6 _ k59 undR szR (by rfl) ?_; simp only [pA]
  go_big_quiet_step ((go_at_call 15; exact later_of hM57 _ (fun K hK hKN => Reck_q op true (settleF a).1 (settleF b).1 HQ _ K hK)))
  refine wpQuiet_nil (laterE hM57 ?_)
  intro xw62 M63 hbxw62 hM63 lM63
  have k64 := k58.below hbxw62 (by omega)
  have k65 := k59.below hbxw62 (by omega)
  have k66 := k60.below hbxw62 (by omega)
  have lo67 := lo61.trans (hbxw62.mono (by omega))
  clear k58 k59 k60 lo61 hbxw62
  obtain ⟨b_xw68, eb_xw68⟩ : ∃ b_xw68, b_xw68 = M63 := ⟨_, rfl⟩
  have hzb_xw68 : Sz xw62 b_xw68 := by rw [eb_xw68]; exact hM63
  have lob_xw68 : M63 ≤ b_xw68 := by omega
  have upb_xw68 : b_xw68 ≤ M63 := by omega
  clear eb_xw68
  refine wpl_alloc rfl 27 rfl 6 (rC zeroR) zeR b_xw68 hzb_xw68 ?_
  intro xw68 hMxw68 hbxw68 hhxw68; simp only [pA]
  have k69 := k64.below hbxw68 (by omega)
  have k70 := k65.below hbxw68 (by omega)
  have k71 := k66.below hbxw68 (by omega)
  have lo72 := lo67.trans (hbxw68.mono (by omega))
  clear k64 k65 k66 lo67 hbxw68 hzb_xw68
  obtain ⟨M73, eM73⟩ : ∃ M73, M73 = b_xw68 + 1 := ⟨_, rfl⟩
  rw [← eM73] at hMxw68
  have loM73 : b_xw68 + 1 ≤ M73 := by omega
  have upM73 : M73 ≤ b_xw68 + 1 := by omega
  clear eM73
  refine wpl_store rfl 27 (.tmp 9) (.tmp 50) rfl b_xw68 6 (rC (reckF op true (settleF a).1 (settleF b).1)) rfl rfl 27 _ hhxw68 szR (fun j _ => rC_one _ j) ?_
  intro xw74 t75 k76; try simp only [pA]
  have k77 := k69.touch t75 (by omega)
  have k78 := k70.touch t75 (by omega)
  have k79 := k71.touch t75 (by omega)
  have lo80 := t75.below lo72 (by omega)
  have h81 := t75.sz hMxw68
  clear hhxw68 k69 k70 k71 lo72 hMxw68 t75
  obtain ⟨M82, hM82⟩ := sz_some xw74
  have lt_83 := k77.ltN hM82
  have lt_84 := k78.ltN hM82
  have lt_85 := k79.ltN hM82
  have lt_86 := k76.ltN hM82
  go_upto_region 8 with fail
  refine wp_region_later1 (M82) ?_
  try simp only [pA]
  iterate 2 (go_big_quiet_step (fail))
  refine wpQuiet_nil (laterE hM82 ?_)
  intro xw87 M88 hbxw87 hM88 lM88
  have k89 := k77.below hbxw87 (by omega)
  have k90 := k78.below hbxw87 (by omega)
  have k91 := k79.below hbxw87 (by omega)
  have k92 := k76.below hbxw87 (by omega)
  have lo93 := lo80.trans (hbxw87.mono (by omega))
  clear k77 k78 k79 k76 lo80 hbxw87
  go_upto_region 10 with fail
  refine wp_region_lit ?_
  try simp only [pA]
  change wpList _ _ _ ((_ :: _ :: []) ++ (_ :: [])) _ _
  refine wpList_prefix (C := fun w' => ∃ x : Later M88 xw87, w' = x.w') _ _ _ _ ⟨⟨_, Below.refl _ _⟩, rfl⟩ ?_
  refine later_row hM88 27 (.tmp 9) rfl (b_xw68) rfl 27 6 _ k92 undR szR (by rfl) ?_; simp only [pA]
  go_big_quiet_step ((go_at_call 16; exact later_of hM88 _ (fun K hK hKN => Tight_any (reckF op true (settleF a).1 (settleF b).1) _ K hK)))
  refine wpQuiet_nil (laterE hM88 ?_)
  intro xw94 M95 hbxw94 hM95 lM95
  have k96 := k89.below hbxw94 (by omega)
  have k97 := k90.below hbxw94 (by omega)
  have k98 := k91.below hbxw94 (by omega)
  have k99 := k92.below hbxw94 (by omega)
  have lo100 := lo93.trans (hbxw94.mono (by omega))
  clear k89 k90 k91 k92 lo93 hbxw94
  refine wpl_store rfl 27 (.tmp 8) (.tmp 56) rfl (N + 1 + 1) 6 (rC (tightR (reckF op true (settleF a).1 (settleF b).1))) rfl rfl 27 _ k98 szR (fun j _ => rC_one _ j) ?_
  intro xw101 t102 k103; try simp only [pA]
  have k104 := k96.touch t102 (by omega)
  have k105 := k97.touch t102 (by omega)
  have k106 := k99.touch t102 (by omega)
  have lo107 := t102.below lo100 (by omega)
  have h108 := t102.sz hM95
  clear k98 k96 k97 k99 lo100 hM95 t102
  obtain ⟨M109, hM109⟩ := sz_some xw101
  have lt_110 := k104.ltN hM109
  have lt_111 := k105.ltN hM109
  have lt_112 := k103.ltN hM109
  have lt_113 := k106.ltN hM109
  go_wp2_with fail
  refine post_r rfl (N + 1 + 1) rfl k103 undR szR rfl ?_
  exact ⟨by rw [ER.out]; first | rfl | (simp only [do_t, H1_.out, bB] <;> rfl), lo107⟩
 ·have H1_ := hid h1_
  clear h1_
  cases h2_ : ((settleF b).1.lo == (settleF b).1.hi)
  ·have H2_ := hid h2_
   clear h2_
   go_upto_region 5 with fail
   obtain ⟨c44, c45, c46, c47, c48, c49⟩ := r_cells k36
   obtain ⟨c50, c51, c52, c53, c54, c55⟩ := r_cells k35
   refine wp_region_later1 (M40) ?_
   try simp only [pA]
   go_big_quiet_step (fail)
   refine later_c1 hM40 23 (.tmp 26) rfl rfl und64 rfl c46 (by rfl) ?_; simp only [pA]
   go_big_quiet_step (fail)
   refine later_c1 hM40 23 (.tmp 28) rfl rfl und64 rfl c47 (by rfl) ?_; simp only [pA]
   refine later_b (x := (.tmp 27)) (y := (.tmp 29)) rfl (BinRun.is H1_.out (bin_eql _ (settleF a).1.lo (settleF a).1.hi)) rfl rfl (by rfl) ?_; simp only [pA]
   iterate 2 (go_big_quiet_step (fail))
   refine later_c1 hM40 23 (.tmp 32) rfl rfl und64 rfl c52 (by rfl) ?_; simp only [pA]
   go_big_quiet_step (fail)
   refine later_c1 hM40 23 (.tmp 34) rfl rfl und64 rfl c53 (by rfl) ?_; simp only [pA]
   refine later_b (x := (.tmp 33)) (y := (.tmp 35)) rfl (BinRun.is H2_.out (bin_eql _ (settleF b).1.lo (settleF b).1.hi)) rfl rfl (by rfl) ?_; simp only [pA]
   go_big_quiet_step (fail)
   refine wpQuiet_nil (laterE hM40 ?_)
   intro xw56 M57 hbxw56 hM57 lM57
   have k58 := k36.below hbxw56 (by omega)
   have k59 := k35.below hbxw56 (by omega)
   have k60 := k37.below hbxw56 (by omega)
   have lo61 := lo38.trans (hbxw56.mono (by omega))
   clear k36 c44 c45 c46 c47 c48 c49 k35 c50 c51 c52 c53 c54 c55 k37 lo38 hbxw56
   go_upto_region 7 with fail
   refine wp_region_lit ?_
   try simp only [pA]
   change wpList _ _ _ ((_ :: _ :: _ :: _ :: _ :: []) ++ (_ :: _ :: [])) _ _
   refine wpList_prefix (C := fun w' => ∃ x : Later M57 xw56, w' = x.w') _ _ _ _ ⟨⟨_, Below.refl _ _⟩, rfl⟩ ?_
   iterate 2 (go_big_quiet_step (fail))
   refine later_row hM57 27 (.tmp 6) rfl (N) rfl 27 6 _ k58 undR szR (by rfl) ?_; simp only [pA]
   refine later_row hM57 27 (.tmp 7) rfl ((N + 1)) rfl 27 6 _ k59 undR szR (by rfl) ?_; simp only [pA]
   go_big_quiet_step ((go_at_call 15; exact later_of hM57 _ (fun K hK hKN => Reck_q op true (settleF a).1 (settleF b).1 HQ _ K hK)))
   refine wpQuiet_nil (laterE hM57 ?_)
   intro xw62 M63 hbxw62 hM63 lM63
   have k64 := k58.below hbxw62 (by omega)
   have k65 := k59.below hbxw62 (by omega)
   have k66 := k60.below hbxw62 (by omega)
   have lo67 := lo61.trans (hbxw62.mono (by omega))
   clear k58 k59 k60 lo61 hbxw62
   obtain ⟨b_xw68, eb_xw68⟩ : ∃ b_xw68, b_xw68 = M63 := ⟨_, rfl⟩
   have hzb_xw68 : Sz xw62 b_xw68 := by rw [eb_xw68]; exact hM63
   have lob_xw68 : M63 ≤ b_xw68 := by omega
   have upb_xw68 : b_xw68 ≤ M63 := by omega
   clear eb_xw68
   refine wpl_alloc rfl 27 rfl 6 (rC zeroR) zeR b_xw68 hzb_xw68 ?_
   intro xw68 hMxw68 hbxw68 hhxw68; simp only [pA]
   have k69 := k64.below hbxw68 (by omega)
   have k70 := k65.below hbxw68 (by omega)
   have k71 := k66.below hbxw68 (by omega)
   have lo72 := lo67.trans (hbxw68.mono (by omega))
   clear k64 k65 k66 lo67 hbxw68 hzb_xw68
   obtain ⟨M73, eM73⟩ : ∃ M73, M73 = b_xw68 + 1 := ⟨_, rfl⟩
   rw [← eM73] at hMxw68
   have loM73 : b_xw68 + 1 ≤ M73 := by omega
   have upM73 : M73 ≤ b_xw68 + 1 := by omega
   clear eM73
   refine wpl_store rfl 27 (.tmp 9) (.tmp 50) rfl b_xw68 6 (rC (reckF op true (settleF a).1 (settleF b).1)) rfl rfl 27 _ hhxw68 szR (fun j _ => rC_one _ j) ?_
   intro xw74 t75 k76; try simp only [pA]
   have k77 := k69.touch t75 (by omega)
   have k78 := k70.touch t75 (by omega)
   have k79 := k71.touch t75 (by omega)
   have lo80 := t75.below lo72 (by omega)
   have h81 := t75.sz hMxw68
   clear hhxw68 k69 k70 k71 lo72 hMxw68 t75
   obtain ⟨M82, hM82⟩ := sz_some xw74
   have lt_83 := k77.ltN hM82
   have lt_84 := k78.ltN hM82
   have lt_85 := k79.ltN hM82
   have lt_86 := k76.ltN hM82
   go_upto_region 8 with fail
   refine wp_region_later1 (M82) ?_
   try simp only [pA]
   iterate 2 (go_big_quiet_step (fail))
   refine wpQuiet_nil (laterE hM82 ?_)
   intro xw87 M88 hbxw87 hM88 lM88
   have k89 := k77.below hbxw87 (by omega)
   have k90 := k78.below hbxw87 (by omega)
   have k91 := k79.below hbxw87 (by omega)
   have k92 := k76.below hbxw87 (by omega)
   have lo93 := lo80.trans (hbxw87.mono (by omega))
   clear k77 k78 k79 k76 lo80 hbxw87
   go_upto_region 10 with fail
   refine wp_region_lit ?_
   try simp only [pA]
   change wpList _ _ _ ((_ :: _ :: []) ++ (_ :: [])) _ _
   refine wpList_prefix (C := fun w' => ∃ x : Later M88 xw87, w' = x.w') _ _ _ _ ⟨⟨_, Below.refl _ _⟩, rfl⟩ ?_
   refine later_row hM88 27 (.tmp 9) rfl (b_xw68) rfl 27 6 _ k92 undR szR (by rfl) ?_; simp only [pA]
   go_big_quiet_step ((go_at_call 16; exact later_of hM88 _ (fun K hK hKN => Tight_any (reckF op true (settleF a).1 (settleF b).1) _ K hK)))
   refine wpQuiet_nil (laterE hM88 ?_)
   intro xw94 M95 hbxw94 hM95 lM95
   have k96 := k89.below hbxw94 (by omega)
   have k97 := k90.below hbxw94 (by omega)
   have k98 := k91.below hbxw94 (by omega)
   have k99 := k92.below hbxw94 (by omega)
   have lo100 := lo93.trans (hbxw94.mono (by omega))
   clear k89 k90 k91 k92 lo93 hbxw94
   refine wpl_store rfl 27 (.tmp 8) (.tmp 56) rfl (N + 1 + 1) 6 (rC (tightR (reckF op true (settleF a).1 (settleF b).1))) rfl rfl 27 _ k98 szR (fun j _ => rC_one _ j) ?_
   intro xw101 t102 k103; try simp only [pA]
   have k104 := k96.touch t102 (by omega)
   have k105 := k97.touch t102 (by omega)
   have k106 := k99.touch t102 (by omega)
   have lo107 := t102.below lo100 (by omega)
   have h108 := t102.sz hM95
   clear k98 k96 k97 k99 lo100 hM95 t102
   obtain ⟨M109, hM109⟩ := sz_some xw101
   have lt_110 := k104.ltN hM109
   have lt_111 := k105.ltN hM109
   have lt_112 := k103.ltN hM109
   have lt_113 := k106.ltN hM109
   go_wp2_with fail
   refine post_r rfl (N + 1 + 1) rfl k103 undR szR rfl ?_
   exact ⟨by rw [ER.out]; first | rfl | (simp only [do_t, H1_.out, H2_.out, bB] <;> rfl), lo107⟩
  ·have H2_ := hid h2_
   clear h2_
   go_upto_region 5 with fail
   obtain ⟨c44, c45, c46, c47, c48, c49⟩ := r_cells k36
   obtain ⟨c50, c51, c52, c53, c54, c55⟩ := r_cells k35
   refine wp_region_later1 (M40) ?_
   try simp only [pA]
   go_big_quiet_step (fail)
   refine later_c1 hM40 23 (.tmp 26) rfl rfl und64 rfl c46 (by rfl) ?_; simp only [pA]
   go_big_quiet_step (fail)
   refine later_c1 hM40 23 (.tmp 28) rfl rfl und64 rfl c47 (by rfl) ?_; simp only [pA]
   refine later_b (x := (.tmp 27)) (y := (.tmp 29)) rfl (BinRun.is H1_.out (bin_eql _ (settleF a).1.lo (settleF a).1.hi)) rfl rfl (by rfl) ?_; simp only [pA]
   iterate 2 (go_big_quiet_step (fail))
   refine later_c1 hM40 23 (.tmp 32) rfl rfl und64 rfl c52 (by rfl) ?_; simp only [pA]
   go_big_quiet_step (fail)
   refine later_c1 hM40 23 (.tmp 34) rfl rfl und64 rfl c53 (by rfl) ?_; simp only [pA]
   refine later_b (x := (.tmp 33)) (y := (.tmp 35)) rfl (BinRun.is H2_.out (bin_eql _ (settleF b).1.lo (settleF b).1.hi)) rfl rfl (by rfl) ?_; simp only [pA]
   go_big_quiet_step (fail)
   refine wpQuiet_nil (laterE hM40 ?_)
   intro xw56 M57 hbxw56 hM57 lM57
   have k58 := k36.below hbxw56 (by omega)
   have k59 := k35.below hbxw56 (by omega)
   have k60 := k37.below hbxw56 (by omega)
   have lo61 := lo38.trans (hbxw56.mono (by omega))
   clear k36 c44 c45 c46 c47 c48 c49 k35 c50 c51 c52 c53 c54 c55 k37 lo38 hbxw56
   go_upto_region 6 with fail
   refine wp_region_lit ?_
   try simp only [pA]
   change wpList _ _ _ ((_ :: _ :: _ :: _ :: _ :: _ :: _ :: _ :: []) ++ (_ :: [])) _ _
   obtain ⟨c62, c63, c64, c65, c66, c67⟩ := r_cells k58
   obtain ⟨c68, c69, c70, c71, c72, c73⟩ := r_cells k59
   refine wpList_prefix (C := fun w' => ∃ x : Later M57 xw56, w' = x.w') _ _ _ _ ⟨⟨_, Below.refl _ _⟩, rfl⟩ ?_
   iterate 3 (go_big_quiet_step (fail))
   refine later_c1 hM57 23 (.tmp 40) rfl rfl und64 rfl c64 (by rfl) ?_; simp only [pA]
   go_big_quiet_step (fail)
   refine later_c1 hM57 23 (.tmp 42) rfl rfl und64 rfl c70 (by rfl) ?_; simp only [pA]
   go_big_quiet_step ((go_at_call 14; exact later_of hM57 _ (fun K hK hKN => Eval_any op true (settleF a).1.lo (settleF b).1.lo _ K hK)))
   go_big_quiet_step ((go_at_call 7; exact later_of hM57 _ (fun K hK hKN => SConst_any (evF op true (settleF a).1.lo (settleF b).1.lo) _ K hK)))
   refine wpQuiet_nil (laterE hM57 ?_)
   intro xw74 M75 hbxw74 hM75 lM75
   have k76 := k58.below hbxw74 (by omega)
   have k77 := k59.below hbxw74 (by omega)
   have k78 := k60.below hbxw74 (by omega)
   have lo79 := lo61.trans (hbxw74.mono (by omega))
   clear k58 c62 c63 c64 c65 c66 c67 k59 c68 c69 c70 c71 c72 c73 k60 lo61 hbxw74
   refine wpl_store rfl 27 (.tmp 8) (.tmp 45) rfl (N + 1 + 1) 6 (rC (cR (evF op true (settleF a).1.lo (settleF b).1.lo))) rfl rfl 27 _ k78 szR (fun j _ => rC_one _ j) ?_
   intro xw80 t81 k82; try simp only [pA]
   have k83 := k76.touch t81 (by omega)
   have k84 := k77.touch t81 (by omega)
   have lo85 := t81.below lo79 (by omega)
   have h86 := t81.sz hM75
   clear k78 k76 k77 lo79 hM75 t81
   obtain ⟨M87, hM87⟩ := sz_some xw80
   have lt_88 := k83.ltN hM87
   have lt_89 := k84.ltN hM87
   have lt_90 := k82.ltN hM87
   go_wp2_with fail
   refine post_r rfl (N + 1 + 1) rfl k82 undR szR rfl ?_
   exact ⟨by rw [ER.out]; first | rfl | (simp only [do_t, H1_.out, H2_.out, bB] <;> rfl), lo85⟩
set_option maxRecDepth 100000 in
set_option maxHeartbeats 4000000 in
theorem Do_falseQ (op : Int) (a : Rn) (b : Rn) (HQ : Hid (okQ op false)) (w : World) (N : Nat) (hN : Sz w N) : Calls Tryd.prog 4 #[(Value.int .i64 op), (Value.bool false), rV a, rV b] w fun e w' => e = .returned (rV (do_f op a b)) ∧ Below N w w' := by
 obtain ⟨rr, er⟩ : ∃ rr, rr = (do_f op a b) := ⟨_, rfl⟩
 rw [← er]
 have ER := hid er
 clear er
 unfold rV
 go_enter Tryd.func4, Tryd.ntmps4
 go_upto_region 1 with (first
  | (refine wpl_box rfl 27 (.tmp 2) rfl 6 _ rfl (N) hN ?_; intro w1 hN1 hb1 hh1)
  | (refine wpl_box rfl 27 (.tmp 3) rfl 6 _ rfl (N + 1) hN1 ?_; intro w2 hN2 hb2 hh2)
  | (refine wpl_alloc rfl 27 rfl 6 (rC zeroR) zeR (N + 1 + 1) hN2 ?_; intro w3 hN3 hb3 hh3)
  | fail)
 have lo0 : Below N w w3 := ((hb1.trans (hb2.mono (by omega))).trans (hb3.mono (by omega)))
 have k1 := ((hh1.below hb2 (by omega)).below hb3 (by omega))
 have k2 := (hh2.below hb3 (by omega))
 have k3 := hh3
 clear hh1 hb1 hh2 hb2 hh3 hb3 hN1 hN2
 go_upto_region 1 with fail
 refine wp_region_later1 ((N + 1 + 1 + 1)) ?_
 try simp only [pA]
 iterate 2 (go_big_quiet_step (fail))
 refine wpQuiet_nil (laterE hN3 ?_)
 intro xw4 M5 hbxw4 hM5 lM5
 have k6 := k1.below hbxw4 (by omega)
 have k7 := k2.below hbxw4 (by omega)
 have k8 := k3.below hbxw4 (by omega)
 have lo9 := lo0.trans (hbxw4.mono (by omega))
 clear k1 k2 k3 lo0 hbxw4
 go_upto_region 2 with fail
 refine wp_region_any (by kernel_rfl) ?_
 replace k6 : Has xw4.drew N 27 6 (rC a) := k6
 replace k7 : Has xw4.drew (N + 1) 27 6 (rC b) := k7
 replace k8 : Has xw4.drew (N + 1 + 1) 27 6 (rC zeroR) := k8
 replace hM5 : Sz xw4.drew M5 := hM5
 replace lo9 : Below N w xw4.drew := lo9.drew
 change wpAny _ _ _ _ _ _ _ (World.drew _)
 generalize xw4.drew = xw10 at *
 refine wpAny_pot (rem := [0, 1, 2, 3]) (FG M5 (fun j => if j = 0 then some (Value.agg (cellsOf (rC a) 6)) else if j = 1 then some (Value.agg (cellsOf (rC (lowR4 a)) 6)) else if j = 2 then some (Value.agg (cellsOf (rC b) 6)) else some (Value.agg (cellsOf (rC (lowR4 b)) 6))) (fun j => (0, 0, fun _ => undef))) (TwoN (fun j => if j = 0 then some (Value.agg (cellsOf (rC a) 6)) else if j = 1 then some (Value.agg (cellsOf (rC (lowR4 a)) 6)) else if j = 2 then some (Value.agg (cellsOf (rC b) 6)) else some (Value.agg (cellsOf (rC (lowR4 b)) 6)))) (Below M5 xw10) _ _ _ _ (by kernel_rfl) (size_dstG (by kernel_rfl)) (Below.refl _ _) ?_ ?_
 ·intro i hi ac wa hI ha hv
  simp only [List.mem_cons, List.not_mem_nil, or_false] at hi
  rcases hi with rfl | rfl | rfl | rfl
  ·exact potg_run rfl rfl (Value.agg (cellsOf (rC a) 6)) rfl (run_rw 27 (.tmp 6) rfl N (ha 6 (not_dstG (by kernel_rfl))) 27 6 _ (Has.below k6 hI (Has.ltN k6 hM5)) undR szR) hM5 hI
  ·obtain ⟨v0, hv0a, hv0b⟩ := hv 0 (by simp) (by kernel_rfl)
   have ev0 := hv0b.val rfl
   subst ev0
   exact potg_cl rfl rfl 5 _ _ rfl #[(Value.agg (cellsOf (rC a) 6)), (Value.int .i64 4)] (by simp only [List.map_toArray, List.map_cons, List.map_nil, (show ac.eval (.tmp 12) = (Value.agg (cellsOf (rC a) 6)) from (hv0a 12 rfl))] <;> rfl) (by kernel_rfl) (Value.agg (cellsOf (rC (lowR4 a)) 6)) (fun K hK => SLow_4 a wa K hK) rfl hM5 hI
  ·exact potg_run rfl rfl (Value.agg (cellsOf (rC b) 6)) rfl (run_rw 27 (.tmp 7) rfl (N + 1) (ha 7 (not_dstG (by kernel_rfl))) 27 6 _ (Has.below k7 hI (Has.ltN k7 hM5)) undR szR) hM5 hI
  ·obtain ⟨v2, hv2a, hv2b⟩ := hv 2 (by simp) (by kernel_rfl)
   have ev2 := hv2b.val rfl
   subst ev2
   exact potg_cl rfl rfl 5 _ _ rfl #[(Value.agg (cellsOf (rC b) 6)), (Value.int .i64 4)] (by simp only [List.map_toArray, List.map_cons, List.map_nil, (show ac.eval (.tmp 14) = (Value.agg (cellsOf (rC b) 6)) from (hv2a 14 rfl))] <;> rfl) (by kernel_rfl) (Value.agg (cellsOf (rC (lowR4 b)) 6)) (fun K hK => SLow_4 b wa K hK) rfl hM5 hI
 ·intro vals w5_11_ hb5_11_ hF hG
  have e_11_0 := (hF 0 (by simp)).val rfl
  have e_11_1 := (hF 1 (by simp)).val rfl
  have e_11_2 := (hF 2 (by simp)).val rfl
  have e_11_3 := (hF 3 (by simp)).val rfl
  clear hF hG
  simp only [List.foldl_cons, List.foldl_nil, dstOf, List.getElem?_toArray, List.getElem?_cons_succ, List.getElem?_cons_zero, Option.bind_some, Act.put, List.setIfInBounds_toArray, List.set_cons_succ, List.set_cons_zero, e_11_0, e_11_1, e_11_2, e_11_3]
  clear e_11_0 e_11_1 e_11_2 e_11_3
  refine wpAny_chain [4, 5] _ _ _ _ (by kernel_rfl) (by decide) ?_
  simp only [List.filterMap_cons, List.filterMap_nil, List.getElem?_toArray, List.getElem?_cons_succ, List.getElem?_cons_zero]
  have k12 := k6.below hb5_11_ (by omega)
  have k13 := k7.below hb5_11_ (by omega)
  have k14 := k8.below hb5_11_ (by omega)
  have lo15 := lo9.trans (hb5_11_.mono (by omega))
  clear k6 k7 k8 lo9 hb5_11_
  refine wpl_store rfl 27 (.tmp 6) (.tmp 13) rfl N 6 (rC (lowR4 a)) rfl rfl 27 _ k12 szR (fun j _ => rC_one _ j) ?_
  intro xw16 t17 k18
  have k19 := k13.touch t17 (by omega)
  have k20 := k14.touch t17 (by omega)
  have lo21 := t17.below lo15 (by omega)
  clear k12 k13 k14 lo15 t17
  refine wpl_store rfl 27 (.tmp 7) (.tmp 15) rfl (N + 1) 6 (rC (lowR4 b)) rfl rfl 27 _ k19 szR (fun j _ => rC_one _ j) ?_
  intro xw22 t23 k24
  have k25 := k18.touch t23 (by omega)
  have k26 := k20.touch t23 (by omega)
  have lo27 := t23.below lo21 (by omega)
  clear k19 k18 k20 lo21 t23
  obtain ⟨M28, hM28⟩ := sz_some xw22
  have lt_29 := k25.ltN hM28
  have lt_30 := k24.ltN hM28
  have lt_31 := k26.ltN hM28
  go_upto_region 3 with fail
  refine wp_region_lit ?_
  try simp only [pA]
  change wpList _ _ _ ((_ :: _ :: _ :: _ :: _ :: []) ++ (_ :: [])) _ _
  refine wpList_prefix (C := fun w' => ∃ x : Later M28 xw22, w' = x.w') _ _ _ _ ⟨⟨_, Below.refl _ _⟩, rfl⟩ ?_
  refine later_row hM28 27 (.tmp 6) rfl (N) rfl 27 6 _ k25 undR szR (by rfl) ?_; simp only [pA]
  go_big_quiet_step ((go_at_call 13; exact later_of hM28 _ (fun K hK hKN => Settle_any (lowR4 a) _ K hK)))
  iterate 3 (go_big_quiet_step (fail))
  refine wpQuiet_nil (laterE hM28 ?_)
  intro xw32 M33 hbxw32 hM33 lM33
  have k34 := k25.below hbxw32 (by omega)
  have k35 := k24.below hbxw32 (by omega)
  have k36 := k26.below hbxw32 (by omega)
  have lo37 := lo27.trans (hbxw32.mono (by omega))
  clear k25 k24 k26 lo27 hbxw32
  refine wpl_store rfl 27 (.tmp 6) (.tmp 19) rfl N 6 (rC (settleF (lowR4 a)).1) rfl rfl 27 _ k34 szR (fun j _ => rC_one _ j) ?_
  intro xw38 t39 k40; try simp only [pA]
  have k41 := k35.touch t39 (by omega)
  have k42 := k36.touch t39 (by omega)
  have lo43 := t39.below lo37 (by omega)
  have h44 := t39.sz hM33
  clear k34 k35 k36 lo37 hM33 t39
  obtain ⟨M45, hM45⟩ := sz_some xw38
  have lt_46 := k40.ltN hM45
  have lt_47 := k41.ltN hM45
  have lt_48 := k42.ltN hM45
  go_upto_region 4 with fail
  refine wp_region_lit ?_
  try simp only [pA]
  change wpList _ _ _ ((_ :: _ :: _ :: _ :: _ :: []) ++ (_ :: [])) _ _
  refine wpList_prefix (C := fun w' => ∃ x : Later M45 xw38, w' = x.w') _ _ _ _ ⟨⟨_, Below.refl _ _⟩, rfl⟩ ?_
  refine later_row hM45 27 (.tmp 7) rfl ((N + 1)) rfl 27 6 _ k41 undR szR (by rfl) ?_; simp only [pA]
  go_big_quiet_step ((go_at_call 13; exact later_of hM45 _ (fun K hK hKN => Settle_any (lowR4 b) _ K hK)))
  iterate 3 (go_big_quiet_step (fail))
  refine wpQuiet_nil (laterE hM45 ?_)
  intro xw49 M50 hbxw49 hM50 lM50
  have k51 := k40.below hbxw49 (by omega)
  have k52 := k41.below hbxw49 (by omega)
  have k53 := k42.below hbxw49 (by omega)
  have lo54 := lo43.trans (hbxw49.mono (by omega))
  clear k40 k41 k42 lo43 hbxw49
  refine wpl_store rfl 27 (.tmp 7) (.tmp 24) rfl (N + 1) 6 (rC (settleF (lowR4 b)).1) rfl rfl 27 _ k52 szR (fun j _ => rC_one _ j) ?_
  intro xw55 t56 k57; try simp only [pA]
  have k58 := k51.touch t56 (by omega)
  have k59 := k53.touch t56 (by omega)
  have lo60 := t56.below lo54 (by omega)
  have h61 := t56.sz hM50
  clear k52 k51 k53 lo54 hM50 t56
  obtain ⟨M62, hM62⟩ := sz_some xw55
  have lt_63 := k58.ltN hM62
  have lt_64 := k57.ltN hM62
  have lt_65 := k59.ltN hM62
  cases h1_ : ((settleF (lowR4 a)).1.lo == (settleF (lowR4 a)).1.hi)
  ·have H1_ := hid h1_
   clear h1_
   go_upto_region 5 with fail
   obtain ⟨c66, c67, c68, c69, c70, c71⟩ := r_cells k58
   obtain ⟨c72, c73, c74, c75, c76, c77⟩ := r_cells k57
   refine wp_region_later1 (M62) ?_
   try simp only [pA]
   go_big_quiet_step (fail)
   refine later_c1 hM62 23 (.tmp 26) rfl rfl und64 rfl c68 (by rfl) ?_; simp only [pA]
   go_big_quiet_step (fail)
   refine later_c1 hM62 23 (.tmp 28) rfl rfl und64 rfl c69 (by rfl) ?_; simp only [pA]
   refine later_b (x := (.tmp 27)) (y := (.tmp 29)) rfl (BinRun.is H1_.out (bin_eql _ (settleF (lowR4 a)).1.lo (settleF (lowR4 a)).1.hi)) rfl rfl (by rfl) ?_; simp only [pA]
   iterate 7 (go_big_quiet_step (fail))
   refine wpQuiet_nil (laterE hM62 ?_)
   intro xw78 M79 hbxw78 hM79 lM79
   have k80 := k58.below hbxw78 (by omega)
   have k81 := k57.below hbxw78 (by omega)
   have k82 := k59.below hbxw78 (by omega)
   have lo83 := lo60.trans (hbxw78.mono (by omega))
   clear k58 c66 c67 c68 c69 c70 c71 k57 c72 c73 c74 c75 c76 c77 k59 lo60 hbxw78
   go_upto_region 7 with fail
   refine wp_region_lit ?_
   try simp only [pA]
   change wpList _ _ _ ((_ :: _ :: _ :: _ :: _ :: []) ++ (_ :: _ :: [])) _ _
   refine wpList_prefix (C := fun w' => ∃ x : Later M79 xw78, w' = x.w') _ _ _ _ ⟨⟨_, Below.refl _ _⟩, rfl⟩ ?_
   iterate 2 (go_big_quiet_step (fail))
   refine later_row hM79 27 (.tmp 6) rfl (N) rfl 27 6 _ k80 undR szR (by rfl) ?_; simp only [pA]
   refine later_row hM79 27 (.tmp 7) rfl ((N + 1)) rfl 27 6 _ k81 undR szR (by rfl) ?_; simp only [pA]
   go_big_quiet_step ((go_at_call 15; exact later_of hM79 _ (fun K hK hKN => Reck_q op false (settleF (lowR4 a)).1 (settleF (lowR4 b)).1 HQ _ K hK)))
   refine wpQuiet_nil (laterE hM79 ?_)
   intro xw84 M85 hbxw84 hM85 lM85
   have k86 := k80.below hbxw84 (by omega)
   have k87 := k81.below hbxw84 (by omega)
   have k88 := k82.below hbxw84 (by omega)
   have lo89 := lo83.trans (hbxw84.mono (by omega))
   clear k80 k81 k82 lo83 hbxw84
   obtain ⟨b_xw90, eb_xw90⟩ : ∃ b_xw90, b_xw90 = M85 := ⟨_, rfl⟩
   have hzb_xw90 : Sz xw84 b_xw90 := by rw [eb_xw90]; exact hM85
   have lob_xw90 : M85 ≤ b_xw90 := by omega
   have upb_xw90 : b_xw90 ≤ M85 := by omega
   clear eb_xw90
   refine wpl_alloc rfl 27 rfl 6 (rC zeroR) zeR b_xw90 hzb_xw90 ?_
   intro xw90 hMxw90 hbxw90 hhxw90; simp only [pA]
   have k91 := k86.below hbxw90 (by omega)
   have k92 := k87.below hbxw90 (by omega)
   have k93 := k88.below hbxw90 (by omega)
   have lo94 := lo89.trans (hbxw90.mono (by omega))
   clear k86 k87 k88 lo89 hbxw90 hzb_xw90
   obtain ⟨M95, eM95⟩ : ∃ M95, M95 = b_xw90 + 1 := ⟨_, rfl⟩
   rw [← eM95] at hMxw90
   have loM95 : b_xw90 + 1 ≤ M95 := by omega
   have upM95 : M95 ≤ b_xw90 + 1 := by omega
   clear eM95
   refine wpl_store rfl 27 (.tmp 9) (.tmp 50) rfl b_xw90 6 (rC (reckF op false (settleF (lowR4 a)).1 (settleF (lowR4 b)).1)) rfl rfl 27 _ hhxw90 szR (fun j _ => rC_one _ j) ?_
   intro xw96 t97 k98; try simp only [pA]
   have k99 := k91.touch t97 (by omega)
   have k100 := k92.touch t97 (by omega)
   have k101 := k93.touch t97 (by omega)
   have lo102 := t97.below lo94 (by omega)
   have h103 := t97.sz hMxw90
   clear hhxw90 k91 k92 k93 lo94 hMxw90 t97
   obtain ⟨M104, hM104⟩ := sz_some xw96
   have lt_105 := k99.ltN hM104
   have lt_106 := k100.ltN hM104
   have lt_107 := k101.ltN hM104
   have lt_108 := k98.ltN hM104
   go_upto_region 8 with fail
   refine wp_region_later1 (M104) ?_
   try simp only [pA]
   iterate 2 (go_big_quiet_step (fail))
   refine wpQuiet_nil (laterE hM104 ?_)
   intro xw109 M110 hbxw109 hM110 lM110
   have k111 := k99.below hbxw109 (by omega)
   have k112 := k100.below hbxw109 (by omega)
   have k113 := k101.below hbxw109 (by omega)
   have k114 := k98.below hbxw109 (by omega)
   have lo115 := lo102.trans (hbxw109.mono (by omega))
   clear k99 k100 k101 k98 lo102 hbxw109
   go_upto_region 9 with fail
   refine wp_region_lit ?_
   try simp only [pA]
   change wpList _ _ _ ((_ :: _ :: []) ++ (_ :: [])) _ _
   refine wpList_prefix (C := fun w' => ∃ x : Later M110 xw109, w' = x.w') _ _ _ _ ⟨⟨_, Below.refl _ _⟩, rfl⟩ ?_
   refine later_row hM110 27 (.tmp 9) rfl (b_xw90) rfl 27 6 _ k114 undR szR (by rfl) ?_; simp only [pA]
   go_big_quiet_step ((go_at_call 5; exact later_of hM110 _ (fun K hK hKN => SLow_4 (reckF op false (settleF (lowR4 a)).1 (settleF (lowR4 b)).1) _ K hK)))
   refine wpQuiet_nil (laterE hM110 ?_)
   intro xw116 M117 hbxw116 hM117 lM117
   have k118 := k111.below hbxw116 (by omega)
   have k119 := k112.below hbxw116 (by omega)
   have k120 := k113.below hbxw116 (by omega)
   have k121 := k114.below hbxw116 (by omega)
   have lo122 := lo115.trans (hbxw116.mono (by omega))
   clear k111 k112 k113 k114 lo115 hbxw116
   refine wpl_store rfl 27 (.tmp 8) (.tmp 54) rfl (N + 1 + 1) 6 (rC (lowR4 (reckF op false (settleF (lowR4 a)).1 (settleF (lowR4 b)).1))) rfl rfl 27 _ k120 szR (fun j _ => rC_one _ j) ?_
   intro xw123 t124 k125; try simp only [pA]
   have k126 := k118.touch t124 (by omega)
   have k127 := k119.touch t124 (by omega)
   have k128 := k121.touch t124 (by omega)
   have lo129 := t124.below lo122 (by omega)
   have h130 := t124.sz hM117
   clear k120 k118 k119 k121 lo122 hM117 t124
   obtain ⟨M131, hM131⟩ := sz_some xw123
   have lt_132 := k126.ltN hM131
   have lt_133 := k127.ltN hM131
   have lt_134 := k125.ltN hM131
   have lt_135 := k128.ltN hM131
   go_wp2_with fail
   refine post_r rfl (N + 1 + 1) rfl k125 undR szR rfl ?_
   exact ⟨by rw [ER.out]; first | rfl | (simp only [do_f, H1_.out, bB] <;> rfl), lo129⟩
  ·have H1_ := hid h1_
   clear h1_
   cases h2_ : ((settleF (lowR4 b)).1.lo == (settleF (lowR4 b)).1.hi)
   ·have H2_ := hid h2_
    clear h2_
    go_upto_region 5 with fail
    obtain ⟨c66, c67, c68, c69, c70, c71⟩ := r_cells k58
    obtain ⟨c72, c73, c74, c75, c76, c77⟩ := r_cells k57
    refine wp_region_later1 (M62) ?_
    try simp only [pA]
    go_big_quiet_step (fail)
    refine later_c1 hM62 23 (.tmp 26) rfl rfl und64 rfl c68 (by rfl) ?_; simp only [pA]
    go_big_quiet_step (fail)
    refine later_c1 hM62 23 (.tmp 28) rfl rfl und64 rfl c69 (by rfl) ?_; simp only [pA]
    refine later_b (x := (.tmp 27)) (y := (.tmp 29)) rfl (BinRun.is H1_.out (bin_eql _ (settleF (lowR4 a)).1.lo (settleF (lowR4 a)).1.hi)) rfl rfl (by rfl) ?_; simp only [pA]
    iterate 2 (go_big_quiet_step (fail))
    refine later_c1 hM62 23 (.tmp 32) rfl rfl und64 rfl c74 (by rfl) ?_; simp only [pA]
    go_big_quiet_step (fail)
    refine later_c1 hM62 23 (.tmp 34) rfl rfl und64 rfl c75 (by rfl) ?_; simp only [pA]
    refine later_b (x := (.tmp 33)) (y := (.tmp 35)) rfl (BinRun.is H2_.out (bin_eql _ (settleF (lowR4 b)).1.lo (settleF (lowR4 b)).1.hi)) rfl rfl (by rfl) ?_; simp only [pA]
    go_big_quiet_step (fail)
    refine wpQuiet_nil (laterE hM62 ?_)
    intro xw78 M79 hbxw78 hM79 lM79
    have k80 := k58.below hbxw78 (by omega)
    have k81 := k57.below hbxw78 (by omega)
    have k82 := k59.below hbxw78 (by omega)
    have lo83 := lo60.trans (hbxw78.mono (by omega))
    clear k58 c66 c67 c68 c69 c70 c71 k57 c72 c73 c74 c75 c76 c77 k59 lo60 hbxw78
    go_upto_region 7 with fail
    refine wp_region_lit ?_
    try simp only [pA]
    change wpList _ _ _ ((_ :: _ :: _ :: _ :: _ :: []) ++ (_ :: _ :: [])) _ _
    refine wpList_prefix (C := fun w' => ∃ x : Later M79 xw78, w' = x.w') _ _ _ _ ⟨⟨_, Below.refl _ _⟩, rfl⟩ ?_
    iterate 2 (go_big_quiet_step (fail))
    refine later_row hM79 27 (.tmp 6) rfl (N) rfl 27 6 _ k80 undR szR (by rfl) ?_; simp only [pA]
    refine later_row hM79 27 (.tmp 7) rfl ((N + 1)) rfl 27 6 _ k81 undR szR (by rfl) ?_; simp only [pA]
    go_big_quiet_step ((go_at_call 15; exact later_of hM79 _ (fun K hK hKN => Reck_q op false (settleF (lowR4 a)).1 (settleF (lowR4 b)).1 HQ _ K hK)))
    refine wpQuiet_nil (laterE hM79 ?_)
    intro xw84 M85 hbxw84 hM85 lM85
    have k86 := k80.below hbxw84 (by omega)
    have k87 := k81.below hbxw84 (by omega)
    have k88 := k82.below hbxw84 (by omega)
    have lo89 := lo83.trans (hbxw84.mono (by omega))
    clear k80 k81 k82 lo83 hbxw84
    obtain ⟨b_xw90, eb_xw90⟩ : ∃ b_xw90, b_xw90 = M85 := ⟨_, rfl⟩
    have hzb_xw90 : Sz xw84 b_xw90 := by rw [eb_xw90]; exact hM85
    have lob_xw90 : M85 ≤ b_xw90 := by omega
    have upb_xw90 : b_xw90 ≤ M85 := by omega
    clear eb_xw90
    refine wpl_alloc rfl 27 rfl 6 (rC zeroR) zeR b_xw90 hzb_xw90 ?_
    intro xw90 hMxw90 hbxw90 hhxw90; simp only [pA]
    have k91 := k86.below hbxw90 (by omega)
    have k92 := k87.below hbxw90 (by omega)
    have k93 := k88.below hbxw90 (by omega)
    have lo94 := lo89.trans (hbxw90.mono (by omega))
    clear k86 k87 k88 lo89 hbxw90 hzb_xw90
    obtain ⟨M95, eM95⟩ : ∃ M95, M95 = b_xw90 + 1 := ⟨_, rfl⟩
    rw [← eM95] at hMxw90
    have loM95 : b_xw90 + 1 ≤ M95 := by omega
    have upM95 : M95 ≤ b_xw90 + 1 := by omega
    clear eM95
    refine wpl_store rfl 27 (.tmp 9) (.tmp 50) rfl b_xw90 6 (rC (reckF op false (settleF (lowR4 a)).1 (settleF (lowR4 b)).1)) rfl rfl 27 _ hhxw90 szR (fun j _ => rC_one _ j) ?_
    intro xw96 t97 k98; try simp only [pA]
    have k99 := k91.touch t97 (by omega)
    have k100 := k92.touch t97 (by omega)
    have k101 := k93.touch t97 (by omega)
    have lo102 := t97.below lo94 (by omega)
    have h103 := t97.sz hMxw90
    clear hhxw90 k91 k92 k93 lo94 hMxw90 t97
    obtain ⟨M104, hM104⟩ := sz_some xw96
    have lt_105 := k99.ltN hM104
    have lt_106 := k100.ltN hM104
    have lt_107 := k101.ltN hM104
    have lt_108 := k98.ltN hM104
    go_upto_region 8 with fail
    refine wp_region_later1 (M104) ?_
    try simp only [pA]
    iterate 2 (go_big_quiet_step (fail))
    refine wpQuiet_nil (laterE hM104 ?_)
    intro xw109 M110 hbxw109 hM110 lM110
    have k111 := k99.below hbxw109 (by omega)
    have k112 := k100.below hbxw109 (by omega)
    have k113 := k101.below hbxw109 (by omega)
    have k114 := k98.below hbxw109 (by omega)
    have lo115 := lo102.trans (hbxw109.mono (by omega))
    clear k99 k100 k101 k98 lo102 hbxw109
    go_upto_region 9 with fail
    refine wp_region_lit ?_
    try simp only [pA]
    change wpList _ _ _ ((_ :: _ :: []) ++ (_ :: [])) _ _
    refine wpList_prefix (C := fun w' => ∃ x : Later M110 xw109, w' = x.w') _ _ _ _ ⟨⟨_, Below.refl _ _⟩, rfl⟩ ?_
    refine later_row hM110 27 (.tmp 9) rfl (b_xw90) rfl 27 6 _ k114 undR szR (by rfl) ?_; simp only [pA]
    go_big_quiet_step ((go_at_call 5; exact later_of hM110 _ (fun K hK hKN => SLow_4 (reckF op false (settleF (lowR4 a)).1 (settleF (lowR4 b)).1) _ K hK)))
    refine wpQuiet_nil (laterE hM110 ?_)
    intro xw116 M117 hbxw116 hM117 lM117
    have k118 := k111.below hbxw116 (by omega)
    have k119 := k112.below hbxw116 (by omega)
    have k120 := k113.below hbxw116 (by omega)
    have k121 := k114.below hbxw116 (by omega)
    have lo122 := lo115.trans (hbxw116.mono (by omega))
    clear k111 k112 k113 k114 lo115 hbxw116
    refine wpl_store rfl 27 (.tmp 8) (.tmp 54) rfl (N + 1 + 1) 6 (rC (lowR4 (reckF op false (settleF (lowR4 a)).1 (settleF (lowR4 b)).1))) rfl rfl 27 _ k120 szR (fun j _ => rC_one _ j) ?_
    intro xw123 t124 k125; try simp only [pA]
    have k126 := k118.touch t124 (by omega)
    have k127 := k119.touch t124 (by omega)
    have k128 := k121.touch t124 (by omega)
    have lo129 := t124.below lo122 (by omega)
    have h130 := t124.sz hM117
    clear k120 k118 k119 k121 lo122 hM117 t124
    obtain ⟨M131, hM131⟩ := sz_some xw123
    have lt_132 := k126.ltN hM131
    have lt_133 := k127.ltN hM131
    have lt_134 := k125.ltN hM131
    have lt_135 := k128.ltN hM131
    go_wp2_with fail
    refine post_r rfl (N + 1 + 1) rfl k125 undR szR rfl ?_
    exact ⟨by rw [ER.out]; first | rfl | (simp only [do_f, H1_.out, H2_.out, bB] <;> rfl), lo129⟩
   ·have H2_ := hid h2_
    clear h2_
    go_upto_region 5 with fail
    obtain ⟨c66, c67, c68, c69, c70, c71⟩ := r_cells k58
    obtain ⟨c72, c73, c74, c75, c76, c77⟩ := r_cells k57
    refine wp_region_later1 (M62) ?_
    try simp only [pA]
    go_big_quiet_step (fail)
    refine later_c1 hM62 23 (.tmp 26) rfl rfl und64 rfl c68 (by rfl) ?_; simp only [pA]
    go_big_quiet_step (fail)
    refine later_c1 hM62 23 (.tmp 28) rfl rfl und64 rfl c69 (by rfl) ?_; simp only [pA]
    refine later_b (x := (.tmp 27)) (y := (.tmp 29)) rfl (BinRun.is H1_.out (bin_eql _ (settleF (lowR4 a)).1.lo (settleF (lowR4 a)).1.hi)) rfl rfl (by rfl) ?_; simp only [pA]
    iterate 2 (go_big_quiet_step (fail))
    refine later_c1 hM62 23 (.tmp 32) rfl rfl und64 rfl c74 (by rfl) ?_; simp only [pA]
    go_big_quiet_step (fail)
    refine later_c1 hM62 23 (.tmp 34) rfl rfl und64 rfl c75 (by rfl) ?_; simp only [pA]
    refine later_b (x := (.tmp 33)) (y := (.tmp 35)) rfl (BinRun.is H2_.out (bin_eql _ (settleF (lowR4 b)).1.lo (settleF (lowR4 b)).1.hi)) rfl rfl (by rfl) ?_; simp only [pA]
    go_big_quiet_step (fail)
    refine wpQuiet_nil (laterE hM62 ?_)
    intro xw78 M79 hbxw78 hM79 lM79
    have k80 := k58.below hbxw78 (by omega)
    have k81 := k57.below hbxw78 (by omega)
    have k82 := k59.below hbxw78 (by omega)
    have lo83 := lo60.trans (hbxw78.mono (by omega))
    clear k58 c66 c67 c68 c69 c70 c71 k57 c72 c73 c74 c75 c76 c77 k59 lo60 hbxw78
    go_upto_region 6 with fail
    refine wp_region_lit ?_
    try simp only [pA]
    change wpList _ _ _ ((_ :: _ :: _ :: _ :: _ :: _ :: _ :: _ :: []) ++ (_ :: [])) _ _
    obtain ⟨c84, c85, c86, c87, c88, c89⟩ := r_cells k80
    obtain ⟨c90, c91, c92, c93, c94, c95⟩ := r_cells k81
    refine wpList_prefix (C := fun w' => ∃ x : Later M79 xw78, w' = x.w') _ _ _ _ ⟨⟨_, Below.refl _ _⟩, rfl⟩ ?_
    iterate 3 (go_big_quiet_step (fail))
    refine later_c1 hM79 23 (.tmp 40) rfl rfl und64 rfl c86 (by rfl) ?_; simp only [pA]
    go_big_quiet_step (fail)
    refine later_c1 hM79 23 (.tmp 42) rfl rfl und64 rfl c92 (by rfl) ?_; simp only [pA]
    go_big_quiet_step ((go_at_call 14; exact later_of hM79 _ (fun K hK hKN => Eval_any op false (settleF (lowR4 a)).1.lo (settleF (lowR4 b)).1.lo _ K hK)))
    go_big_quiet_step ((go_at_call 7; exact later_of hM79 _ (fun K hK hKN => SConst_any (evF op false (settleF (lowR4 a)).1.lo (settleF (lowR4 b)).1.lo) _ K hK)))
    refine wpQuiet_nil (laterE hM79 ?_)
    intro xw96 M97 hbxw96 hM97 lM97
    have k98 := k80.below hbxw96 (by omega)
    have k99 := k81.below hbxw96 (by omega)
    have k100 := k82.below hbxw96 (by omega)
    have lo101 := lo83.trans (hbxw96.mono (by omega))
    clear k80 c84 c85 c86 c87 c88 c89 k81 c90 c91 c92 c93 c94 c95 k82 lo83 hbxw96
    refine wpl_store rfl 27 (.tmp 8) (.tmp 45) rfl (N + 1 + 1) 6 (rC (cR (evF op false (settleF (lowR4 a)).1.lo (settleF (lowR4 b)).1.lo))) rfl rfl 27 _ k100 szR (fun j _ => rC_one _ j) ?_
    intro xw102 t103 k104; try simp only [pA]
    have k105 := k98.touch t103 (by omega)
    have k106 := k99.touch t103 (by omega)
    have lo107 := t103.below lo101 (by omega)
    have h108 := t103.sz hM97
    clear k100 k98 k99 lo101 hM97 t103
    obtain ⟨M109, hM109⟩ := sz_some xw102
    have lt_110 := k105.ltN hM109
    have lt_111 := k106.ltN hM109
    have lt_112 := k104.ltN hM109
    go_wp2_with fail
    refine post_r rfl (N + 1 + 1) rfl k104 undR szR rfl ?_
    exact ⟨by rw [ER.out]; first | rfl | (simp only [do_f, H1_.out, H2_.out, bB] <;> rfl), lo107⟩
theorem Do_q (op : Int) (l : Bool) (a b : Rn) (h : okQ op l) (w : World) (N : Nat) (hN : Sz w N) : Calls Tryd.prog 4 #[.int .i64 op, .bool l, rV a, rV b] w fun e w' => e = .returned (rV (doR op l a b)) ∧ Below N w w' := by
  cases l
  · exact Do_falseQ op a b (hid h) w N hN
  · exact Do_trueQ op a b (hid h) w N hN
theorem reck_longQ {a b : Rn} {x y : W} (ha : In a x) (hb : In b y) (op : Int) (h : okQ op true) : In (reckF op true a b) (evL op x y) := by
  rcases h with rfl | rfl | rfl | ⟨rfl, _⟩
  · exact added_in ha hb
  · exact subbed_in ha hb
  · exact and_in ha hb
  · exact shRl_in (ev := fun x k => x <<< k) (fun n hn => sh6_in ha hn) hb
theorem reck_shortQ {a b : Rn} {x y : W} (ha : In a (lo32 x)) (hb : In b (lo32 y)) (op : Int) (h : okQ op false) : ∃ z, In (reckF op false a b) z ∧ lo32 z = evS op x y := by
  rcases h with rfl | rfl | rfl | ⟨_, h⟩
  · exact ⟨_, added_in ha hb, rfl⟩
  · exact ⟨_, subbed_in ha hb, rfl⟩
  · exact ⟨_, and_in ha hb, rfl⟩
  · cases h
theorem doR_inQ {a b : Rn} {x y : W} (ha : In a x) (hb : In b y) (op : Int) (l : Bool) (h : okQ op l) : In (doR op l a b) (evF op l x y) := by
  cases l
  · show In (do_f op a b) (evS op x y)
    obtain ⟨_, sa⟩ := settle_in (lowR4_in ha); obtain ⟨_, sb⟩ := settle_in (lowR4_in hb)
    obtain ⟨z, hz, ez⟩ := reck_shortQ sa sb op h
    have hlow := lowR4_in hz
    rw [ez] at hlow
    unfold do_f
    cases e1 : ((settleF (lowR4 a)).1.lo == (settleF (lowR4 a)).1.hi) <;> cases e2 : ((settleF (lowR4 b)).1.lo == (settleF (lowR4 b)).1.hi) <;> simp only [cond_true, cond_false]
    · exact hlow
    · exact hlow
    · exact hlow
    · rw [← one_of sa e1, ← one_of sb e2]
      show In (cR (evS op (lo32 x) (lo32 y))) _
      rw [evS_lo]; exact cR_in _
  · show In (do_t op a b) (evL op x y)
    obtain ⟨_, sa⟩ := settle_in ha; obtain ⟨_, sb⟩ := settle_in hb
    have hr := tight_in (reck_longQ sa sb op h)
    unfold do_t
    cases e1 : ((settleF a).1.lo == (settleF a).1.hi) <;> cases e2 : ((settleF b).1.lo == (settleF b).1.hi) <;> simp only [cond_true, cond_false]
    · exact hr
    · exact hr
    · exact hr
    · rw [← one_of sa e1, ← one_of sb e2]; exact cR_in _
end Go.Proofs.YtbbfdehipgkjmaaDoor
