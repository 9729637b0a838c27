/- Contracts of operations of ranges: sums, differences, quotients, rests, bits. -/
import Derived.Test.YtbbfdehipgkjmaaDoorSe1
namespace Go.Proofs.YtbbfdehipgkjmaaDoor
open Go Go.RowKit
def addedR (a : Rn) (b : Rn) : Rn :=
 (upFrom (upFrom (obR (tAdd a.b b.b)) (a.lo + b.lo) (a.hi - a.lo) (b.hi - b.lo)) (a.sl + b.sl) (a.sh - a.sl) (b.sh - b.sl))
set_option maxRecDepth 100000 in
set_option maxHeartbeats 4000000 in
theorem Added_any (a : Rn) (b : Rn) (w : World) (N : Nat) (hN : Sz w N) : Calls Tryd.prog 39 #[rV a, rV b] w fun e w' => e = .returned (rV (addedR a b)) ∧ Below N w w' := by
 obtain ⟨rr, er⟩ : ∃ rr, rr = (addedR a b) := ⟨_, rfl⟩
 rw [← er]
 have ER := hid er
 clear er
 unfold rV
 go_enter Tryd.func39, Tryd.ntmps39
 go_upto_region 1 with (first
  | (refine wpl_box rfl 27 (.tmp 0) rfl 6 _ rfl (N) hN ?_; intro w1 hN1 hb1 hh1)
  | (refine wpl_box rfl 27 (.tmp 1) rfl 6 _ rfl (N + 1) hN1 ?_; intro w2 hN2 hb2 hh2)
  | (refine wpl_alloc rfl 27 rfl 6 (rC zeroR) zeR (N + 1 + 1) hN2 ?_; intro w3 hN3 hb3 hh3)
  | fail)
 have lo0 : Below N w w3 := ((hb1.trans (hb2.mono (by omega))).trans (hb3.mono (by omega)))
 have k1 := ((hh1.below hb2 (by omega)).below hb3 (by omega))
 have k2 := (hh2.below hb3 (by omega))
 have k3 := hh3
 clear hh1 hb1 hh2 hb2 hh3 hb3 hN1 hN2
 go_upto_region 1 with fail
 refine wp_region_lit ?_
 try simp only [pA]
 change wpList _ _ _ ((_ :: _ :: _ :: _ :: _ :: _ :: []) ++ (_ :: _ :: [])) _ _
 obtain ⟨c4, c5, c6, c7, c8, c9⟩ := r_cells k1
 obtain ⟨c10, c11, c12, c13, c14, c15⟩ := r_cells k2
 refine wpList_prefix (C := fun w' => ∃ x : Later (N + 1 + 1 + 1) w3, w' = x.w') _ _ _ _ ⟨⟨_, Below.refl _ _⟩, rfl⟩ ?_
 go_big_quiet_step (fail)
 refine later_val (fun qq => run_bits 25 (.tmp 6) rfl N rfl 27 (Later.has hN3 k1 qq) undT szT) (by rfl) ?_; simp only [pA]
 go_big_quiet_step (fail)
 refine later_val (fun qq => run_bits 25 (.tmp 8) rfl (N + 1) rfl 27 (Later.has hN3 k2 qq) undT szT) (by rfl) ?_; simp only [pA]
 go_big_quiet_step ((go_at_call 62; exact later_of hN3 _ (fun K hK hKN => Add_any a.b b.b _ K hK)))
 go_big_quiet_step ((go_at_call 17; exact later_of hN3 _ (fun K hK hKN => OfBits_any (tAdd a.b b.b) _ K hK)))
 refine wpQuiet_nil (laterE hN3 ?_)
 intro xw16 M17 hbxw16 hM17 lM17
 have k18 := k1.below hbxw16 (by omega)
 have k19 := k2.below hbxw16 (by omega)
 have k20 := k3.below hbxw16 (by omega)
 have lo21 := lo0.trans (hbxw16.mono (by omega))
 clear k1 c4 c5 c6 c7 c8 c9 k2 c10 c11 c12 c13 c14 c15 k3 lo0 hbxw16
 obtain ⟨b_xw22, eb_xw22⟩ : ∃ b_xw22, b_xw22 = M17 := ⟨_, rfl⟩
 have hzb_xw22 : Sz xw16 b_xw22 := by rw [eb_xw22]; exact hM17
 have lob_xw22 : M17 ≤ b_xw22 := by omega
 have upb_xw22 : b_xw22 ≤ M17 := by omega
 clear eb_xw22
 refine wpl_alloc rfl 27 rfl 6 (rC zeroR) zeR b_xw22 hzb_xw22 ?_
 intro xw22 hMxw22 hbxw22 hhxw22; simp only [pA]
 have k23 := k18.below hbxw22 (by omega)
 have k24 := k19.below hbxw22 (by omega)
 have k25 := k20.below hbxw22 (by omega)
 have lo26 := lo21.trans (hbxw22.mono (by omega))
 clear k18 k19 k20 lo21 hbxw22 hzb_xw22
 obtain ⟨M27, eM27⟩ : ∃ M27, M27 = b_xw22 + 1 := ⟨_, rfl⟩
 rw [← eM27] at hMxw22
 have loM27 : b_xw22 + 1 ≤ M27 := by omega
 have upM27 : M27 ≤ b_xw22 + 1 := by omega
 clear eM27
 refine wpl_store rfl 27 (.tmp 5) (.tmp 11) rfl b_xw22 6 (rC (obR (tAdd a.b b.b))) rfl rfl 27 _ hhxw22 szR (fun j _ => rC_one _ j) ?_
 intro xw28 t29 k30; try simp only [pA]
 have k31 := k23.touch t29 (by omega)
 have k32 := k24.touch t29 (by omega)
 have k33 := k25.touch t29 (by omega)
 have lo34 := t29.below lo26 (by omega)
 have h35 := t29.sz hMxw22
 clear hhxw22 k23 k24 k25 lo26 hMxw22 t29
 obtain ⟨M36, hM36⟩ := sz_some xw28
 have lt_37 := k31.ltN hM36
 have lt_38 := k32.ltN hM36
 have lt_39 := k33.ltN hM36
 have lt_40 := k30.ltN hM36
 go_upto_region 2 with fail
 refine wp_region_lit ?_
 try simp only [pA]
 change wpList _ _ _ ((_ :: _ :: _ :: _ :: _ :: _ :: _ :: _ :: _ :: _ :: _ :: _ :: _ :: _ :: _ :: _ :: _ :: []) ++ (_ :: [])) _ _
 obtain ⟨c41, c42, c43, c44, c45, c46⟩ := r_cells k31
 obtain ⟨c47, c48, c49, c50, c51, c52⟩ := r_cells k32
 refine wpList_prefix (C := fun w' => ∃ x : Later M36 xw28, w' = x.w') _ _ _ _ ⟨⟨_, Below.refl _ _⟩, rfl⟩ ?_
 refine later_row hM36 27 (.tmp 5) rfl (b_xw22) rfl 27 6 _ k30 undR szR (by rfl) ?_; simp only [pA]
 go_big_quiet_step (fail)
 refine later_c1 hM36 23 (.tmp 13) rfl rfl und64 rfl c43 (by rfl) ?_; simp only [pA]
 go_big_quiet_step (fail)
 refine later_c1 hM36 23 (.tmp 15) rfl rfl und64 rfl c49 (by rfl) ?_; simp only [pA]
 refine later_b (x := (.tmp 14)) (y := (.tmp 16)) rfl (bin_add _ a.lo b.lo) rfl rfl (by rfl) ?_; simp only [pA]
 go_big_quiet_step (fail)
 refine later_c1 hM36 23 (.tmp 18) rfl rfl und64 rfl c44 (by rfl) ?_; simp only [pA]
 go_big_quiet_step (fail)
 refine later_c1 hM36 23 (.tmp 20) rfl rfl und64 rfl c43 (by rfl) ?_; simp only [pA]
 refine later_b (x := (.tmp 19)) (y := (.tmp 21)) rfl (bin_sub _ a.hi a.lo) rfl rfl (by rfl) ?_; simp only [pA]
 go_big_quiet_step (fail)
 refine later_c1 hM36 23 (.tmp 23) rfl rfl und64 rfl c50 (by rfl) ?_; simp only [pA]
 go_big_quiet_step (fail)
 refine later_c1 hM36 23 (.tmp 25) rfl rfl und64 rfl c49 (by rfl) ?_; simp only [pA]
 refine later_b (x := (.tmp 24)) (y := (.tmp 26)) rfl (bin_sub _ b.hi b.lo) rfl rfl (by rfl) ?_; simp only [pA]
 go_big_quiet_step ((go_at_call 63; exact later_of hM36 _ (fun K hK hKN => UpFrom_any (obR (tAdd a.b b.b)) (a.lo + b.lo) (a.hi - a.lo) (b.hi - b.lo) _ K hK)))
 refine wpQuiet_nil (laterE hM36 ?_)
 intro xw53 M54 hbxw53 hM54 lM54
 have k55 := k31.below hbxw53 (by omega)
 have k56 := k32.below hbxw53 (by omega)
 have k57 := k33.below hbxw53 (by omega)
 have k58 := k30.below hbxw53 (by omega)
 have lo59 := lo34.trans (hbxw53.mono (by omega))
 clear k31 c41 c42 c43 c44 c45 c46 k32 c47 c48 c49 c50 c51 c52 k33 k30 lo34 hbxw53
 refine wpl_store rfl 27 (.tmp 5) (.tmp 28) rfl b_xw22 6 (rC (upFrom (obR (tAdd a.b b.b)) (a.lo + b.lo) (a.hi - a.lo) (b.hi - b.lo))) rfl rfl 27 _ k58 szR (fun j _ => rC_one _ j) ?_
 intro xw60 t61 k62; try simp only [pA]
 have k63 := k55.touch t61 (by omega)
 have k64 := k56.touch t61 (by omega)
 have k65 := k57.touch t61 (by omega)
 have lo66 := t61.below lo59 (by omega)
 have h67 := t61.sz hM54
 clear k58 k55 k56 k57 lo59 hM54 t61
 obtain ⟨M68, hM68⟩ := sz_some xw60
 have lt_69 := k63.ltN hM68
 have lt_70 := k64.ltN hM68
 have lt_71 := k65.ltN hM68
 have lt_72 := k62.ltN hM68
 go_upto_region 3 with fail
 refine wp_region_lit ?_
 try simp only [pA]
 change wpList _ _ _ ((_ :: _ :: _ :: _ :: _ :: _ :: _ :: _ :: _ :: _ :: _ :: _ :: _ :: _ :: _ :: _ :: _ :: _ :: _ :: _ :: []) ++ (_ :: [])) _ _
 obtain ⟨c73, c74, c75, c76, c77, c78⟩ := r_cells k63
 obtain ⟨c79, c80, c81, c82, c83, c84⟩ := r_cells k64
 refine wpList_prefix (C := fun w' => ∃ x : Later M68 xw60, w' = x.w') _ _ _ _ ⟨⟨_, Below.refl _ _⟩, rfl⟩ ?_
 refine later_row hM68 27 (.tmp 5) rfl (b_xw22) rfl 27 6 _ k62 undR szR (by rfl) ?_; simp only [pA]
 go_big_quiet_step (fail)
 refine later_c1 hM68 2 (.tmp 30) rfl rfl undI64 rfl c77 (by rfl) ?_; simp only [pA]
 go_big_quiet_step (fail)
 refine later_c1 hM68 2 (.tmp 32) rfl rfl undI64 rfl c83 (by rfl) ?_; simp only [pA]
 refine later_b (x := (.tmp 31)) (y := (.tmp 33)) rfl (bin_sadd _ a.sl b.sl) rfl rfl (by rfl) ?_; simp only [pA]
 refine later_val (fun q => run_su (x := (.tmp 34)) rfl undI64 und64 rfl q.w') (by rfl) ?_; simp only [pA]
 go_big_quiet_step (fail)
 refine later_c1 hM68 2 (.tmp 36) rfl rfl undI64 rfl c78 (by rfl) ?_; simp only [pA]
 go_big_quiet_step (fail)
 refine later_c1 hM68 2 (.tmp 38) rfl rfl undI64 rfl c77 (by rfl) ?_; simp only [pA]
 refine later_b (x := (.tmp 37)) (y := (.tmp 39)) rfl (bin_ssub _ a.sh a.sl) rfl rfl (by rfl) ?_; simp only [pA]
 refine later_val (fun q => run_su (x := (.tmp 40)) rfl undI64 und64 rfl q.w') (by rfl) ?_; simp only [pA]
 go_big_quiet_step (fail)
 refine later_c1 hM68 2 (.tmp 42) rfl rfl undI64 rfl c84 (by rfl) ?_; simp only [pA]
 go_big_quiet_step (fail)
 refine later_c1 hM68 2 (.tmp 44) rfl rfl undI64 rfl c83 (by rfl) ?_; simp only [pA]
 refine later_b (x := (.tmp 43)) (y := (.tmp 45)) rfl (bin_ssub _ b.sh b.sl) rfl rfl (by rfl) ?_; simp only [pA]
 refine later_val (fun q => run_su (x := (.tmp 46)) rfl undI64 und64 rfl q.w') (by rfl) ?_; simp only [pA]
 go_big_quiet_step ((go_at_call 63; exact later_of hM68 _ (fun K hK hKN => UpFrom_any (upFrom (obR (tAdd a.b b.b)) (a.lo + b.lo) (a.hi - a.lo) (b.hi - b.lo)) (a.sl + b.sl) (a.sh - a.sl) (b.sh - b.sl) _ K hK)))
 refine wpQuiet_nil (laterE hM68 ?_)
 intro xw85 M86 hbxw85 hM86 lM86
 have k87 := k63.below hbxw85 (by omega)
 have k88 := k64.below hbxw85 (by omega)
 have k89 := k65.below hbxw85 (by omega)
 have k90 := k62.below hbxw85 (by omega)
 have lo91 := lo66.trans (hbxw85.mono (by omega))
 clear k63 c73 c74 c75 c76 c77 c78 k64 c79 c80 c81 c82 c83 c84 k65 k62 lo66 hbxw85
 refine wpl_store rfl 27 (.tmp 4) (.tmp 48) rfl (N + 1 + 1) 6 (rC (upFrom (upFrom (obR (tAdd a.b b.b)) (a.lo + b.lo) (a.hi - a.lo) (b.hi - b.lo)) (a.sl + b.sl) (a.sh - a.sl) (b.sh - b.sl))) rfl rfl 27 _ k89 szR (fun j _ => rC_one _ j) ?_
 intro xw92 t93 k94; try simp only [pA]
 have k95 := k87.touch t93 (by omega)
 have k96 := k88.touch t93 (by omega)
 have k97 := k90.touch t93 (by omega)
 have lo98 := t93.below lo91 (by omega)
 have h99 := t93.sz hM86
 clear k89 k87 k88 k90 lo91 hM86 t93
 obtain ⟨M100, hM100⟩ := sz_some xw92
 have lt_101 := k95.ltN hM100
 have lt_102 := k96.ltN hM100
 have lt_103 := k94.ltN hM100
 have lt_104 := k97.ltN hM100
 go_wp2_with fail
 refine post_r rfl (N + 1 + 1) rfl k94 undR szR rfl ?_
 exact ⟨by rw [ER.out]; first | rfl | (simp only [addedR, bB] <;> rfl), lo98⟩
def subR (a : Rn) (b : Rn) : Rn :=
 (upFrom (upFrom (obR (tSub a.b b.b)) (a.lo - b.hi) (a.hi - a.lo) (b.hi - b.lo)) (a.sl - b.sh) (a.sh - a.sl) (b.sh - b.sl))
set_option maxRecDepth 100000 in
set_option maxHeartbeats 4000000 in
theorem Subbed_any (a : Rn) (b : Rn) (w : World) (N : Nat) (hN : Sz w N) : Calls Tryd.prog 40 #[rV a, rV b] w fun e w' => e = .returned (rV (subR a b)) ∧ Below N w w' := by
 obtain ⟨rr, er⟩ : ∃ rr, rr = (subR a b) := ⟨_, rfl⟩
 rw [← er]
 have ER := hid er
 clear er
 unfold rV
 go_enter Tryd.func40, Tryd.ntmps40
 go_upto_region 1 with (first
  | (refine wpl_box rfl 27 (.tmp 0) rfl 6 _ rfl (N) hN ?_; intro w1 hN1 hb1 hh1)
  | (refine wpl_box rfl 27 (.tmp 1) rfl 6 _ rfl (N + 1) hN1 ?_; intro w2 hN2 hb2 hh2)
  | (refine wpl_alloc rfl 27 rfl 6 (rC zeroR) zeR (N + 1 + 1) hN2 ?_; intro w3 hN3 hb3 hh3)
  | fail)
 have lo0 : Below N w w3 := ((hb1.trans (hb2.mono (by omega))).trans (hb3.mono (by omega)))
 have k1 := ((hh1.below hb2 (by omega)).below hb3 (by omega))
 have k2 := (hh2.below hb3 (by omega))
 have k3 := hh3
 clear hh1 hb1 hh2 hb2 hh3 hb3 hN1 hN2
 go_upto_region 1 with fail
 refine wp_region_lit ?_
 try simp only [pA]
 change wpList _ _ _ ((_ :: _ :: _ :: _ :: _ :: _ :: []) ++ (_ :: _ :: [])) _ _
 obtain ⟨c4, c5, c6, c7, c8, c9⟩ := r_cells k1
 obtain ⟨c10, c11, c12, c13, c14, c15⟩ := r_cells k2
 refine wpList_prefix (C := fun w' => ∃ x : Later (N + 1 + 1 + 1) w3, w' = x.w') _ _ _ _ ⟨⟨_, Below.refl _ _⟩, rfl⟩ ?_
 go_big_quiet_step (fail)
 refine later_val (fun qq => run_bits 25 (.tmp 6) rfl N rfl 27 (Later.has hN3 k1 qq) undT szT) (by rfl) ?_; simp only [pA]
 go_big_quiet_step (fail)
 refine later_val (fun qq => run_bits 25 (.tmp 8) rfl (N + 1) rfl 27 (Later.has hN3 k2 qq) undT szT) (by rfl) ?_; simp only [pA]
 go_big_quiet_step ((go_at_call 64; exact later_of hN3 _ (fun K hK hKN => Sub_any a.b b.b _ K hK)))
 go_big_quiet_step ((go_at_call 17; exact later_of hN3 _ (fun K hK hKN => OfBits_any (tSub a.b b.b) _ K hK)))
 refine wpQuiet_nil (laterE hN3 ?_)
 intro xw16 M17 hbxw16 hM17 lM17
 have k18 := k1.below hbxw16 (by omega)
 have k19 := k2.below hbxw16 (by omega)
 have k20 := k3.below hbxw16 (by omega)
 have lo21 := lo0.trans (hbxw16.mono (by omega))
 clear k1 c4 c5 c6 c7 c8 c9 k2 c10 c11 c12 c13 c14 c15 k3 lo0 hbxw16
 obtain ⟨b_xw22, eb_xw22⟩ : ∃ b_xw22, b_xw22 = M17 := ⟨_, rfl⟩
 have hzb_xw22 : Sz xw16 b_xw22 := by rw [eb_xw22]; exact hM17
 have lob_xw22 : M17 ≤ b_xw22 := by omega
 have upb_xw22 : b_xw22 ≤ M17 := by omega
 clear eb_xw22
 refine wpl_alloc rfl 27 rfl 6 (rC zeroR) zeR b_xw22 hzb_xw22 ?_
 intro xw22 hMxw22 hbxw22 hhxw22; simp only [pA]
 have k23 := k18.below hbxw22 (by omega)
 have k24 := k19.below hbxw22 (by omega)
 have k25 := k20.below hbxw22 (by omega)
 have lo26 := lo21.trans (hbxw22.mono (by omega))
 clear k18 k19 k20 lo21 hbxw22 hzb_xw22
 obtain ⟨M27, eM27⟩ : ∃ M27, M27 = b_xw22 + 1 := ⟨_, rfl⟩
 rw [← eM27] at hMxw22
 have loM27 : b_xw22 + 1 ≤ M27 := by omega
 have upM27 : M27 ≤ b_xw22 + 1 := by omega
 clear eM27
 refine wpl_store rfl 27 (.tmp 5) (.tmp 11) rfl b_xw22 6 (rC (obR (tSub a.b b.b))) rfl rfl 27 _ hhxw22 szR (fun j _ => rC_one _ j) ?_
 intro xw28 t29 k30; try simp only [pA]
 have k31 := k23.touch t29 (by omega)
 have k32 := k24.touch t29 (by omega)
 have k33 := k25.touch t29 (by omega)
 have lo34 := t29.below lo26 (by omega)
 have h35 := t29.sz hMxw22
 clear hhxw22 k23 k24 k25 lo26 hMxw22 t29
 obtain ⟨M36, hM36⟩ := sz_some xw28
 have lt_37 := k31.ltN hM36
 have lt_38 := k32.ltN hM36
 have lt_39 := k33.ltN hM36
 have lt_40 := k30.ltN hM36
 go_upto_region 2 with fail
 refine wp_region_lit ?_
 try simp only [pA]
 change wpList _ _ _ ((_ :: _ :: _ :: _ :: _ :: _ :: _ :: _ :: _ :: _ :: _ :: _ :: _ :: _ :: _ :: _ :: _ :: []) ++ (_ :: [])) _ _
 obtain ⟨c41, c42, c43, c44, c45, c46⟩ := r_cells k31
 obtain ⟨c47, c48, c49, c50, c51, c52⟩ := r_cells k32
 refine wpList_prefix (C := fun w' => ∃ x : Later M36 xw28, w' = x.w') _ _ _ _ ⟨⟨_, Below.refl _ _⟩, rfl⟩ ?_
 refine later_row hM36 27 (.tmp 5) rfl (b_xw22) rfl 27 6 _ k30 undR szR (by rfl) ?_; simp only [pA]
 go_big_quiet_step (fail)
 refine later_c1 hM36 23 (.tmp 13) rfl rfl und64 rfl c43 (by rfl) ?_; simp only [pA]
 go_big_quiet_step (fail)
 refine later_c1 hM36 23 (.tmp 15) rfl rfl und64 rfl c50 (by rfl) ?_; simp only [pA]
 refine later_b (x := (.tmp 14)) (y := (.tmp 16)) rfl (bin_sub _ a.lo b.hi) rfl rfl (by rfl) ?_; simp only [pA]
 go_big_quiet_step (fail)
 refine later_c1 hM36 23 (.tmp 18) rfl rfl und64 rfl c44 (by rfl) ?_; simp only [pA]
 go_big_quiet_step (fail)
 refine later_c1 hM36 23 (.tmp 20) rfl rfl und64 rfl c43 (by rfl) ?_; simp only [pA]
 refine later_b (x := (.tmp 19)) (y := (.tmp 21)) rfl (bin_sub _ a.hi a.lo) rfl rfl (by rfl) ?_; simp only [pA]
 go_big_quiet_step (fail)
 refine later_c1 hM36 23 (.tmp 23) rfl rfl und64 rfl c50 (by rfl) ?_; simp only [pA]
 go_big_quiet_step (fail)
 refine later_c1 hM36 23 (.tmp 25) rfl rfl und64 rfl c49 (by rfl) ?_; simp only [pA]
 refine later_b (x := (.tmp 24)) (y := (.tmp 26)) rfl (bin_sub _ b.hi b.lo) rfl rfl (by rfl) ?_; simp only [pA]
 go_big_quiet_step ((go_at_call 63; exact later_of hM36 _ (fun K hK hKN => UpFrom_any (obR (tSub a.b b.b)) (a.lo - b.hi) (a.hi - a.lo) (b.hi - b.lo) _ K hK)))
 refine wpQuiet_nil (laterE hM36 ?_)
 intro xw53 M54 hbxw53 hM54 lM54
 have k55 := k31.below hbxw53 (by omega)
 have k56 := k32.below hbxw53 (by omega)
 have k57 := k33.below hbxw53 (by omega)
 have k58 := k30.below hbxw53 (by omega)
 have lo59 := lo34.trans (hbxw53.mono (by omega))
 clear k31 c41 c42 c43 c44 c45 c46 k32 c47 c48 c49 c50 c51 c52 k33 k30 lo34 hbxw53
 refine wpl_store rfl 27 (.tmp 5) (.tmp 28) rfl b_xw22 6 (rC (upFrom (obR (tSub a.b b.b)) (a.lo - b.hi) (a.hi - a.lo) (b.hi - b.lo))) rfl rfl 27 _ k58 szR (fun j _ => rC_one _ j) ?_
 intro xw60 t61 k62; try simp only [pA]
 have k63 := k55.touch t61 (by omega)
 have k64 := k56.touch t61 (by omega)
 have k65 := k57.touch t61 (by omega)
 have lo66 := t61.below lo59 (by omega)
 have h67 := t61.sz hM54
 clear k58 k55 k56 k57 lo59 hM54 t61
 obtain ⟨M68, hM68⟩ := sz_some xw60
 have lt_69 := k63.ltN hM68
 have lt_70 := k64.ltN hM68
 have lt_71 := k65.ltN hM68
 have lt_72 := k62.ltN hM68
 go_upto_region 3 with fail
 refine wp_region_lit ?_
 try simp only [pA]
 change wpList _ _ _ ((_ :: _ :: _ :: _ :: _ :: _ :: _ :: _ :: _ :: _ :: _ :: _ :: _ :: _ :: _ :: _ :: _ :: _ :: _ :: _ :: []) ++ (_ :: [])) _ _
 obtain ⟨c73, c74, c75, c76, c77, c78⟩ := r_cells k63
 obtain ⟨c79, c80, c81, c82, c83, c84⟩ := r_cells k64
 refine wpList_prefix (C := fun w' => ∃ x : Later M68 xw60, w' = x.w') _ _ _ _ ⟨⟨_, Below.refl _ _⟩, rfl⟩ ?_
 refine later_row hM68 27 (.tmp 5) rfl (b_xw22) rfl 27 6 _ k62 undR szR (by rfl) ?_; simp only [pA]
 go_big_quiet_step (fail)
 refine later_c1 hM68 2 (.tmp 30) rfl rfl undI64 rfl c77 (by rfl) ?_; simp only [pA]
 go_big_quiet_step (fail)
 refine later_c1 hM68 2 (.tmp 32) rfl rfl undI64 rfl c84 (by rfl) ?_; simp only [pA]
 refine later_b (x := (.tmp 31)) (y := (.tmp 33)) rfl (bin_ssub _ a.sl b.sh) rfl rfl (by rfl) ?_; simp only [pA]
 refine later_val (fun q => run_su (x := (.tmp 34)) rfl undI64 und64 rfl q.w') (by rfl) ?_; simp only [pA]
 go_big_quiet_step (fail)
 refine later_c1 hM68 2 (.tmp 36) rfl rfl undI64 rfl c78 (by rfl) ?_; simp only [pA]
 go_big_quiet_step (fail)
 refine later_c1 hM68 2 (.tmp 38) rfl rfl undI64 rfl c77 (by rfl) ?_; simp only [pA]
 refine later_b (x := (.tmp 37)) (y := (.tmp 39)) rfl (bin_ssub _ a.sh a.sl) rfl rfl (by rfl) ?_; simp only [pA]
 refine later_val (fun q => run_su (x := (.tmp 40)) rfl undI64 und64 rfl q.w') (by rfl) ?_; simp only [pA]
 go_big_quiet_step (fail)
 refine later_c1 hM68 2 (.tmp 42) rfl rfl undI64 rfl c84 (by rfl) ?_; simp only [pA]
 go_big_quiet_step (fail)
 refine later_c1 hM68 2 (.tmp 44) rfl rfl undI64 rfl c83 (by rfl) ?_; simp only [pA]
 refine later_b (x := (.tmp 43)) (y := (.tmp 45)) rfl (bin_ssub _ b.sh b.sl) rfl rfl (by rfl) ?_; simp only [pA]
 refine later_val (fun q => run_su (x := (.tmp 46)) rfl undI64 und64 rfl q.w') (by rfl) ?_; simp only [pA]
 go_big_quiet_step ((go_at_call 63; exact later_of hM68 _ (fun K hK hKN => UpFrom_any (upFrom (obR (tSub a.b b.b)) (a.lo - b.hi) (a.hi - a.lo) (b.hi - b.lo)) (a.sl - b.sh) (a.sh - a.sl) (b.sh - b.sl) _ K hK)))
 refine wpQuiet_nil (laterE hM68 ?_)
 intro xw85 M86 hbxw85 hM86 lM86
 have k87 := k63.below hbxw85 (by omega)
 have k88 := k64.below hbxw85 (by omega)
 have k89 := k65.below hbxw85 (by omega)
 have k90 := k62.below hbxw85 (by omega)
 have lo91 := lo66.trans (hbxw85.mono (by omega))
 clear k63 c73 c74 c75 c76 c77 c78 k64 c79 c80 c81 c82 c83 c84 k65 k62 lo66 hbxw85
 refine wpl_store rfl 27 (.tmp 4) (.tmp 48) rfl (N + 1 + 1) 6 (rC (upFrom (upFrom (obR (tSub a.b b.b)) (a.lo - b.hi) (a.hi - a.lo) (b.hi - b.lo)) (a.sl - b.sh) (a.sh - a.sl) (b.sh - b.sl))) rfl rfl 27 _ k89 szR (fun j _ => rC_one _ j) ?_
 intro xw92 t93 k94; try simp only [pA]
 have k95 := k87.touch t93 (by omega)
 have k96 := k88.touch t93 (by omega)
 have k97 := k90.touch t93 (by omega)
 have lo98 := t93.below lo91 (by omega)
 have h99 := t93.sz hM86
 clear k89 k87 k88 k90 lo91 hM86 t93
 obtain ⟨M100, hM100⟩ := sz_some xw92
 have lt_101 := k95.ltN hM100
 have lt_102 := k96.ltN hM100
 have lt_103 := k94.ltN hM100
 have lt_104 := k97.ltN hM100
 go_wp2_with fail
 refine post_r rfl (N + 1 + 1) rfl k94 undR szR rfl ?_
 exact ⟨by rw [ER.out]; first | rfl | (simp only [subR, bB] <;> rfl), lo98⟩
def divR (a : Rn) (b : Rn) : Rn :=
 bif (b.hi == 0#64) then (cR 0#64)
 else bif (BitVec.ult 0#64 b.lo) then ⟨(obR tAny).b, (a.lo / b.hi), (a.hi / (uMax b.lo 1#64)), (obR tAny).sl, (obR tAny).sh⟩
 else ⟨(obR tAny).b, (obR tAny).lo, (a.hi / (uMax b.lo 1#64)), (obR tAny).sl, (obR tAny).sh⟩
def restR (a : Rn) (b : Rn) : Rn :=
 bif (BitVec.ult a.hi b.lo) then a
 else bif (b.hi == 0#64) then a
 else bif (BitVec.ult 0#64 b.lo) then ⟨(obR tAny).b, (obR tAny).lo, (uMin a.hi (b.hi - 1#64)), (obR tAny).sl, (obR tAny).sh⟩
 else ⟨(obR tAny).b, (obR tAny).lo, a.hi, (obR tAny).sl, (obR tAny).sh⟩
def bitR (n : Nm) (a : Rn) (b : Rn) : Rn :=
 ⟨(obR n).b, (obR n).lo, (obR n).hi, ((BitVec.allOnes 64) <<< (kMax4 (needF a.sl) (needF a.sh) (needF b.sl) (needF b.sh))), (~~~((BitVec.allOnes 64) <<< (kMax4 (needF a.sl) (needF a.sh) (needF b.sl) (needF b.sh))))⟩
set_option maxRecDepth 100000 in
set_option maxHeartbeats 4000000 in
theorem Bitwise_any (n : Nm) (a : Rn) (b : Rn) (w : World) (N : Nat) (hN : Sz w N) : Calls Tryd.prog 47 #[nV n, rV a, rV b] w fun e w' => e = .returned (rV (bitR n a b)) ∧ Below N w w' := by
 obtain ⟨rr, er⟩ : ∃ rr, rr = (bitR n a b) := ⟨_, rfl⟩
 rw [← er]
 have ER := hid er
 clear er
 unfold nV rV
 go_enter Tryd.func47, Tryd.ntmps47
 go_upto_region 1 with (first
  | (refine wpl_box rfl 25 (.tmp 0) rfl 2 _ rfl (N) hN ?_; intro w1 hN1 hb1 hh1)
  | (refine wpl_box rfl 27 (.tmp 1) rfl 6 _ rfl (N + 1) hN1 ?_; intro w2 hN2 hb2 hh2)
  | (refine wpl_box rfl 27 (.tmp 2) rfl 6 _ rfl (N + 1 + 1) hN2 ?_; intro w3 hN3 hb3 hh3)
  | (refine wpl_alloc rfl 27 rfl 6 (rC zeroR) zeR (N + 1 + 1 + 1) hN3 ?_; intro w4 hN4 hb4 hh4)
  | fail)
 have lo0 : Below N w w4 := (((hb1.trans (hb2.mono (by omega))).trans (hb3.mono (by omega))).trans (hb4.mono (by omega)))
 have k1 := (((hh1.below hb2 (by omega)).below hb3 (by omega)).below hb4 (by omega))
 have k2 := ((hh2.below hb3 (by omega)).below hb4 (by omega))
 have k3 := (hh3.below hb4 (by omega))
 have k4 := hh4
 clear hh1 hb1 hh2 hb2 hh3 hb3 hh4 hb4 hN1 hN2 hN3
 go_upto_region 1 with fail
 refine wp_region_lit ?_
 try simp only [pA]
 change wpList _ _ _ ((_ :: _ :: []) ++ (_ :: _ :: [])) _ _
 refine wpList_prefix (C := fun w' => ∃ x : Later (N + 1 + 1 + 1 + 1) w4, w' = x.w') _ _ _ _ ⟨⟨_, Below.refl _ _⟩, rfl⟩ ?_
 refine later_row hN4 25 (.tmp 3) rfl (N) rfl 25 2 _ k1 undT szT (by rfl) ?_; simp only [pA]
 go_big_quiet_step ((go_at_call 17; exact later_of hN4 _ (fun K hK hKN => OfBits_any n _ K hK)))
 refine wpQuiet_nil (laterE hN4 ?_)
 intro xw5 M6 hbxw5 hM6 lM6
 have k7 := k1.below hbxw5 (by omega)
 have k8 := k2.below hbxw5 (by omega)
 have k9 := k3.below hbxw5 (by omega)
 have k10 := k4.below hbxw5 (by omega)
 have lo11 := lo0.trans (hbxw5.mono (by omega))
 clear k1 k2 k3 k4 lo0 hbxw5
 obtain ⟨b_xw12, eb_xw12⟩ : ∃ b_xw12, b_xw12 = M6 := ⟨_, rfl⟩
 have hzb_xw12 : Sz xw5 b_xw12 := by rw [eb_xw12]; exact hM6
 have lob_xw12 : M6 ≤ b_xw12 := by omega
 have upb_xw12 : b_xw12 ≤ M6 := by omega
 clear eb_xw12
 refine wpl_alloc rfl 27 rfl 6 (rC zeroR) zeR b_xw12 hzb_xw12 ?_
 intro xw12 hMxw12 hbxw12 hhxw12; simp only [pA]
 have k13 := k7.below hbxw12 (by omega)
 have k14 := k8.below hbxw12 (by omega)
 have k15 := k9.below hbxw12 (by omega)
 have k16 := k10.below hbxw12 (by omega)
 have lo17 := lo11.trans (hbxw12.mono (by omega))
 clear k7 k8 k9 k10 lo11 hbxw12 hzb_xw12
 obtain ⟨M18, eM18⟩ : ∃ M18, M18 = b_xw12 + 1 := ⟨_, rfl⟩
 rw [← eM18] at hMxw12
 have loM18 : b_xw12 + 1 ≤ M18 := by omega
 have upM18 : M18 ≤ b_xw12 + 1 := by omega
 clear eM18
 refine wpl_store rfl 27 (.tmp 7) (.tmp 10) rfl b_xw12 6 (rC (obR n)) rfl rfl 27 _ hhxw12 szR (fun j _ => rC_one _ j) ?_
 intro xw19 t20 k21; try simp only [pA]
 have k22 := k13.touch t20 (by omega)
 have k23 := k14.touch t20 (by omega)
 have k24 := k15.touch t20 (by omega)
 have k25 := k16.touch t20 (by omega)
 have lo26 := t20.below lo17 (by omega)
 have h27 := t20.sz hMxw12
 clear hhxw12 k13 k14 k15 k16 lo17 hMxw12 t20
 obtain ⟨M28, hM28⟩ := sz_some xw19
 have lt_29 := k22.ltN hM28
 have lt_30 := k23.ltN hM28
 have lt_31 := k24.ltN hM28
 have lt_32 := k25.ltN hM28
 have lt_33 := k21.ltN hM28
 go_upto_region 2 with fail
 obtain ⟨c34, c35, c36, c37, c38, c39⟩ := r_cells k23
 obtain ⟨c40, c41, c42, c43, c44, c45⟩ := r_cells k24
 refine wp_region_later (M28) (by kernel_rfl) (by kernel_rfl) ?_
 try simp only [pA]
 go_big_quiet_step (fail)
 refine later_c1 hM28 2 (.tmp 11) rfl rfl undI64 rfl c38 (by rfl) ?_; simp only [pA]
 go_big_quiet_step ((go_at_call 73; exact later_of hM28 _ (fun K hK hKN => Need_any a.sl _ K hK)))
 go_big_quiet_step (fail)
 refine later_c1 hM28 2 (.tmp 14) rfl rfl undI64 rfl c39 (by rfl) ?_; simp only [pA]
 go_big_quiet_step ((go_at_call 73; exact later_of hM28 _ (fun K hK hKN => Need_any a.sh _ K hK)))
 go_big_quiet_step (fail)
 refine later_c1 hM28 2 (.tmp 17) rfl rfl undI64 rfl c44 (by rfl) ?_; simp only [pA]
 go_big_quiet_step ((go_at_call 73; exact later_of hM28 _ (fun K hK hKN => Need_any b.sl _ K hK)))
 go_big_quiet_step (fail)
 refine later_c1 hM28 2 (.tmp 20) rfl rfl undI64 rfl c45 (by rfl) ?_; simp only [pA]
 go_big_quiet_step ((go_at_call 73; exact later_of hM28 _ (fun K hK hKN => Need_any b.sh _ K hK)))
 refine later_val (fun q => run_max4K (x := (.tmp 13)) (y := (.tmp 16)) (z := (.tmp 19)) (u := (.tmp 22)) rfl rfl rfl rfl rfl q.w') (by rfl) ?_; simp only [pA]
 go_big_quiet_step (fail)
 refine wpQuiet_nil (laterE hM28 ?_)
 intro xw46 M47 hbxw46 hM47 lM47
 have k48 := k22.below hbxw46 (by omega)
 have k49 := k23.below hbxw46 (by omega)
 have k50 := k24.below hbxw46 (by omega)
 have k51 := k25.below hbxw46 (by omega)
 have k52 := k21.below hbxw46 (by omega)
 have lo53 := lo26.trans (hbxw46.mono (by omega))
 clear k22 k23 c34 c35 c36 c37 c38 c39 k24 c40 c41 c42 c43 c44 c45 k25 k21 lo26 hbxw46
 go_upto_region 3 with fail
 refine wp_region_lit ?_
 try simp only [pA]
 change wpList _ _ _ ((_ :: _ :: _ :: []) ++ (_ :: [])) _ _
 obtain ⟨c54, c55, c56, c57, c58, c59⟩ := r_cells k52
 refine wpList_prefix (C := fun w' => ∃ x : Later M47 xw46, w' = x.w') _ _ _ _ ⟨⟨_, Below.refl _ _⟩, rfl⟩ ?_
 go_big_quiet_step (fail)
 refine later_b (x := (.const (.int .i64 (-1)))) (y := (.tmp 24)) rfl (bin_sshlK _ (BitVec.allOnes 64) (kMax4 (needF a.sl) (needF a.sh) (needF b.sl) (needF b.sh))) rfl rfl (by rfl) ?_; simp only [pA]
 go_big_quiet_step (fail)
 refine wpQuiet_nil (laterE hM47 ?_)
 intro xw60 M61 hbxw60 hM61 lM61
 have k62 := k48.below hbxw60 (by omega)
 have k63 := k49.below hbxw60 (by omega)
 have k64 := k50.below hbxw60 (by omega)
 have k65 := k51.below hbxw60 (by omega)
 have k66 := k52.below hbxw60 (by omega)
 have lo67 := lo53.trans (hbxw60.mono (by omega))
 clear k48 k49 k50 k51 k52 c54 c55 c56 c57 c58 c59 lo53 hbxw60
 refine wpl_set rfl 2 (.tmp 26) (.tmp 25) rfl b_xw12 4 rfl _ rfl szI rfl rfl 27 6 _ k66 (by omega) ?_
 intro xw68 t69 k70_; try simp only [pA]
 have k70 : Has xw68 b_xw12 27 6 (rC ⟨(obR n).b, (obR n).lo, (obR n).hi, ((BitVec.allOnes 64) <<< (kMax4 (needF a.sl) (needF a.sh) (needF b.sl) (needF b.sh))), (obR n).sh⟩) := k70_.congr (fun j hj => set_sl _ _ j)
 have k71 := k62.touch t69 (by omega)
 have k72 := k63.touch t69 (by omega)
 have k73 := k64.touch t69 (by omega)
 have k74 := k65.touch t69 (by omega)
 have lo75 := t69.below lo67 (by omega)
 have h76 := t69.sz hM61
 clear k66 k70_ k62 k63 k64 k65 lo67 hM61 t69
 obtain ⟨M77, hM77⟩ := sz_some xw68
 have lt_78 := k71.ltN hM77
 have lt_79 := k72.ltN hM77
 have lt_80 := k73.ltN hM77
 have lt_81 := k74.ltN hM77
 have lt_82 := k70.ltN hM77
 go_upto_region 4 with fail
 refine wp_region_lit ?_
 try simp only [pA]
 change wpList _ _ _ ((_ :: _ :: _ :: _ :: []) ++ (_ :: [])) _ _
 obtain ⟨c83, c84, c85, c86, c87, c88⟩ := r_cells5 k70
 refine wpList_prefix (C := fun w' => ∃ x : Later M77 xw68, w' = x.w') _ _ _ _ ⟨⟨_, Below.refl _ _⟩, rfl⟩ ?_
 go_big_quiet_step (fail)
 refine later_c1 hM77 2 (.tmp 27) rfl rfl undI64 rfl c87 (by rfl) ?_; simp only [pA]
 refine later_val (fun q => run_snot (x := (.tmp 28)) rfl rfl q.w') (by rfl) ?_; simp only [pA]
 go_big_quiet_step (fail)
 refine wpQuiet_nil (laterE hM77 ?_)
 intro xw89 M90 hbxw89 hM90 lM90
 have k91 := k71.below hbxw89 (by omega)
 have k92 := k72.below hbxw89 (by omega)
 have k93 := k73.below hbxw89 (by omega)
 have k94 := k74.below hbxw89 (by omega)
 have k95 := k70.below hbxw89 (by omega)
 have lo96 := lo75.trans (hbxw89.mono (by omega))
 clear k71 k72 k73 k74 k70 c83 c84 c85 c86 c87 c88 lo75 hbxw89
 refine wpl_set rfl 2 (.tmp 30) (.tmp 29) rfl b_xw12 5 rfl _ rfl szI rfl rfl 27 6 _ k95 (by omega) ?_
 intro xw97 t98 k99_; try simp only [pA]
 have k99 : Has xw97 b_xw12 27 6 (rC ⟨(obR n).b, (obR n).lo, (obR n).hi, ((BitVec.allOnes 64) <<< (kMax4 (needF a.sl) (needF a.sh) (needF b.sl) (needF b.sh))), (~~~((BitVec.allOnes 64) <<< (kMax4 (needF a.sl) (needF a.sh) (needF b.sl) (needF b.sh))))⟩) := k99_.congr (fun j hj => set_sh _ _ j hj)
 have k100 := k91.touch t98 (by omega)
 have k101 := k92.touch t98 (by omega)
 have k102 := k93.touch t98 (by omega)
 have k103 := k94.touch t98 (by omega)
 have lo104 := t98.below lo96 (by omega)
 have h105 := t98.sz hM90
 clear k95 k99_ k91 k92 k93 k94 lo96 hM90 t98
 obtain ⟨M106, hM106⟩ := sz_some xw97
 have lt_107 := k100.ltN hM106
 have lt_108 := k101.ltN hM106
 have lt_109 := k102.ltN hM106
 have lt_110 := k103.ltN hM106
 have lt_111 := k99.ltN hM106
 go_upto_region 5 with fail
 refine wp_region_lit ?_
 try simp only [pA]
 change wpList _ _ _ ((_ :: []) ++ (_ :: [])) _ _
 refine wpList_prefix (C := fun w' => ∃ x : Later M106 xw97, w' = x.w') _ _ _ _ ⟨⟨_, Below.refl _ _⟩, rfl⟩ ?_
 refine later_row hM106 27 (.tmp 7) rfl (b_xw12) rfl 27 6 _ k99 undR szR (by rfl) ?_; simp only [pA]
 refine wpQuiet_nil (laterE hM106 ?_)
 intro xw112 M113 hbxw112 hM113 lM113
 have k114 := k100.below hbxw112 (by omega)
 have k115 := k101.below hbxw112 (by omega)
 have k116 := k102.below hbxw112 (by omega)
 have k117 := k103.below hbxw112 (by omega)
 have k118 := k99.below hbxw112 (by omega)
 have lo119 := lo104.trans (hbxw112.mono (by omega))
 clear k100 k101 k102 k103 k99 lo104 hbxw112
 refine wpl_store rfl 27 (.tmp 6) (.tmp 31) rfl (N + 1 + 1 + 1) 6 (rC ⟨(obR n).b, (obR n).lo, (obR n).hi, ((BitVec.allOnes 64) <<< (kMax4 (needF a.sl) (needF a.sh) (needF b.sl) (needF b.sh))), (~~~((BitVec.allOnes 64) <<< (kMax4 (needF a.sl) (needF a.sh) (needF b.sl) (needF b.sh))))⟩) rfl rfl 27 _ k117 szR (fun j _ => rC_one _ j) ?_
 intro xw120 t121 k122; try simp only [pA]
 have k123 := k114.touch t121 (by omega)
 have k124 := k115.touch t121 (by omega)
 have k125 := k116.touch t121 (by omega)
 have k126 := k118.touch t121 (by omega)
 have lo127 := t121.below lo119 (by omega)
 have h128 := t121.sz hM113
 clear k117 k114 k115 k116 k118 lo119 hM113 t121
 obtain ⟨M129, hM129⟩ := sz_some xw120
 have lt_130 := k123.ltN hM129
 have lt_131 := k124.ltN hM129
 have lt_132 := k125.ltN hM129
 have lt_133 := k122.ltN hM129
 have lt_134 := k126.ltN hM129
 go_wp2_with fail
 refine post_r rfl (N + 1 + 1 + 1) rfl k122 undR szR rfl ?_
 exact ⟨by rw [ER.out]; first | rfl | (simp only [bitR, bB] <;> rfl), lo127⟩
def orR (a : Rn) (b : Rn) : Rn :=
 ⟨(bitR (tOr a.b b.b) a b).b, (uMax a.lo b.lo), (bitR (tOr a.b b.b) a b).hi, (bitR (tOr a.b b.b) a b).sl, (bitR (tOr a.b b.b) a b).sh⟩
def andR (a : Rn) (b : Rn) : Rn :=
 ⟨(bitR (tAnd a.b b.b) a b).b, (bitR (tAnd a.b b.b) a b).lo, (uMin a.hi b.hi), (bitR (tAnd a.b b.b) a b).sl, (bitR (tAnd a.b b.b) a b).sh⟩
set_option maxRecDepth 100000 in
set_option maxHeartbeats 4000000 in
theorem Anded_any (a : Rn) (b : Rn) (w : World) (N : Nat) (hN : Sz w N) : Calls Tryd.prog 44 #[rV a, rV b] w fun e w' => e = .returned (rV (andR a b)) ∧ Below N w w' := by
 obtain ⟨rr, er⟩ : ∃ rr, rr = (andR a b) := ⟨_, rfl⟩
 rw [← er]
 have ER := hid er
 clear er
 unfold rV
 go_enter Tryd.func44, Tryd.ntmps44
 go_upto_region 1 with (first
  | (refine wpl_box rfl 27 (.tmp 0) rfl 6 _ rfl (N) hN ?_; intro w1 hN1 hb1 hh1)
  | (refine wpl_box rfl 27 (.tmp 1) rfl 6 _ rfl (N + 1) hN1 ?_; intro w2 hN2 hb2 hh2)
  | (refine wpl_alloc rfl 27 rfl 6 (rC zeroR) zeR (N + 1 + 1) hN2 ?_; intro w3 hN3 hb3 hh3)
  | fail)
 have lo0 : Below N w w3 := ((hb1.trans (hb2.mono (by omega))).trans (hb3.mono (by omega)))
 have k1 := ((hh1.below hb2 (by omega)).below hb3 (by omega))
 have k2 := (hh2.below hb3 (by omega))
 have k3 := hh3
 clear hh1 hb1 hh2 hb2 hh3 hb3 hN1 hN2
 go_upto_region 1 with fail
 refine wp_region_any (by kernel_rfl) ?_
 replace k1 : Has w3.drew N 27 6 (rC a) := k1
 replace k2 : Has w3.drew (N + 1) 27 6 (rC b) := k2
 replace k3 : Has w3.drew (N + 1 + 1) 27 6 (rC zeroR) := k3
 replace hN3 : Sz w3.drew (N + 1 + 1 + 1) := hN3
 replace lo0 : Below N w w3.drew := lo0.drew
 change wpAny _ _ _ _ _ _ _ (World.drew _)
 generalize w3.drew = xw4 at *
 obtain ⟨c5, c6, c7, c8, c9, c10⟩ := r_cells k1
 obtain ⟨c11, c12, c13, c14, c15, c16⟩ := r_cells k2
 refine wpAny_pot (rem := [0, 1, 2, 3, 4, 5, 6, 7, 8]) (FG (N + 1 + 1 + 1) (fun j => if j = 0 then some (Value.pointer (some ⟨N, 0, none⟩)) else if j = 1 then some (Value.agg (cellsOf (nC a.b) 2)) else if j = 2 then some (Value.pointer (some ⟨(N + 1), 0, none⟩)) else if j = 3 then some (Value.agg (cellsOf (nC b.b) 2)) else if j = 4 then some (Value.agg (cellsOf (nC (tAnd a.b b.b)) 2)) else if j = 5 then some (Value.agg (cellsOf (rC a) 6)) else if j = 6 then some (Value.agg (cellsOf (rC b) 6)) else if j = 7 then some (Value.agg (cellsOf (rC (bitR (tAnd a.b b.b) a b)) 6)) else none) (fun j => (27, 6, rC zeroR))) (TwoN (fun j => if j = 0 then some (Value.pointer (some ⟨N, 0, none⟩)) else if j = 1 then some (Value.agg (cellsOf (nC a.b) 2)) else if j = 2 then some (Value.pointer (some ⟨(N + 1), 0, none⟩)) else if j = 3 then some (Value.agg (cellsOf (nC b.b) 2)) else if j = 4 then some (Value.agg (cellsOf (nC (tAnd a.b b.b)) 2)) else if j = 5 then some (Value.agg (cellsOf (rC a) 6)) else if j = 6 then some (Value.agg (cellsOf (rC b) 6)) else if j = 7 then some (Value.agg (cellsOf (rC (bitR (tAnd a.b b.b) a b)) 6)) else none)) (Below (N + 1 + 1 + 1) xw4) _ _ _ _ (by kernel_rfl) (size_dstG (by kernel_rfl)) (Below.refl _ _) ?_ ?_
 ·intro i hi ac wa hI ha hv
  simp only [List.mem_cons, List.not_mem_nil, or_false] at hi
  rcases hi with rfl | rfl | rfl | rfl | rfl | rfl | rfl | rfl | rfl
  ·exact potg_run rfl rfl (Value.pointer (some ⟨N, 0, none⟩)) rfl (run_fa 27 (.tmp 2) 0 0 rfl (ha 2 (not_dstG (by kernel_rfl))) faR0) hN3 hI
  ·obtain ⟨v0, hv0a, hv0b⟩ := hv 0 (by simp) (by kernel_rfl)
   have ev0 := hv0b.val rfl
   subst ev0
   exact potg_run rfl rfl (Value.agg (cellsOf (nC a.b) 2)) rfl (run_bits 25 (.tmp 6) rfl N (hv0a 6 rfl) 27 (Has.below k1 hI (Has.ltN k1 hN3)) undT szT) hN3 hI
  ·exact potg_run rfl rfl (Value.pointer (some ⟨(N + 1), 0, none⟩)) rfl (run_fa 27 (.tmp 3) 0 0 rfl (ha 3 (not_dstG (by kernel_rfl))) faR0) hN3 hI
  ·obtain ⟨v2, hv2a, hv2b⟩ := hv 2 (by simp) (by kernel_rfl)
   have ev2 := hv2b.val rfl
   subst ev2
   exact potg_run rfl rfl (Value.agg (cellsOf (nC b.b) 2)) rfl (run_bits 25 (.tmp 8) rfl (N + 1) (hv2a 8 rfl) 27 (Has.below k2 hI (Has.ltN k2 hN3)) undT szT) hN3 hI
  ·obtain ⟨v1, hv1a, hv1b⟩ := hv 1 (by simp) (by kernel_rfl)
   have ev1 := hv1b.val rfl
   subst ev1
   obtain ⟨v3, hv3a, hv3b⟩ := hv 3 (by simp) (by kernel_rfl)
   have ev3 := hv3b.val rfl
   subst ev3
   exact potg_cl rfl rfl 69 _ _ rfl #[(Value.agg (cellsOf (nC a.b) 2)), (Value.agg (cellsOf (nC b.b) 2))] (by simp only [List.map_toArray, List.map_cons, List.map_nil, (show ac.eval (.tmp 7) = (Value.agg (cellsOf (nC a.b) 2)) from (hv1a 7 rfl)), (show ac.eval (.tmp 9) = (Value.agg (cellsOf (nC b.b) 2)) from (hv3a 9 rfl))] <;> rfl) (by kernel_rfl) (Value.agg (cellsOf (nC (tAnd a.b b.b)) 2)) (fun K hK => And_any a.b b.b wa K hK) rfl hN3 hI
  ·exact potg_run rfl rfl (Value.agg (cellsOf (rC a) 6)) rfl (run_rw 27 (.tmp 2) rfl N (ha 2 (not_dstG (by kernel_rfl))) 27 6 _ (Has.below k1 hI (Has.ltN k1 hN3)) undR szR) hN3 hI
  ·exact potg_run rfl rfl (Value.agg (cellsOf (rC b) 6)) rfl (run_rw 27 (.tmp 3) rfl (N + 1) (ha 3 (not_dstG (by kernel_rfl))) 27 6 _ (Has.below k2 hI (Has.ltN k2 hN3)) undR szR) hN3 hI
  ·obtain ⟨v4, hv4a, hv4b⟩ := hv 4 (by simp) (by kernel_rfl)
   have ev4 := hv4b.val rfl
   subst ev4
   obtain ⟨v5, hv5a, hv5b⟩ := hv 5 (by simp) (by kernel_rfl)
   have ev5 := hv5b.val rfl
   subst ev5
   obtain ⟨v6, hv6a, hv6b⟩ := hv 6 (by simp) (by kernel_rfl)
   have ev6 := hv6b.val rfl
   subst ev6
   exact potg_cl rfl rfl 47 _ _ rfl #[(Value.agg (cellsOf (nC (tAnd a.b b.b)) 2)), (Value.agg (cellsOf (rC a) 6)), (Value.agg (cellsOf (rC b) 6))] (by simp only [List.map_toArray, List.map_cons, List.map_nil, (show ac.eval (.tmp 10) = (Value.agg (cellsOf (nC (tAnd a.b b.b)) 2)) from (hv4a 10 rfl)), (show ac.eval (.tmp 11) = (Value.agg (cellsOf (rC a) 6)) from (hv5a 11 rfl)), (show ac.eval (.tmp 12) = (Value.agg (cellsOf (rC b) 6)) from (hv6a 12 rfl))] <;> rfl) (by kernel_rfl) (Value.agg (cellsOf (rC (bitR (tAnd a.b b.b) a b)) 6)) (fun K hK => Bitwise_any (tAnd a.b b.b) a b wa K hK) rfl hN3 hI
  ·exact potg_al rfl rfl rfl zeR rfl rfl hN3 hI
 ·intro vals w5_17_ hb5_17_ hF hG
  have e_17_0 := (hF 0 (by simp)).val rfl
  have e_17_1 := (hF 1 (by simp)).val rfl
  have e_17_2 := (hF 2 (by simp)).val rfl
  have e_17_3 := (hF 3 (by simp)).val rfl
  have e_17_4 := (hF 4 (by simp)).val rfl
  have e_17_5 := (hF 5 (by simp)).val rfl
  have e_17_6 := (hF 6 (by simp)).val rfl
  have e_17_7 := (hF 7 (by simp)).val rfl
  obtain ⟨b_17_8, l_17_8, e_17_8, h_17_8⟩ := (hF 8 (by simp)).al rfl rfl
  clear hF hG
  simp only [List.foldl_cons, List.foldl_nil, dstOf, List.getElem?_toArray, List.getElem?_cons_succ, List.getElem?_cons_zero, Option.bind_some, Act.put, List.setIfInBounds_toArray, List.set_cons_succ, List.set_cons_zero, e_17_0, e_17_1, e_17_2, e_17_3, e_17_4, e_17_5, e_17_6, e_17_7, e_17_8]
  clear e_17_0 e_17_1 e_17_2 e_17_3 e_17_4 e_17_5 e_17_6 e_17_7 e_17_8
  refine wpAny_chain [9] _ _ _ _ (by kernel_rfl) (by decide) ?_
  simp only [List.filterMap_cons, List.filterMap_nil, List.getElem?_toArray, List.getElem?_cons_succ, List.getElem?_cons_zero]
  have k18 := k1.below hb5_17_ (by omega)
  have k19 := k2.below hb5_17_ (by omega)
  have k20 := k3.below hb5_17_ (by omega)
  have lo21 := lo0.trans (hb5_17_.mono (by omega))
  clear k1 c5 c6 c7 c8 c9 c10 k2 c11 c12 c13 c14 c15 c16 k3 lo0 hb5_17_
  refine wpl_store rfl 27 (.tmp 5) (.tmp 13) rfl b_17_8 6 (rC (bitR (tAnd a.b b.b) a b)) rfl rfl 27 _ h_17_8 szR (fun j _ => rC_one _ j) ?_
  intro xw22 t23 k24
  have k25 := k18.touch t23 (by omega)
  have k26 := k19.touch t23 (by omega)
  have k27 := k20.touch t23 (by omega)
  have lo28 := t23.below lo21 (by omega)
  clear h_17_8 k18 k19 k20 lo21 t23
  obtain ⟨M29, hM29⟩ := sz_some xw22
  have lt_30 := k25.ltN hM29
  have lt_31 := k26.ltN hM29
  have lt_32 := k27.ltN hM29
  have lt_33 := k24.ltN hM29
  go_upto_region 2 with fail
  refine wp_region_lit ?_
  try simp only [pA]
  change wpList _ _ _ ((_ :: _ :: _ :: _ :: _ :: _ :: []) ++ (_ :: [])) _ _
  obtain ⟨c34, c35, c36, c37, c38, c39⟩ := r_cells k25
  obtain ⟨c40, c41, c42, c43, c44, c45⟩ := r_cells k26
  obtain ⟨c46, c47, c48, c49, c50, c51⟩ := r_cells k24
  refine wpList_prefix (C := fun w' => ∃ x : Later M29 xw22, w' = x.w') _ _ _ _ ⟨⟨_, Below.refl _ _⟩, rfl⟩ ?_
  go_big_quiet_step (fail)
  refine later_c1 hM29 23 (.tmp 14) rfl rfl und64 rfl c37 (by rfl) ?_; simp only [pA]
  go_big_quiet_step (fail)
  refine later_c1 hM29 23 (.tmp 16) rfl rfl und64 rfl c43 (by rfl) ?_; simp only [pA]
  refine later_val (fun qq => run_minQ (x := (.tmp 15)) (y := (.tmp 17)) (p := a.hi) (q := b.hi) rfl rfl rfl qq.w') (by rfl) ?_; simp only [pA]
  go_big_quiet_step (fail)
  refine wpQuiet_nil (laterE hM29 ?_)
  intro xw52 M53 hbxw52 hM53 lM53
  have k54 := k25.below hbxw52 (by omega)
  have k55 := k26.below hbxw52 (by omega)
  have k56 := k27.below hbxw52 (by omega)
  have k57 := k24.below hbxw52 (by omega)
  have lo58 := lo28.trans (hbxw52.mono (by omega))
  clear k25 c34 c35 c36 c37 c38 c39 k26 c40 c41 c42 c43 c44 c45 k27 k24 c46 c47 c48 c49 c50 c51 lo28 hbxw52
  refine wpl_set rfl 23 (.tmp 19) (.tmp 18) rfl b_17_8 3 rfl _ rfl sz64 rfl rfl 27 6 _ k57 (by omega) ?_
  intro xw59 t60 k61_; try simp only [pA]
  have k61 : Has xw59 b_17_8 27 6 (rC ⟨(bitR (tAnd a.b b.b) a b).b, (bitR (tAnd a.b b.b) a b).lo, (uMin a.hi b.hi), (bitR (tAnd a.b b.b) a b).sl, (bitR (tAnd a.b b.b) a b).sh⟩) := k61_.congr (fun j hj => set_hi _ _ j)
  have k62 := k54.touch t60 (by omega)
  have k63 := k55.touch t60 (by omega)
  have k64 := k56.touch t60 (by omega)
  have lo65 := t60.below lo58 (by omega)
  have h66 := t60.sz hM53
  clear k57 k61_ k54 k55 k56 lo58 hM53 t60
  obtain ⟨M67, hM67⟩ := sz_some xw59
  have lt_68 := k62.ltN hM67
  have lt_69 := k63.ltN hM67
  have lt_70 := k64.ltN hM67
  have lt_71 := k61.ltN hM67
  go_upto_region 3 with fail
  refine wp_region_lit ?_
  try simp only [pA]
  change wpList _ _ _ ((_ :: []) ++ (_ :: [])) _ _
  refine wpList_prefix (C := fun w' => ∃ x : Later M67 xw59, w' = x.w') _ _ _ _ ⟨⟨_, Below.refl _ _⟩, rfl⟩ ?_
  refine later_row hM67 27 (.tmp 5) rfl (b_17_8) rfl 27 6 _ k61 undR szR (by rfl) ?_; simp only [pA]
  refine wpQuiet_nil (laterE hM67 ?_)
  intro xw72 M73 hbxw72 hM73 lM73
  have k74 := k62.below hbxw72 (by omega)
  have k75 := k63.below hbxw72 (by omega)
  have k76 := k64.below hbxw72 (by omega)
  have k77 := k61.below hbxw72 (by omega)
  have lo78 := lo65.trans (hbxw72.mono (by omega))
  clear k62 k63 k64 k61 lo65 hbxw72
  refine wpl_store rfl 27 (.tmp 4) (.tmp 20) rfl (N + 1 + 1) 6 (rC ⟨(bitR (tAnd a.b b.b) a b).b, (bitR (tAnd a.b b.b) a b).lo, (uMin a.hi b.hi), (bitR (tAnd a.b b.b) a b).sl, (bitR (tAnd a.b b.b) a b).sh⟩) rfl rfl 27 _ k76 szR (fun j _ => rC_one _ j) ?_
  intro xw79 t80 k81; try simp only [pA]
  have k82 := k74.touch t80 (by omega)
  have k83 := k75.touch t80 (by omega)
  have k84 := k77.touch t80 (by omega)
  have lo85 := t80.below lo78 (by omega)
  have h86 := t80.sz hM73
  clear k76 k74 k75 k77 lo78 hM73 t80
  obtain ⟨M87, hM87⟩ := sz_some xw79
  have lt_88 := k82.ltN hM87
  have lt_89 := k83.ltN hM87
  have lt_90 := k81.ltN hM87
  have lt_91 := k84.ltN hM87
  go_wp2_with fail
  refine post_r rfl (N + 1 + 1) rfl k81 undR szR rfl ?_
  exact ⟨by rw [ER.out]; first | rfl | (simp only [andR, bB] <;> rfl), lo85⟩
end Go.Proofs.YtbbfdehipgkjmaaDoor
