/- Contracts of operations of ranges: shifts. -/
import Derived.Test.YtbbfdehipgkjmaaDoorSe3
namespace Go.Proofs.YtbbfdehipgkjmaaDoor
open Go Go.RowKit
def shUpR (a : Rn) (n : W) : Rn :=
 bif (((a.hi <<< (n).toNat) >>> (n).toNat) == a.hi) then bif ((BitVec.sshiftRight (a.sl <<< (n).toNat) (n).toNat) == a.sl) then bif ((BitVec.sshiftRight (a.sh <<< (n).toNat) (n).toNat) == a.sh) then ⟨(obR (tLeft a.b (tw (sn n)).toNat)).b, (a.lo <<< (n).toNat), (a.hi <<< (n).toNat), (a.sl <<< (n).toNat), (a.sh <<< (n).toNat)⟩
   else ⟨(obR (tLeft a.b (tw (sn n)).toNat)).b, (a.lo <<< (n).toNat), (a.hi <<< (n).toNat), (obR (tLeft a.b (tw (sn n)).toNat)).sl, (obR (tLeft a.b (tw (sn n)).toNat)).sh⟩
  else ⟨(obR (tLeft a.b (tw (sn n)).toNat)).b, (a.lo <<< (n).toNat), (a.hi <<< (n).toNat), (obR (tLeft a.b (tw (sn n)).toNat)).sl, (obR (tLeft a.b (tw (sn n)).toNat)).sh⟩
 else bif ((BitVec.sshiftRight (a.sl <<< (n).toNat) (n).toNat) == a.sl) then bif ((BitVec.sshiftRight (a.sh <<< (n).toNat) (n).toNat) == a.sh) then ⟨(obR (tLeft a.b (tw (sn n)).toNat)).b, (obR (tLeft a.b (tw (sn n)).toNat)).lo, (obR (tLeft a.b (tw (sn n)).toNat)).hi, (a.sl <<< (n).toNat), (a.sh <<< (n).toNat)⟩
  else (obR (tLeft a.b (tw (sn n)).toNat))
 else (obR (tLeft a.b (tw (sn n)).toNat))
set_option maxRecDepth 100000 in
set_option maxHeartbeats 4000000 in
theorem ShUp_any (a : Rn) (n : W) (w : World) (N : Nat) (hN : Sz w N) : Calls Tryd.prog 70 #[rV a, (Q n)] w fun e w' => e = .returned (rV (shUpR a n)) ∧ Below N w w' := by
 obtain ⟨rr, er⟩ : ∃ rr, rr = (shUpR a n) := ⟨_, rfl⟩
 rw [← er]
 have ER := hid er
 clear er
 unfold rV
 go_enter Tryd.func70, Tryd.ntmps70
 go_upto_region 1 with (first
  | (refine wpl_box rfl 27 (.tmp 0) rfl 6 _ rfl (N) hN ?_; intro w1 hN1 hb1 hh1)
  | (refine wpl_alloc rfl 27 rfl 6 (rC zeroR) zeR (N + 1) hN1 ?_; intro w2 hN2 hb2 hh2)
  | fail)
 have lo0 : Below N w w2 := (hb1.trans (hb2.mono (by omega)))
 have k1 := (hh1.below hb2 (by omega))
 have k2 := hh2
 clear hh1 hb1 hh2 hb2 hN1
 go_upto_region 1 with fail
 refine wp_region_lit ?_
 try simp only [pA]
 change wpList _ _ _ ((_ :: _ :: _ :: _ :: _ :: _ :: []) ++ (_ :: _ :: [])) _ _
 obtain ⟨c3, c4, c5, c6, c7, c8⟩ := r_cells k1
 refine wpList_prefix (C := fun w' => ∃ x : Later (N + 1 + 1) w2, w' = x.w') _ _ _ _ ⟨⟨_, Below.refl _ _⟩, rfl⟩ ?_
 go_big_quiet_step (fail)
 refine later_val (fun qq => run_bits 25 (.tmp 6) rfl N rfl 27 (Later.has hN2 k1 qq) undT szT) (by rfl) ?_; simp only [pA]
 go_big_quiet_step (fail)
 refine later_val (fun q => run_us (x := (.tmp 8)) rfl und64 undInt rfl q.w') (by rfl) ?_; simp only [pA]
 go_big_quiet_step ((go_at_call 80; exact later_of hN2 _ (fun K hK hKN => Left_any a.b (sn n) _ K hK)))
 go_big_quiet_step ((go_at_call 17; exact later_of hN2 _ (fun K hK hKN => OfBits_any (tLeft a.b (tw (sn n)).toNat) _ K hK)))
 refine wpQuiet_nil (laterE hN2 ?_)
 intro xw9 M10 hbxw9 hM10 lM10
 have k11 := k1.below hbxw9 (by omega)
 have k12 := k2.below hbxw9 (by omega)
 have lo13 := lo0.trans (hbxw9.mono (by omega))
 clear k1 c3 c4 c5 c6 c7 c8 k2 lo0 hbxw9
 obtain ⟨b_xw14, eb_xw14⟩ : ∃ b_xw14, b_xw14 = M10 := ⟨_, rfl⟩
 have hzb_xw14 : Sz xw9 b_xw14 := by rw [eb_xw14]; exact hM10
 have lob_xw14 : M10 ≤ b_xw14 := by omega
 have upb_xw14 : b_xw14 ≤ M10 := by omega
 clear eb_xw14
 refine wpl_alloc rfl 27 rfl 6 (rC zeroR) zeR b_xw14 hzb_xw14 ?_
 intro xw14 hMxw14 hbxw14 hhxw14; simp only [pA]
 have k15 := k11.below hbxw14 (by omega)
 have k16 := k12.below hbxw14 (by omega)
 have lo17 := lo13.trans (hbxw14.mono (by omega))
 clear k11 k12 lo13 hbxw14 hzb_xw14
 obtain ⟨M18, eM18⟩ : ∃ M18, M18 = b_xw14 + 1 := ⟨_, rfl⟩
 rw [← eM18] at hMxw14
 have loM18 : b_xw14 + 1 ≤ M18 := by omega
 have upM18 : M18 ≤ b_xw14 + 1 := by omega
 clear eM18
 refine wpl_store rfl 27 (.tmp 5) (.tmp 11) rfl b_xw14 6 (rC (obR (tLeft a.b (tw (sn n)).toNat))) rfl rfl 27 _ hhxw14 szR (fun j _ => rC_one _ j) ?_
 intro xw19 t20 k21; try simp only [pA]
 have k22 := k15.touch t20 (by omega)
 have k23 := k16.touch t20 (by omega)
 have lo24 := t20.below lo17 (by omega)
 have h25 := t20.sz hMxw14
 clear hhxw14 k15 k16 lo17 hMxw14 t20
 obtain ⟨M26, hM26⟩ := sz_some xw19
 have lt_27 := k22.ltN hM26
 have lt_28 := k23.ltN hM26
 have lt_29 := k21.ltN hM26
 cases h1_ : (((a.hi <<< (n).toNat) >>> (n).toNat) == a.hi)
 ·have H1_ := hid h1_
  clear h1_
  go_upto_region 2 with fail
  obtain ⟨c30, c31, c32, c33, c34, c35⟩ := r_cells k22
  refine wp_region_later1 (M26) ?_
  try simp only [pA]
  go_big_quiet_step (fail)
  refine later_c1 hM26 23 (.tmp 12) rfl rfl und64 rfl c33 (by rfl) ?_; simp only [pA]
  go_big_quiet_step (fail)
  refine later_b (x := (.tmp 13)) (y := (.tmp 14)) rfl (bin_shlu _ a.hi n) rfl rfl (by rfl) ?_; simp only [pA]
  go_big_quiet_step (fail)
  refine later_b (x := (.tmp 15)) (y := (.tmp 16)) rfl (bin_shru _ (a.hi <<< (n).toNat) n) rfl rfl (by rfl) ?_; simp only [pA]
  go_big_quiet_step (fail)
  refine later_c1 hM26 23 (.tmp 18) rfl rfl und64 rfl c33 (by rfl) ?_; simp only [pA]
  refine later_b (x := (.tmp 17)) (y := (.tmp 19)) rfl (BinRun.is H1_.out (bin_eql _ ((a.hi <<< (n).toNat) >>> (n).toNat) a.hi)) rfl rfl (by rfl) ?_; simp only [pA]
  refine wpQuiet_nil (laterE hM26 ?_)
  intro xw36 M37 hbxw36 hM37 lM37
  have k38 := k22.below hbxw36 (by omega)
  have k39 := k23.below hbxw36 (by omega)
  have k40 := k21.below hbxw36 (by omega)
  have lo41 := lo24.trans (hbxw36.mono (by omega))
  clear k22 c30 c31 c32 c33 c34 c35 k23 k21 lo24 hbxw36
  cases h2_ : ((BitVec.sshiftRight (a.sl <<< (n).toNat) (n).toNat) == a.sl)
  ·have H2_ := hid h2_
   clear h2_
   go_upto_region 4 with fail
   obtain ⟨c42, c43, c44, c45, c46, c47⟩ := r_cells k38
   refine wp_region_later1 (M37) ?_
   try simp only [pA]
   go_big_quiet_step (fail)
   refine later_c1 hM37 2 (.tmp 31) rfl rfl undI64 rfl c46 (by rfl) ?_; simp only [pA]
   go_big_quiet_step (fail)
   refine later_b (x := (.tmp 32)) (y := (.tmp 33)) rfl (bin_sshl _ a.sl n) rfl rfl (by rfl) ?_; simp only [pA]
   go_big_quiet_step (fail)
   refine later_b (x := (.tmp 34)) (y := (.tmp 35)) rfl (bin_sshrg _ (a.sl <<< (n).toNat) n) rfl rfl (by rfl) ?_; simp only [pA]
   go_big_quiet_step (fail)
   refine later_c1 hM37 2 (.tmp 37) rfl rfl undI64 rfl c46 (by rfl) ?_; simp only [pA]
   refine later_b (x := (.tmp 36)) (y := (.tmp 38)) rfl (BinRun.is H2_.out (bin_seql _ (BitVec.sshiftRight (a.sl <<< (n).toNat) (n).toNat) a.sl)) rfl rfl (by rfl) ?_; simp only [pA]
   iterate 11 (go_big_quiet_step (fail))
   refine wpQuiet_nil (laterE hM37 ?_)
   intro xw48 M49 hbxw48 hM49 lM49
   have k50 := k38.below hbxw48 (by omega)
   have k51 := k39.below hbxw48 (by omega)
   have k52 := k40.below hbxw48 (by omega)
   have lo53 := lo41.trans (hbxw48.mono (by omega))
   clear k38 c42 c43 c44 c45 c46 c47 k39 k40 lo41 hbxw48
   go_upto_region 6 with fail
   refine wp_region_lit ?_
   try simp only [pA]
   change wpList _ _ _ ((_ :: []) ++ (_ :: [])) _ _
   refine wpList_prefix (C := fun w' => ∃ x : Later M49 xw48, w' = x.w') _ _ _ _ ⟨⟨_, Below.refl _ _⟩, rfl⟩ ?_
   refine later_row hM49 27 (.tmp 5) rfl (b_xw14) rfl 27 6 _ k52 undR szR (by rfl) ?_; simp only [pA]
   refine wpQuiet_nil (laterE hM49 ?_)
   intro xw54 M55 hbxw54 hM55 lM55
   have k56 := k50.below hbxw54 (by omega)
   have k57 := k51.below hbxw54 (by omega)
   have k58 := k52.below hbxw54 (by omega)
   have lo59 := lo53.trans (hbxw54.mono (by omega))
   clear k50 k51 k52 lo53 hbxw54
   refine wpl_store rfl 27 (.tmp 4) (.tmp 61) rfl (N + 1) 6 (rC (obR (tLeft a.b (tw (sn n)).toNat))) rfl rfl 27 _ k57 szR (fun j _ => rC_one _ j) ?_
   intro xw60 t61 k62; try simp only [pA]
   have k63 := k56.touch t61 (by omega)
   have k64 := k58.touch t61 (by omega)
   have lo65 := t61.below lo59 (by omega)
   have h66 := t61.sz hM55
   clear k57 k56 k58 lo59 hM55 t61
   obtain ⟨M67, hM67⟩ := sz_some xw60
   have lt_68 := k63.ltN hM67
   have lt_69 := k62.ltN hM67
   have lt_70 := k64.ltN hM67
   go_wp2_with fail
   refine post_r rfl (N + 1) rfl k62 undR szR rfl ?_
   exact ⟨by rw [ER.out]; first | rfl | (simp only [shUpR, H1_.out, H2_.out, bB] <;> rfl), lo65⟩
  ·have H2_ := hid h2_
   clear h2_
   cases h3_ : ((BitVec.sshiftRight (a.sh <<< (n).toNat) (n).toNat) == a.sh)
   ·have H3_ := hid h3_
    clear h3_
    go_upto_region 4 with fail
    obtain ⟨c42, c43, c44, c45, c46, c47⟩ := r_cells k38
    refine wp_region_later1 (M37) ?_
    try simp only [pA]
    go_big_quiet_step (fail)
    refine later_c1 hM37 2 (.tmp 31) rfl rfl undI64 rfl c46 (by rfl) ?_; simp only [pA]
    go_big_quiet_step (fail)
    refine later_b (x := (.tmp 32)) (y := (.tmp 33)) rfl (bin_sshl _ a.sl n) rfl rfl (by rfl) ?_; simp only [pA]
    go_big_quiet_step (fail)
    refine later_b (x := (.tmp 34)) (y := (.tmp 35)) rfl (bin_sshrg _ (a.sl <<< (n).toNat) n) rfl rfl (by rfl) ?_; simp only [pA]
    go_big_quiet_step (fail)
    refine later_c1 hM37 2 (.tmp 37) rfl rfl undI64 rfl c46 (by rfl) ?_; simp only [pA]
    refine later_b (x := (.tmp 36)) (y := (.tmp 38)) rfl (BinRun.is H2_.out (bin_seql _ (BitVec.sshiftRight (a.sl <<< (n).toNat) (n).toNat) a.sl)) rfl rfl (by rfl) ?_; simp only [pA]
    iterate 2 (go_big_quiet_step (fail))
    refine later_c1 hM37 2 (.tmp 41) rfl rfl undI64 rfl c47 (by rfl) ?_; simp only [pA]
    go_big_quiet_step (fail)
    refine later_b (x := (.tmp 42)) (y := (.tmp 43)) rfl (bin_sshl _ a.sh n) rfl rfl (by rfl) ?_; simp only [pA]
    go_big_quiet_step (fail)
    refine later_b (x := (.tmp 44)) (y := (.tmp 45)) rfl (bin_sshrg _ (a.sh <<< (n).toNat) n) rfl rfl (by rfl) ?_; simp only [pA]
    go_big_quiet_step (fail)
    refine later_c1 hM37 2 (.tmp 47) rfl rfl undI64 rfl c47 (by rfl) ?_; simp only [pA]
    refine later_b (x := (.tmp 46)) (y := (.tmp 48)) rfl (BinRun.is H3_.out (bin_seql _ (BitVec.sshiftRight (a.sh <<< (n).toNat) (n).toNat) a.sh)) rfl rfl (by rfl) ?_; simp only [pA]
    go_big_quiet_step (fail)
    refine wpQuiet_nil (laterE hM37 ?_)
    intro xw48 M49 hbxw48 hM49 lM49
    have k50 := k38.below hbxw48 (by omega)
    have k51 := k39.below hbxw48 (by omega)
    have k52 := k40.below hbxw48 (by omega)
    have lo53 := lo41.trans (hbxw48.mono (by omega))
    clear k38 c42 c43 c44 c45 c46 c47 k39 k40 lo41 hbxw48
    go_upto_region 6 with fail
    refine wp_region_lit ?_
    try simp only [pA]
    change wpList _ _ _ ((_ :: []) ++ (_ :: [])) _ _
    refine wpList_prefix (C := fun w' => ∃ x : Later M49 xw48, w' = x.w') _ _ _ _ ⟨⟨_, Below.refl _ _⟩, rfl⟩ ?_
    refine later_row hM49 27 (.tmp 5) rfl (b_xw14) rfl 27 6 _ k52 undR szR (by rfl) ?_; simp only [pA]
    refine wpQuiet_nil (laterE hM49 ?_)
    intro xw54 M55 hbxw54 hM55 lM55
    have k56 := k50.below hbxw54 (by omega)
    have k57 := k51.below hbxw54 (by omega)
    have k58 := k52.below hbxw54 (by omega)
    have lo59 := lo53.trans (hbxw54.mono (by omega))
    clear k50 k51 k52 lo53 hbxw54
    refine wpl_store rfl 27 (.tmp 4) (.tmp 61) rfl (N + 1) 6 (rC (obR (tLeft a.b (tw (sn n)).toNat))) rfl rfl 27 _ k57 szR (fun j _ => rC_one _ j) ?_
    intro xw60 t61 k62; try simp only [pA]
    have k63 := k56.touch t61 (by omega)
    have k64 := k58.touch t61 (by omega)
    have lo65 := t61.below lo59 (by omega)
    have h66 := t61.sz hM55
    clear k57 k56 k58 lo59 hM55 t61
    obtain ⟨M67, hM67⟩ := sz_some xw60
    have lt_68 := k63.ltN hM67
    have lt_69 := k62.ltN hM67
    have lt_70 := k64.ltN hM67
    go_wp2_with fail
    refine post_r rfl (N + 1) rfl k62 undR szR rfl ?_
    exact ⟨by rw [ER.out]; first | rfl | (simp only [shUpR, H1_.out, H2_.out, H3_.out, bB] <;> rfl), lo65⟩
   ·have H3_ := hid h3_
    clear h3_
    go_upto_region 4 with fail
    obtain ⟨c42, c43, c44, c45, c46, c47⟩ := r_cells k38
    refine wp_region_later1 (M37) ?_
    try simp only [pA]
    go_big_quiet_step (fail)
    refine later_c1 hM37 2 (.tmp 31) rfl rfl undI64 rfl c46 (by rfl) ?_; simp only [pA]
    go_big_quiet_step (fail)
    refine later_b (x := (.tmp 32)) (y := (.tmp 33)) rfl (bin_sshl _ a.sl n) rfl rfl (by rfl) ?_; simp only [pA]
    go_big_quiet_step (fail)
    refine later_b (x := (.tmp 34)) (y := (.tmp 35)) rfl (bin_sshrg _ (a.sl <<< (n).toNat) n) rfl rfl (by rfl) ?_; simp only [pA]
    go_big_quiet_step (fail)
    refine later_c1 hM37 2 (.tmp 37) rfl rfl undI64 rfl c46 (by rfl) ?_; simp only [pA]
    refine later_b (x := (.tmp 36)) (y := (.tmp 38)) rfl (BinRun.is H2_.out (bin_seql _ (BitVec.sshiftRight (a.sl <<< (n).toNat) (n).toNat) a.sl)) rfl rfl (by rfl) ?_; simp only [pA]
    iterate 2 (go_big_quiet_step (fail))
    refine later_c1 hM37 2 (.tmp 41) rfl rfl undI64 rfl c47 (by rfl) ?_; simp only [pA]
    go_big_quiet_step (fail)
    refine later_b (x := (.tmp 42)) (y := (.tmp 43)) rfl (bin_sshl _ a.sh n) rfl rfl (by rfl) ?_; simp only [pA]
    go_big_quiet_step (fail)
    refine later_b (x := (.tmp 44)) (y := (.tmp 45)) rfl (bin_sshrg _ (a.sh <<< (n).toNat) n) rfl rfl (by rfl) ?_; simp only [pA]
    go_big_quiet_step (fail)
    refine later_c1 hM37 2 (.tmp 47) rfl rfl undI64 rfl c47 (by rfl) ?_; simp only [pA]
    refine later_b (x := (.tmp 46)) (y := (.tmp 48)) rfl (BinRun.is H3_.out (bin_seql _ (BitVec.sshiftRight (a.sh <<< (n).toNat) (n).toNat) a.sh)) rfl rfl (by rfl) ?_; simp only [pA]
    go_big_quiet_step (fail)
    refine wpQuiet_nil (laterE hM37 ?_)
    intro xw48 M49 hbxw48 hM49 lM49
    have k50 := k38.below hbxw48 (by omega)
    have k51 := k39.below hbxw48 (by omega)
    have k52 := k40.below hbxw48 (by omega)
    have lo53 := lo41.trans (hbxw48.mono (by omega))
    clear k38 c42 c43 c44 c45 c46 c47 k39 k40 lo41 hbxw48
    go_upto_region 5 with fail
    refine wp_region_held (S := fun w' => (Has w' N 27 6 (rC a))) (by kernel_rfl) ?_
    replace k50 : Has xw48.drew N 27 6 (rC a) := k50
    replace k51 : Has xw48.drew (N + 1) 27 6 (rC zeroR) := k51
    replace k52 : Has xw48.drew b_xw14 27 6 (rC (obR (tLeft a.b (tw (sn n)).toNat))) := k52
    replace hM49 : Sz xw48.drew M49 := hM49
    replace lo53 : Below N w xw48.drew := lo53.drew
    change wpAnyH _ _ _ _ _ _ _ _ (World.drew _)
    generalize xw48.drew = xw54 at *
    refine held_take (i := 0) (v := (Value.pointer (some ⟨N, 4, none⟩))) (d := some 51) rfl (by kernel_rfl) (by kernel_rfl) (by kernel_rfl) (by kernel_rfl) (fun _ _ _ h => h) (Or.inl ⟨by rfl, fun wq hq0 => run_fa 27 (.tmp 2) 3 4 rfl rfl faR3⟩) k50 ?_; simp only [pA]
    refine held_take (i := 1) (v := (S a.sl)) (d := some 52) rfl (by kernel_rfl) (by kernel_rfl) (by kernel_rfl) (by kernel_rfl) (fun _ _ _ h => h) (Or.inl ⟨by rfl, fun wq hq0 => run_c1 2 (.tmp 51) rfl ⟨N, 4, none⟩ rfl undI64 rfl (r_cells hq0).2.2.2.2.1⟩) k50 ?_; simp only [pA]
    refine held_take (i := 2) (v := (Q n)) (d := some 53) rfl (by kernel_rfl) (by kernel_rfl) (by kernel_rfl) (by kernel_rfl) (fun _ _ _ h => h) (Or.inl ⟨by rfl, fun wq hq0 => run_mv (x := (.tmp 1)) rfl wq rfl⟩) k50 ?_; simp only [pA]
    refine held_take (i := 3) (v := (S (a.sl <<< (n).toNat))) (d := some 54) rfl (by kernel_rfl) (by kernel_rfl) (by kernel_rfl) (by kernel_rfl) (fun _ _ _ h => h) (Or.inl ⟨by rfl, fun wq hq0 => (bin_sshl _ a.sl n) _ _ (.tmp 52) (.tmp 53) _ wq rfl rfl rfl⟩) k50 ?_; simp only [pA]
    refine held_take (i := 4) (v := (Value.pointer (some ⟨N, 5, none⟩))) (d := some 55) rfl (by kernel_rfl) (by kernel_rfl) (by kernel_rfl) (by kernel_rfl) (fun _ _ _ h => h) (Or.inl ⟨by rfl, fun wq hq0 => run_fa 27 (.tmp 2) 4 5 rfl rfl faR4⟩) k50 ?_; simp only [pA]
    refine held_take (i := 5) (v := (S a.sh)) (d := some 56) rfl (by kernel_rfl) (by kernel_rfl) (by kernel_rfl) (by kernel_rfl) (fun _ _ _ h => h) (Or.inl ⟨by rfl, fun wq hq0 => run_c1 2 (.tmp 55) rfl ⟨N, 5, none⟩ rfl undI64 rfl (r_cells hq0).2.2.2.2.2⟩) k50 ?_; simp only [pA]
    refine held_take (i := 6) (v := (Q n)) (d := some 57) rfl (by kernel_rfl) (by kernel_rfl) (by kernel_rfl) (by kernel_rfl) (fun _ _ _ h => h) (Or.inl ⟨by rfl, fun wq hq0 => run_mv (x := (.tmp 1)) rfl wq rfl⟩) k50 ?_; simp only [pA]
    refine held_take (i := 7) (v := (S (a.sh <<< (n).toNat))) (d := some 58) rfl (by kernel_rfl) (by kernel_rfl) (by kernel_rfl) (by kernel_rfl) (fun _ _ _ h => h) (Or.inl ⟨by rfl, fun wq hq0 => (bin_sshl _ a.sh n) _ _ (.tmp 56) (.tmp 57) _ wq rfl rfl rfl⟩) k50 ?_; simp only [pA]
    refine held_take (i := 8) (v := (Value.pointer (some ⟨b_xw14, 4, none⟩))) (d := some 59) rfl (by kernel_rfl) (by kernel_rfl) (by kernel_rfl) (by kernel_rfl) (fun _ _ _ h => h) (Or.inl ⟨by rfl, fun wq hq0 => run_fa 27 (.tmp 5) 3 4 rfl rfl faR3⟩) k50 ?_; simp only [pA]
    refine wpAnyH_all (rs := [9]) (by kernel_rfl) (by simp) ?_
    intro iq hiq; simp only [List.mem_singleton] at hiq; subst hiq
    refine opg_list rfl ?_
    refine wpl_setN (by rfl) (by kernel_rfl) 2 (.tmp 59) (.tmp 54) rfl b_xw14 4 rfl _ rfl szI rfl rfl 27 6 _ k52 (by omega) ?_
    intro xw56 t57 k58_; try simp only [pA]
    have k58 : Has xw56 b_xw14 27 6 (rC ⟨(obR (tLeft a.b (tw (sn n)).toNat)).b, (obR (tLeft a.b (tw (sn n)).toNat)).lo, (obR (tLeft a.b (tw (sn n)).toNat)).hi, (a.sl <<< (n).toNat), (obR (tLeft a.b (tw (sn n)).toNat)).sh⟩) := k58_.congr (fun j hj => set_sl _ _ j)
    have k59 := k50.touch t57 (by omega)
    have k60 := k51.touch t57 (by omega)
    have lo61 := t57.below lo53 (by omega)
    have h62 := t57.sz hM49
    clear k52 k58_ k50 k51 lo53 hM49 t57
    refine ⟨k59, ?_⟩
    refine held_take (i := 10) (v := (Value.pointer (some ⟨b_xw14, 5, none⟩))) (d := some 60) rfl (by kernel_rfl) (by kernel_rfl) (by kernel_rfl) (by kernel_rfl) (fun _ _ _ h => h) (Or.inl ⟨by rfl, fun wq hq0 => run_fa 27 (.tmp 5) 4 5 rfl rfl faR4⟩) k59 ?_; simp only [pA]
    refine wpAnyH_all (rs := [11]) (by kernel_rfl) (by simp) ?_
    intro iq hiq; simp only [List.mem_singleton] at hiq; subst hiq
    refine opg_list rfl ?_
    refine wpl_setN (by rfl) (by kernel_rfl) 2 (.tmp 60) (.tmp 58) rfl b_xw14 5 rfl _ rfl szI rfl rfl 27 6 _ k58 (by omega) ?_
    intro xw63 t64 k65_; try simp only [pA]
    have k65 : Has xw63 b_xw14 27 6 (rC ⟨(obR (tLeft a.b (tw (sn n)).toNat)).b, (obR (tLeft a.b (tw (sn n)).toNat)).lo, (obR (tLeft a.b (tw (sn n)).toNat)).hi, (a.sl <<< (n).toNat), (a.sh <<< (n).toNat)⟩) := k65_.congr (fun j hj => set_sh _ _ j hj)
    have k66 := k59.touch t64 (by omega)
    have k67 := k60.touch t64 (by omega)
    have lo68 := t64.below lo61 (by omega)
    have h69 := t64.sz h62
    clear k58 k65_ k59 k60 lo61 h62 t64
    refine ⟨k66, ?_⟩
    refine wpAnyH_done (by kernel_rfl) ?_ _
    obtain ⟨M70, hM70⟩ := sz_some xw63
    have lt_71 := k66.ltN hM70
    have lt_72 := k67.ltN hM70
    have lt_73 := k65.ltN hM70
    go_upto_region 6 with fail
    refine wp_region_lit ?_
    try simp only [pA]
    change wpList _ _ _ ((_ :: []) ++ (_ :: [])) _ _
    refine wpList_prefix (C := fun w' => ∃ x : Later M70 xw63, w' = x.w') _ _ _ _ ⟨⟨_, Below.refl _ _⟩, rfl⟩ ?_
    refine later_row hM70 27 (.tmp 5) rfl (b_xw14) rfl 27 6 _ k65 undR szR (by rfl) ?_; simp only [pA]
    refine wpQuiet_nil (laterE hM70 ?_)
    intro xw74 M75 hbxw74 hM75 lM75
    have k76 := k66.below hbxw74 (by omega)
    have k77 := k67.below hbxw74 (by omega)
    have k78 := k65.below hbxw74 (by omega)
    have lo79 := lo68.trans (hbxw74.mono (by omega))
    clear k66 k67 k65 lo68 hbxw74
    refine wpl_store rfl 27 (.tmp 4) (.tmp 61) rfl (N + 1) 6 (rC ⟨(obR (tLeft a.b (tw (sn n)).toNat)).b, (obR (tLeft a.b (tw (sn n)).toNat)).lo, (obR (tLeft a.b (tw (sn n)).toNat)).hi, (a.sl <<< (n).toNat), (a.sh <<< (n).toNat)⟩) rfl rfl 27 _ k77 szR (fun j _ => rC_one _ j) ?_
    intro xw80 t81 k82; try simp only [pA]
    have k83 := k76.touch t81 (by omega)
    have k84 := k78.touch t81 (by omega)
    have lo85 := t81.below lo79 (by omega)
    have h86 := t81.sz hM75
    clear k77 k76 k78 lo79 hM75 t81
    obtain ⟨M87, hM87⟩ := sz_some xw80
    have lt_88 := k83.ltN hM87
    have lt_89 := k82.ltN hM87
    have lt_90 := k84.ltN hM87
    go_wp2_with fail
    refine post_r rfl (N + 1) rfl k82 undR szR rfl ?_
    exact ⟨by rw [ER.out]; first | rfl | (simp only [shUpR, H1_.out, H2_.out, H3_.out, bB] <;> rfl), lo85⟩
 ·have H1_ := hid h1_
  clear h1_
  go_upto_region 2 with fail
  obtain ⟨c30, c31, c32, c33, c34, c35⟩ := r_cells k22
  refine wp_region_later1 (M26) ?_
  try simp only [pA]
  go_big_quiet_step (fail)
  refine later_c1 hM26 23 (.tmp 12) rfl rfl und64 rfl c33 (by rfl) ?_; simp only [pA]
  go_big_quiet_step (fail)
  refine later_b (x := (.tmp 13)) (y := (.tmp 14)) rfl (bin_shlu _ a.hi n) rfl rfl (by rfl) ?_; simp only [pA]
  go_big_quiet_step (fail)
  refine later_b (x := (.tmp 15)) (y := (.tmp 16)) rfl (bin_shru _ (a.hi <<< (n).toNat) n) rfl rfl (by rfl) ?_; simp only [pA]
  go_big_quiet_step (fail)
  refine later_c1 hM26 23 (.tmp 18) rfl rfl und64 rfl c33 (by rfl) ?_; simp only [pA]
  refine later_b (x := (.tmp 17)) (y := (.tmp 19)) rfl (BinRun.is H1_.out (bin_eql _ ((a.hi <<< (n).toNat) >>> (n).toNat) a.hi)) rfl rfl (by rfl) ?_; simp only [pA]
  refine wpQuiet_nil (laterE hM26 ?_)
  intro xw36 M37 hbxw36 hM37 lM37
  have k38 := k22.below hbxw36 (by omega)
  have k39 := k23.below hbxw36 (by omega)
  have k40 := k21.below hbxw36 (by omega)
  have lo41 := lo24.trans (hbxw36.mono (by omega))
  clear k22 c30 c31 c32 c33 c34 c35 k23 k21 lo24 hbxw36
  go_upto_region 3 with fail
  refine wp_region_held (S := fun w' => (Has w' N 27 6 (rC a))) (by kernel_rfl) ?_
  replace k38 : Has xw36.drew N 27 6 (rC a) := k38
  replace k39 : Has xw36.drew (N + 1) 27 6 (rC zeroR) := k39
  replace k40 : Has xw36.drew b_xw14 27 6 (rC (obR (tLeft a.b (tw (sn n)).toNat))) := k40
  replace hM37 : Sz xw36.drew M37 := hM37
  replace lo41 : Below N w xw36.drew := lo41.drew
  change wpAnyH _ _ _ _ _ _ _ _ (World.drew _)
  generalize xw36.drew = xw42 at *
  refine held_take (i := 0) (v := (Value.pointer (some ⟨N, 2, none⟩))) (d := some 21) rfl (by kernel_rfl) (by kernel_rfl) (by kernel_rfl) (by kernel_rfl) (fun _ _ _ h => h) (Or.inl ⟨by rfl, fun wq hq0 => run_fa 27 (.tmp 2) 1 2 rfl rfl faR1⟩) k38 ?_; simp only [pA]
  refine held_take (i := 1) (v := (Q a.lo)) (d := some 22) rfl (by kernel_rfl) (by kernel_rfl) (by kernel_rfl) (by kernel_rfl) (fun _ _ _ h => h) (Or.inl ⟨by rfl, fun wq hq0 => run_c1 23 (.tmp 21) rfl ⟨N, 2, none⟩ rfl und64 rfl (r_cells hq0).2.2.1⟩) k38 ?_; simp only [pA]
  refine held_take (i := 2) (v := (Q n)) (d := some 23) rfl (by kernel_rfl) (by kernel_rfl) (by kernel_rfl) (by kernel_rfl) (fun _ _ _ h => h) (Or.inl ⟨by rfl, fun wq hq0 => run_mv (x := (.tmp 1)) rfl wq rfl⟩) k38 ?_; simp only [pA]
  refine held_take (i := 3) (v := (Q (a.lo <<< (n).toNat))) (d := some 24) rfl (by kernel_rfl) (by kernel_rfl) (by kernel_rfl) (by kernel_rfl) (fun _ _ _ h => h) (Or.inl ⟨by rfl, fun wq hq0 => (bin_shlu _ a.lo n) _ _ (.tmp 22) (.tmp 23) _ wq rfl rfl rfl⟩) k38 ?_; simp only [pA]
  refine held_take (i := 4) (v := (Value.pointer (some ⟨N, 3, none⟩))) (d := some 25) rfl (by kernel_rfl) (by kernel_rfl) (by kernel_rfl) (by kernel_rfl) (fun _ _ _ h => h) (Or.inl ⟨by rfl, fun wq hq0 => run_fa 27 (.tmp 2) 2 3 rfl rfl faR2⟩) k38 ?_; simp only [pA]
  refine held_take (i := 5) (v := (Q a.hi)) (d := some 26) rfl (by kernel_rfl) (by kernel_rfl) (by kernel_rfl) (by kernel_rfl) (fun _ _ _ h => h) (Or.inl ⟨by rfl, fun wq hq0 => run_c1 23 (.tmp 25) rfl ⟨N, 3, none⟩ rfl und64 rfl (r_cells hq0).2.2.2.1⟩) k38 ?_; simp only [pA]
  refine held_take (i := 6) (v := (Q n)) (d := some 27) rfl (by kernel_rfl) (by kernel_rfl) (by kernel_rfl) (by kernel_rfl) (fun _ _ _ h => h) (Or.inl ⟨by rfl, fun wq hq0 => run_mv (x := (.tmp 1)) rfl wq rfl⟩) k38 ?_; simp only [pA]
  refine held_take (i := 7) (v := (Q (a.hi <<< (n).toNat))) (d := some 28) rfl (by kernel_rfl) (by kernel_rfl) (by kernel_rfl) (by kernel_rfl) (fun _ _ _ h => h) (Or.inl ⟨by rfl, fun wq hq0 => (bin_shlu _ a.hi n) _ _ (.tmp 26) (.tmp 27) _ wq rfl rfl rfl⟩) k38 ?_; simp only [pA]
  refine held_take (i := 8) (v := (Value.pointer (some ⟨b_xw14, 2, none⟩))) (d := some 29) rfl (by kernel_rfl) (by kernel_rfl) (by kernel_rfl) (by kernel_rfl) (fun _ _ _ h => h) (Or.inl ⟨by rfl, fun wq hq0 => run_fa 27 (.tmp 5) 1 2 rfl rfl faR1⟩) k38 ?_; simp only [pA]
  refine wpAnyH_all (rs := [9]) (by kernel_rfl) (by simp) ?_
  intro iq hiq; simp only [List.mem_singleton] at hiq; subst hiq
  refine opg_list rfl ?_
  refine wpl_setN (by rfl) (by kernel_rfl) 23 (.tmp 29) (.tmp 24) rfl b_xw14 2 rfl _ rfl sz64 rfl rfl 27 6 _ k40 (by omega) ?_
  intro xw44 t45 k46_; try simp only [pA]
  have k46 : Has xw44 b_xw14 27 6 (rC ⟨(obR (tLeft a.b (tw (sn n)).toNat)).b, (a.lo <<< (n).toNat), (obR (tLeft a.b (tw (sn n)).toNat)).hi, (obR (tLeft a.b (tw (sn n)).toNat)).sl, (obR (tLeft a.b (tw (sn n)).toNat)).sh⟩) := k46_.congr (fun j hj => set_lo _ _ j)
  have k47 := k38.touch t45 (by omega)
  have k48 := k39.touch t45 (by omega)
  have lo49 := t45.below lo41 (by omega)
  have h50 := t45.sz hM37
  clear k40 k46_ k38 k39 lo41 hM37 t45
  refine ⟨k47, ?_⟩
  refine held_take (i := 10) (v := (Value.pointer (some ⟨b_xw14, 3, none⟩))) (d := some 30) rfl (by kernel_rfl) (by kernel_rfl) (by kernel_rfl) (by kernel_rfl) (fun _ _ _ h => h) (Or.inl ⟨by rfl, fun wq hq0 => run_fa 27 (.tmp 5) 2 3 rfl rfl faR2⟩) k47 ?_; simp only [pA]
  refine wpAnyH_all (rs := [11]) (by kernel_rfl) (by simp) ?_
  intro iq hiq; simp only [List.mem_singleton] at hiq; subst hiq
  refine opg_list rfl ?_
  refine wpl_setN (by rfl) (by kernel_rfl) 23 (.tmp 30) (.tmp 28) rfl b_xw14 3 rfl _ rfl sz64 rfl rfl 27 6 _ k46 (by omega) ?_
  intro xw51 t52 k53_; try simp only [pA]
  have k53 : Has xw51 b_xw14 27 6 (rC ⟨(obR (tLeft a.b (tw (sn n)).toNat)).b, (a.lo <<< (n).toNat), (a.hi <<< (n).toNat), (obR (tLeft a.b (tw (sn n)).toNat)).sl, (obR (tLeft a.b (tw (sn n)).toNat)).sh⟩) := k53_.congr (fun j hj => set_hi _ _ j)
  have k54 := k47.touch t52 (by omega)
  have k55 := k48.touch t52 (by omega)
  have lo56 := t52.below lo49 (by omega)
  have h57 := t52.sz h50
  clear k46 k53_ k47 k48 lo49 h50 t52
  refine ⟨k54, ?_⟩
  refine wpAnyH_done (by kernel_rfl) ?_ _
  obtain ⟨M58, hM58⟩ := sz_some xw51
  have lt_59 := k54.ltN hM58
  have lt_60 := k55.ltN hM58
  have lt_61 := k53.ltN hM58
  cases h2_ : ((BitVec.sshiftRight (a.sl <<< (n).toNat) (n).toNat) == a.sl)
  ·have H2_ := hid h2_
   clear h2_
   go_upto_region 4 with fail
   obtain ⟨c62, c63, c64, c65, c66, c67⟩ := r_cells k54
   refine wp_region_later1 (M58) ?_
   try simp only [pA]
   go_big_quiet_step (fail)
   refine later_c1 hM58 2 (.tmp 31) rfl rfl undI64 rfl c66 (by rfl) ?_; simp only [pA]
   go_big_quiet_step (fail)
   refine later_b (x := (.tmp 32)) (y := (.tmp 33)) rfl (bin_sshl _ a.sl n) rfl rfl (by rfl) ?_; simp only [pA]
   go_big_quiet_step (fail)
   refine later_b (x := (.tmp 34)) (y := (.tmp 35)) rfl (bin_sshrg _ (a.sl <<< (n).toNat) n) rfl rfl (by rfl) ?_; simp only [pA]
   go_big_quiet_step (fail)
   refine later_c1 hM58 2 (.tmp 37) rfl rfl undI64 rfl c66 (by rfl) ?_; simp only [pA]
   refine later_b (x := (.tmp 36)) (y := (.tmp 38)) rfl (BinRun.is H2_.out (bin_seql _ (BitVec.sshiftRight (a.sl <<< (n).toNat) (n).toNat) a.sl)) rfl rfl (by rfl) ?_; simp only [pA]
   iterate 11 (go_big_quiet_step (fail))
   refine wpQuiet_nil (laterE hM58 ?_)
   intro xw68 M69 hbxw68 hM69 lM69
   have k70 := k54.below hbxw68 (by omega)
   have k71 := k55.below hbxw68 (by omega)
   have k72 := k53.below hbxw68 (by omega)
   have lo73 := lo56.trans (hbxw68.mono (by omega))
   clear k54 c62 c63 c64 c65 c66 c67 k55 k53 lo56 hbxw68
   go_upto_region 6 with fail
   refine wp_region_lit ?_
   try simp only [pA]
   change wpList _ _ _ ((_ :: []) ++ (_ :: [])) _ _
   refine wpList_prefix (C := fun w' => ∃ x : Later M69 xw68, w' = x.w') _ _ _ _ ⟨⟨_, Below.refl _ _⟩, rfl⟩ ?_
   refine later_row hM69 27 (.tmp 5) rfl (b_xw14) rfl 27 6 _ k72 undR szR (by rfl) ?_; simp only [pA]
   refine wpQuiet_nil (laterE hM69 ?_)
   intro xw74 M75 hbxw74 hM75 lM75
   have k76 := k70.below hbxw74 (by omega)
   have k77 := k71.below hbxw74 (by omega)
   have k78 := k72.below hbxw74 (by omega)
   have lo79 := lo73.trans (hbxw74.mono (by omega))
   clear k70 k71 k72 lo73 hbxw74
   refine wpl_store rfl 27 (.tmp 4) (.tmp 61) rfl (N + 1) 6 (rC ⟨(obR (tLeft a.b (tw (sn n)).toNat)).b, (a.lo <<< (n).toNat), (a.hi <<< (n).toNat), (obR (tLeft a.b (tw (sn n)).toNat)).sl, (obR (tLeft a.b (tw (sn n)).toNat)).sh⟩) rfl rfl 27 _ k77 szR (fun j _ => rC_one _ j) ?_
   intro xw80 t81 k82; try simp only [pA]
   have k83 := k76.touch t81 (by omega)
   have k84 := k78.touch t81 (by omega)
   have lo85 := t81.below lo79 (by omega)
   have h86 := t81.sz hM75
   clear k77 k76 k78 lo79 hM75 t81
   obtain ⟨M87, hM87⟩ := sz_some xw80
   have lt_88 := k83.ltN hM87
   have lt_89 := k82.ltN hM87
   have lt_90 := k84.ltN hM87
   go_wp2_with fail
   refine post_r rfl (N + 1) rfl k82 undR szR rfl ?_
   exact ⟨by rw [ER.out]; first | rfl | (simp only [shUpR, H1_.out, H2_.out, bB] <;> rfl), lo85⟩
  ·have H2_ := hid h2_
   clear h2_
   cases h3_ : ((BitVec.sshiftRight (a.sh <<< (n).toNat) (n).toNat) == a.sh)
   ·have H3_ := hid h3_
    clear h3_
    go_upto_region 4 with fail
    obtain ⟨c62, c63, c64, c65, c66, c67⟩ := r_cells k54
    refine wp_region_later1 (M58) ?_
    try simp only [pA]
    go_big_quiet_step (fail)
    refine later_c1 hM58 2 (.tmp 31) rfl rfl undI64 rfl c66 (by rfl) ?_; simp only [pA]
    go_big_quiet_step (fail)
    refine later_b (x := (.tmp 32)) (y := (.tmp 33)) rfl (bin_sshl _ a.sl n) rfl rfl (by rfl) ?_; simp only [pA]
    go_big_quiet_step (fail)
    refine later_b (x := (.tmp 34)) (y := (.tmp 35)) rfl (bin_sshrg _ (a.sl <<< (n).toNat) n) rfl rfl (by rfl) ?_; simp only [pA]
    go_big_quiet_step (fail)
    refine later_c1 hM58 2 (.tmp 37) rfl rfl undI64 rfl c66 (by rfl) ?_; simp only [pA]
    refine later_b (x := (.tmp 36)) (y := (.tmp 38)) rfl (BinRun.is H2_.out (bin_seql _ (BitVec.sshiftRight (a.sl <<< (n).toNat) (n).toNat) a.sl)) rfl rfl (by rfl) ?_; simp only [pA]
    iterate 2 (go_big_quiet_step (fail))
    refine later_c1 hM58 2 (.tmp 41) rfl rfl undI64 rfl c67 (by rfl) ?_; simp only [pA]
    go_big_quiet_step (fail)
    refine later_b (x := (.tmp 42)) (y := (.tmp 43)) rfl (bin_sshl _ a.sh n) rfl rfl (by rfl) ?_; simp only [pA]
    go_big_quiet_step (fail)
    refine later_b (x := (.tmp 44)) (y := (.tmp 45)) rfl (bin_sshrg _ (a.sh <<< (n).toNat) n) rfl rfl (by rfl) ?_; simp only [pA]
    go_big_quiet_step (fail)
    refine later_c1 hM58 2 (.tmp 47) rfl rfl undI64 rfl c67 (by rfl) ?_; simp only [pA]
    refine later_b (x := (.tmp 46)) (y := (.tmp 48)) rfl (BinRun.is H3_.out (bin_seql _ (BitVec.sshiftRight (a.sh <<< (n).toNat) (n).toNat) a.sh)) rfl rfl (by rfl) ?_; simp only [pA]
    go_big_quiet_step (fail)
    refine wpQuiet_nil (laterE hM58 ?_)
    intro xw68 M69 hbxw68 hM69 lM69
    have k70 := k54.below hbxw68 (by omega)
    have k71 := k55.below hbxw68 (by omega)
    have k72 := k53.below hbxw68 (by omega)
    have lo73 := lo56.trans (hbxw68.mono (by omega))
    clear k54 c62 c63 c64 c65 c66 c67 k55 k53 lo56 hbxw68
    go_upto_region 6 with fail
    refine wp_region_lit ?_
    try simp only [pA]
    change wpList _ _ _ ((_ :: []) ++ (_ :: [])) _ _
    refine wpList_prefix (C := fun w' => ∃ x : Later M69 xw68, w' = x.w') _ _ _ _ ⟨⟨_, Below.refl _ _⟩, rfl⟩ ?_
    refine later_row hM69 27 (.tmp 5) rfl (b_xw14) rfl 27 6 _ k72 undR szR (by rfl) ?_; simp only [pA]
    refine wpQuiet_nil (laterE hM69 ?_)
    intro xw74 M75 hbxw74 hM75 lM75
    have k76 := k70.below hbxw74 (by omega)
    have k77 := k71.below hbxw74 (by omega)
    have k78 := k72.below hbxw74 (by omega)
    have lo79 := lo73.trans (hbxw74.mono (by omega))
    clear k70 k71 k72 lo73 hbxw74
    refine wpl_store rfl 27 (.tmp 4) (.tmp 61) rfl (N + 1) 6 (rC ⟨(obR (tLeft a.b (tw (sn n)).toNat)).b, (a.lo <<< (n).toNat), (a.hi <<< (n).toNat), (obR (tLeft a.b (tw (sn n)).toNat)).sl, (obR (tLeft a.b (tw (sn n)).toNat)).sh⟩) rfl rfl 27 _ k77 szR (fun j _ => rC_one _ j) ?_
    intro xw80 t81 k82; try simp only [pA]
    have k83 := k76.touch t81 (by omega)
    have k84 := k78.touch t81 (by omega)
    have lo85 := t81.below lo79 (by omega)
    have h86 := t81.sz hM75
    clear k77 k76 k78 lo79 hM75 t81
    obtain ⟨M87, hM87⟩ := sz_some xw80
    have lt_88 := k83.ltN hM87
    have lt_89 := k82.ltN hM87
    have lt_90 := k84.ltN hM87
    go_wp2_with fail
    refine post_r rfl (N + 1) rfl k82 undR szR rfl ?_
    exact ⟨by rw [ER.out]; first | rfl | (simp only [shUpR, H1_.out, H2_.out, H3_.out, bB] <;> rfl), lo85⟩
   ·have H3_ := hid h3_
    clear h3_
    go_upto_region 4 with fail
    obtain ⟨c62, c63, c64, c65, c66, c67⟩ := r_cells k54
    refine wp_region_later1 (M58) ?_
    try simp only [pA]
    go_big_quiet_step (fail)
    refine later_c1 hM58 2 (.tmp 31) rfl rfl undI64 rfl c66 (by rfl) ?_; simp only [pA]
    go_big_quiet_step (fail)
    refine later_b (x := (.tmp 32)) (y := (.tmp 33)) rfl (bin_sshl _ a.sl n) rfl rfl (by rfl) ?_; simp only [pA]
    go_big_quiet_step (fail)
    refine later_b (x := (.tmp 34)) (y := (.tmp 35)) rfl (bin_sshrg _ (a.sl <<< (n).toNat) n) rfl rfl (by rfl) ?_; simp only [pA]
    go_big_quiet_step (fail)
    refine later_c1 hM58 2 (.tmp 37) rfl rfl undI64 rfl c66 (by rfl) ?_; simp only [pA]
    refine later_b (x := (.tmp 36)) (y := (.tmp 38)) rfl (BinRun.is H2_.out (bin_seql _ (BitVec.sshiftRight (a.sl <<< (n).toNat) (n).toNat) a.sl)) rfl rfl (by rfl) ?_; simp only [pA]
    iterate 2 (go_big_quiet_step (fail))
    refine later_c1 hM58 2 (.tmp 41) rfl rfl undI64 rfl c67 (by rfl) ?_; simp only [pA]
    go_big_quiet_step (fail)
    refine later_b (x := (.tmp 42)) (y := (.tmp 43)) rfl (bin_sshl _ a.sh n) rfl rfl (by rfl) ?_; simp only [pA]
    go_big_quiet_step (fail)
    refine later_b (x := (.tmp 44)) (y := (.tmp 45)) rfl (bin_sshrg _ (a.sh <<< (n).toNat) n) rfl rfl (by rfl) ?_; simp only [pA]
    go_big_quiet_step (fail)
    refine later_c1 hM58 2 (.tmp 47) rfl rfl undI64 rfl c67 (by rfl) ?_; simp only [pA]
    refine later_b (x := (.tmp 46)) (y := (.tmp 48)) rfl (BinRun.is H3_.out (bin_seql _ (BitVec.sshiftRight (a.sh <<< (n).toNat) (n).toNat) a.sh)) rfl rfl (by rfl) ?_; simp only [pA]
    go_big_quiet_step (fail)
    refine wpQuiet_nil (laterE hM58 ?_)
    intro xw68 M69 hbxw68 hM69 lM69
    have k70 := k54.below hbxw68 (by omega)
    have k71 := k55.below hbxw68 (by omega)
    have k72 := k53.below hbxw68 (by omega)
    have lo73 := lo56.trans (hbxw68.mono (by omega))
    clear k54 c62 c63 c64 c65 c66 c67 k55 k53 lo56 hbxw68
    go_upto_region 5 with fail
    refine wp_region_held (S := fun w' => (Has w' N 27 6 (rC a))) (by kernel_rfl) ?_
    replace k70 : Has xw68.drew N 27 6 (rC a) := k70
    replace k71 : Has xw68.drew (N + 1) 27 6 (rC zeroR) := k71
    replace k72 : Has xw68.drew b_xw14 27 6 (rC ⟨(obR (tLeft a.b (tw (sn n)).toNat)).b, (a.lo <<< (n).toNat), (a.hi <<< (n).toNat), (obR (tLeft a.b (tw (sn n)).toNat)).sl, (obR (tLeft a.b (tw (sn n)).toNat)).sh⟩) := k72
    replace hM69 : Sz xw68.drew M69 := hM69
    replace lo73 : Below N w xw68.drew := lo73.drew
    change wpAnyH _ _ _ _ _ _ _ _ (World.drew _)
    generalize xw68.drew = xw74 at *
    refine held_take (i := 0) (v := (Value.pointer (some ⟨N, 4, none⟩))) (d := some 51) rfl (by kernel_rfl) (by kernel_rfl) (by kernel_rfl) (by kernel_rfl) (fun _ _ _ h => h) (Or.inl ⟨by rfl, fun wq hq0 => run_fa 27 (.tmp 2) 3 4 rfl rfl faR3⟩) k70 ?_; simp only [pA]
    refine held_take (i := 1) (v := (S a.sl)) (d := some 52) rfl (by kernel_rfl) (by kernel_rfl) (by kernel_rfl) (by kernel_rfl) (fun _ _ _ h => h) (Or.inl ⟨by rfl, fun wq hq0 => run_c1 2 (.tmp 51) rfl ⟨N, 4, none⟩ rfl undI64 rfl (r_cells hq0).2.2.2.2.1⟩) k70 ?_; simp only [pA]
    refine held_take (i := 2) (v := (Q n)) (d := some 53) rfl (by kernel_rfl) (by kernel_rfl) (by kernel_rfl) (by kernel_rfl) (fun _ _ _ h => h) (Or.inl ⟨by rfl, fun wq hq0 => run_mv (x := (.tmp 1)) rfl wq rfl⟩) k70 ?_; simp only [pA]
    refine held_take (i := 3) (v := (S (a.sl <<< (n).toNat))) (d := some 54) rfl (by kernel_rfl) (by kernel_rfl) (by kernel_rfl) (by kernel_rfl) (fun _ _ _ h => h) (Or.inl ⟨by rfl, fun wq hq0 => (bin_sshl _ a.sl n) _ _ (.tmp 52) (.tmp 53) _ wq rfl rfl rfl⟩) k70 ?_; simp only [pA]
    refine held_take (i := 4) (v := (Value.pointer (some ⟨N, 5, none⟩))) (d := some 55) rfl (by kernel_rfl) (by kernel_rfl) (by kernel_rfl) (by kernel_rfl) (fun _ _ _ h => h) (Or.inl ⟨by rfl, fun wq hq0 => run_fa 27 (.tmp 2) 4 5 rfl rfl faR4⟩) k70 ?_; simp only [pA]
    refine held_take (i := 5) (v := (S a.sh)) (d := some 56) rfl (by kernel_rfl) (by kernel_rfl) (by kernel_rfl) (by kernel_rfl) (fun _ _ _ h => h) (Or.inl ⟨by rfl, fun wq hq0 => run_c1 2 (.tmp 55) rfl ⟨N, 5, none⟩ rfl undI64 rfl (r_cells hq0).2.2.2.2.2⟩) k70 ?_; simp only [pA]
    refine held_take (i := 6) (v := (Q n)) (d := some 57) rfl (by kernel_rfl) (by kernel_rfl) (by kernel_rfl) (by kernel_rfl) (fun _ _ _ h => h) (Or.inl ⟨by rfl, fun wq hq0 => run_mv (x := (.tmp 1)) rfl wq rfl⟩) k70 ?_; simp only [pA]
    refine held_take (i := 7) (v := (S (a.sh <<< (n).toNat))) (d := some 58) rfl (by kernel_rfl) (by kernel_rfl) (by kernel_rfl) (by kernel_rfl) (fun _ _ _ h => h) (Or.inl ⟨by rfl, fun wq hq0 => (bin_sshl _ a.sh n) _ _ (.tmp 56) (.tmp 57) _ wq rfl rfl rfl⟩) k70 ?_; simp only [pA]
    refine held_take (i := 8) (v := (Value.pointer (some ⟨b_xw14, 4, none⟩))) (d := some 59) rfl (by kernel_rfl) (by kernel_rfl) (by kernel_rfl) (by kernel_rfl) (fun _ _ _ h => h) (Or.inl ⟨by rfl, fun wq hq0 => run_fa 27 (.tmp 5) 3 4 rfl rfl faR3⟩) k70 ?_; simp only [pA]
    refine wpAnyH_all (rs := [9]) (by kernel_rfl) (by simp) ?_
    intro iq hiq; simp only [List.mem_singleton] at hiq; subst hiq
    refine opg_list rfl ?_
    refine wpl_setN (by rfl) (by kernel_rfl) 2 (.tmp 59) (.tmp 54) rfl b_xw14 4 rfl _ rfl szI rfl rfl 27 6 _ k72 (by omega) ?_
    intro xw76 t77 k78_; try simp only [pA]
    have k78 : Has xw76 b_xw14 27 6 (rC ⟨(obR (tLeft a.b (tw (sn n)).toNat)).b, (a.lo <<< (n).toNat), (a.hi <<< (n).toNat), (a.sl <<< (n).toNat), (obR (tLeft a.b (tw (sn n)).toNat)).sh⟩) := k78_.congr (fun j hj => set_sl _ _ j)
    have k79 := k70.touch t77 (by omega)
    have k80 := k71.touch t77 (by omega)
    have lo81 := t77.below lo73 (by omega)
    have h82 := t77.sz hM69
    clear k72 k78_ k70 k71 lo73 hM69 t77
    refine ⟨k79, ?_⟩
    refine held_take (i := 10) (v := (Value.pointer (some ⟨b_xw14, 5, none⟩))) (d := some 60) rfl (by kernel_rfl) (by kernel_rfl) (by kernel_rfl) (by kernel_rfl) (fun _ _ _ h => h) (Or.inl ⟨by rfl, fun wq hq0 => run_fa 27 (.tmp 5) 4 5 rfl rfl faR4⟩) k79 ?_; simp only [pA]
    refine wpAnyH_all (rs := [11]) (by kernel_rfl) (by simp) ?_
    intro iq hiq; simp only [List.mem_singleton] at hiq; subst hiq
    refine opg_list rfl ?_
    refine wpl_setN (by rfl) (by kernel_rfl) 2 (.tmp 60) (.tmp 58) rfl b_xw14 5 rfl _ rfl szI rfl rfl 27 6 _ k78 (by omega) ?_
    intro xw83 t84 k85_; try simp only [pA]
    have k85 : Has xw83 b_xw14 27 6 (rC ⟨(obR (tLeft a.b (tw (sn n)).toNat)).b, (a.lo <<< (n).toNat), (a.hi <<< (n).toNat), (a.sl <<< (n).toNat), (a.sh <<< (n).toNat)⟩) := k85_.congr (fun j hj => set_sh _ _ j hj)
    have k86 := k79.touch t84 (by omega)
    have k87 := k80.touch t84 (by omega)
    have lo88 := t84.below lo81 (by omega)
    have h89 := t84.sz h82
    clear k78 k85_ k79 k80 lo81 h82 t84
    refine ⟨k86, ?_⟩
    refine wpAnyH_done (by kernel_rfl) ?_ _
    obtain ⟨M90, hM90⟩ := sz_some xw83
    have lt_91 := k86.ltN hM90
    have lt_92 := k87.ltN hM90
    have lt_93 := k85.ltN hM90
    go_upto_region 6 with fail
    refine wp_region_lit ?_
    try simp only [pA]
    change wpList _ _ _ ((_ :: []) ++ (_ :: [])) _ _
    refine wpList_prefix (C := fun w' => ∃ x : Later M90 xw83, w' = x.w') _ _ _ _ ⟨⟨_, Below.refl _ _⟩, rfl⟩ ?_
    refine later_row hM90 27 (.tmp 5) rfl (b_xw14) rfl 27 6 _ k85 undR szR (by rfl) ?_; simp only [pA]
    refine wpQuiet_nil (laterE hM90 ?_)
    intro xw94 M95 hbxw94 hM95 lM95
    have k96 := k86.below hbxw94 (by omega)
    have k97 := k87.below hbxw94 (by omega)
    have k98 := k85.below hbxw94 (by omega)
    have lo99 := lo88.trans (hbxw94.mono (by omega))
    clear k86 k87 k85 lo88 hbxw94
    refine wpl_store rfl 27 (.tmp 4) (.tmp 61) rfl (N + 1) 6 (rC ⟨(obR (tLeft a.b (tw (sn n)).toNat)).b, (a.lo <<< (n).toNat), (a.hi <<< (n).toNat), (a.sl <<< (n).toNat), (a.sh <<< (n).toNat)⟩) rfl rfl 27 _ k97 szR (fun j _ => rC_one _ j) ?_
    intro xw100 t101 k102; try simp only [pA]
    have k103 := k96.touch t101 (by omega)
    have k104 := k98.touch t101 (by omega)
    have lo105 := t101.below lo99 (by omega)
    have h106 := t101.sz hM95
    clear k97 k96 k98 lo99 hM95 t101
    obtain ⟨M107, hM107⟩ := sz_some xw100
    have lt_108 := k103.ltN hM107
    have lt_109 := k102.ltN hM107
    have lt_110 := k104.ltN hM107
    go_wp2_with fail
    refine post_r rfl (N + 1) rfl k102 undR szR rfl ?_
    exact ⟨by rw [ER.out]; first | rfl | (simp only [shUpR, H1_.out, H2_.out, H3_.out, bB] <;> rfl), lo105⟩
end Go.Proofs.YtbbfdehipgkjmaaDoor
