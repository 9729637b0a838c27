/- Contracts of what ranges are reckoned with: short, needed, sums from a number on. -/
import Derived.Test.YtbbfdehipgkjmaaDoorMgSe0
namespace Go.Proofs.YtbbfdehipgkjmaaDoor
open Go Go.RowKit
def shortF (a : Rn) : Bool :=
 bif (BitVec.sle (BitVec.ofInt 64 (-2147483648)) a.sl) then (BitVec.sle a.sh 2147483647#64)
 else false
def needF (x : W) : Nat :=
 (blen ((x ^^^ (BitVec.sshiftRight x (63#64).toNat))).toNat)
set_option maxRecDepth 100000 in
set_option maxHeartbeats 4000000 in
theorem Need_any (x : W) (w : World) (N : Nat) (hN : Sz w N) : Calls Tryd.prog 73 #[(S x)] w fun e w' => e = .returned (.int .i64 ((needF x) : Int)) ∧ Below N w w' := by
 obtain ⟨rr, er⟩ : ∃ rr, rr = (needF x) := ⟨_, rfl⟩
 rw [← er]
 have ER := hid er
 clear er
 go_enter Tryd.func73, Tryd.ntmps73
 have lo0 : Below N w w := Below.refl N w
 go_upto_region 1 with fail
 refine wp_region_later1 (N) ?_
 try simp only [pA]
 iterate 2 (go_big_quiet_step (fail))
 refine later_b (x := (.tmp 4)) (y := (.const (.int .u64 63))) rfl (bin_sshrg _ x 63#64) rfl rfl (by rfl) ?_; simp only [pA]
 refine later_b (x := (.tmp 3)) (y := (.tmp 5)) rfl (bin_sxor _ x (BitVec.sshiftRight x (63#64).toNat)) rfl rfl (by rfl) ?_; simp only [pA]
 refine later_val (fun q => run_su (x := (.tmp 6)) rfl undI64 und64 rfl q.w') (by rfl) ?_; simp only [pA]
 go_big_quiet_step ((go_at_call 78; exact later_of hN _ (fun K hK hKN => Len_any (x ^^^ (BitVec.sshiftRight x (63#64).toNat)) _ K hK)))
 go_big_quiet_step (fail)
 refine wpQuiet_nil (laterE hN ?_)
 intro xw1 M2 hbxw1 hM2 lM2
 have lo3 := lo0.trans (hbxw1.mono (by omega))
 clear lo0 hbxw1
 go_wp2_with fail
 go_ret
 exact ⟨by rw [ER.out]; first | rfl | (simp only [needF, bB] <;> rfl), lo3⟩
def upFrom (r : Rn) (l : W) (p : W) (f : W) : Rn :=
 bif ((addO p f) != 0#64) then r
 else bif (BitVec.ule l (l + (p + f))) then bif (BitVec.sle l (l + (p + f))) then ⟨r.b, (uMax r.lo l), (uMin r.hi (l + (p + f))), (sMax r.sl l), (sMin r.sh (l + (p + f)))⟩
  else ⟨r.b, (uMax r.lo l), (uMin r.hi (l + (p + f))), r.sl, r.sh⟩
 else bif (BitVec.sle l (l + (p + f))) then ⟨r.b, r.lo, r.hi, (sMax r.sl l), (sMin r.sh (l + (p + f)))⟩
 else r
set_option maxRecDepth 100000 in
set_option maxHeartbeats 4000000 in
theorem UpFrom_any (r : Rn) (l : W) (p : W) (f : W) (w : World) (N : Nat) (hN : Sz w N) : Calls Tryd.prog 63 #[rV r, (Q l), (Q p), (Q f)] w fun e w' => e = .returned (rV (upFrom r l p f)) ∧ Below N w w' := by
 obtain ⟨rr, er⟩ : ∃ rr, rr = (upFrom r l p f) := ⟨_, rfl⟩
 rw [← er]
 have ER := hid er
 clear er
 unfold rV
 go_enter Tryd.func63, Tryd.ntmps63
 go_upto_region 1 with (first
  | (refine wpl_box rfl 27 (.tmp 0) rfl 6 _ rfl (N) hN ?_; intro w1 hN1 hb1 hh1)
  | (refine wpl_alloc rfl 27 rfl 6 (rC zeroR) zeR (N + 1) hN1 ?_; intro w2 hN2 hb2 hh2)
  | fail)
 have lo0 : Below N w w2 := (hb1.trans (hb2.mono (by omega)))
 have k1 := (hh1.below hb2 (by omega))
 have k2 := hh2
 clear hh1 hb1 hh2 hb2 hN1
 go_upto_region 1 with fail
 refine wp_region_later1 ((N + 1 + 1)) ?_
 try simp only [pA]
 iterate 2 (go_big_quiet_step (fail))
 refine later_val (fun q => run_add64Q (x := (.tmp 13)) (y := (.tmp 14)) rfl rfl rfl q.w') (by rfl) ?_; simp only [pA]
 iterate 5 (go_big_quiet_step (fail))
 refine wpQuiet_nil (laterE hN2 ?_)
 intro xw3 M4 hbxw3 hM4 lM4
 have k5 := k1.below hbxw3 (by omega)
 have k6 := k2.below hbxw3 (by omega)
 have lo7 := lo0.trans (hbxw3.mono (by omega))
 clear k1 k2 lo0 hbxw3
 cases h1_ : ((addO p f) != 0#64)
 ·have H1_ := hid h1_
  clear h1_
  go_upto_region 2 with fail
  refine wp_region_later1 (M4) ?_
  try simp only [pA]
  go_big_quiet_step (fail)
  refine later_b (x := (.tmp 18)) (y := (.const (.int .u64 0))) rfl (BinRun.is H1_.out (bin_neq _ (addO p f) 0#64)) rfl rfl (by rfl) ?_; simp only [pA]
  refine wpQuiet_nil (laterE hM4 ?_)
  intro xw8 M9 hbxw8 hM9 lM9
  have k10 := k5.below hbxw8 (by omega)
  have k11 := k6.below hbxw8 (by omega)
  have lo12 := lo7.trans (hbxw8.mono (by omega))
  clear k5 k6 lo7 hbxw8
  go_upto_region 4 with fail
  refine wp_region_later1 (M9) ?_
  try simp only [pA]
  iterate 2 (go_big_quiet_step (fail))
  refine later_b (x := (.tmp 21)) (y := (.tmp 22)) rfl (bin_add _ l (p + f)) rfl rfl (by rfl) ?_; simp only [pA]
  go_big_quiet_step (fail)
  refine wpQuiet_nil (laterE hM9 ?_)
  intro xw13 M14 hbxw13 hM14 lM14
  have k15 := k10.below hbxw13 (by omega)
  have k16 := k11.below hbxw13 (by omega)
  have lo17 := lo12.trans (hbxw13.mono (by omega))
  clear k10 k11 lo12 hbxw13
  cases h2_ : (BitVec.ule l (l + (p + f)))
  ·have H2_ := hid h2_
   clear h2_
   go_upto_region 5 with fail
   refine wp_region_later1 (M14) ?_
   try simp only [pA]
   iterate 2 (go_big_quiet_step (fail))
   refine later_b (x := (.tmp 24)) (y := (.tmp 25)) rfl (BinRun.is H2_.out (bin_leq _ l (l + (p + f)))) rfl rfl (by rfl) ?_; simp only [pA]
   refine wpQuiet_nil (laterE hM14 ?_)
   intro xw18 M19 hbxw18 hM19 lM19
   have k20 := k15.below hbxw18 (by omega)
   have k21 := k16.below hbxw18 (by omega)
   have lo22 := lo17.trans (hbxw18.mono (by omega))
   clear k15 k16 lo17 hbxw18
   cases h3_ : (BitVec.sle l (l + (p + f)))
   ·have H3_ := hid h3_
    clear h3_
    go_upto_region 7 with fail
    refine wp_region_later1 (M19) ?_
    try simp only [pA]
    go_big_quiet_step (fail)
    refine later_val (fun q => run_us (x := (.tmp 37)) rfl und64 undI64 rfl q.w') (by rfl) ?_; simp only [pA]
    go_big_quiet_step (fail)
    refine later_val (fun q => run_us (x := (.tmp 39)) rfl und64 undI64 rfl q.w') (by rfl) ?_; simp only [pA]
    refine later_b (x := (.tmp 38)) (y := (.tmp 40)) rfl (BinRun.is H3_.out (bin_sleq _ l (l + (p + f)))) rfl rfl (by rfl) ?_; simp only [pA]
    refine wpQuiet_nil (laterE hM19 ?_)
    intro xw23 M24 hbxw23 hM24 lM24
    have k25 := k20.below hbxw23 (by omega)
    have k26 := k21.below hbxw23 (by omega)
    have lo27 := lo22.trans (hbxw23.mono (by omega))
    clear k20 k21 lo22 hbxw23
    go_upto_region 9 with fail
    refine wp_region_lit ?_
    try simp only [pA]
    change wpList _ _ _ ((_ :: []) ++ (_ :: [])) _ _
    refine wpList_prefix (C := fun w' => ∃ x : Later M24 xw23, w' = x.w') _ _ _ _ ⟨⟨_, Below.refl _ _⟩, rfl⟩ ?_
    refine later_row hM24 27 (.tmp 4) rfl (N) rfl 27 6 _ k25 undR szR (by rfl) ?_; simp only [pA]
    refine wpQuiet_nil (laterE hM24 ?_)
    intro xw28 M29 hbxw28 hM29 lM29
    have k30 := k25.below hbxw28 (by omega)
    have k31 := k26.below hbxw28 (by omega)
    have lo32 := lo27.trans (hbxw28.mono (by omega))
    clear k25 k26 lo27 hbxw28
    refine wpl_store rfl 27 (.tmp 8) (.tmp 54) rfl (N + 1) 6 (rC r) rfl rfl 27 _ k31 szR (fun j _ => rC_one _ j) ?_
    intro xw33 t34 k35; try simp only [pA]
    have k36 := k30.touch t34 (by omega)
    have lo37 := t34.below lo32 (by omega)
    have h38 := t34.sz hM29
    clear k31 k30 lo32 hM29 t34
    obtain ⟨M39, hM39⟩ := sz_some xw33
    have lt_40 := k36.ltN hM39
    have lt_41 := k35.ltN hM39
    go_wp2_with fail
    refine post_r rfl (N + 1) rfl k35 undR szR rfl ?_
    exact ⟨by rw [ER.out]; first | rfl | (simp only [upFrom, H1_.out, H2_.out, H3_.out, bB] <;> rfl), lo37⟩
   ·have H3_ := hid h3_
    clear h3_
    go_upto_region 7 with fail
    refine wp_region_later1 (M19) ?_
    try simp only [pA]
    go_big_quiet_step (fail)
    refine later_val (fun q => run_us (x := (.tmp 37)) rfl und64 undI64 rfl q.w') (by rfl) ?_; simp only [pA]
    go_big_quiet_step (fail)
    refine later_val (fun q => run_us (x := (.tmp 39)) rfl und64 undI64 rfl q.w') (by rfl) ?_; simp only [pA]
    refine later_b (x := (.tmp 38)) (y := (.tmp 40)) rfl (BinRun.is H3_.out (bin_sleq _ l (l + (p + f)))) rfl rfl (by rfl) ?_; simp only [pA]
    refine wpQuiet_nil (laterE hM19 ?_)
    intro xw23 M24 hbxw23 hM24 lM24
    have k25 := k20.below hbxw23 (by omega)
    have k26 := k21.below hbxw23 (by omega)
    have lo27 := lo22.trans (hbxw23.mono (by omega))
    clear k20 k21 lo22 hbxw23
    go_upto_region 8 with fail
    refine wp_region_lit ?_
    try simp only [pA]
    change wpList _ _ _ ((_ :: _ :: _ :: _ :: _ :: _ :: _ :: _ :: _ :: _ :: _ :: []) ++ (_ :: _ :: _ :: [])) _ _
    obtain ⟨c28, c29, c30, c31, c32, c33⟩ := r_cells k25
    refine wpList_prefix (C := fun w' => ∃ x : Later M24 xw23, w' = x.w') _ _ _ _ ⟨⟨_, Below.refl _ _⟩, rfl⟩ ?_
    go_big_quiet_step (fail)
    refine later_c1 hM24 2 (.tmp 42) rfl rfl undI64 rfl c32 (by rfl) ?_; simp only [pA]
    go_big_quiet_step (fail)
    refine later_val (fun q => run_us (x := (.tmp 44)) rfl und64 undI64 rfl q.w') (by rfl) ?_; simp only [pA]
    refine later_val (fun qq => run_maxS (x := (.tmp 43)) (y := (.tmp 45)) (p := r.sl) (q := l) rfl rfl rfl qq.w') (by rfl) ?_; simp only [pA]
    go_big_quiet_step (fail)
    refine later_c1 hM24 2 (.tmp 47) rfl rfl undI64 rfl c33 (by rfl) ?_; simp only [pA]
    go_big_quiet_step (fail)
    refine later_val (fun q => run_us (x := (.tmp 49)) rfl und64 undI64 rfl q.w') (by rfl) ?_; simp only [pA]
    refine later_val (fun qq => run_minS (x := (.tmp 48)) (y := (.tmp 50)) (p := r.sh) (q := (l + (p + f))) rfl rfl rfl qq.w') (by rfl) ?_; simp only [pA]
    go_big_quiet_step (fail)
    refine wpQuiet_nil (laterE hM24 ?_)
    intro xw34 M35 hbxw34 hM35 lM35
    have k36 := k25.below hbxw34 (by omega)
    have k37 := k26.below hbxw34 (by omega)
    have lo38 := lo27.trans (hbxw34.mono (by omega))
    clear k25 c28 c29 c30 c31 c32 c33 k26 lo27 hbxw34
    refine wpl_set rfl 2 (.tmp 52) (.tmp 46) rfl N 4 rfl _ rfl szI rfl rfl 27 6 _ k36 (by omega) ?_
    intro xw39 t40 k41_; try simp only [pA]
    have k41 : Has xw39 N 27 6 (rC ⟨r.b, r.lo, r.hi, (sMax r.sl l), r.sh⟩) := k41_.congr (fun j hj => set_sl _ _ j)
    have k42 := k37.touch t40 (by omega)
    have lo43 := t40.below lo38 (by omega)
    have h44 := t40.sz hM35
    clear k36 k41_ k37 lo38 hM35 t40
    refine wpl_run rfl (Value.pointer (some ⟨N, 5, none⟩)) _ (run_fa 27 (.tmp 4) 4 5 rfl rfl faR4) ?_; simp only [pA]
    refine wpl_set rfl 2 (.tmp 53) (.tmp 51) rfl N 5 rfl _ rfl szI rfl rfl 27 6 _ k41 (by omega) ?_
    intro xw45 t46 k47_; try simp only [pA]
    have k47 : Has xw45 N 27 6 (rC ⟨r.b, r.lo, r.hi, (sMax r.sl l), (sMin r.sh (l + (p + f)))⟩) := k47_.congr (fun j hj => set_sh _ _ j hj)
    have k48 := k42.touch t46 (by omega)
    have lo49 := t46.below lo43 (by omega)
    have h50 := t46.sz h44
    clear k41 k47_ k42 lo43 h44 t46
    obtain ⟨M51, hM51⟩ := sz_some xw45
    have lt_52 := k47.ltN hM51
    have lt_53 := k48.ltN hM51
    go_upto_region 9 with fail
    refine wp_region_lit ?_
    try simp only [pA]
    change wpList _ _ _ ((_ :: []) ++ (_ :: [])) _ _
    refine wpList_prefix (C := fun w' => ∃ x : Later M51 xw45, w' = x.w') _ _ _ _ ⟨⟨_, Below.refl _ _⟩, rfl⟩ ?_
    refine later_row hM51 27 (.tmp 4) rfl (N) rfl 27 6 _ k47 undR szR (by rfl) ?_; simp only [pA]
    refine wpQuiet_nil (laterE hM51 ?_)
    intro xw54 M55 hbxw54 hM55 lM55
    have k56 := k47.below hbxw54 (by omega)
    have k57 := k48.below hbxw54 (by omega)
    have lo58 := lo49.trans (hbxw54.mono (by omega))
    clear k47 k48 lo49 hbxw54
    refine wpl_store rfl 27 (.tmp 8) (.tmp 54) rfl (N + 1) 6 (rC ⟨r.b, r.lo, r.hi, (sMax r.sl l), (sMin r.sh (l + (p + f)))⟩) rfl rfl 27 _ k57 szR (fun j _ => rC_one _ j) ?_
    intro xw59 t60 k61; try simp only [pA]
    have k62 := k56.touch t60 (by omega)
    have lo63 := t60.below lo58 (by omega)
    have h64 := t60.sz hM55
    clear k57 k56 lo58 hM55 t60
    obtain ⟨M65, hM65⟩ := sz_some xw59
    have lt_66 := k62.ltN hM65
    have lt_67 := k61.ltN hM65
    go_wp2_with fail
    refine post_r rfl (N + 1) rfl k61 undR szR rfl ?_
    exact ⟨by rw [ER.out]; first | rfl | (simp only [upFrom, H1_.out, H2_.out, H3_.out, bB] <;> rfl), lo63⟩
  ·have H2_ := hid h2_
   clear h2_
   go_upto_region 5 with fail
   refine wp_region_later1 (M14) ?_
   try simp only [pA]
   iterate 2 (go_big_quiet_step (fail))
   refine later_b (x := (.tmp 24)) (y := (.tmp 25)) rfl (BinRun.is H2_.out (bin_leq _ l (l + (p + f)))) rfl rfl (by rfl) ?_; simp only [pA]
   refine wpQuiet_nil (laterE hM14 ?_)
   intro xw18 M19 hbxw18 hM19 lM19
   have k20 := k15.below hbxw18 (by omega)
   have k21 := k16.below hbxw18 (by omega)
   have lo22 := lo17.trans (hbxw18.mono (by omega))
   clear k15 k16 lo17 hbxw18
   go_upto_region 6 with fail
   refine wp_region_lit ?_
   try simp only [pA]
   change wpList _ _ _ ((_ :: _ :: _ :: _ :: _ :: _ :: _ :: _ :: _ :: []) ++ (_ :: _ :: _ :: [])) _ _
   obtain ⟨c23, c24, c25, c26, c27, c28⟩ := r_cells k20
   refine wpList_prefix (C := fun w' => ∃ x : Later M19 xw18, w' = x.w') _ _ _ _ ⟨⟨_, Below.refl _ _⟩, rfl⟩ ?_
   go_big_quiet_step (fail)
   refine later_c1 hM19 23 (.tmp 27) rfl rfl und64 rfl c25 (by rfl) ?_; simp only [pA]
   go_big_quiet_step (fail)
   refine later_val (fun qq => run_maxQ (x := (.tmp 28)) (y := (.tmp 29)) (p := r.lo) (q := l) rfl rfl rfl qq.w') (by rfl) ?_; simp only [pA]
   go_big_quiet_step (fail)
   refine later_c1 hM19 23 (.tmp 31) rfl rfl und64 rfl c26 (by rfl) ?_; simp only [pA]
   go_big_quiet_step (fail)
   refine later_val (fun qq => run_minQ (x := (.tmp 32)) (y := (.tmp 33)) (p := r.hi) (q := (l + (p + f))) rfl rfl rfl qq.w') (by rfl) ?_; simp only [pA]
   go_big_quiet_step (fail)
   refine wpQuiet_nil (laterE hM19 ?_)
   intro xw29 M30 hbxw29 hM30 lM30
   have k31 := k20.below hbxw29 (by omega)
   have k32 := k21.below hbxw29 (by omega)
   have lo33 := lo22.trans (hbxw29.mono (by omega))
   clear k20 c23 c24 c25 c26 c27 c28 k21 lo22 hbxw29
   refine wpl_set rfl 23 (.tmp 35) (.tmp 30) rfl N 2 rfl _ rfl sz64 rfl rfl 27 6 _ k31 (by omega) ?_
   intro xw34 t35 k36_; try simp only [pA]
   have k36 : Has xw34 N 27 6 (rC ⟨r.b, (uMax r.lo l), r.hi, r.sl, r.sh⟩) := k36_.congr (fun j hj => set_lo _ _ j)
   have k37 := k32.touch t35 (by omega)
   have lo38 := t35.below lo33 (by omega)
   have h39 := t35.sz hM30
   clear k31 k36_ k32 lo33 hM30 t35
   refine wpl_run rfl (Value.pointer (some ⟨N, 3, none⟩)) _ (run_fa 27 (.tmp 4) 2 3 rfl rfl faR2) ?_; simp only [pA]
   refine wpl_set rfl 23 (.tmp 36) (.tmp 34) rfl N 3 rfl _ rfl sz64 rfl rfl 27 6 _ k36 (by omega) ?_
   intro xw40 t41 k42_; try simp only [pA]
   have k42 : Has xw40 N 27 6 (rC ⟨r.b, (uMax r.lo l), (uMin r.hi (l + (p + f))), r.sl, r.sh⟩) := k42_.congr (fun j hj => set_hi _ _ j)
   have k43 := k37.touch t41 (by omega)
   have lo44 := t41.below lo38 (by omega)
   have h45 := t41.sz h39
   clear k36 k42_ k37 lo38 h39 t41
   obtain ⟨M46, hM46⟩ := sz_some xw40
   have lt_47 := k42.ltN hM46
   have lt_48 := k43.ltN hM46
   cases h3_ : (BitVec.sle l (l + (p + f)))
   ·have H3_ := hid h3_
    clear h3_
    go_upto_region 7 with fail
    refine wp_region_later1 (M46) ?_
    try simp only [pA]
    go_big_quiet_step (fail)
    refine later_val (fun q => run_us (x := (.tmp 37)) rfl und64 undI64 rfl q.w') (by rfl) ?_; simp only [pA]
    go_big_quiet_step (fail)
    refine later_val (fun q => run_us (x := (.tmp 39)) rfl und64 undI64 rfl q.w') (by rfl) ?_; simp only [pA]
    refine later_b (x := (.tmp 38)) (y := (.tmp 40)) rfl (BinRun.is H3_.out (bin_sleq _ l (l + (p + f)))) rfl rfl (by rfl) ?_; simp only [pA]
    refine wpQuiet_nil (laterE hM46 ?_)
    intro xw49 M50 hbxw49 hM50 lM50
    have k51 := k42.below hbxw49 (by omega)
    have k52 := k43.below hbxw49 (by omega)
    have lo53 := lo44.trans (hbxw49.mono (by omega))
    clear k42 k43 lo44 hbxw49
    go_upto_region 9 with fail
    refine wp_region_lit ?_
    try simp only [pA]
    change wpList _ _ _ ((_ :: []) ++ (_ :: [])) _ _
    refine wpList_prefix (C := fun w' => ∃ x : Later M50 xw49, w' = x.w') _ _ _ _ ⟨⟨_, Below.refl _ _⟩, rfl⟩ ?_
    refine later_row hM50 27 (.tmp 4) rfl (N) rfl 27 6 _ k51 undR szR (by rfl) ?_; simp only [pA]
    refine wpQuiet_nil (laterE hM50 ?_)
    intro xw54 M55 hbxw54 hM55 lM55
    have k56 := k51.below hbxw54 (by omega)
    have k57 := k52.below hbxw54 (by omega)
    have lo58 := lo53.trans (hbxw54.mono (by omega))
    clear k51 k52 lo53 hbxw54
    refine wpl_store rfl 27 (.tmp 8) (.tmp 54) rfl (N + 1) 6 (rC ⟨r.b, (uMax r.lo l), (uMin r.hi (l + (p + f))), r.sl, r.sh⟩) rfl rfl 27 _ k57 szR (fun j _ => rC_one _ j) ?_
    intro xw59 t60 k61; try simp only [pA]
    have k62 := k56.touch t60 (by omega)
    have lo63 := t60.below lo58 (by omega)
    have h64 := t60.sz hM55
    clear k57 k56 lo58 hM55 t60
    obtain ⟨M65, hM65⟩ := sz_some xw59
    have lt_66 := k62.ltN hM65
    have lt_67 := k61.ltN hM65
    go_wp2_with fail
    refine post_r rfl (N + 1) rfl k61 undR szR rfl ?_
    exact ⟨by rw [ER.out]; first | rfl | (simp only [upFrom, H1_.out, H2_.out, H3_.out, bB] <;> rfl), lo63⟩
   ·have H3_ := hid h3_
    clear h3_
    go_upto_region 7 with fail
    refine wp_region_later1 (M46) ?_
    try simp only [pA]
    go_big_quiet_step (fail)
    refine later_val (fun q => run_us (x := (.tmp 37)) rfl und64 undI64 rfl q.w') (by rfl) ?_; simp only [pA]
    go_big_quiet_step (fail)
    refine later_val (fun q => run_us (x := (.tmp 39)) rfl und64 undI64 rfl q.w') (by rfl) ?_; simp only [pA]
    refine later_b (x := (.tmp 38)) (y := (.tmp 40)) rfl (BinRun.is H3_.out (bin_sleq _ l (l + (p + f)))) rfl rfl (by rfl) ?_; simp only [pA]
    refine wpQuiet_nil (laterE hM46 ?_)
    intro xw49 M50 hbxw49 hM50 lM50
    have k51 := k42.below hbxw49 (by omega)
    have k52 := k43.below hbxw49 (by omega)
    have lo53 := lo44.trans (hbxw49.mono (by omega))
    clear k42 k43 lo44 hbxw49
    go_upto_region 8 with fail
    refine wp_region_lit ?_
    try simp only [pA]
    change wpList _ _ _ ((_ :: _ :: _ :: _ :: _ :: _ :: _ :: _ :: _ :: _ :: _ :: []) ++ (_ :: _ :: _ :: [])) _ _
    obtain ⟨c54, c55, c56, c57, c58, c59⟩ := r_cells5 k51
    refine wpList_prefix (C := fun w' => ∃ x : Later M50 xw49, w' = x.w') _ _ _ _ ⟨⟨_, Below.refl _ _⟩, rfl⟩ ?_
    go_big_quiet_step (fail)
    refine later_c1 hM50 2 (.tmp 42) rfl rfl undI64 rfl c58 (by rfl) ?_; simp only [pA]
    go_big_quiet_step (fail)
    refine later_val (fun q => run_us (x := (.tmp 44)) rfl und64 undI64 rfl q.w') (by rfl) ?_; simp only [pA]
    refine later_val (fun qq => run_maxS (x := (.tmp 43)) (y := (.tmp 45)) (p := r.sl) (q := l) rfl rfl rfl qq.w') (by rfl) ?_; simp only [pA]
    go_big_quiet_step (fail)
    refine later_c1 hM50 2 (.tmp 47) rfl rfl undI64 rfl c59 (by rfl) ?_; simp only [pA]
    go_big_quiet_step (fail)
    refine later_val (fun q => run_us (x := (.tmp 49)) rfl und64 undI64 rfl q.w') (by rfl) ?_; simp only [pA]
    refine later_val (fun qq => run_minS (x := (.tmp 48)) (y := (.tmp 50)) (p := r.sh) (q := (l + (p + f))) rfl rfl rfl qq.w') (by rfl) ?_; simp only [pA]
    go_big_quiet_step (fail)
    refine wpQuiet_nil (laterE hM50 ?_)
    intro xw60 M61 hbxw60 hM61 lM61
    have k62 := k51.below hbxw60 (by omega)
    have k63 := k52.below hbxw60 (by omega)
    have lo64 := lo53.trans (hbxw60.mono (by omega))
    clear k51 c54 c55 c56 c57 c58 c59 k52 lo53 hbxw60
    refine wpl_set rfl 2 (.tmp 52) (.tmp 46) rfl N 4 rfl _ rfl szI rfl rfl 27 6 _ k62 (by omega) ?_
    intro xw65 t66 k67_; try simp only [pA]
    have k67 : Has xw65 N 27 6 (rC ⟨r.b, (uMax r.lo l), (uMin r.hi (l + (p + f))), (sMax r.sl l), r.sh⟩) := k67_.congr (fun j hj => set_sl _ _ j)
    have k68 := k63.touch t66 (by omega)
    have lo69 := t66.below lo64 (by omega)
    have h70 := t66.sz hM61
    clear k62 k67_ k63 lo64 hM61 t66
    refine wpl_run rfl (Value.pointer (some ⟨N, 5, none⟩)) _ (run_fa 27 (.tmp 4) 4 5 rfl rfl faR4) ?_; simp only [pA]
    refine wpl_set rfl 2 (.tmp 53) (.tmp 51) rfl N 5 rfl _ rfl szI rfl rfl 27 6 _ k67 (by omega) ?_
    intro xw71 t72 k73_; try simp only [pA]
    have k73 : Has xw71 N 27 6 (rC ⟨r.b, (uMax r.lo l), (uMin r.hi (l + (p + f))), (sMax r.sl l), (sMin r.sh (l + (p + f)))⟩) := k73_.congr (fun j hj => set_sh _ _ j hj)
    have k74 := k68.touch t72 (by omega)
    have lo75 := t72.below lo69 (by omega)
    have h76 := t72.sz h70
    clear k67 k73_ k68 lo69 h70 t72
    obtain ⟨M77, hM77⟩ := sz_some xw71
    have lt_78 := k73.ltN hM77
    have lt_79 := k74.ltN hM77
    go_upto_region 9 with fail
    refine wp_region_lit ?_
    try simp only [pA]
    change wpList _ _ _ ((_ :: []) ++ (_ :: [])) _ _
    refine wpList_prefix (C := fun w' => ∃ x : Later M77 xw71, w' = x.w') _ _ _ _ ⟨⟨_, Below.refl _ _⟩, rfl⟩ ?_
    refine later_row hM77 27 (.tmp 4) rfl (N) rfl 27 6 _ k73 undR szR (by rfl) ?_; simp only [pA]
    refine wpQuiet_nil (laterE hM77 ?_)
    intro xw80 M81 hbxw80 hM81 lM81
    have k82 := k73.below hbxw80 (by omega)
    have k83 := k74.below hbxw80 (by omega)
    have lo84 := lo75.trans (hbxw80.mono (by omega))
    clear k73 k74 lo75 hbxw80
    refine wpl_store rfl 27 (.tmp 8) (.tmp 54) rfl (N + 1) 6 (rC ⟨r.b, (uMax r.lo l), (uMin r.hi (l + (p + f))), (sMax r.sl l), (sMin r.sh (l + (p + f)))⟩) rfl rfl 27 _ k83 szR (fun j _ => rC_one _ j) ?_
    intro xw85 t86 k87; try simp only [pA]
    have k88 := k82.touch t86 (by omega)
    have lo89 := t86.below lo84 (by omega)
    have h90 := t86.sz hM81
    clear k83 k82 lo84 hM81 t86
    obtain ⟨M91, hM91⟩ := sz_some xw85
    have lt_92 := k88.ltN hM91
    have lt_93 := k87.ltN hM91
    go_wp2_with fail
    refine post_r rfl (N + 1) rfl k87 undR szR rfl ?_
    exact ⟨by rw [ER.out]; first | rfl | (simp only [upFrom, H1_.out, H2_.out, H3_.out, bB] <;> rfl), lo89⟩
 ·have H1_ := hid h1_
  clear h1_
  go_upto_region 2 with fail
  refine wp_region_later1 (M4) ?_
  try simp only [pA]
  go_big_quiet_step (fail)
  refine later_b (x := (.tmp 18)) (y := (.const (.int .u64 0))) rfl (BinRun.is H1_.out (bin_neq _ (addO p f) 0#64)) rfl rfl (by rfl) ?_; simp only [pA]
  refine wpQuiet_nil (laterE hM4 ?_)
  intro xw8 M9 hbxw8 hM9 lM9
  have k10 := k5.below hbxw8 (by omega)
  have k11 := k6.below hbxw8 (by omega)
  have lo12 := lo7.trans (hbxw8.mono (by omega))
  clear k5 k6 lo7 hbxw8
  go_upto_region 3 with fail
  refine wp_region_lit ?_
  try simp only [pA]
  change wpList _ _ _ ((_ :: []) ++ (_ :: [])) _ _
  refine wpList_prefix (C := fun w' => ∃ x : Later M9 xw8, w' = x.w') _ _ _ _ ⟨⟨_, Below.refl _ _⟩, rfl⟩ ?_
  refine later_row hM9 27 (.tmp 4) rfl (N) rfl 27 6 _ k10 undR szR (by rfl) ?_; simp only [pA]
  refine wpQuiet_nil (laterE hM9 ?_)
  intro xw13 M14 hbxw13 hM14 lM14
  have k15 := k10.below hbxw13 (by omega)
  have k16 := k11.below hbxw13 (by omega)
  have lo17 := lo12.trans (hbxw13.mono (by omega))
  clear k10 k11 lo12 hbxw13
  refine wpl_store rfl 27 (.tmp 8) (.tmp 20) rfl (N + 1) 6 (rC r) rfl rfl 27 _ k16 szR (fun j _ => rC_one _ j) ?_
  intro xw18 t19 k20; try simp only [pA]
  have k21 := k15.touch t19 (by omega)
  have lo22 := t19.below lo17 (by omega)
  have h23 := t19.sz hM14
  clear k16 k15 lo17 hM14 t19
  obtain ⟨M24, hM24⟩ := sz_some xw18
  have lt_25 := k21.ltN hM24
  have lt_26 := k20.ltN hM24
  go_wp2_with fail
  refine post_r rfl (N + 1) rfl k20 undR szR rfl ?_
  exact ⟨by rw [ER.out]; first | rfl | (simp only [upFrom, H1_.out, bB] <;> rfl), lo22⟩
end Go.Proofs.YtbbfdehipgkjmaaDoor
