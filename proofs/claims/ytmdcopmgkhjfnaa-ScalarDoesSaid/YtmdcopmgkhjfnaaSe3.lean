/- Contracts of operations of ranges: products, shifts. -/
import Derived.Test.YtmdcopmgkhjfnaaSe2
namespace Go.Proofs.Ytmdcopmgkhjfnaa
open Go Go.RowKit
def mul64F (x : W) (y : W) : W × W :=
 (((((x >>> (32#64).toNat) * (y >>> (32#64).toNat)) + ((((x >>> (32#64).toNat) * (y &&& 4294967295#64)) + (((x &&& 4294967295#64) * (y &&& 4294967295#64)) >>> (32#64).toNat)) >>> (32#64).toNat)) + ((((((x >>> (32#64).toNat) * (y &&& 4294967295#64)) + (((x &&& 4294967295#64) * (y &&& 4294967295#64)) >>> (32#64).toNat)) &&& 4294967295#64) + ((x &&& 4294967295#64) * (y >>> (32#64).toNat))) >>> (32#64).toNat)), (x * y))
set_option maxRecDepth 100000 in
set_option maxHeartbeats 4000000 in
theorem Mul64_any (x : W) (y : W) (w : World) (N : Nat) (hN : Sz w N) : Calls Try.prog 113 #[(Q x), (Q y)] w fun e w' => e = .returned (.tuple #[Q (mul64F x y).1, Q (mul64F x y).2]) ∧ Below N w w' := by
 obtain ⟨rr, er⟩ : ∃ rr, rr = (mul64F x y) := ⟨_, rfl⟩
 rw [← er]
 have ER := hid er
 clear er
 go_enter Try.func113, Try.ntmps113
 have lo0 : Below N w w := Below.refl N w
 go_upto_region 1 with fail
 refine wp_region_later1 (N) ?_
 try simp only [pA]
 go_big_quiet_step (fail)
 refine later_b (x := (.tmp 14)) (y := (.const (.int .u64 4294967295))) rfl (bin_and _ x 4294967295#64) rfl rfl (by rfl) ?_; simp only [pA]
 go_big_quiet_step (fail)
 refine wpQuiet_nil (laterE hN ?_)
 intro xw1 M2 hbxw1 hM2 lM2
 have lo3 := lo0.trans (hbxw1.mono (by omega))
 clear lo0 hbxw1
 go_upto_region 2 with fail
 refine wp_region_later1 (M2) ?_
 try simp only [pA]
 go_big_quiet_step (fail)
 refine later_b (x := (.tmp 16)) (y := (.const (.int .u64 32))) rfl (bin_shru _ x 32#64) rfl rfl (by rfl) ?_; simp only [pA]
 go_big_quiet_step (fail)
 refine wpQuiet_nil (laterE hM2 ?_)
 intro xw4 M5 hbxw4 hM5 lM5
 have lo6 := lo3.trans (hbxw4.mono (by omega))
 clear lo3 hbxw4
 go_upto_region 3 with fail
 refine wp_region_later1 (M5) ?_
 try simp only [pA]
 go_big_quiet_step (fail)
 refine later_b (x := (.tmp 18)) (y := (.const (.int .u64 4294967295))) rfl (bin_and _ y 4294967295#64) rfl rfl (by rfl) ?_; simp only [pA]
 go_big_quiet_step (fail)
 refine wpQuiet_nil (laterE hM5 ?_)
 intro xw7 M8 hbxw7 hM8 lM8
 have lo9 := lo6.trans (hbxw7.mono (by omega))
 clear lo6 hbxw7
 go_upto_region 4 with fail
 refine wp_region_later1 (M8) ?_
 try simp only [pA]
 go_big_quiet_step (fail)
 refine later_b (x := (.tmp 20)) (y := (.const (.int .u64 32))) rfl (bin_shru _ y 32#64) rfl rfl (by rfl) ?_; simp only [pA]
 go_big_quiet_step (fail)
 refine wpQuiet_nil (laterE hM8 ?_)
 intro xw10 M11 hbxw10 hM11 lM11
 have lo12 := lo9.trans (hbxw10.mono (by omega))
 clear lo9 hbxw10
 go_upto_region 5 with fail
 refine wp_region_later1 (M11) ?_
 try simp only [pA]
 iterate 2 (go_big_quiet_step (fail))
 refine later_b (x := (.tmp 22)) (y := (.tmp 23)) rfl (bin_mul _ (x &&& 4294967295#64) (y &&& 4294967295#64)) rfl rfl (by rfl) ?_; simp only [pA]
 go_big_quiet_step (fail)
 refine wpQuiet_nil (laterE hM11 ?_)
 intro xw13 M14 hbxw13 hM14 lM14
 have lo15 := lo12.trans (hbxw13.mono (by omega))
 clear lo12 hbxw13
 go_upto_region 6 with fail
 refine wp_region_later1 (M14) ?_
 try simp only [pA]
 iterate 2 (go_big_quiet_step (fail))
 refine later_b (x := (.tmp 25)) (y := (.tmp 26)) rfl (bin_mul _ (x >>> (32#64).toNat) (y &&& 4294967295#64)) rfl rfl (by rfl) ?_; simp only [pA]
 go_big_quiet_step (fail)
 refine later_b (x := (.tmp 28)) (y := (.const (.int .u64 32))) rfl (bin_shru _ ((x &&& 4294967295#64) * (y &&& 4294967295#64)) 32#64) rfl rfl (by rfl) ?_; simp only [pA]
 refine later_b (x := (.tmp 27)) (y := (.tmp 29)) rfl (bin_add _ ((x >>> (32#64).toNat) * (y &&& 4294967295#64)) (((x &&& 4294967295#64) * (y &&& 4294967295#64)) >>> (32#64).toNat)) rfl rfl (by rfl) ?_; simp only [pA]
 go_big_quiet_step (fail)
 refine wpQuiet_nil (laterE hM14 ?_)
 intro xw16 M17 hbxw16 hM17 lM17
 have lo18 := lo15.trans (hbxw16.mono (by omega))
 clear lo15 hbxw16
 go_upto_region 7 with fail
 refine wp_region_later1 (M17) ?_
 try simp only [pA]
 go_big_quiet_step (fail)
 refine later_b (x := (.tmp 31)) (y := (.const (.int .u64 4294967295))) rfl (bin_and _ (((x >>> (32#64).toNat) * (y &&& 4294967295#64)) + (((x &&& 4294967295#64) * (y &&& 4294967295#64)) >>> (32#64).toNat)) 4294967295#64) rfl rfl (by rfl) ?_; simp only [pA]
 go_big_quiet_step (fail)
 refine wpQuiet_nil (laterE hM17 ?_)
 intro xw19 M20 hbxw19 hM20 lM20
 have lo21 := lo18.trans (hbxw19.mono (by omega))
 clear lo18 hbxw19
 go_upto_region 8 with fail
 refine wp_region_later1 (M20) ?_
 try simp only [pA]
 go_big_quiet_step (fail)
 refine later_b (x := (.tmp 33)) (y := (.const (.int .u64 32))) rfl (bin_shru _ (((x >>> (32#64).toNat) * (y &&& 4294967295#64)) + (((x &&& 4294967295#64) * (y &&& 4294967295#64)) >>> (32#64).toNat)) 32#64) rfl rfl (by rfl) ?_; simp only [pA]
 go_big_quiet_step (fail)
 refine wpQuiet_nil (laterE hM20 ?_)
 intro xw22 M23 hbxw22 hM23 lM23
 have lo24 := lo21.trans (hbxw22.mono (by omega))
 clear lo21 hbxw22
 go_upto_region 9 with fail
 refine wp_region_later1 (M23) ?_
 try simp only [pA]
 iterate 3 (go_big_quiet_step (fail))
 refine later_b (x := (.tmp 36)) (y := (.tmp 37)) rfl (bin_mul _ (x &&& 4294967295#64) (y >>> (32#64).toNat)) rfl rfl (by rfl) ?_; simp only [pA]
 refine later_b (x := (.tmp 35)) (y := (.tmp 38)) rfl (bin_add _ ((((x >>> (32#64).toNat) * (y &&& 4294967295#64)) + (((x &&& 4294967295#64) * (y &&& 4294967295#64)) >>> (32#64).toNat)) &&& 4294967295#64) ((x &&& 4294967295#64) * (y >>> (32#64).toNat))) rfl rfl (by rfl) ?_; simp only [pA]
 go_big_quiet_step (fail)
 refine wpQuiet_nil (laterE hM23 ?_)
 intro xw25 M26 hbxw25 hM26 lM26
 have lo27 := lo24.trans (hbxw25.mono (by omega))
 clear lo24 hbxw25
 go_upto_region 10 with fail
 refine wp_region_later1 (M26) ?_
 try simp only [pA]
 iterate 2 (go_big_quiet_step (fail))
 refine later_b (x := (.tmp 40)) (y := (.tmp 41)) rfl (bin_mul _ (x >>> (32#64).toNat) (y >>> (32#64).toNat)) rfl rfl (by rfl) ?_; simp only [pA]
 go_big_quiet_step (fail)
 refine later_b (x := (.tmp 42)) (y := (.tmp 43)) rfl (bin_add _ ((x >>> (32#64).toNat) * (y >>> (32#64).toNat)) ((((x >>> (32#64).toNat) * (y &&& 4294967295#64)) + (((x &&& 4294967295#64) * (y &&& 4294967295#64)) >>> (32#64).toNat)) >>> (32#64).toNat)) rfl rfl (by rfl) ?_; simp only [pA]
 go_big_quiet_step (fail)
 refine later_b (x := (.tmp 45)) (y := (.const (.int .u64 32))) rfl (bin_shru _ (((((x >>> (32#64).toNat) * (y &&& 4294967295#64)) + (((x &&& 4294967295#64) * (y &&& 4294967295#64)) >>> (32#64).toNat)) &&& 4294967295#64) + ((x &&& 4294967295#64) * (y >>> (32#64).toNat))) 32#64) rfl rfl (by rfl) ?_; simp only [pA]
 refine later_b (x := (.tmp 44)) (y := (.tmp 46)) rfl (bin_add _ (((x >>> (32#64).toNat) * (y >>> (32#64).toNat)) + ((((x >>> (32#64).toNat) * (y &&& 4294967295#64)) + (((x &&& 4294967295#64) * (y &&& 4294967295#64)) >>> (32#64).toNat)) >>> (32#64).toNat)) ((((((x >>> (32#64).toNat) * (y &&& 4294967295#64)) + (((x &&& 4294967295#64) * (y &&& 4294967295#64)) >>> (32#64).toNat)) &&& 4294967295#64) + ((x &&& 4294967295#64) * (y >>> (32#64).toNat))) >>> (32#64).toNat)) rfl rfl (by rfl) ?_; simp only [pA]
 go_big_quiet_step (fail)
 refine wpQuiet_nil (laterE hM26 ?_)
 intro xw28 M29 hbxw28 hM29 lM29
 have lo30 := lo27.trans (hbxw28.mono (by omega))
 clear lo27 hbxw28
 go_upto_region 11 with fail
 refine wp_region_later1 (M29) ?_
 try simp only [pA]
 iterate 2 (go_big_quiet_step (fail))
 refine later_b (x := (.tmp 48)) (y := (.tmp 49)) rfl (bin_mul _ x y) rfl rfl (by rfl) ?_; simp only [pA]
 go_big_quiet_step (fail)
 refine wpQuiet_nil (laterE hM29 ?_)
 intro xw31 M32 hbxw31 hM32 lM32
 have lo33 := lo30.trans (hbxw31.mono (by omega))
 clear lo30 hbxw31
 go_wp2_with fail
 go_ret2
 exact ⟨by rw [ER.out]; first | rfl | (simp only [mul64F, bB] <;> rfl), lo33⟩
def mulR (a : Rn) (b : Rn) : Rn :=
 bif ((mul64F a.hi b.hi).1 == 0#64) then bif (shortF a) then bif (shortF b) then ⟨(obR (tMul a.b b.b)).b, (a.lo * b.lo), (mul64F a.hi b.hi).2, (sMin4 (a.sl * b.sl) (a.sl * b.sh) (a.sh * b.sl) (a.sh * b.sh)), (sMax4 (a.sl * b.sl) (a.sl * b.sh) (a.sh * b.sl) (a.sh * b.sh))⟩
   else ⟨(obR (tMul a.b b.b)).b, (a.lo * b.lo), (mul64F a.hi b.hi).2, (obR (tMul a.b b.b)).sl, (obR (tMul a.b b.b)).sh⟩
  else ⟨(obR (tMul a.b b.b)).b, (a.lo * b.lo), (mul64F a.hi b.hi).2, (obR (tMul a.b b.b)).sl, (obR (tMul a.b b.b)).sh⟩
 else bif (shortF a) then bif (shortF b) then ⟨(obR (tMul a.b b.b)).b, (obR (tMul a.b b.b)).lo, (obR (tMul a.b b.b)).hi, (sMin4 (a.sl * b.sl) (a.sl * b.sh) (a.sh * b.sl) (a.sh * b.sh)), (sMax4 (a.sl * b.sl) (a.sl * b.sh) (a.sh * b.sl) (a.sh * b.sh))⟩
  else (obR (tMul a.b b.b))
 else (obR (tMul a.b b.b))
set_option maxRecDepth 100000 in
set_option maxHeartbeats 4000000 in
theorem Multed_any (a : Rn) (b : Rn) (w : World) (N : Nat) (hN : Sz w N) : Calls Try.prog 89 #[rV a, rV b] w fun e w' => e = .returned (rV (mulR a b)) ∧ Below N w w' := by
 obtain ⟨rr, er⟩ : ∃ rr, rr = (mulR a b) := ⟨_, rfl⟩
 rw [← er]
 have ER := hid er
 clear er
 unfold rV
 go_enter Try.func89, Try.ntmps89
 go_upto_region 1 with (first
  | (refine wpl_box rfl 41 (.tmp 0) rfl 6 _ rfl (N) hN ?_; intro w1 hN1 hb1 hh1)
  | (refine wpl_box rfl 41 (.tmp 1) rfl 6 _ rfl (N + 1) hN1 ?_; intro w2 hN2 hb2 hh2)
  | (refine wpl_alloc rfl 41 rfl 6 (rC zeroR) zeR (N + 1 + 1) hN2 ?_; intro w3 hN3 hb3 hh3)
  | fail)
 have lo0 : Below N w w3 := ((hb1.trans (hb2.mono (by omega))).trans (hb3.mono (by omega)))
 have k1 := ((hh1.below hb2 (by omega)).below hb3 (by omega))
 have k2 := (hh2.below hb3 (by omega))
 have k3 := hh3
 clear hh1 hb1 hh2 hb2 hh3 hb3 hN1 hN2
 go_upto_region 1 with fail
 refine wp_region_lit ?_
 try simp only [pA]
 change wpList _ _ _ ((_ :: _ :: _ :: _ :: _ :: _ :: []) ++ (_ :: _ :: [])) _ _
 obtain ⟨c4, c5, c6, c7, c8, c9⟩ := r_cells k1
 obtain ⟨c10, c11, c12, c13, c14, c15⟩ := r_cells k2
 refine wpList_prefix (C := fun w' => ∃ x : Later (N + 1 + 1 + 1) w3, w' = x.w') _ _ _ _ ⟨⟨_, Below.refl _ _⟩, rfl⟩ ?_
 go_big_quiet_step (fail)
 refine later_val (fun qq => run_bits 39 (.tmp 12) rfl N rfl 41 (Later.has hN3 k1 qq) undT szT) (by rfl) ?_; simp only [pA]
 go_big_quiet_step (fail)
 refine later_val (fun qq => run_bits 39 (.tmp 14) rfl (N + 1) rfl 41 (Later.has hN3 k2 qq) undT szT) (by rfl) ?_; simp only [pA]
 go_big_quiet_step ((go_at_call 112; exact later_of hN3 _ (fun K hK hKN => Mul_any a.b b.b _ K hK)))
 go_big_quiet_step ((go_at_call 62; exact later_of hN3 _ (fun K hK hKN => OfBits_any (tMul a.b b.b) _ K hK)))
 refine wpQuiet_nil (laterE hN3 ?_)
 intro xw16 M17 hbxw16 hM17 lM17
 have k18 := k1.below hbxw16 (by omega)
 have k19 := k2.below hbxw16 (by omega)
 have k20 := k3.below hbxw16 (by omega)
 have lo21 := lo0.trans (hbxw16.mono (by omega))
 clear k1 c4 c5 c6 c7 c8 c9 k2 c10 c11 c12 c13 c14 c15 k3 lo0 hbxw16
 obtain ⟨b_xw22, eb_xw22⟩ : ∃ b_xw22, b_xw22 = M17 := ⟨_, rfl⟩
 have hzb_xw22 : Sz xw16 b_xw22 := by rw [eb_xw22]; exact hM17
 have lob_xw22 : M17 ≤ b_xw22 := by omega
 have upb_xw22 : b_xw22 ≤ M17 := by omega
 clear eb_xw22
 refine wpl_alloc rfl 41 rfl 6 (rC zeroR) zeR b_xw22 hzb_xw22 ?_
 intro xw22 hMxw22 hbxw22 hhxw22; simp only [pA]
 have k23 := k18.below hbxw22 (by omega)
 have k24 := k19.below hbxw22 (by omega)
 have k25 := k20.below hbxw22 (by omega)
 have lo26 := lo21.trans (hbxw22.mono (by omega))
 clear k18 k19 k20 lo21 hbxw22 hzb_xw22
 obtain ⟨M27, eM27⟩ : ∃ M27, M27 = b_xw22 + 1 := ⟨_, rfl⟩
 rw [← eM27] at hMxw22
 have loM27 : b_xw22 + 1 ≤ M27 := by omega
 have upM27 : M27 ≤ b_xw22 + 1 := by omega
 clear eM27
 refine wpl_store rfl 41 (.tmp 5) (.tmp 17) rfl b_xw22 6 (rC (obR (tMul a.b b.b))) rfl rfl 41 _ hhxw22 szR (fun j _ => rC_one _ j) ?_
 intro xw28 t29 k30; try simp only [pA]
 have k31 := k23.touch t29 (by omega)
 have k32 := k24.touch t29 (by omega)
 have k33 := k25.touch t29 (by omega)
 have lo34 := t29.below lo26 (by omega)
 have h35 := t29.sz hMxw22
 clear hhxw22 k23 k24 k25 lo26 hMxw22 t29
 obtain ⟨M36, hM36⟩ := sz_some xw28
 have lt_37 := k31.ltN hM36
 have lt_38 := k32.ltN hM36
 have lt_39 := k33.ltN hM36
 have lt_40 := k30.ltN hM36
 go_upto_region 2 with fail
 obtain ⟨c41, c42, c43, c44, c45, c46⟩ := r_cells k31
 obtain ⟨c47, c48, c49, c50, c51, c52⟩ := r_cells k32
 refine wp_region_later1 (M36) ?_
 try simp only [pA]
 go_big_quiet_step (fail)
 refine later_c1 hM36 22 (.tmp 19) rfl rfl und64 rfl c44 (by rfl) ?_; simp only [pA]
 go_big_quiet_step (fail)
 refine later_c1 hM36 22 (.tmp 21) rfl rfl und64 rfl c50 (by rfl) ?_; simp only [pA]
 go_big_quiet_step ((go_at_call 113; exact later_of hM36 _ (fun K hK hKN => Mul64_any a.hi b.hi _ K hK)))
 iterate 5 (go_big_quiet_step (fail))
 refine wpQuiet_nil (laterE hM36 ?_)
 intro xw53 M54 hbxw53 hM54 lM54
 have k55 := k31.below hbxw53 (by omega)
 have k56 := k32.below hbxw53 (by omega)
 have k57 := k33.below hbxw53 (by omega)
 have k58 := k30.below hbxw53 (by omega)
 have lo59 := lo34.trans (hbxw53.mono (by omega))
 clear k31 c41 c42 c43 c44 c45 c46 k32 c47 c48 c49 c50 c51 c52 k33 k30 lo34 hbxw53
 cases h1_ : ((mul64F a.hi b.hi).1 == 0#64)
 ·have H1_ := hid h1_
  clear h1_
  go_upto_region 3 with fail
  refine wp_region_later1 (M54) ?_
  try simp only [pA]
  go_big_quiet_step (fail)
  refine later_b (x := (.tmp 26)) (y := (.const (.int .u64 0))) rfl (BinRun.is H1_.out (bin_eql _ (mul64F a.hi b.hi).1 0#64)) rfl rfl (by rfl) ?_; simp only [pA]
  refine wpQuiet_nil (laterE hM54 ?_)
  intro xw60 M61 hbxw60 hM61 lM61
  have k62 := k55.below hbxw60 (by omega)
  have k63 := k56.below hbxw60 (by omega)
  have k64 := k57.below hbxw60 (by omega)
  have k65 := k58.below hbxw60 (by omega)
  have lo66 := lo59.trans (hbxw60.mono (by omega))
  clear k55 k56 k57 k58 lo59 hbxw60
  cases h2_ : (shortF a)
  ·have H2_ := hid h2_
   clear h2_
   go_upto_region 5 with fail
   refine wp_region_later1 (M61) ?_
   try simp only [pA]
   refine later_row hM61 41 (.tmp 2) rfl (N) rfl 41 6 _ k62 undR szR (by rfl) ?_; simp only [pA]
   go_big_quiet_step ((go_at_call 114; exact later_of hM61 _ (fun K hK hKN => ret_is H2_.out (Short_any a) _ K hK)))
   iterate 4 (go_big_quiet_step (fail))
   refine wpQuiet_nil (laterE hM61 ?_)
   intro xw67 M68 hbxw67 hM68 lM68
   have k69 := k62.below hbxw67 (by omega)
   have k70 := k63.below hbxw67 (by omega)
   have k71 := k64.below hbxw67 (by omega)
   have k72 := k65.below hbxw67 (by omega)
   have lo73 := lo66.trans (hbxw67.mono (by omega))
   clear k62 k63 k64 k65 lo66 hbxw67
   go_upto_region 8 with fail
   refine wp_region_lit ?_
   try simp only [pA]
   change wpList _ _ _ ((_ :: []) ++ (_ :: [])) _ _
   refine wpList_prefix (C := fun w' => ∃ x : Later M68 xw67, w' = x.w') _ _ _ _ ⟨⟨_, Below.refl _ _⟩, rfl⟩ ?_
   refine later_row hM68 41 (.tmp 5) rfl (b_xw22) rfl 41 6 _ k72 undR szR (by rfl) ?_; simp only [pA]
   refine wpQuiet_nil (laterE hM68 ?_)
   intro xw74 M75 hbxw74 hM75 lM75
   have k76 := k69.below hbxw74 (by omega)
   have k77 := k70.below hbxw74 (by omega)
   have k78 := k71.below hbxw74 (by omega)
   have k79 := k72.below hbxw74 (by omega)
   have lo80 := lo73.trans (hbxw74.mono (by omega))
   clear k69 k70 k71 k72 lo73 hbxw74
   refine wpl_store rfl 41 (.tmp 4) (.tmp 74) rfl (N + 1 + 1) 6 (rC (obR (tMul a.b b.b))) rfl rfl 41 _ k78 szR (fun j _ => rC_one _ j) ?_
   intro xw81 t82 k83; try simp only [pA]
   have k84 := k76.touch t82 (by omega)
   have k85 := k77.touch t82 (by omega)
   have k86 := k79.touch t82 (by omega)
   have lo87 := t82.below lo80 (by omega)
   have h88 := t82.sz hM75
   clear k78 k76 k77 k79 lo80 hM75 t82
   obtain ⟨M89, hM89⟩ := sz_some xw81
   have lt_90 := k84.ltN hM89
   have lt_91 := k85.ltN hM89
   have lt_92 := k83.ltN hM89
   have lt_93 := k86.ltN hM89
   go_wp2_with fail
   refine post_r rfl (N + 1 + 1) rfl k83 undR szR rfl ?_
   exact ⟨by rw [ER.out]; first | rfl | (simp only [mulR, H1_.out, H2_.out, bB] <;> rfl), lo87⟩
  ·have H2_ := hid h2_
   clear h2_
   cases h3_ : (shortF b)
   ·have H3_ := hid h3_
    clear h3_
    go_upto_region 5 with fail
    refine wp_region_later1 (M61) ?_
    try simp only [pA]
    refine later_row hM61 41 (.tmp 2) rfl (N) rfl 41 6 _ k62 undR szR (by rfl) ?_; simp only [pA]
    go_big_quiet_step ((go_at_call 114; exact later_of hM61 _ (fun K hK hKN => ret_is H2_.out (Short_any a) _ K hK)))
    go_big_quiet_step (fail)
    refine later_row hM61 41 (.tmp 3) rfl ((N + 1)) rfl 41 6 _ k63 undR szR (by rfl) ?_; simp only [pA]
    go_big_quiet_step ((go_at_call 114; exact later_of hM61 _ (fun K hK hKN => ret_is H3_.out (Short_any b) _ K hK)))
    go_big_quiet_step (fail)
    refine wpQuiet_nil (laterE hM61 ?_)
    intro xw67 M68 hbxw67 hM68 lM68
    have k69 := k62.below hbxw67 (by omega)
    have k70 := k63.below hbxw67 (by omega)
    have k71 := k64.below hbxw67 (by omega)
    have k72 := k65.below hbxw67 (by omega)
    have lo73 := lo66.trans (hbxw67.mono (by omega))
    clear k62 k63 k64 k65 lo66 hbxw67
    go_upto_region 8 with fail
    refine wp_region_lit ?_
    try simp only [pA]
    change wpList _ _ _ ((_ :: []) ++ (_ :: [])) _ _
    refine wpList_prefix (C := fun w' => ∃ x : Later M68 xw67, w' = x.w') _ _ _ _ ⟨⟨_, Below.refl _ _⟩, rfl⟩ ?_
    refine later_row hM68 41 (.tmp 5) rfl (b_xw22) rfl 41 6 _ k72 undR szR (by rfl) ?_; simp only [pA]
    refine wpQuiet_nil (laterE hM68 ?_)
    intro xw74 M75 hbxw74 hM75 lM75
    have k76 := k69.below hbxw74 (by omega)
    have k77 := k70.below hbxw74 (by omega)
    have k78 := k71.below hbxw74 (by omega)
    have k79 := k72.below hbxw74 (by omega)
    have lo80 := lo73.trans (hbxw74.mono (by omega))
    clear k69 k70 k71 k72 lo73 hbxw74
    refine wpl_store rfl 41 (.tmp 4) (.tmp 74) rfl (N + 1 + 1) 6 (rC (obR (tMul a.b b.b))) rfl rfl 41 _ k78 szR (fun j _ => rC_one _ j) ?_
    intro xw81 t82 k83; try simp only [pA]
    have k84 := k76.touch t82 (by omega)
    have k85 := k77.touch t82 (by omega)
    have k86 := k79.touch t82 (by omega)
    have lo87 := t82.below lo80 (by omega)
    have h88 := t82.sz hM75
    clear k78 k76 k77 k79 lo80 hM75 t82
    obtain ⟨M89, hM89⟩ := sz_some xw81
    have lt_90 := k84.ltN hM89
    have lt_91 := k85.ltN hM89
    have lt_92 := k83.ltN hM89
    have lt_93 := k86.ltN hM89
    go_wp2_with fail
    refine post_r rfl (N + 1 + 1) rfl k83 undR szR rfl ?_
    exact ⟨by rw [ER.out]; first | rfl | (simp only [mulR, H1_.out, H2_.out, H3_.out, bB] <;> rfl), lo87⟩
   ·have H3_ := hid h3_
    clear h3_
    go_upto_region 5 with fail
    refine wp_region_later1 (M61) ?_
    try simp only [pA]
    refine later_row hM61 41 (.tmp 2) rfl (N) rfl 41 6 _ k62 undR szR (by rfl) ?_; simp only [pA]
    go_big_quiet_step ((go_at_call 114; exact later_of hM61 _ (fun K hK hKN => ret_is H2_.out (Short_any a) _ K hK)))
    go_big_quiet_step (fail)
    refine later_row hM61 41 (.tmp 3) rfl ((N + 1)) rfl 41 6 _ k63 undR szR (by rfl) ?_; simp only [pA]
    go_big_quiet_step ((go_at_call 114; exact later_of hM61 _ (fun K hK hKN => ret_is H3_.out (Short_any b) _ K hK)))
    go_big_quiet_step (fail)
    refine wpQuiet_nil (laterE hM61 ?_)
    intro xw67 M68 hbxw67 hM68 lM68
    have k69 := k62.below hbxw67 (by omega)
    have k70 := k63.below hbxw67 (by omega)
    have k71 := k64.below hbxw67 (by omega)
    have k72 := k65.below hbxw67 (by omega)
    have lo73 := lo66.trans (hbxw67.mono (by omega))
    clear k62 k63 k64 k65 lo66 hbxw67
    go_upto_region 6 with fail
    obtain ⟨c74, c75, c76, c77, c78, c79⟩ := r_cells k69
    obtain ⟨c80, c81, c82, c83, c84, c85⟩ := r_cells k70
    refine wp_region_later (M68) (by kernel_rfl) (by kernel_rfl) ?_
    try simp only [pA]
    go_big_quiet_step (fail)
    refine later_c1 hM68 2 (.tmp 42) rfl rfl undI64 rfl c78 (by rfl) ?_; simp only [pA]
    go_big_quiet_step (fail)
    refine later_c1 hM68 2 (.tmp 44) rfl rfl undI64 rfl c84 (by rfl) ?_; simp only [pA]
    refine later_b (x := (.tmp 43)) (y := (.tmp 45)) rfl (bin_smul _ a.sl b.sl) rfl rfl (by rfl) ?_; simp only [pA]
    go_big_quiet_step (fail)
    refine later_c1 hM68 2 (.tmp 47) rfl rfl undI64 rfl c78 (by rfl) ?_; simp only [pA]
    go_big_quiet_step (fail)
    refine later_c1 hM68 2 (.tmp 49) rfl rfl undI64 rfl c85 (by rfl) ?_; simp only [pA]
    refine later_b (x := (.tmp 48)) (y := (.tmp 50)) rfl (bin_smul _ a.sl b.sh) rfl rfl (by rfl) ?_; simp only [pA]
    go_big_quiet_step (fail)
    refine later_c1 hM68 2 (.tmp 52) rfl rfl undI64 rfl c79 (by rfl) ?_; simp only [pA]
    go_big_quiet_step (fail)
    refine later_c1 hM68 2 (.tmp 54) rfl rfl undI64 rfl c84 (by rfl) ?_; simp only [pA]
    refine later_b (x := (.tmp 53)) (y := (.tmp 55)) rfl (bin_smul _ a.sh b.sl) rfl rfl (by rfl) ?_; simp only [pA]
    go_big_quiet_step (fail)
    refine later_c1 hM68 2 (.tmp 57) rfl rfl undI64 rfl c79 (by rfl) ?_; simp only [pA]
    go_big_quiet_step (fail)
    refine later_c1 hM68 2 (.tmp 59) rfl rfl undI64 rfl c85 (by rfl) ?_; simp only [pA]
    refine later_b (x := (.tmp 58)) (y := (.tmp 60)) rfl (bin_smul _ a.sh b.sh) rfl rfl (by rfl) ?_; simp only [pA]
    iterate 4 (go_big_quiet_step (fail))
    refine wpQuiet_nil (laterE hM68 ?_)
    intro xw86 M87 hbxw86 hM87 lM87
    have k88 := k69.below hbxw86 (by omega)
    have k89 := k70.below hbxw86 (by omega)
    have k90 := k71.below hbxw86 (by omega)
    have k91 := k72.below hbxw86 (by omega)
    have lo92 := lo73.trans (hbxw86.mono (by omega))
    clear k69 c74 c75 c76 c77 c78 c79 k70 c80 c81 c82 c83 c84 c85 k71 k72 lo73 hbxw86
    go_upto_region 7 with fail
    refine wp_region_lit ?_
    try simp only [pA]
    change wpList _ _ _ ((_ :: _ :: _ :: _ :: _ :: _ :: _ :: _ :: _ :: _ :: _ :: []) ++ (_ :: _ :: _ :: [])) _ _
    obtain ⟨c93, c94, c95, c96, c97, c98⟩ := r_cells k91
    refine wpList_prefix (C := fun w' => ∃ x : Later M87 xw86, w' = x.w') _ _ _ _ ⟨⟨_, Below.refl _ _⟩, rfl⟩ ?_
    iterate 4 (go_big_quiet_step (fail))
    refine later_val (fun q => run_min4S (x := (.tmp 62)) (y := (.tmp 63)) (z := (.tmp 64)) (u := (.tmp 65)) rfl rfl rfl rfl rfl q.w') (by rfl) ?_; simp only [pA]
    iterate 4 (go_big_quiet_step (fail))
    refine later_val (fun q => run_max4S (x := (.tmp 67)) (y := (.tmp 68)) (z := (.tmp 69)) (u := (.tmp 70)) rfl rfl rfl rfl rfl q.w') (by rfl) ?_; simp only [pA]
    go_big_quiet_step (fail)
    refine wpQuiet_nil (laterE hM87 ?_)
    intro xw99 M100 hbxw99 hM100 lM100
    have k101 := k88.below hbxw99 (by omega)
    have k102 := k89.below hbxw99 (by omega)
    have k103 := k90.below hbxw99 (by omega)
    have k104 := k91.below hbxw99 (by omega)
    have lo105 := lo92.trans (hbxw99.mono (by omega))
    clear k88 k89 k90 k91 c93 c94 c95 c96 c97 c98 lo92 hbxw99
    refine wpl_set rfl 2 (.tmp 72) (.tmp 66) rfl b_xw22 4 rfl _ rfl szI rfl rfl 41 6 _ k104 (by omega) ?_
    intro xw106 t107 k108_; try simp only [pA]
    have k108 : Has xw106 b_xw22 41 6 (rC ⟨(obR (tMul a.b b.b)).b, (obR (tMul a.b b.b)).lo, (obR (tMul a.b b.b)).hi, (sMin4 (a.sl * b.sl) (a.sl * b.sh) (a.sh * b.sl) (a.sh * b.sh)), (obR (tMul a.b b.b)).sh⟩) := k108_.congr (fun j hj => set_sl _ _ j)
    have k109 := k101.touch t107 (by omega)
    have k110 := k102.touch t107 (by omega)
    have k111 := k103.touch t107 (by omega)
    have lo112 := t107.below lo105 (by omega)
    have h113 := t107.sz hM100
    clear k104 k108_ k101 k102 k103 lo105 hM100 t107
    refine wpl_run rfl (Value.pointer (some ⟨b_xw22, 5, none⟩)) _ (run_fa 41 (.tmp 5) 4 5 rfl rfl faR4) ?_; simp only [pA]
    refine wpl_set rfl 2 (.tmp 73) (.tmp 71) rfl b_xw22 5 rfl _ rfl szI rfl rfl 41 6 _ k108 (by omega) ?_
    intro xw114 t115 k116_; try simp only [pA]
    have k116 : Has xw114 b_xw22 41 6 (rC ⟨(obR (tMul a.b b.b)).b, (obR (tMul a.b b.b)).lo, (obR (tMul a.b b.b)).hi, (sMin4 (a.sl * b.sl) (a.sl * b.sh) (a.sh * b.sl) (a.sh * b.sh)), (sMax4 (a.sl * b.sl) (a.sl * b.sh) (a.sh * b.sl) (a.sh * b.sh))⟩) := k116_.congr (fun j hj => set_sh _ _ j hj)
    have k117 := k109.touch t115 (by omega)
    have k118 := k110.touch t115 (by omega)
    have k119 := k111.touch t115 (by omega)
    have lo120 := t115.below lo112 (by omega)
    have h121 := t115.sz h113
    clear k108 k116_ k109 k110 k111 lo112 h113 t115
    obtain ⟨M122, hM122⟩ := sz_some xw114
    have lt_123 := k117.ltN hM122
    have lt_124 := k118.ltN hM122
    have lt_125 := k119.ltN hM122
    have lt_126 := k116.ltN hM122
    go_upto_region 8 with fail
    refine wp_region_lit ?_
    try simp only [pA]
    change wpList _ _ _ ((_ :: []) ++ (_ :: [])) _ _
    refine wpList_prefix (C := fun w' => ∃ x : Later M122 xw114, w' = x.w') _ _ _ _ ⟨⟨_, Below.refl _ _⟩, rfl⟩ ?_
    refine later_row hM122 41 (.tmp 5) rfl (b_xw22) rfl 41 6 _ k116 undR szR (by rfl) ?_; simp only [pA]
    refine wpQuiet_nil (laterE hM122 ?_)
    intro xw127 M128 hbxw127 hM128 lM128
    have k129 := k117.below hbxw127 (by omega)
    have k130 := k118.below hbxw127 (by omega)
    have k131 := k119.below hbxw127 (by omega)
    have k132 := k116.below hbxw127 (by omega)
    have lo133 := lo120.trans (hbxw127.mono (by omega))
    clear k117 k118 k119 k116 lo120 hbxw127
    refine wpl_store rfl 41 (.tmp 4) (.tmp 74) rfl (N + 1 + 1) 6 (rC ⟨(obR (tMul a.b b.b)).b, (obR (tMul a.b b.b)).lo, (obR (tMul a.b b.b)).hi, (sMin4 (a.sl * b.sl) (a.sl * b.sh) (a.sh * b.sl) (a.sh * b.sh)), (sMax4 (a.sl * b.sl) (a.sl * b.sh) (a.sh * b.sl) (a.sh * b.sh))⟩) rfl rfl 41 _ k131 szR (fun j _ => rC_one _ j) ?_
    intro xw134 t135 k136; try simp only [pA]
    have k137 := k129.touch t135 (by omega)
    have k138 := k130.touch t135 (by omega)
    have k139 := k132.touch t135 (by omega)
    have lo140 := t135.below lo133 (by omega)
    have h141 := t135.sz hM128
    clear k131 k129 k130 k132 lo133 hM128 t135
    obtain ⟨M142, hM142⟩ := sz_some xw134
    have lt_143 := k137.ltN hM142
    have lt_144 := k138.ltN hM142
    have lt_145 := k136.ltN hM142
    have lt_146 := k139.ltN hM142
    go_wp2_with fail
    refine post_r rfl (N + 1 + 1) rfl k136 undR szR rfl ?_
    exact ⟨by rw [ER.out]; first | rfl | (simp only [mulR, H1_.out, H2_.out, H3_.out, bB] <;> rfl), lo140⟩
 ·have H1_ := hid h1_
  clear h1_
  go_upto_region 3 with fail
  refine wp_region_later1 (M54) ?_
  try simp only [pA]
  go_big_quiet_step (fail)
  refine later_b (x := (.tmp 26)) (y := (.const (.int .u64 0))) rfl (BinRun.is H1_.out (bin_eql _ (mul64F a.hi b.hi).1 0#64)) rfl rfl (by rfl) ?_; simp only [pA]
  refine wpQuiet_nil (laterE hM54 ?_)
  intro xw60 M61 hbxw60 hM61 lM61
  have k62 := k55.below hbxw60 (by omega)
  have k63 := k56.below hbxw60 (by omega)
  have k64 := k57.below hbxw60 (by omega)
  have k65 := k58.below hbxw60 (by omega)
  have lo66 := lo59.trans (hbxw60.mono (by omega))
  clear k55 k56 k57 k58 lo59 hbxw60
  go_upto_region 4 with fail
  refine wp_region_lit ?_
  try simp only [pA]
  change wpList _ _ _ ((_ :: _ :: _ :: _ :: _ :: _ :: _ :: []) ++ (_ :: _ :: _ :: [])) _ _
  obtain ⟨c67, c68, c69, c70, c71, c72⟩ := r_cells k62
  obtain ⟨c73, c74, c75, c76, c77, c78⟩ := r_cells k63
  obtain ⟨c79, c80, c81, c82, c83, c84⟩ := r_cells k65
  refine wpList_prefix (C := fun w' => ∃ x : Later M61 xw60, w' = x.w') _ _ _ _ ⟨⟨_, Below.refl _ _⟩, rfl⟩ ?_
  go_big_quiet_step (fail)
  refine later_c1 hM61 22 (.tmp 28) rfl rfl und64 rfl c69 (by rfl) ?_; simp only [pA]
  go_big_quiet_step (fail)
  refine later_c1 hM61 22 (.tmp 30) rfl rfl und64 rfl c75 (by rfl) ?_; simp only [pA]
  refine later_b (x := (.tmp 29)) (y := (.tmp 31)) rfl (bin_mul _ a.lo b.lo) rfl rfl (by rfl) ?_; simp only [pA]
  iterate 2 (go_big_quiet_step (fail))
  refine wpQuiet_nil (laterE hM61 ?_)
  intro xw85 M86 hbxw85 hM86 lM86
  have k87 := k62.below hbxw85 (by omega)
  have k88 := k63.below hbxw85 (by omega)
  have k89 := k64.below hbxw85 (by omega)
  have k90 := k65.below hbxw85 (by omega)
  have lo91 := lo66.trans (hbxw85.mono (by omega))
  clear k62 c67 c68 c69 c70 c71 c72 k63 c73 c74 c75 c76 c77 c78 k64 k65 c79 c80 c81 c82 c83 c84 lo66 hbxw85
  refine wpl_set rfl 22 (.tmp 34) (.tmp 32) rfl b_xw22 2 rfl _ rfl sz64 rfl rfl 41 6 _ k90 (by omega) ?_
  intro xw92 t93 k94_; try simp only [pA]
  have k94 : Has xw92 b_xw22 41 6 (rC ⟨(obR (tMul a.b b.b)).b, (a.lo * b.lo), (obR (tMul a.b b.b)).hi, (obR (tMul a.b b.b)).sl, (obR (tMul a.b b.b)).sh⟩) := k94_.congr (fun j hj => set_lo _ _ j)
  have k95 := k87.touch t93 (by omega)
  have k96 := k88.touch t93 (by omega)
  have k97 := k89.touch t93 (by omega)
  have lo98 := t93.below lo91 (by omega)
  have h99 := t93.sz hM86
  clear k90 k94_ k87 k88 k89 lo91 hM86 t93
  refine wpl_run rfl (Value.pointer (some ⟨b_xw22, 3, none⟩)) _ (run_fa 41 (.tmp 5) 2 3 rfl rfl faR2) ?_; simp only [pA]
  refine wpl_set rfl 22 (.tmp 35) (.tmp 33) rfl b_xw22 3 rfl _ rfl sz64 rfl rfl 41 6 _ k94 (by omega) ?_
  intro xw100 t101 k102_; try simp only [pA]
  have k102 : Has xw100 b_xw22 41 6 (rC ⟨(obR (tMul a.b b.b)).b, (a.lo * b.lo), (mul64F a.hi b.hi).2, (obR (tMul a.b b.b)).sl, (obR (tMul a.b b.b)).sh⟩) := k102_.congr (fun j hj => set_hi _ _ j)
  have k103 := k95.touch t101 (by omega)
  have k104 := k96.touch t101 (by omega)
  have k105 := k97.touch t101 (by omega)
  have lo106 := t101.below lo98 (by omega)
  have h107 := t101.sz h99
  clear k94 k102_ k95 k96 k97 lo98 h99 t101
  obtain ⟨M108, hM108⟩ := sz_some xw100
  have lt_109 := k103.ltN hM108
  have lt_110 := k104.ltN hM108
  have lt_111 := k105.ltN hM108
  have lt_112 := k102.ltN hM108
  cases h2_ : (shortF a)
  ·have H2_ := hid h2_
   clear h2_
   go_upto_region 5 with fail
   refine wp_region_later1 (M108) ?_
   try simp only [pA]
   refine later_row hM108 41 (.tmp 2) rfl (N) rfl 41 6 _ k103 undR szR (by rfl) ?_; simp only [pA]
   go_big_quiet_step ((go_at_call 114; exact later_of hM108 _ (fun K hK hKN => ret_is H2_.out (Short_any a) _ K hK)))
   iterate 4 (go_big_quiet_step (fail))
   refine wpQuiet_nil (laterE hM108 ?_)
   intro xw113 M114 hbxw113 hM114 lM114
   have k115 := k103.below hbxw113 (by omega)
   have k116 := k104.below hbxw113 (by omega)
   have k117 := k105.below hbxw113 (by omega)
   have k118 := k102.below hbxw113 (by omega)
   have lo119 := lo106.trans (hbxw113.mono (by omega))
   clear k103 k104 k105 k102 lo106 hbxw113
   go_upto_region 8 with fail
   refine wp_region_lit ?_
   try simp only [pA]
   change wpList _ _ _ ((_ :: []) ++ (_ :: [])) _ _
   refine wpList_prefix (C := fun w' => ∃ x : Later M114 xw113, w' = x.w') _ _ _ _ ⟨⟨_, Below.refl _ _⟩, rfl⟩ ?_
   refine later_row hM114 41 (.tmp 5) rfl (b_xw22) rfl 41 6 _ k118 undR szR (by rfl) ?_; simp only [pA]
   refine wpQuiet_nil (laterE hM114 ?_)
   intro xw120 M121 hbxw120 hM121 lM121
   have k122 := k115.below hbxw120 (by omega)
   have k123 := k116.below hbxw120 (by omega)
   have k124 := k117.below hbxw120 (by omega)
   have k125 := k118.below hbxw120 (by omega)
   have lo126 := lo119.trans (hbxw120.mono (by omega))
   clear k115 k116 k117 k118 lo119 hbxw120
   refine wpl_store rfl 41 (.tmp 4) (.tmp 74) rfl (N + 1 + 1) 6 (rC ⟨(obR (tMul a.b b.b)).b, (a.lo * b.lo), (mul64F a.hi b.hi).2, (obR (tMul a.b b.b)).sl, (obR (tMul a.b b.b)).sh⟩) rfl rfl 41 _ k124 szR (fun j _ => rC_one _ j) ?_
   intro xw127 t128 k129; try simp only [pA]
   have k130 := k122.touch t128 (by omega)
   have k131 := k123.touch t128 (by omega)
   have k132 := k125.touch t128 (by omega)
   have lo133 := t128.below lo126 (by omega)
   have h134 := t128.sz hM121
   clear k124 k122 k123 k125 lo126 hM121 t128
   obtain ⟨M135, hM135⟩ := sz_some xw127
   have lt_136 := k130.ltN hM135
   have lt_137 := k131.ltN hM135
   have lt_138 := k129.ltN hM135
   have lt_139 := k132.ltN hM135
   go_wp2_with fail
   refine post_r rfl (N + 1 + 1) rfl k129 undR szR rfl ?_
   exact ⟨by rw [ER.out]; first | rfl | (simp only [mulR, H1_.out, H2_.out, bB] <;> rfl), lo133⟩
  ·have H2_ := hid h2_
   clear h2_
   cases h3_ : (shortF b)
   ·have H3_ := hid h3_
    clear h3_
    go_upto_region 5 with fail
    refine wp_region_later1 (M108) ?_
    try simp only [pA]
    refine later_row hM108 41 (.tmp 2) rfl (N) rfl 41 6 _ k103 undR szR (by rfl) ?_; simp only [pA]
    go_big_quiet_step ((go_at_call 114; exact later_of hM108 _ (fun K hK hKN => ret_is H2_.out (Short_any a) _ K hK)))
    go_big_quiet_step (fail)
    refine later_row hM108 41 (.tmp 3) rfl ((N + 1)) rfl 41 6 _ k104 undR szR (by rfl) ?_; simp only [pA]
    go_big_quiet_step ((go_at_call 114; exact later_of hM108 _ (fun K hK hKN => ret_is H3_.out (Short_any b) _ K hK)))
    go_big_quiet_step (fail)
    refine wpQuiet_nil (laterE hM108 ?_)
    intro xw113 M114 hbxw113 hM114 lM114
    have k115 := k103.below hbxw113 (by omega)
    have k116 := k104.below hbxw113 (by omega)
    have k117 := k105.below hbxw113 (by omega)
    have k118 := k102.below hbxw113 (by omega)
    have lo119 := lo106.trans (hbxw113.mono (by omega))
    clear k103 k104 k105 k102 lo106 hbxw113
    go_upto_region 8 with fail
    refine wp_region_lit ?_
    try simp only [pA]
    change wpList _ _ _ ((_ :: []) ++ (_ :: [])) _ _
    refine wpList_prefix (C := fun w' => ∃ x : Later M114 xw113, w' = x.w') _ _ _ _ ⟨⟨_, Below.refl _ _⟩, rfl⟩ ?_
    refine later_row hM114 41 (.tmp 5) rfl (b_xw22) rfl 41 6 _ k118 undR szR (by rfl) ?_; simp only [pA]
    refine wpQuiet_nil (laterE hM114 ?_)
    intro xw120 M121 hbxw120 hM121 lM121
    have k122 := k115.below hbxw120 (by omega)
    have k123 := k116.below hbxw120 (by omega)
    have k124 := k117.below hbxw120 (by omega)
    have k125 := k118.below hbxw120 (by omega)
    have lo126 := lo119.trans (hbxw120.mono (by omega))
    clear k115 k116 k117 k118 lo119 hbxw120
    refine wpl_store rfl 41 (.tmp 4) (.tmp 74) rfl (N + 1 + 1) 6 (rC ⟨(obR (tMul a.b b.b)).b, (a.lo * b.lo), (mul64F a.hi b.hi).2, (obR (tMul a.b b.b)).sl, (obR (tMul a.b b.b)).sh⟩) rfl rfl 41 _ k124 szR (fun j _ => rC_one _ j) ?_
    intro xw127 t128 k129; try simp only [pA]
    have k130 := k122.touch t128 (by omega)
    have k131 := k123.touch t128 (by omega)
    have k132 := k125.touch t128 (by omega)
    have lo133 := t128.below lo126 (by omega)
    have h134 := t128.sz hM121
    clear k124 k122 k123 k125 lo126 hM121 t128
    obtain ⟨M135, hM135⟩ := sz_some xw127
    have lt_136 := k130.ltN hM135
    have lt_137 := k131.ltN hM135
    have lt_138 := k129.ltN hM135
    have lt_139 := k132.ltN hM135
    go_wp2_with fail
    refine post_r rfl (N + 1 + 1) rfl k129 undR szR rfl ?_
    exact ⟨by rw [ER.out]; first | rfl | (simp only [mulR, H1_.out, H2_.out, H3_.out, bB] <;> rfl), lo133⟩
   ·have H3_ := hid h3_
    clear h3_
    go_upto_region 5 with fail
    refine wp_region_later1 (M108) ?_
    try simp only [pA]
    refine later_row hM108 41 (.tmp 2) rfl (N) rfl 41 6 _ k103 undR szR (by rfl) ?_; simp only [pA]
    go_big_quiet_step ((go_at_call 114; exact later_of hM108 _ (fun K hK hKN => ret_is H2_.out (Short_any a) _ K hK)))
    go_big_quiet_step (fail)
    refine later_row hM108 41 (.tmp 3) rfl ((N + 1)) rfl 41 6 _ k104 undR szR (by rfl) ?_; simp only [pA]
    go_big_quiet_step ((go_at_call 114; exact later_of hM108 _ (fun K hK hKN => ret_is H3_.out (Short_any b) _ K hK)))
    go_big_quiet_step (fail)
    refine wpQuiet_nil (laterE hM108 ?_)
    intro xw113 M114 hbxw113 hM114 lM114
    have k115 := k103.below hbxw113 (by omega)
    have k116 := k104.below hbxw113 (by omega)
    have k117 := k105.below hbxw113 (by omega)
    have k118 := k102.below hbxw113 (by omega)
    have lo119 := lo106.trans (hbxw113.mono (by omega))
    clear k103 k104 k105 k102 lo106 hbxw113
    go_upto_region 6 with fail
    obtain ⟨c120, c121, c122, c123, c124, c125⟩ := r_cells k115
    obtain ⟨c126, c127, c128, c129, c130, c131⟩ := r_cells k116
    refine wp_region_later (M114) (by kernel_rfl) (by kernel_rfl) ?_
    try simp only [pA]
    go_big_quiet_step (fail)
    refine later_c1 hM114 2 (.tmp 42) rfl rfl undI64 rfl c124 (by rfl) ?_; simp only [pA]
    go_big_quiet_step (fail)
    refine later_c1 hM114 2 (.tmp 44) rfl rfl undI64 rfl c130 (by rfl) ?_; simp only [pA]
    refine later_b (x := (.tmp 43)) (y := (.tmp 45)) rfl (bin_smul _ a.sl b.sl) rfl rfl (by rfl) ?_; simp only [pA]
    go_big_quiet_step (fail)
    refine later_c1 hM114 2 (.tmp 47) rfl rfl undI64 rfl c124 (by rfl) ?_; simp only [pA]
    go_big_quiet_step (fail)
    refine later_c1 hM114 2 (.tmp 49) rfl rfl undI64 rfl c131 (by rfl) ?_; simp only [pA]
    refine later_b (x := (.tmp 48)) (y := (.tmp 50)) rfl (bin_smul _ a.sl b.sh) rfl rfl (by rfl) ?_; simp only [pA]
    go_big_quiet_step (fail)
    refine later_c1 hM114 2 (.tmp 52) rfl rfl undI64 rfl c125 (by rfl) ?_; simp only [pA]
    go_big_quiet_step (fail)
    refine later_c1 hM114 2 (.tmp 54) rfl rfl undI64 rfl c130 (by rfl) ?_; simp only [pA]
    refine later_b (x := (.tmp 53)) (y := (.tmp 55)) rfl (bin_smul _ a.sh b.sl) rfl rfl (by rfl) ?_; simp only [pA]
    go_big_quiet_step (fail)
    refine later_c1 hM114 2 (.tmp 57) rfl rfl undI64 rfl c125 (by rfl) ?_; simp only [pA]
    go_big_quiet_step (fail)
    refine later_c1 hM114 2 (.tmp 59) rfl rfl undI64 rfl c131 (by rfl) ?_; simp only [pA]
    refine later_b (x := (.tmp 58)) (y := (.tmp 60)) rfl (bin_smul _ a.sh b.sh) rfl rfl (by rfl) ?_; simp only [pA]
    iterate 4 (go_big_quiet_step (fail))
    refine wpQuiet_nil (laterE hM114 ?_)
    intro xw132 M133 hbxw132 hM133 lM133
    have k134 := k115.below hbxw132 (by omega)
    have k135 := k116.below hbxw132 (by omega)
    have k136 := k117.below hbxw132 (by omega)
    have k137 := k118.below hbxw132 (by omega)
    have lo138 := lo119.trans (hbxw132.mono (by omega))
    clear k115 c120 c121 c122 c123 c124 c125 k116 c126 c127 c128 c129 c130 c131 k117 k118 lo119 hbxw132
    go_upto_region 7 with fail
    refine wp_region_lit ?_
    try simp only [pA]
    change wpList _ _ _ ((_ :: _ :: _ :: _ :: _ :: _ :: _ :: _ :: _ :: _ :: _ :: []) ++ (_ :: _ :: _ :: [])) _ _
    obtain ⟨c139, c140, c141, c142, c143, c144⟩ := r_cells5 k137
    refine wpList_prefix (C := fun w' => ∃ x : Later M133 xw132, w' = x.w') _ _ _ _ ⟨⟨_, Below.refl _ _⟩, rfl⟩ ?_
    iterate 4 (go_big_quiet_step (fail))
    refine later_val (fun q => run_min4S (x := (.tmp 62)) (y := (.tmp 63)) (z := (.tmp 64)) (u := (.tmp 65)) rfl rfl rfl rfl rfl q.w') (by rfl) ?_; simp only [pA]
    iterate 4 (go_big_quiet_step (fail))
    refine later_val (fun q => run_max4S (x := (.tmp 67)) (y := (.tmp 68)) (z := (.tmp 69)) (u := (.tmp 70)) rfl rfl rfl rfl rfl q.w') (by rfl) ?_; simp only [pA]
    go_big_quiet_step (fail)
    refine wpQuiet_nil (laterE hM133 ?_)
    intro xw145 M146 hbxw145 hM146 lM146
    have k147 := k134.below hbxw145 (by omega)
    have k148 := k135.below hbxw145 (by omega)
    have k149 := k136.below hbxw145 (by omega)
    have k150 := k137.below hbxw145 (by omega)
    have lo151 := lo138.trans (hbxw145.mono (by omega))
    clear k134 k135 k136 k137 c139 c140 c141 c142 c143 c144 lo138 hbxw145
    refine wpl_set rfl 2 (.tmp 72) (.tmp 66) rfl b_xw22 4 rfl _ rfl szI rfl rfl 41 6 _ k150 (by omega) ?_
    intro xw152 t153 k154_; try simp only [pA]
    have k154 : Has xw152 b_xw22 41 6 (rC ⟨(obR (tMul a.b b.b)).b, (a.lo * b.lo), (mul64F a.hi b.hi).2, (sMin4 (a.sl * b.sl) (a.sl * b.sh) (a.sh * b.sl) (a.sh * b.sh)), (obR (tMul a.b b.b)).sh⟩) := k154_.congr (fun j hj => set_sl _ _ j)
    have k155 := k147.touch t153 (by omega)
    have k156 := k148.touch t153 (by omega)
    have k157 := k149.touch t153 (by omega)
    have lo158 := t153.below lo151 (by omega)
    have h159 := t153.sz hM146
    clear k150 k154_ k147 k148 k149 lo151 hM146 t153
    refine wpl_run rfl (Value.pointer (some ⟨b_xw22, 5, none⟩)) _ (run_fa 41 (.tmp 5) 4 5 rfl rfl faR4) ?_; simp only [pA]
    refine wpl_set rfl 2 (.tmp 73) (.tmp 71) rfl b_xw22 5 rfl _ rfl szI rfl rfl 41 6 _ k154 (by omega) ?_
    intro xw160 t161 k162_; try simp only [pA]
    have k162 : Has xw160 b_xw22 41 6 (rC ⟨(obR (tMul a.b b.b)).b, (a.lo * b.lo), (mul64F a.hi b.hi).2, (sMin4 (a.sl * b.sl) (a.sl * b.sh) (a.sh * b.sl) (a.sh * b.sh)), (sMax4 (a.sl * b.sl) (a.sl * b.sh) (a.sh * b.sl) (a.sh * b.sh))⟩) := k162_.congr (fun j hj => set_sh _ _ j hj)
    have k163 := k155.touch t161 (by omega)
    have k164 := k156.touch t161 (by omega)
    have k165 := k157.touch t161 (by omega)
    have lo166 := t161.below lo158 (by omega)
    have h167 := t161.sz h159
    clear k154 k162_ k155 k156 k157 lo158 h159 t161
    obtain ⟨M168, hM168⟩ := sz_some xw160
    have lt_169 := k163.ltN hM168
    have lt_170 := k164.ltN hM168
    have lt_171 := k165.ltN hM168
    have lt_172 := k162.ltN hM168
    go_upto_region 8 with fail
    refine wp_region_lit ?_
    try simp only [pA]
    change wpList _ _ _ ((_ :: []) ++ (_ :: [])) _ _
    refine wpList_prefix (C := fun w' => ∃ x : Later M168 xw160, w' = x.w') _ _ _ _ ⟨⟨_, Below.refl _ _⟩, rfl⟩ ?_
    refine later_row hM168 41 (.tmp 5) rfl (b_xw22) rfl 41 6 _ k162 undR szR (by rfl) ?_; simp only [pA]
    refine wpQuiet_nil (laterE hM168 ?_)
    intro xw173 M174 hbxw173 hM174 lM174
    have k175 := k163.below hbxw173 (by omega)
    have k176 := k164.below hbxw173 (by omega)
    have k177 := k165.below hbxw173 (by omega)
    have k178 := k162.below hbxw173 (by omega)
    have lo179 := lo166.trans (hbxw173.mono (by omega))
    clear k163 k164 k165 k162 lo166 hbxw173
    refine wpl_store rfl 41 (.tmp 4) (.tmp 74) rfl (N + 1 + 1) 6 (rC ⟨(obR (tMul a.b b.b)).b, (a.lo * b.lo), (mul64F a.hi b.hi).2, (sMin4 (a.sl * b.sl) (a.sl * b.sh) (a.sh * b.sl) (a.sh * b.sh)), (sMax4 (a.sl * b.sl) (a.sl * b.sh) (a.sh * b.sl) (a.sh * b.sh))⟩) rfl rfl 41 _ k177 szR (fun j _ => rC_one _ j) ?_
    intro xw180 t181 k182; try simp only [pA]
    have k183 := k175.touch t181 (by omega)
    have k184 := k176.touch t181 (by omega)
    have k185 := k178.touch t181 (by omega)
    have lo186 := t181.below lo179 (by omega)
    have h187 := t181.sz hM174
    clear k177 k175 k176 k178 lo179 hM174 t181
    obtain ⟨M188, hM188⟩ := sz_some xw180
    have lt_189 := k183.ltN hM188
    have lt_190 := k184.ltN hM188
    have lt_191 := k182.ltN hM188
    have lt_192 := k185.ltN hM188
    go_wp2_with fail
    refine post_r rfl (N + 1 + 1) rfl k182 undR szR rfl ?_
    exact ⟨by rw [ER.out]; first | rfl | (simp only [mulR, H1_.out, H2_.out, H3_.out, bB] <;> rfl), lo186⟩
end Go.Proofs.Ytmdcopmgkhjfnaa
