/- Contracts of operations of ranges: shifts by one count. -/
import Derived.Test.YtmdcopmgkhjfnaaSe4
namespace Go.Proofs.Ytmdcopmgkhjfnaa
open Go Go.RowKit
def shByR6 (a : Rn) (n : W) : Rn :=
 bif (n == 0#64) then a
 else (shUpR a n)
set_option maxRecDepth 100000 in
set_option maxHeartbeats 4000000 in
theorem ShBy_6 (a : Rn) (n : W) (w : World) (N : Nat) (hN : Sz w N) : Calls Try.prog 118 #[(Value.int .i64 6), rV a, (Q n)] w fun e w' => e = .returned (rV (shByR6 a n)) ∧ Below N w w' := by
 obtain ⟨rr, er⟩ : ∃ rr, rr = (shByR6 a n) := ⟨_, rfl⟩
 rw [← er]
 have ER := hid er
 clear er
 unfold rV
 go_enter Try.func118, Try.ntmps118
 go_upto_region 1 with (first
  | (refine wpl_box rfl 41 (.tmp 1) rfl 6 _ rfl (N) hN ?_; intro w1 hN1 hb1 hh1)
  | (refine wpl_alloc rfl 41 rfl 6 (rC zeroR) zeR (N + 1) hN1 ?_; intro w2 hN2 hb2 hh2)
  | fail)
 have lo0 : Below N w w2 := (hb1.trans (hb2.mono (by omega)))
 have k1 := (hh1.below hb2 (by omega))
 have k2 := hh2
 clear hh1 hb1 hh2 hb2 hN1
 cases h1_ : (n == 0#64)
 ·have H1_ := hid h1_
  clear h1_
  go_upto_region 1 with fail
  refine wp_region_later1 ((N + 1 + 1)) ?_
  try simp only [pA]
  go_big_quiet_step (fail)
  refine later_b (x := (.tmp 9)) (y := (.const (.int .u64 0))) rfl (BinRun.is H1_.out (bin_eql _ n 0#64)) rfl rfl (by rfl) ?_; simp only [pA]
  refine wpQuiet_nil (laterE hN2 ?_)
  intro xw3 M4 hbxw3 hM4 lM4
  have k5 := k1.below hbxw3 (by omega)
  have k6 := k2.below hbxw3 (by omega)
  have lo7 := lo0.trans (hbxw3.mono (by omega))
  clear k1 k2 lo0 hbxw3
  go_upto_region 5 with fail
  refine wp_region_lit ?_
  try simp only [pA]
  change wpList _ _ _ ((_ :: _ :: _ :: []) ++ (_ :: [])) _ _
  refine wpList_prefix (C := fun w' => ∃ x : Later M4 xw3, w' = x.w') _ _ _ _ ⟨⟨_, Below.refl _ _⟩, rfl⟩ ?_
  refine later_row hM4 41 (.tmp 4) rfl (N) rfl 41 6 _ k5 undR szR (by rfl) ?_; simp only [pA]
  go_big_quiet_step (fail)
  go_big_quiet_step ((go_at_call 117; exact later_of hM4 _ (fun K hK hKN => ShUp_any a n _ K hK)))
  refine wpQuiet_nil (laterE hM4 ?_)
  intro xw8 M9 hbxw8 hM9 lM9
  have k10 := k5.below hbxw8 (by omega)
  have k11 := k6.below hbxw8 (by omega)
  have lo12 := lo7.trans (hbxw8.mono (by omega))
  clear k5 k6 lo7 hbxw8
  refine wpl_store rfl 41 (.tmp 6) (.tmp 17) rfl (N + 1) 6 (rC (shUpR a n)) rfl rfl 41 _ k11 szR (fun j _ => rC_one _ j) ?_
  intro xw13 t14 k15; try simp only [pA]
  have k16 := k10.touch t14 (by omega)
  have lo17 := t14.below lo12 (by omega)
  have h18 := t14.sz hM9
  clear k11 k10 lo12 hM9 t14
  obtain ⟨M19, hM19⟩ := sz_some xw13
  have lt_20 := k16.ltN hM19
  have lt_21 := k15.ltN hM19
  go_wp2_with fail
  refine post_r rfl (N + 1) rfl k15 undR szR rfl ?_
  exact ⟨by rw [ER.out]; first | rfl | (simp only [shByR6, H1_.out, bB] <;> rfl), lo17⟩
 ·have H1_ := hid h1_
  clear h1_
  go_upto_region 1 with fail
  refine wp_region_later1 ((N + 1 + 1)) ?_
  try simp only [pA]
  go_big_quiet_step (fail)
  refine later_b (x := (.tmp 9)) (y := (.const (.int .u64 0))) rfl (BinRun.is H1_.out (bin_eql _ n 0#64)) rfl rfl (by rfl) ?_; simp only [pA]
  refine wpQuiet_nil (laterE hN2 ?_)
  intro xw3 M4 hbxw3 hM4 lM4
  have k5 := k1.below hbxw3 (by omega)
  have k6 := k2.below hbxw3 (by omega)
  have lo7 := lo0.trans (hbxw3.mono (by omega))
  clear k1 k2 lo0 hbxw3
  go_upto_region 2 with fail
  refine wp_region_lit ?_
  try simp only [pA]
  change wpList _ _ _ ((_ :: []) ++ (_ :: [])) _ _
  refine wpList_prefix (C := fun w' => ∃ x : Later M4 xw3, w' = x.w') _ _ _ _ ⟨⟨_, Below.refl _ _⟩, rfl⟩ ?_
  refine later_row hM4 41 (.tmp 4) rfl (N) rfl 41 6 _ k5 undR szR (by rfl) ?_; simp only [pA]
  refine wpQuiet_nil (laterE hM4 ?_)
  intro xw8 M9 hbxw8 hM9 lM9
  have k10 := k5.below hbxw8 (by omega)
  have k11 := k6.below hbxw8 (by omega)
  have lo12 := lo7.trans (hbxw8.mono (by omega))
  clear k5 k6 lo7 hbxw8
  refine wpl_store rfl 41 (.tmp 6) (.tmp 11) rfl (N + 1) 6 (rC a) rfl rfl 41 _ k11 szR (fun j _ => rC_one _ j) ?_
  intro xw13 t14 k15; try simp only [pA]
  have k16 := k10.touch t14 (by omega)
  have lo17 := t14.below lo12 (by omega)
  have h18 := t14.sz hM9
  clear k11 k10 lo12 hM9 t14
  obtain ⟨M19, hM19⟩ := sz_some xw13
  have lt_20 := k16.ltN hM19
  have lt_21 := k15.ltN hM19
  go_wp2_with fail
  refine post_r rfl (N + 1) rfl k15 undR szR rfl ?_
  exact ⟨by rw [ER.out]; first | rfl | (simp only [shByR6, H1_.out, bB] <;> rfl), lo17⟩
def shByR7 (a : Rn) (n : W) : Rn :=
 bif (n == 0#64) then a
 else ⟨(obR (tDown a.b (tw (sn n)).toNat)).b, (a.lo >>> (n).toNat), (a.hi >>> (n).toNat), (obR (tDown a.b (tw (sn n)).toNat)).sl, (obR (tDown a.b (tw (sn n)).toNat)).sh⟩
set_option maxRecDepth 100000 in
set_option maxHeartbeats 4000000 in
theorem ShBy_7 (a : Rn) (n : W) (w : World) (N : Nat) (hN : Sz w N) : Calls Try.prog 118 #[(Value.int .i64 7), rV a, (Q n)] w fun e w' => e = .returned (rV (shByR7 a n)) ∧ Below N w w' := by
 obtain ⟨rr, er⟩ : ∃ rr, rr = (shByR7 a n) := ⟨_, rfl⟩
 rw [← er]
 have ER := hid er
 clear er
 unfold rV
 go_enter Try.func118, Try.ntmps118
 go_upto_region 1 with (first
  | (refine wpl_box rfl 41 (.tmp 1) rfl 6 _ rfl (N) hN ?_; intro w1 hN1 hb1 hh1)
  | (refine wpl_alloc rfl 41 rfl 6 (rC zeroR) zeR (N + 1) hN1 ?_; intro w2 hN2 hb2 hh2)
  | fail)
 have lo0 : Below N w w2 := (hb1.trans (hb2.mono (by omega)))
 have k1 := (hh1.below hb2 (by omega))
 have k2 := hh2
 clear hh1 hb1 hh2 hb2 hN1
 cases h1_ : (n == 0#64)
 ·have H1_ := hid h1_
  clear h1_
  go_upto_region 1 with fail
  refine wp_region_later1 ((N + 1 + 1)) ?_
  try simp only [pA]
  go_big_quiet_step (fail)
  refine later_b (x := (.tmp 9)) (y := (.const (.int .u64 0))) rfl (BinRun.is H1_.out (bin_eql _ n 0#64)) rfl rfl (by rfl) ?_; simp only [pA]
  refine wpQuiet_nil (laterE hN2 ?_)
  intro xw3 M4 hbxw3 hM4 lM4
  have k5 := k1.below hbxw3 (by omega)
  have k6 := k2.below hbxw3 (by omega)
  have lo7 := lo0.trans (hbxw3.mono (by omega))
  clear k1 k2 lo0 hbxw3
  go_upto_region 7 with fail
  refine wp_region_lit ?_
  try simp only [pA]
  change wpList _ _ _ ((_ :: _ :: _ :: _ :: _ :: _ :: []) ++ (_ :: _ :: [])) _ _
  obtain ⟨c8, c9, c10, c11, c12, c13⟩ := r_cells k5
  refine wpList_prefix (C := fun w' => ∃ x : Later M4 xw3, w' = x.w') _ _ _ _ ⟨⟨_, Below.refl _ _⟩, rfl⟩ ?_
  go_big_quiet_step (fail)
  refine later_val (fun qq => run_bits 39 (.tmp 20) rfl N rfl 41 (Later.has hM4 k5 qq) undT szT) (by rfl) ?_; simp only [pA]
  go_big_quiet_step (fail)
  refine later_val (fun q => run_us (x := (.tmp 22)) rfl und64 undInt rfl q.w') (by rfl) ?_; simp only [pA]
  go_big_quiet_step ((go_at_call 125; exact later_of hM4 _ (fun K hK hKN => Down_any a.b (sn n) _ K hK)))
  go_big_quiet_step ((go_at_call 62; exact later_of hM4 _ (fun K hK hKN => OfBits_any (tDown a.b (tw (sn n)).toNat) _ K hK)))
  refine wpQuiet_nil (laterE hM4 ?_)
  intro xw14 M15 hbxw14 hM15 lM15
  have k16 := k5.below hbxw14 (by omega)
  have k17 := k6.below hbxw14 (by omega)
  have lo18 := lo7.trans (hbxw14.mono (by omega))
  clear k5 c8 c9 c10 c11 c12 c13 k6 lo7 hbxw14
  obtain ⟨b_xw19, eb_xw19⟩ : ∃ b_xw19, b_xw19 = M15 := ⟨_, rfl⟩
  have hzb_xw19 : Sz xw14 b_xw19 := by rw [eb_xw19]; exact hM15
  have lob_xw19 : M15 ≤ b_xw19 := by omega
  have upb_xw19 : b_xw19 ≤ M15 := by omega
  clear eb_xw19
  refine wpl_alloc rfl 41 rfl 6 (rC zeroR) zeR b_xw19 hzb_xw19 ?_
  intro xw19 hMxw19 hbxw19 hhxw19; simp only [pA]
  have k20 := k16.below hbxw19 (by omega)
  have k21 := k17.below hbxw19 (by omega)
  have lo22 := lo18.trans (hbxw19.mono (by omega))
  clear k16 k17 lo18 hbxw19 hzb_xw19
  obtain ⟨M23, eM23⟩ : ∃ M23, M23 = b_xw19 + 1 := ⟨_, rfl⟩
  rw [← eM23] at hMxw19
  have loM23 : b_xw19 + 1 ≤ M23 := by omega
  have upM23 : M23 ≤ b_xw19 + 1 := by omega
  clear eM23
  refine wpl_store rfl 41 (.tmp 7) (.tmp 25) rfl b_xw19 6 (rC (obR (tDown a.b (tw (sn n)).toNat))) rfl rfl 41 _ hhxw19 szR (fun j _ => rC_one _ j) ?_
  intro xw24 t25 k26; try simp only [pA]
  have k27 := k20.touch t25 (by omega)
  have k28 := k21.touch t25 (by omega)
  have lo29 := t25.below lo22 (by omega)
  have h30 := t25.sz hMxw19
  clear hhxw19 k20 k21 lo22 hMxw19 t25
  obtain ⟨M31, hM31⟩ := sz_some xw24
  have lt_32 := k27.ltN hM31
  have lt_33 := k28.ltN hM31
  have lt_34 := k26.ltN hM31
  go_upto_region 8 with fail
  refine wp_region_held (S := fun w' => (Has w' N 41 6 (rC a))) (by kernel_rfl) ?_
  replace k27 : Has xw24.drew N 41 6 (rC a) := k27
  replace k28 : Has xw24.drew (N + 1) 41 6 (rC zeroR) := k28
  replace k26 : Has xw24.drew b_xw19 41 6 (rC (obR (tDown a.b (tw (sn n)).toNat))) := k26
  replace hM31 : Sz xw24.drew M31 := hM31
  replace lo29 : Below N w xw24.drew := lo29.drew
  change wpAnyH _ _ _ _ _ _ _ _ (World.drew _)
  generalize xw24.drew = xw35 at *
  refine held_take (i := 0) (v := (Value.pointer (some ⟨N, 2, none⟩))) (d := some 26) rfl (by kernel_rfl) (by kernel_rfl) (by kernel_rfl) (by kernel_rfl) (fun _ _ _ h => h) (Or.inl ⟨by rfl, fun wq hq0 => run_fa 41 (.tmp 4) 1 2 rfl rfl faR1⟩) k27 ?_; simp only [pA]
  refine held_take (i := 1) (v := (Q a.lo)) (d := some 27) rfl (by kernel_rfl) (by kernel_rfl) (by kernel_rfl) (by kernel_rfl) (fun _ _ _ h => h) (Or.inl ⟨by rfl, fun wq hq0 => run_c1 22 (.tmp 26) rfl ⟨N, 2, none⟩ rfl und64 rfl (r_cells hq0).2.2.1⟩) k27 ?_; simp only [pA]
  refine held_take (i := 2) (v := (Q n)) (d := some 28) rfl (by kernel_rfl) (by kernel_rfl) (by kernel_rfl) (by kernel_rfl) (fun _ _ _ h => h) (Or.inl ⟨by rfl, fun wq hq0 => run_mv (x := (.tmp 2)) rfl wq rfl⟩) k27 ?_; simp only [pA]
  refine held_take (i := 3) (v := (Q (a.lo >>> (n).toNat))) (d := some 29) rfl (by kernel_rfl) (by kernel_rfl) (by kernel_rfl) (by kernel_rfl) (fun _ _ _ h => h) (Or.inl ⟨by rfl, fun wq hq0 => (bin_shru _ a.lo n) _ _ (.tmp 27) (.tmp 28) _ wq rfl rfl rfl⟩) k27 ?_; simp only [pA]
  refine held_take (i := 4) (v := (Value.pointer (some ⟨N, 3, none⟩))) (d := some 30) rfl (by kernel_rfl) (by kernel_rfl) (by kernel_rfl) (by kernel_rfl) (fun _ _ _ h => h) (Or.inl ⟨by rfl, fun wq hq0 => run_fa 41 (.tmp 4) 2 3 rfl rfl faR2⟩) k27 ?_; simp only [pA]
  refine held_take (i := 5) (v := (Q a.hi)) (d := some 31) rfl (by kernel_rfl) (by kernel_rfl) (by kernel_rfl) (by kernel_rfl) (fun _ _ _ h => h) (Or.inl ⟨by rfl, fun wq hq0 => run_c1 22 (.tmp 30) rfl ⟨N, 3, none⟩ rfl und64 rfl (r_cells hq0).2.2.2.1⟩) k27 ?_; simp only [pA]
  refine held_take (i := 6) (v := (Q n)) (d := some 32) rfl (by kernel_rfl) (by kernel_rfl) (by kernel_rfl) (by kernel_rfl) (fun _ _ _ h => h) (Or.inl ⟨by rfl, fun wq hq0 => run_mv (x := (.tmp 2)) rfl wq rfl⟩) k27 ?_; simp only [pA]
  refine held_take (i := 7) (v := (Q (a.hi >>> (n).toNat))) (d := some 33) rfl (by kernel_rfl) (by kernel_rfl) (by kernel_rfl) (by kernel_rfl) (fun _ _ _ h => h) (Or.inl ⟨by rfl, fun wq hq0 => (bin_shru _ a.hi n) _ _ (.tmp 31) (.tmp 32) _ wq rfl rfl rfl⟩) k27 ?_; simp only [pA]
  refine held_take (i := 8) (v := (Value.pointer (some ⟨b_xw19, 2, none⟩))) (d := some 34) rfl (by kernel_rfl) (by kernel_rfl) (by kernel_rfl) (by kernel_rfl) (fun _ _ _ h => h) (Or.inl ⟨by rfl, fun wq hq0 => run_fa 41 (.tmp 7) 1 2 rfl rfl faR1⟩) k27 ?_; simp only [pA]
  refine wpAnyH_all (rs := [9]) (by kernel_rfl) (by simp) ?_
  intro iq hiq; simp only [List.mem_singleton] at hiq; subst hiq
  refine opg_list rfl ?_
  refine wpl_setN (by rfl) (by kernel_rfl) 22 (.tmp 34) (.tmp 29) rfl b_xw19 2 rfl _ rfl sz64 rfl rfl 41 6 _ k26 (by omega) ?_
  intro xw37 t38 k39_; try simp only [pA]
  have k39 : Has xw37 b_xw19 41 6 (rC ⟨(obR (tDown a.b (tw (sn n)).toNat)).b, (a.lo >>> (n).toNat), (obR (tDown a.b (tw (sn n)).toNat)).hi, (obR (tDown a.b (tw (sn n)).toNat)).sl, (obR (tDown a.b (tw (sn n)).toNat)).sh⟩) := k39_.congr (fun j hj => set_lo _ _ j)
  have k40 := k27.touch t38 (by omega)
  have k41 := k28.touch t38 (by omega)
  have lo42 := t38.below lo29 (by omega)
  have h43 := t38.sz hM31
  clear k26 k39_ k27 k28 lo29 hM31 t38
  refine ⟨k40, ?_⟩
  refine held_take (i := 10) (v := (Value.pointer (some ⟨b_xw19, 3, none⟩))) (d := some 35) rfl (by kernel_rfl) (by kernel_rfl) (by kernel_rfl) (by kernel_rfl) (fun _ _ _ h => h) (Or.inl ⟨by rfl, fun wq hq0 => run_fa 41 (.tmp 7) 2 3 rfl rfl faR2⟩) k40 ?_; simp only [pA]
  refine wpAnyH_all (rs := [11]) (by kernel_rfl) (by simp) ?_
  intro iq hiq; simp only [List.mem_singleton] at hiq; subst hiq
  refine opg_list rfl ?_
  refine wpl_setN (by rfl) (by kernel_rfl) 22 (.tmp 35) (.tmp 33) rfl b_xw19 3 rfl _ rfl sz64 rfl rfl 41 6 _ k39 (by omega) ?_
  intro xw44 t45 k46_; try simp only [pA]
  have k46 : Has xw44 b_xw19 41 6 (rC ⟨(obR (tDown a.b (tw (sn n)).toNat)).b, (a.lo >>> (n).toNat), (a.hi >>> (n).toNat), (obR (tDown a.b (tw (sn n)).toNat)).sl, (obR (tDown a.b (tw (sn n)).toNat)).sh⟩) := k46_.congr (fun j hj => set_hi _ _ j)
  have k47 := k40.touch t45 (by omega)
  have k48 := k41.touch t45 (by omega)
  have lo49 := t45.below lo42 (by omega)
  have h50 := t45.sz h43
  clear k39 k46_ k40 k41 lo42 h43 t45
  refine ⟨k47, ?_⟩
  refine wpAnyH_done (by kernel_rfl) ?_ _
  obtain ⟨M51, hM51⟩ := sz_some xw44
  have lt_52 := k47.ltN hM51
  have lt_53 := k48.ltN hM51
  have lt_54 := k46.ltN hM51
  go_upto_region 9 with fail
  refine wp_region_lit ?_
  try simp only [pA]
  change wpList _ _ _ ((_ :: []) ++ (_ :: [])) _ _
  refine wpList_prefix (C := fun w' => ∃ x : Later M51 xw44, w' = x.w') _ _ _ _ ⟨⟨_, Below.refl _ _⟩, rfl⟩ ?_
  refine later_row hM51 41 (.tmp 7) rfl (b_xw19) rfl 41 6 _ k46 undR szR (by rfl) ?_; simp only [pA]
  refine wpQuiet_nil (laterE hM51 ?_)
  intro xw55 M56 hbxw55 hM56 lM56
  have k57 := k47.below hbxw55 (by omega)
  have k58 := k48.below hbxw55 (by omega)
  have k59 := k46.below hbxw55 (by omega)
  have lo60 := lo49.trans (hbxw55.mono (by omega))
  clear k47 k48 k46 lo49 hbxw55
  refine wpl_store rfl 41 (.tmp 6) (.tmp 36) rfl (N + 1) 6 (rC ⟨(obR (tDown a.b (tw (sn n)).toNat)).b, (a.lo >>> (n).toNat), (a.hi >>> (n).toNat), (obR (tDown a.b (tw (sn n)).toNat)).sl, (obR (tDown a.b (tw (sn n)).toNat)).sh⟩) rfl rfl 41 _ k58 szR (fun j _ => rC_one _ j) ?_
  intro xw61 t62 k63; try simp only [pA]
  have k64 := k57.touch t62 (by omega)
  have k65 := k59.touch t62 (by omega)
  have lo66 := t62.below lo60 (by omega)
  have h67 := t62.sz hM56
  clear k58 k57 k59 lo60 hM56 t62
  obtain ⟨M68, hM68⟩ := sz_some xw61
  have lt_69 := k64.ltN hM68
  have lt_70 := k63.ltN hM68
  have lt_71 := k65.ltN hM68
  go_wp2_with fail
  refine post_r rfl (N + 1) rfl k63 undR szR rfl ?_
  exact ⟨by rw [ER.out]; first | rfl | (simp only [shByR7, H1_.out, bB] <;> rfl), lo66⟩
 ·have H1_ := hid h1_
  clear h1_
  go_upto_region 1 with fail
  refine wp_region_later1 ((N + 1 + 1)) ?_
  try simp only [pA]
  go_big_quiet_step (fail)
  refine later_b (x := (.tmp 9)) (y := (.const (.int .u64 0))) rfl (BinRun.is H1_.out (bin_eql _ n 0#64)) rfl rfl (by rfl) ?_; simp only [pA]
  refine wpQuiet_nil (laterE hN2 ?_)
  intro xw3 M4 hbxw3 hM4 lM4
  have k5 := k1.below hbxw3 (by omega)
  have k6 := k2.below hbxw3 (by omega)
  have lo7 := lo0.trans (hbxw3.mono (by omega))
  clear k1 k2 lo0 hbxw3
  go_upto_region 2 with fail
  refine wp_region_lit ?_
  try simp only [pA]
  change wpList _ _ _ ((_ :: []) ++ (_ :: [])) _ _
  refine wpList_prefix (C := fun w' => ∃ x : Later M4 xw3, w' = x.w') _ _ _ _ ⟨⟨_, Below.refl _ _⟩, rfl⟩ ?_
  refine later_row hM4 41 (.tmp 4) rfl (N) rfl 41 6 _ k5 undR szR (by rfl) ?_; simp only [pA]
  refine wpQuiet_nil (laterE hM4 ?_)
  intro xw8 M9 hbxw8 hM9 lM9
  have k10 := k5.below hbxw8 (by omega)
  have k11 := k6.below hbxw8 (by omega)
  have lo12 := lo7.trans (hbxw8.mono (by omega))
  clear k5 k6 lo7 hbxw8
  refine wpl_store rfl 41 (.tmp 6) (.tmp 11) rfl (N + 1) 6 (rC a) rfl rfl 41 _ k11 szR (fun j _ => rC_one _ j) ?_
  intro xw13 t14 k15; try simp only [pA]
  have k16 := k10.touch t14 (by omega)
  have lo17 := t14.below lo12 (by omega)
  have h18 := t14.sz hM9
  clear k11 k10 lo12 hM9 t14
  obtain ⟨M19, hM19⟩ := sz_some xw13
  have lt_20 := k16.ltN hM19
  have lt_21 := k15.ltN hM19
  go_wp2_with fail
  refine post_r rfl (N + 1) rfl k15 undR szR rfl ?_
  exact ⟨by rw [ER.out]; first | rfl | (simp only [shByR7, H1_.out, bB] <;> rfl), lo17⟩
def shByR12 (a : Rn) (n : W) : Rn :=
 bif (n == 0#64) then a
 else ⟨(obR ⟨(BitVec.sshiftRight a.b.v (n).toNat), (BitVec.sshiftRight a.b.m (n).toNat)⟩).b, (obR ⟨(BitVec.sshiftRight a.b.v (n).toNat), (BitVec.sshiftRight a.b.m (n).toNat)⟩).lo, (obR ⟨(BitVec.sshiftRight a.b.v (n).toNat), (BitVec.sshiftRight a.b.m (n).toNat)⟩).hi, (BitVec.sshiftRight a.sl (n).toNat), (BitVec.sshiftRight a.sh (n).toNat)⟩
set_option maxRecDepth 100000 in
set_option maxHeartbeats 4000000 in
theorem ShBy_12 (a : Rn) (n : W) (w : World) (N : Nat) (hN : Sz w N) : Calls Try.prog 118 #[(Value.int .i64 12), rV a, (Q n)] w fun e w' => e = .returned (rV (shByR12 a n)) ∧ Below N w w' := by
 obtain ⟨rr, er⟩ : ∃ rr, rr = (shByR12 a n) := ⟨_, rfl⟩
 rw [← er]
 have ER := hid er
 clear er
 unfold rV
 go_enter Try.func118, Try.ntmps118
 go_upto_region 1 with (first
  | (refine wpl_box rfl 41 (.tmp 1) rfl 6 _ rfl (N) hN ?_; intro w1 hN1 hb1 hh1)
  | (refine wpl_alloc rfl 41 rfl 6 (rC zeroR) zeR (N + 1) hN1 ?_; intro w2 hN2 hb2 hh2)
  | fail)
 have lo0 : Below N w w2 := (hb1.trans (hb2.mono (by omega)))
 have k1 := (hh1.below hb2 (by omega))
 have k2 := hh2
 clear hh1 hb1 hh2 hb2 hN1
 cases h1_ : (n == 0#64)
 ·have H1_ := hid h1_
  clear h1_
  go_upto_region 1 with fail
  refine wp_region_later1 ((N + 1 + 1)) ?_
  try simp only [pA]
  go_big_quiet_step (fail)
  refine later_b (x := (.tmp 9)) (y := (.const (.int .u64 0))) rfl (BinRun.is H1_.out (bin_eql _ n 0#64)) rfl rfl (by rfl) ?_; simp only [pA]
  refine wpQuiet_nil (laterE hN2 ?_)
  intro xw3 M4 hbxw3 hM4 lM4
  have k5 := k1.below hbxw3 (by omega)
  have k6 := k2.below hbxw3 (by omega)
  have lo7 := lo0.trans (hbxw3.mono (by omega))
  clear k1 k2 lo0 hbxw3
  go_upto_region 10 with fail
  refine wp_region_lit ?_
  try simp only [pA]
  change wpList _ _ _ ((_ :: _ :: _ :: _ :: _ :: _ :: _ :: _ :: _ :: _ :: _ :: _ :: _ :: _ :: _ :: _ :: []) ++ (_ :: _ :: [])) _ _
  obtain ⟨c8, c9, c10, c11, c12, c13⟩ := r_cells k5
  refine wpList_prefix (C := fun w' => ∃ x : Later M4 xw3, w' = x.w') _ _ _ _ ⟨⟨_, Below.refl _ _⟩, rfl⟩ ?_
  iterate 2 (go_big_quiet_step (fail))
  refine later_c1 hM4 22 (.tmp 38) rfl rfl und64 rfl c8 (by rfl) ?_; simp only [pA]
  refine later_val (fun q => run_us (x := (.tmp 39)) rfl und64 undI64 rfl q.w') (by rfl) ?_; simp only [pA]
  go_big_quiet_step (fail)
  refine later_b (x := (.tmp 40)) (y := (.tmp 41)) rfl (bin_sshrg _ a.b.v n) rfl rfl (by rfl) ?_; simp only [pA]
  refine later_val (fun q => run_su (x := (.tmp 42)) rfl undI64 und64 rfl q.w') (by rfl) ?_; simp only [pA]
  iterate 2 (go_big_quiet_step (fail))
  refine later_c1 hM4 22 (.tmp 45) rfl rfl und64 rfl c9 (by rfl) ?_; simp only [pA]
  refine later_val (fun q => run_us (x := (.tmp 46)) rfl und64 undI64 rfl q.w') (by rfl) ?_; simp only [pA]
  go_big_quiet_step (fail)
  refine later_b (x := (.tmp 47)) (y := (.tmp 48)) rfl (bin_sshrg _ a.b.m n) rfl rfl (by rfl) ?_; simp only [pA]
  refine later_val (fun q => run_su (x := (.tmp 49)) rfl undI64 und64 rfl q.w') (by rfl) ?_; simp only [pA]
  refine later_val (fun q => run_bd 39 _ rfl (cellsOf (nC ⟨(BitVec.sshiftRight a.b.v (n).toNat), (BitVec.sshiftRight a.b.m (n).toNat)⟩) 2) (by kernel_rfl) q.w') (by rfl) ?_; simp only [pA]
  go_big_quiet_step ((go_at_call 62; exact later_of hM4 _ (fun K hK hKN => OfBits_any ⟨(BitVec.sshiftRight a.b.v (n).toNat), (BitVec.sshiftRight a.b.m (n).toNat)⟩ _ K hK)))
  refine wpQuiet_nil (laterE hM4 ?_)
  intro xw14 M15 hbxw14 hM15 lM15
  have k16 := k5.below hbxw14 (by omega)
  have k17 := k6.below hbxw14 (by omega)
  have lo18 := lo7.trans (hbxw14.mono (by omega))
  clear k5 c8 c9 c10 c11 c12 c13 k6 lo7 hbxw14
  obtain ⟨b_xw19, eb_xw19⟩ : ∃ b_xw19, b_xw19 = M15 := ⟨_, rfl⟩
  have hzb_xw19 : Sz xw14 b_xw19 := by rw [eb_xw19]; exact hM15
  have lob_xw19 : M15 ≤ b_xw19 := by omega
  have upb_xw19 : b_xw19 ≤ M15 := by omega
  clear eb_xw19
  refine wpl_alloc rfl 41 rfl 6 (rC zeroR) zeR b_xw19 hzb_xw19 ?_
  intro xw19 hMxw19 hbxw19 hhxw19; simp only [pA]
  have k20 := k16.below hbxw19 (by omega)
  have k21 := k17.below hbxw19 (by omega)
  have lo22 := lo18.trans (hbxw19.mono (by omega))
  clear k16 k17 lo18 hbxw19 hzb_xw19
  obtain ⟨M23, eM23⟩ : ∃ M23, M23 = b_xw19 + 1 := ⟨_, rfl⟩
  rw [← eM23] at hMxw19
  have loM23 : b_xw19 + 1 ≤ M23 := by omega
  have upM23 : M23 ≤ b_xw19 + 1 := by omega
  clear eM23
  refine wpl_store rfl 41 (.tmp 8) (.tmp 52) rfl b_xw19 6 (rC (obR ⟨(BitVec.sshiftRight a.b.v (n).toNat), (BitVec.sshiftRight a.b.m (n).toNat)⟩)) rfl rfl 41 _ hhxw19 szR (fun j _ => rC_one _ j) ?_
  intro xw24 t25 k26; try simp only [pA]
  have k27 := k20.touch t25 (by omega)
  have k28 := k21.touch t25 (by omega)
  have lo29 := t25.below lo22 (by omega)
  have h30 := t25.sz hMxw19
  clear hhxw19 k20 k21 lo22 hMxw19 t25
  obtain ⟨M31, hM31⟩ := sz_some xw24
  have lt_32 := k27.ltN hM31
  have lt_33 := k28.ltN hM31
  have lt_34 := k26.ltN hM31
  go_upto_region 11 with fail
  refine wp_region_held (S := fun w' => (Has w' N 41 6 (rC a))) (by kernel_rfl) ?_
  replace k27 : Has xw24.drew N 41 6 (rC a) := k27
  replace k28 : Has xw24.drew (N + 1) 41 6 (rC zeroR) := k28
  replace k26 : Has xw24.drew b_xw19 41 6 (rC (obR ⟨(BitVec.sshiftRight a.b.v (n).toNat), (BitVec.sshiftRight a.b.m (n).toNat)⟩)) := k26
  replace hM31 : Sz xw24.drew M31 := hM31
  replace lo29 : Below N w xw24.drew := lo29.drew
  change wpAnyH _ _ _ _ _ _ _ _ (World.drew _)
  generalize xw24.drew = xw35 at *
  refine held_take (i := 0) (v := (Value.pointer (some ⟨N, 4, none⟩))) (d := some 53) rfl (by kernel_rfl) (by kernel_rfl) (by kernel_rfl) (by kernel_rfl) (fun _ _ _ h => h) (Or.inl ⟨by rfl, fun wq hq0 => run_fa 41 (.tmp 4) 3 4 rfl rfl faR3⟩) k27 ?_; simp only [pA]
  refine held_take (i := 1) (v := (S a.sl)) (d := some 54) rfl (by kernel_rfl) (by kernel_rfl) (by kernel_rfl) (by kernel_rfl) (fun _ _ _ h => h) (Or.inl ⟨by rfl, fun wq hq0 => run_c1 2 (.tmp 53) rfl ⟨N, 4, none⟩ rfl undI64 rfl (r_cells hq0).2.2.2.2.1⟩) k27 ?_; simp only [pA]
  refine held_take (i := 2) (v := (Q n)) (d := some 55) rfl (by kernel_rfl) (by kernel_rfl) (by kernel_rfl) (by kernel_rfl) (fun _ _ _ h => h) (Or.inl ⟨by rfl, fun wq hq0 => run_mv (x := (.tmp 2)) rfl wq rfl⟩) k27 ?_; simp only [pA]
  refine held_take (i := 3) (v := (S (BitVec.sshiftRight a.sl (n).toNat))) (d := some 56) rfl (by kernel_rfl) (by kernel_rfl) (by kernel_rfl) (by kernel_rfl) (fun _ _ _ h => h) (Or.inl ⟨by rfl, fun wq hq0 => (bin_sshrg _ a.sl n) _ _ (.tmp 54) (.tmp 55) _ wq rfl rfl rfl⟩) k27 ?_; simp only [pA]
  refine held_take (i := 4) (v := (Value.pointer (some ⟨N, 5, none⟩))) (d := some 57) rfl (by kernel_rfl) (by kernel_rfl) (by kernel_rfl) (by kernel_rfl) (fun _ _ _ h => h) (Or.inl ⟨by rfl, fun wq hq0 => run_fa 41 (.tmp 4) 4 5 rfl rfl faR4⟩) k27 ?_; simp only [pA]
  refine held_take (i := 5) (v := (S a.sh)) (d := some 58) rfl (by kernel_rfl) (by kernel_rfl) (by kernel_rfl) (by kernel_rfl) (fun _ _ _ h => h) (Or.inl ⟨by rfl, fun wq hq0 => run_c1 2 (.tmp 57) rfl ⟨N, 5, none⟩ rfl undI64 rfl (r_cells hq0).2.2.2.2.2⟩) k27 ?_; simp only [pA]
  refine held_take (i := 6) (v := (Q n)) (d := some 59) rfl (by kernel_rfl) (by kernel_rfl) (by kernel_rfl) (by kernel_rfl) (fun _ _ _ h => h) (Or.inl ⟨by rfl, fun wq hq0 => run_mv (x := (.tmp 2)) rfl wq rfl⟩) k27 ?_; simp only [pA]
  refine held_take (i := 7) (v := (S (BitVec.sshiftRight a.sh (n).toNat))) (d := some 60) rfl (by kernel_rfl) (by kernel_rfl) (by kernel_rfl) (by kernel_rfl) (fun _ _ _ h => h) (Or.inl ⟨by rfl, fun wq hq0 => (bin_sshrg _ a.sh n) _ _ (.tmp 58) (.tmp 59) _ wq rfl rfl rfl⟩) k27 ?_; simp only [pA]
  refine held_take (i := 8) (v := (Value.pointer (some ⟨b_xw19, 4, none⟩))) (d := some 61) rfl (by kernel_rfl) (by kernel_rfl) (by kernel_rfl) (by kernel_rfl) (fun _ _ _ h => h) (Or.inl ⟨by rfl, fun wq hq0 => run_fa 41 (.tmp 8) 3 4 rfl rfl faR3⟩) k27 ?_; simp only [pA]
  refine wpAnyH_all (rs := [9]) (by kernel_rfl) (by simp) ?_
  intro iq hiq; simp only [List.mem_singleton] at hiq; subst hiq
  refine opg_list rfl ?_
  refine wpl_setN (by rfl) (by kernel_rfl) 2 (.tmp 61) (.tmp 56) rfl b_xw19 4 rfl _ rfl szI rfl rfl 41 6 _ k26 (by omega) ?_
  intro xw37 t38 k39_; try simp only [pA]
  have k39 : Has xw37 b_xw19 41 6 (rC ⟨(obR ⟨(BitVec.sshiftRight a.b.v (n).toNat), (BitVec.sshiftRight a.b.m (n).toNat)⟩).b, (obR ⟨(BitVec.sshiftRight a.b.v (n).toNat), (BitVec.sshiftRight a.b.m (n).toNat)⟩).lo, (obR ⟨(BitVec.sshiftRight a.b.v (n).toNat), (BitVec.sshiftRight a.b.m (n).toNat)⟩).hi, (BitVec.sshiftRight a.sl (n).toNat), (obR ⟨(BitVec.sshiftRight a.b.v (n).toNat), (BitVec.sshiftRight a.b.m (n).toNat)⟩).sh⟩) := k39_.congr (fun j hj => set_sl _ _ j)
  have k40 := k27.touch t38 (by omega)
  have k41 := k28.touch t38 (by omega)
  have lo42 := t38.below lo29 (by omega)
  have h43 := t38.sz hM31
  clear k26 k39_ k27 k28 lo29 hM31 t38
  refine ⟨k40, ?_⟩
  refine held_take (i := 10) (v := (Value.pointer (some ⟨b_xw19, 5, none⟩))) (d := some 62) rfl (by kernel_rfl) (by kernel_rfl) (by kernel_rfl) (by kernel_rfl) (fun _ _ _ h => h) (Or.inl ⟨by rfl, fun wq hq0 => run_fa 41 (.tmp 8) 4 5 rfl rfl faR4⟩) k40 ?_; simp only [pA]
  refine wpAnyH_all (rs := [11]) (by kernel_rfl) (by simp) ?_
  intro iq hiq; simp only [List.mem_singleton] at hiq; subst hiq
  refine opg_list rfl ?_
  refine wpl_setN (by rfl) (by kernel_rfl) 2 (.tmp 62) (.tmp 60) rfl b_xw19 5 rfl _ rfl szI rfl rfl 41 6 _ k39 (by omega) ?_
  intro xw44 t45 k46_; try simp only [pA]
  have k46 : Has xw44 b_xw19 41 6 (rC ⟨(obR ⟨(BitVec.sshiftRight a.b.v (n).toNat), (BitVec.sshiftRight a.b.m (n).toNat)⟩).b, (obR ⟨(BitVec.sshiftRight a.b.v (n).toNat), (BitVec.sshiftRight a.b.m (n).toNat)⟩).lo, (obR ⟨(BitVec.sshiftRight a.b.v (n).toNat), (BitVec.sshiftRight a.b.m (n).toNat)⟩).hi, (BitVec.sshiftRight a.sl (n).toNat), (BitVec.sshiftRight a.sh (n).toNat)⟩) := k46_.congr (fun j hj => set_sh _ _ j hj)
  have k47 := k40.touch t45 (by omega)
  have k48 := k41.touch t45 (by omega)
  have lo49 := t45.below lo42 (by omega)
  have h50 := t45.sz h43
  clear k39 k46_ k40 k41 lo42 h43 t45
  refine ⟨k47, ?_⟩
  refine wpAnyH_done (by kernel_rfl) ?_ _
  obtain ⟨M51, hM51⟩ := sz_some xw44
  have lt_52 := k47.ltN hM51
  have lt_53 := k48.ltN hM51
  have lt_54 := k46.ltN hM51
  go_upto_region 12 with fail
  refine wp_region_lit ?_
  try simp only [pA]
  change wpList _ _ _ ((_ :: []) ++ (_ :: [])) _ _
  refine wpList_prefix (C := fun w' => ∃ x : Later M51 xw44, w' = x.w') _ _ _ _ ⟨⟨_, Below.refl _ _⟩, rfl⟩ ?_
  refine later_row hM51 41 (.tmp 8) rfl (b_xw19) rfl 41 6 _ k46 undR szR (by rfl) ?_; simp only [pA]
  refine wpQuiet_nil (laterE hM51 ?_)
  intro xw55 M56 hbxw55 hM56 lM56
  have k57 := k47.below hbxw55 (by omega)
  have k58 := k48.below hbxw55 (by omega)
  have k59 := k46.below hbxw55 (by omega)
  have lo60 := lo49.trans (hbxw55.mono (by omega))
  clear k47 k48 k46 lo49 hbxw55
  refine wpl_store rfl 41 (.tmp 6) (.tmp 63) rfl (N + 1) 6 (rC ⟨(obR ⟨(BitVec.sshiftRight a.b.v (n).toNat), (BitVec.sshiftRight a.b.m (n).toNat)⟩).b, (obR ⟨(BitVec.sshiftRight a.b.v (n).toNat), (BitVec.sshiftRight a.b.m (n).toNat)⟩).lo, (obR ⟨(BitVec.sshiftRight a.b.v (n).toNat), (BitVec.sshiftRight a.b.m (n).toNat)⟩).hi, (BitVec.sshiftRight a.sl (n).toNat), (BitVec.sshiftRight a.sh (n).toNat)⟩) rfl rfl 41 _ k58 szR (fun j _ => rC_one _ j) ?_
  intro xw61 t62 k63; try simp only [pA]
  have k64 := k57.touch t62 (by omega)
  have k65 := k59.touch t62 (by omega)
  have lo66 := t62.below lo60 (by omega)
  have h67 := t62.sz hM56
  clear k58 k57 k59 lo60 hM56 t62
  obtain ⟨M68, hM68⟩ := sz_some xw61
  have lt_69 := k64.ltN hM68
  have lt_70 := k63.ltN hM68
  have lt_71 := k65.ltN hM68
  go_wp2_with fail
  refine post_r rfl (N + 1) rfl k63 undR szR rfl ?_
  exact ⟨by rw [ER.out]; first | rfl | (simp only [shByR12, H1_.out, bB] <;> rfl), lo66⟩
 ·have H1_ := hid h1_
  clear h1_
  go_upto_region 1 with fail
  refine wp_region_later1 ((N + 1 + 1)) ?_
  try simp only [pA]
  go_big_quiet_step (fail)
  refine later_b (x := (.tmp 9)) (y := (.const (.int .u64 0))) rfl (BinRun.is H1_.out (bin_eql _ n 0#64)) rfl rfl (by rfl) ?_; simp only [pA]
  refine wpQuiet_nil (laterE hN2 ?_)
  intro xw3 M4 hbxw3 hM4 lM4
  have k5 := k1.below hbxw3 (by omega)
  have k6 := k2.below hbxw3 (by omega)
  have lo7 := lo0.trans (hbxw3.mono (by omega))
  clear k1 k2 lo0 hbxw3
  go_upto_region 2 with fail
  refine wp_region_lit ?_
  try simp only [pA]
  change wpList _ _ _ ((_ :: []) ++ (_ :: [])) _ _
  refine wpList_prefix (C := fun w' => ∃ x : Later M4 xw3, w' = x.w') _ _ _ _ ⟨⟨_, Below.refl _ _⟩, rfl⟩ ?_
  refine later_row hM4 41 (.tmp 4) rfl (N) rfl 41 6 _ k5 undR szR (by rfl) ?_; simp only [pA]
  refine wpQuiet_nil (laterE hM4 ?_)
  intro xw8 M9 hbxw8 hM9 lM9
  have k10 := k5.below hbxw8 (by omega)
  have k11 := k6.below hbxw8 (by omega)
  have lo12 := lo7.trans (hbxw8.mono (by omega))
  clear k5 k6 lo7 hbxw8
  refine wpl_store rfl 41 (.tmp 6) (.tmp 11) rfl (N + 1) 6 (rC a) rfl rfl 41 _ k11 szR (fun j _ => rC_one _ j) ?_
  intro xw13 t14 k15; try simp only [pA]
  have k16 := k10.touch t14 (by omega)
  have lo17 := t14.below lo12 (by omega)
  have h18 := t14.sz hM9
  clear k11 k10 lo12 hM9 t14
  obtain ⟨M19, hM19⟩ := sz_some xw13
  have lt_20 := k16.ltN hM19
  have lt_21 := k15.ltN hM19
  go_wp2_with fail
  refine post_r rfl (N + 1) rfl k15 undR szR rfl ?_
  exact ⟨by rw [ER.out]; first | rfl | (simp only [shByR12, H1_.out, bB] <;> rfl), lo17⟩
end Go.Proofs.Ytmdcopmgkhjfnaa
