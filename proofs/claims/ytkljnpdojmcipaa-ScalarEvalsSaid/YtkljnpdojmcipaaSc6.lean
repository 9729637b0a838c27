/- Contracts of ranges: one number, all numbers, of bits; is a number one of them? -/
import Derived.Test.YtkljnpdojmcipaaSc5
import Derived.Test.YtkljnpdojmcipaaLex
namespace Go.Proofs.Ytkljnpdojmcipaa
open Go Go.RowKit
set_option maxRecDepth 100000 in
set_option maxHeartbeats 4000000 in
theorem SConst_any (x : W) (w : World) (N : Nat) (hN : Sz w N) : Calls Try.prog 16 #[Q x] w fun e w' => e = .returned (rV (cR x)) ∧ Below N w w' := by
  obtain ⟨dR, u1, u2⟩ := undR
  unfold rV
  go_enter Try.func16, Try.ntmps16
  go_upto_region 1 with (first
    | (refine wpl_alloc rfl 41 rfl 6 (rC zeroR) zeR (N) hN ?_; intro w1 hN1 hb1 hh1)
    | fail)
  have lo0 : Below N w w1 := hb1
  have k1 := hh1
  clear hh1 hb1
  go_upto_region 1 with fail
  refine wp_region_lit ?_
  try simp only [Act.put, List.setIfInBounds_toArray, List.set_cons_succ, List.set_cons_zero]
  refine wpl_run rfl (Q x) _ (run_mv (x := (.tmp 0)) rfl _ rfl) ?_; simp only [Act.put, List.setIfInBounds_toArray, List.set_cons_succ, List.set_cons_zero]
  refine wpl_cl rfl 28 _ _ rfl #[(Q x)] (by simp only [List.map_toArray, List.map_cons, List.map_nil] <;> rfl) (by kernel_rfl) (Value.agg (cellsOf (nC (tConst x)) 2)) (Const_any x w1 (N + 1) hN1) ?_
  intro xw2 hbxw2; simp only [Act.put, List.setIfInBounds_toArray, List.set_cons_succ, List.set_cons_zero]
  obtain ⟨M3, hM3⟩ := sz_some xw2
  have lM3 := below_sz hbxw2 hN1 hM3
  have k4 := k1.below hbxw2 (by omega)
  have lo5 := lo0.trans (hbxw2.mono (by omega))
  clear k1 lo0 hbxw2
  refine wpl_run rfl (Q x) _ (run_mv (x := (.tmp 0)) rfl _ rfl) ?_; simp only [Act.put, List.setIfInBounds_toArray, List.set_cons_succ, List.set_cons_zero]
  refine wpl_run rfl (Q x) _ (run_mv (x := (.tmp 0)) rfl _ rfl) ?_; simp only [Act.put, List.setIfInBounds_toArray, List.set_cons_succ, List.set_cons_zero]
  refine wpl_run rfl (Q x) _ (run_mv (x := (.tmp 0)) rfl _ rfl) ?_; simp only [Act.put, List.setIfInBounds_toArray, List.set_cons_succ, List.set_cons_zero]
  refine wpl_run rfl (S x) _ (run_us (x := (.tmp 7)) rfl und64 undI64 rfl _) ?_; simp only [Act.put, List.setIfInBounds_toArray, List.set_cons_succ, List.set_cons_zero]
  refine wpl_run rfl (Q x) _ (run_mv (x := (.tmp 0)) rfl _ rfl) ?_; simp only [Act.put, List.setIfInBounds_toArray, List.set_cons_succ, List.set_cons_zero]
  refine wpl_run rfl (S x) _ (run_us (x := (.tmp 9)) rfl und64 undI64 rfl _) ?_; simp only [Act.put, List.setIfInBounds_toArray, List.set_cons_succ, List.set_cons_zero]
  refine wpl_run rfl (Value.agg (cellsOf (rC ⟨(tConst x), x, x, x, x⟩) 6)) _ (run_bd 41 _ rfl (cellsOf (rC ⟨(tConst x), x, x, x, x⟩) 6) (by kernel_rfl) _) ?_; simp only [Act.put, List.setIfInBounds_toArray, List.set_cons_succ, List.set_cons_zero]
  refine wpl_store rfl 41 (.tmp 2) (.tmp 11) rfl N 6 (rC ⟨(tConst x), x, x, x, x⟩) rfl rfl 41 _ k4 szR (fun j _ => rC_one _ j) ?_
  intro xw6 t7 k8; simp only [Act.put, List.setIfInBounds_toArray, List.set_cons_succ, List.set_cons_zero]
  have lo9 := t7.below lo5 (by omega)
  have h10 := t7.sz hM3
  clear k4 lo5 hM3 t7
  go_wp2_with fail
  refine post_r rfl N rfl k8 ⟨dR, u1, u2⟩ szR rfl ?_
  exact ⟨rfl, lo9⟩
set_option maxRecDepth 100000 in
set_option maxHeartbeats 4000000 in
theorem OfBits_any (n : Nm) (w : World) (N : Nat) (hN : Sz w N) : Calls Try.prog 33 #[nV n] w fun e w' => e = .returned (rV (obR n)) ∧ Below N w w' := by
  obtain ⟨dR, u1, u2⟩ := undR
  unfold nV rV
  go_enter Try.func33, Try.ntmps33
  go_upto_region 1 with (first
    | (refine wpl_box rfl 39 (.tmp 0) rfl 2 _ rfl (N) hN ?_; intro w1 hN1 hb1 hh1)
    | (refine wpl_alloc rfl 41 rfl 6 (rC zeroR) zeR (N + 1) hN1 ?_; intro w2 hN2 hb2 hh2)
    | fail)
  have lo0 : Below N w w2 := (hb1.trans (hb2.mono (by omega)))
  have k1 := (hh1.below hb2 (by omega))
  have k2 := hh2
  clear hh1 hb1 hh2 hb2 hN1
  go_upto_region 1 with fail
  refine wp_region_lit ?_
  try simp only [Act.put, List.setIfInBounds_toArray, List.set_cons_succ, List.set_cons_zero]
  refine wpl_run rfl (Value.agg (cellsOf (nC n) 2)) _ (run_rw 39 (.tmp 1) rfl N rfl 39 2 _ k1 undT szT) ?_; simp only [Act.put, List.setIfInBounds_toArray, List.set_cons_succ, List.set_cons_zero]
  refine wpl_run rfl (Value.agg (cellsOf (rC ⟨n, 0#64, 18446744073709551615#64, (BitVec.ofInt 64 (-9223372036854775808)), (BitVec.ofInt 64 9223372036854775807)⟩) 6)) _ (run_bd 41 _ rfl (cellsOf (rC ⟨n, 0#64, 18446744073709551615#64, (BitVec.ofInt 64 (-9223372036854775808)), (BitVec.ofInt 64 9223372036854775807)⟩) 6) (by kernel_rfl) _) ?_; simp only [Act.put, List.setIfInBounds_toArray, List.set_cons_succ, List.set_cons_zero]
  refine wpl_store rfl 41 (.tmp 2) (.tmp 4) rfl (N + 1) 6 (rC ⟨n, 0#64, 18446744073709551615#64, (BitVec.ofInt 64 (-9223372036854775808)), (BitVec.ofInt 64 9223372036854775807)⟩) rfl rfl 41 _ k2 szR (fun j _ => rC_one _ j) ?_
  intro xw3 t4 k5; simp only [Act.put, List.setIfInBounds_toArray, List.set_cons_succ, List.set_cons_zero]
  have k6 := k1.touch t4 (by omega)
  have lo7 := t4.below lo0 (by omega)
  have h8 := t4.sz hN2
  clear k2 k1 lo0 hN2 t4
  go_wp2_with fail
  refine post_r rfl (N + 1) rfl k5 ⟨dR, u1, u2⟩ szR rfl ?_
  exact ⟨rfl, lo7⟩
set_option maxRecDepth 100000 in
set_option maxHeartbeats 4000000 in
theorem SAny_any  (w : World) (N : Nat) (hN : Sz w N) : Calls Try.prog 21 #[] w fun e w' => e = .returned (rV (obR tAny)) ∧ Below N w w' := by
  obtain ⟨dR, u1, u2⟩ := undR
  unfold rV
  go_enter Try.func21, Try.ntmps21
  go_upto_region 1 with (first
    | (refine wpl_alloc rfl 41 rfl 6 (rC zeroR) zeR (N) hN ?_; intro w1 hN1 hb1 hh1)
    | fail)
  have lo0 : Below N w w1 := hb1
  have k1 := hh1
  clear hh1 hb1
  go_upto_region 1 with fail
  refine wp_region_lit ?_
  try simp only [Act.put, List.setIfInBounds_toArray, List.set_cons_succ, List.set_cons_zero]
  refine wpl_cl rfl 36 _ _ rfl #[] (by simp only [List.map_toArray, List.map_cons, List.map_nil] <;> rfl) (by kernel_rfl) (Value.agg (cellsOf (nC tAny) 2)) (Any_any w1 (N + 1) hN1) ?_
  intro xw2 hbxw2; simp only [Act.put, List.setIfInBounds_toArray, List.set_cons_succ, List.set_cons_zero]
  obtain ⟨M3, hM3⟩ := sz_some xw2
  have lM3 := below_sz hbxw2 hN1 hM3
  have k4 := k1.below hbxw2 (by omega)
  have lo5 := lo0.trans (hbxw2.mono (by omega))
  clear k1 lo0 hbxw2
  refine wpl_cl rfl 33 _ _ rfl #[(Value.agg (cellsOf (nC tAny) 2))] (by simp only [List.map_toArray, List.map_cons, List.map_nil] <;> rfl) (by kernel_rfl) (Value.agg (cellsOf (rC (obR tAny)) 6)) (OfBits_any tAny xw2 M3 hM3) ?_
  intro xw6 hbxw6; simp only [Act.put, List.setIfInBounds_toArray, List.set_cons_succ, List.set_cons_zero]
  obtain ⟨M7, hM7⟩ := sz_some xw6
  have lM7 := below_sz hbxw6 hM3 hM7
  have k8 := k4.below hbxw6 (by omega)
  have lo9 := lo5.trans (hbxw6.mono (by omega))
  clear k4 lo5 hbxw6
  refine wpl_store rfl 41 (.tmp 0) (.tmp 2) rfl N 6 (rC (obR tAny)) rfl rfl 41 _ k8 szR (fun j _ => rC_one _ j) ?_
  intro xw10 t11 k12; simp only [Act.put, List.setIfInBounds_toArray, List.set_cons_succ, List.set_cons_zero]
  have lo13 := t11.below lo9 (by omega)
  have h14 := t11.sz hM7
  clear k8 lo9 hM7 t11
  go_wp2_with fail
  refine post_r rfl N rfl k12 ⟨dR, u1, u2⟩ szR rfl ?_
  exact ⟨rfl, lo13⟩
set_option maxRecDepth 100000 in
set_option maxHeartbeats 4000000 in
theorem SHas_any (a : Rn) (x : W) (w : World) (N : Nat) (hN : Sz w N) : Calls Try.prog 13 #[rV a, Q x] w fun e w' => e = .returned (.bool (sHas a x)) ∧ Below N w w' := by
  obtain ⟨r, er⟩ : ∃ r, r = sHas a x := ⟨_, rfl⟩
  rw [← er]
  unfold sHas at er
  unfold rV
  go_enter Try.func13, Try.ntmps13
  go_upto_region 1 with (first
    | (refine wpl_box rfl 41 (.tmp 0) rfl 6 _ rfl (N) hN ?_; intro w1 hN1 hb1 hh1)
    | fail)
  have lo0 : Below N w w1 := hb1
  have k1 := hh1
  clear hh1 hb1
  go_upto_region 1 with fail
  cases h0 : tHas a.b x
  · have H0 := hid h0
    have E := hid (show r = false by rw [er, h0]; rfl)
    clear er h0
    obtain ⟨c2, c3, c4, c5, c6, c7⟩ := r_cells k1
    refine wp_region_later1 ((N + 1)) ?_
    try simp only [Act.put, List.setIfInBounds_toArray, List.set_cons_succ, List.set_cons_zero]
    go_big_quiet_step (fail)
    refine later_val (fun qq => run_bits 39 (.tmp 5) rfl N rfl 41 (Later.has hN1 k1 qq) undT szT) (by rfl) ?_; simp only [Act.put, List.setIfInBounds_toArray, List.set_cons_succ, List.set_cons_zero]
    go_big_quiet_step (fail)
    go_big_quiet_step ((go_at_call 25; exact later_of hN1 _ (fun K hK hKN => ret_is H0.out (Has_any a.b x) _ K hK)))
    go_big_quiet_step (fail)
    go_big_quiet_step (fail)
    go_big_quiet_step (fail)
    go_big_quiet_step (fail)
    go_big_quiet_step (fail)
    go_big_quiet_step (fail)
    go_big_quiet_step (fail)
    go_big_quiet_step (fail)
    go_big_quiet_step (fail)
    go_big_quiet_step (fail)
    go_big_quiet_step (fail)
    go_big_quiet_step (fail)
    go_big_quiet_step (fail)
    go_big_quiet_step (fail)
    go_big_quiet_step (fail)
    go_big_quiet_step (fail)
    go_big_quiet_step (fail)
    go_big_quiet_step (fail)
    go_big_quiet_step (fail)
    go_big_quiet_step (fail)
    go_big_quiet_step (fail)
    go_big_quiet_step (fail)
    go_big_quiet_step (fail)
    go_big_quiet_step (fail)
    go_big_quiet_step (fail)
    go_big_quiet_step (fail)
    go_big_quiet_step (fail)
    refine wpQuiet_nil ?_
    rintro xw8 ⟨qxw8, exw8⟩
    have hbxw8 := qxw8.b
    rw [← exw8] at hbxw8
    clear qxw8 exw8
    obtain ⟨M9, hM9⟩ := sz_some xw8
    have lM9 := below_sz hbxw8 hN1 hM9
    have k10 := k1.below hbxw8 (by omega)
    have lo11 := lo0.trans (hbxw8.mono (by omega))
    clear k1 c2 c3 c4 c5 c6 c7 lo0 hbxw8
    go_wp2_with fail
    go_ret
    exact ⟨by rw [E.out]; rfl, lo11⟩
  cases h1 : a.lo.ule x
  · have H0 := hid h0
    have H1 := hid h1
    have E := hid (show r = false by rw [er, h0, h1]; rfl)
    clear er h0 h1
    obtain ⟨c2, c3, c4, c5, c6, c7⟩ := r_cells k1
    refine wp_region_later1 ((N + 1)) ?_
    try simp only [Act.put, List.setIfInBounds_toArray, List.set_cons_succ, List.set_cons_zero]
    go_big_quiet_step (fail)
    refine later_val (fun qq => run_bits 39 (.tmp 5) rfl N rfl 41 (Later.has hN1 k1 qq) undT szT) (by rfl) ?_; simp only [Act.put, List.setIfInBounds_toArray, List.set_cons_succ, List.set_cons_zero]
    go_big_quiet_step (fail)
    go_big_quiet_step ((go_at_call 25; exact later_of hN1 _ (fun K hK hKN => ret_is H0.out (Has_any a.b x) _ K hK)))
    go_big_quiet_step (fail)
    go_big_quiet_step (fail)
    refine later_c1 hN1 22 (.tmp 10) rfl rfl und64 rfl c4 (by rfl) ?_; simp only [Act.put, List.setIfInBounds_toArray, List.set_cons_succ, List.set_cons_zero]
    go_big_quiet_step (fail)
    refine later_b (x := (.tmp 11)) (y := (.tmp 12)) rfl (BinRun.is H1.out (bin_leq _ a.lo x)) rfl rfl (by rfl) ?_; simp only [Act.put, List.setIfInBounds_toArray, List.set_cons_succ, List.set_cons_zero]
    go_big_quiet_step (fail)
    go_big_quiet_step (fail)
    go_big_quiet_step (fail)
    go_big_quiet_step (fail)
    go_big_quiet_step (fail)
    go_big_quiet_step (fail)
    go_big_quiet_step (fail)
    go_big_quiet_step (fail)
    go_big_quiet_step (fail)
    go_big_quiet_step (fail)
    go_big_quiet_step (fail)
    go_big_quiet_step (fail)
    go_big_quiet_step (fail)
    go_big_quiet_step (fail)
    go_big_quiet_step (fail)
    go_big_quiet_step (fail)
    go_big_quiet_step (fail)
    go_big_quiet_step (fail)
    go_big_quiet_step (fail)
    go_big_quiet_step (fail)
    go_big_quiet_step (fail)
    go_big_quiet_step (fail)
    refine wpQuiet_nil ?_
    rintro xw8 ⟨qxw8, exw8⟩
    have hbxw8 := qxw8.b
    rw [← exw8] at hbxw8
    clear qxw8 exw8
    obtain ⟨M9, hM9⟩ := sz_some xw8
    have lM9 := below_sz hbxw8 hN1 hM9
    have k10 := k1.below hbxw8 (by omega)
    have lo11 := lo0.trans (hbxw8.mono (by omega))
    clear k1 c2 c3 c4 c5 c6 c7 lo0 hbxw8
    go_wp2_with fail
    go_ret
    exact ⟨by rw [E.out]; rfl, lo11⟩
  cases h2 : x.ule a.hi
  · have H0 := hid h0
    have H1 := hid h1
    have H2 := hid h2
    have E := hid (show r = false by rw [er, h0, h1, h2]; rfl)
    clear er h0 h1 h2
    obtain ⟨c2, c3, c4, c5, c6, c7⟩ := r_cells k1
    refine wp_region_later1 ((N + 1)) ?_
    try simp only [Act.put, List.setIfInBounds_toArray, List.set_cons_succ, List.set_cons_zero]
    go_big_quiet_step (fail)
    refine later_val (fun qq => run_bits 39 (.tmp 5) rfl N rfl 41 (Later.has hN1 k1 qq) undT szT) (by rfl) ?_; simp only [Act.put, List.setIfInBounds_toArray, List.set_cons_succ, List.set_cons_zero]
    go_big_quiet_step (fail)
    go_big_quiet_step ((go_at_call 25; exact later_of hN1 _ (fun K hK hKN => ret_is H0.out (Has_any a.b x) _ K hK)))
    go_big_quiet_step (fail)
    go_big_quiet_step (fail)
    refine later_c1 hN1 22 (.tmp 10) rfl rfl und64 rfl c4 (by rfl) ?_; simp only [Act.put, List.setIfInBounds_toArray, List.set_cons_succ, List.set_cons_zero]
    go_big_quiet_step (fail)
    refine later_b (x := (.tmp 11)) (y := (.tmp 12)) rfl (BinRun.is H1.out (bin_leq _ a.lo x)) rfl rfl (by rfl) ?_; simp only [Act.put, List.setIfInBounds_toArray, List.set_cons_succ, List.set_cons_zero]
    go_big_quiet_step (fail)
    go_big_quiet_step (fail)
    go_big_quiet_step (fail)
    go_big_quiet_step (fail)
    refine later_c1 hN1 22 (.tmp 17) rfl rfl und64 rfl c5 (by rfl) ?_; simp only [Act.put, List.setIfInBounds_toArray, List.set_cons_succ, List.set_cons_zero]
    refine later_b (x := (.tmp 16)) (y := (.tmp 18)) rfl (BinRun.is H2.out (bin_leq _ x a.hi)) rfl rfl (by rfl) ?_; simp only [Act.put, List.setIfInBounds_toArray, List.set_cons_succ, List.set_cons_zero]
    go_big_quiet_step (fail)
    go_big_quiet_step (fail)
    go_big_quiet_step (fail)
    go_big_quiet_step (fail)
    go_big_quiet_step (fail)
    go_big_quiet_step (fail)
    go_big_quiet_step (fail)
    go_big_quiet_step (fail)
    go_big_quiet_step (fail)
    go_big_quiet_step (fail)
    go_big_quiet_step (fail)
    go_big_quiet_step (fail)
    go_big_quiet_step (fail)
    go_big_quiet_step (fail)
    go_big_quiet_step (fail)
    go_big_quiet_step (fail)
    refine wpQuiet_nil ?_
    rintro xw8 ⟨qxw8, exw8⟩
    have hbxw8 := qxw8.b
    rw [← exw8] at hbxw8
    clear qxw8 exw8
    obtain ⟨M9, hM9⟩ := sz_some xw8
    have lM9 := below_sz hbxw8 hN1 hM9
    have k10 := k1.below hbxw8 (by omega)
    have lo11 := lo0.trans (hbxw8.mono (by omega))
    clear k1 c2 c3 c4 c5 c6 c7 lo0 hbxw8
    go_wp2_with fail
    go_ret
    exact ⟨by rw [E.out]; rfl, lo11⟩
  cases h3 : a.sl.sle x
  · have H0 := hid h0
    have H1 := hid h1
    have H2 := hid h2
    have H3 := hid h3
    have E := hid (show r = false by rw [er, h0, h1, h2, h3]; rfl)
    clear er h0 h1 h2 h3
    obtain ⟨c2, c3, c4, c5, c6, c7⟩ := r_cells k1
    refine wp_region_later1 ((N + 1)) ?_
    try simp only [Act.put, List.setIfInBounds_toArray, List.set_cons_succ, List.set_cons_zero]
    go_big_quiet_step (fail)
    refine later_val (fun qq => run_bits 39 (.tmp 5) rfl N rfl 41 (Later.has hN1 k1 qq) undT szT) (by rfl) ?_; simp only [Act.put, List.setIfInBounds_toArray, List.set_cons_succ, List.set_cons_zero]
    go_big_quiet_step (fail)
    go_big_quiet_step ((go_at_call 25; exact later_of hN1 _ (fun K hK hKN => ret_is H0.out (Has_any a.b x) _ K hK)))
    go_big_quiet_step (fail)
    go_big_quiet_step (fail)
    refine later_c1 hN1 22 (.tmp 10) rfl rfl und64 rfl c4 (by rfl) ?_; simp only [Act.put, List.setIfInBounds_toArray, List.set_cons_succ, List.set_cons_zero]
    go_big_quiet_step (fail)
    refine later_b (x := (.tmp 11)) (y := (.tmp 12)) rfl (BinRun.is H1.out (bin_leq _ a.lo x)) rfl rfl (by rfl) ?_; simp only [Act.put, List.setIfInBounds_toArray, List.set_cons_succ, List.set_cons_zero]
    go_big_quiet_step (fail)
    go_big_quiet_step (fail)
    go_big_quiet_step (fail)
    go_big_quiet_step (fail)
    refine later_c1 hN1 22 (.tmp 17) rfl rfl und64 rfl c5 (by rfl) ?_; simp only [Act.put, List.setIfInBounds_toArray, List.set_cons_succ, List.set_cons_zero]
    refine later_b (x := (.tmp 16)) (y := (.tmp 18)) rfl (BinRun.is H2.out (bin_leq _ x a.hi)) rfl rfl (by rfl) ?_; simp only [Act.put, List.setIfInBounds_toArray, List.set_cons_succ, List.set_cons_zero]
    go_big_quiet_step (fail)
    go_big_quiet_step (fail)
    go_big_quiet_step (fail)
    refine later_c1 hN1 2 (.tmp 22) rfl rfl undI64 rfl c6 (by rfl) ?_; simp only [Act.put, List.setIfInBounds_toArray, List.set_cons_succ, List.set_cons_zero]
    go_big_quiet_step (fail)
    refine later_val (fun q => run_us (x := (.tmp 24)) rfl und64 undI64 rfl q.w') (by rfl) ?_; simp only [Act.put, List.setIfInBounds_toArray, List.set_cons_succ, List.set_cons_zero]
    refine later_b (x := (.tmp 23)) (y := (.tmp 25)) rfl (BinRun.is H3.out (bin_sleq _ a.sl x)) rfl rfl (by rfl) ?_; simp only [Act.put, List.setIfInBounds_toArray, List.set_cons_succ, List.set_cons_zero]
    go_big_quiet_step (fail)
    go_big_quiet_step (fail)
    go_big_quiet_step (fail)
    go_big_quiet_step (fail)
    go_big_quiet_step (fail)
    go_big_quiet_step (fail)
    go_big_quiet_step (fail)
    go_big_quiet_step (fail)
    go_big_quiet_step (fail)
    refine wpQuiet_nil ?_
    rintro xw8 ⟨qxw8, exw8⟩
    have hbxw8 := qxw8.b
    rw [← exw8] at hbxw8
    clear qxw8 exw8
    obtain ⟨M9, hM9⟩ := sz_some xw8
    have lM9 := below_sz hbxw8 hN1 hM9
    have k10 := k1.below hbxw8 (by omega)
    have lo11 := lo0.trans (hbxw8.mono (by omega))
    clear k1 c2 c3 c4 c5 c6 c7 lo0 hbxw8
    go_wp2_with fail
    go_ret
    exact ⟨by rw [E.out]; rfl, lo11⟩
  cases h4 : x.sle a.sh
  · have H0 := hid h0
    have H1 := hid h1
    have H2 := hid h2
    have H3 := hid h3
    have H4 := hid h4
    have E := hid (show r = false by rw [er, h0, h1, h2, h3, h4]; rfl)
    clear er h0 h1 h2 h3 h4
    obtain ⟨c2, c3, c4, c5, c6, c7⟩ := r_cells k1
    refine wp_region_later1 ((N + 1)) ?_
    try simp only [Act.put, List.setIfInBounds_toArray, List.set_cons_succ, List.set_cons_zero]
    go_big_quiet_step (fail)
    refine later_val (fun qq => run_bits 39 (.tmp 5) rfl N rfl 41 (Later.has hN1 k1 qq) undT szT) (by rfl) ?_; simp only [Act.put, List.setIfInBounds_toArray, List.set_cons_succ, List.set_cons_zero]
    go_big_quiet_step (fail)
    go_big_quiet_step ((go_at_call 25; exact later_of hN1 _ (fun K hK hKN => ret_is H0.out (Has_any a.b x) _ K hK)))
    go_big_quiet_step (fail)
    go_big_quiet_step (fail)
    refine later_c1 hN1 22 (.tmp 10) rfl rfl und64 rfl c4 (by rfl) ?_; simp only [Act.put, List.setIfInBounds_toArray, List.set_cons_succ, List.set_cons_zero]
    go_big_quiet_step (fail)
    refine later_b (x := (.tmp 11)) (y := (.tmp 12)) rfl (BinRun.is H1.out (bin_leq _ a.lo x)) rfl rfl (by rfl) ?_; simp only [Act.put, List.setIfInBounds_toArray, List.set_cons_succ, List.set_cons_zero]
    go_big_quiet_step (fail)
    go_big_quiet_step (fail)
    go_big_quiet_step (fail)
    go_big_quiet_step (fail)
    refine later_c1 hN1 22 (.tmp 17) rfl rfl und64 rfl c5 (by rfl) ?_; simp only [Act.put, List.setIfInBounds_toArray, List.set_cons_succ, List.set_cons_zero]
    refine later_b (x := (.tmp 16)) (y := (.tmp 18)) rfl (BinRun.is H2.out (bin_leq _ x a.hi)) rfl rfl (by rfl) ?_; simp only [Act.put, List.setIfInBounds_toArray, List.set_cons_succ, List.set_cons_zero]
    go_big_quiet_step (fail)
    go_big_quiet_step (fail)
    go_big_quiet_step (fail)
    refine later_c1 hN1 2 (.tmp 22) rfl rfl undI64 rfl c6 (by rfl) ?_; simp only [Act.put, List.setIfInBounds_toArray, List.set_cons_succ, List.set_cons_zero]
    go_big_quiet_step (fail)
    refine later_val (fun q => run_us (x := (.tmp 24)) rfl und64 undI64 rfl q.w') (by rfl) ?_; simp only [Act.put, List.setIfInBounds_toArray, List.set_cons_succ, List.set_cons_zero]
    refine later_b (x := (.tmp 23)) (y := (.tmp 25)) rfl (BinRun.is H3.out (bin_sleq _ a.sl x)) rfl rfl (by rfl) ?_; simp only [Act.put, List.setIfInBounds_toArray, List.set_cons_succ, List.set_cons_zero]
    go_big_quiet_step (fail)
    go_big_quiet_step (fail)
    go_big_quiet_step (fail)
    refine later_val (fun q => run_us (x := (.tmp 29)) rfl und64 undI64 rfl q.w') (by rfl) ?_; simp only [Act.put, List.setIfInBounds_toArray, List.set_cons_succ, List.set_cons_zero]
    go_big_quiet_step (fail)
    refine later_c1 hN1 2 (.tmp 31) rfl rfl undI64 rfl c7 (by rfl) ?_; simp only [Act.put, List.setIfInBounds_toArray, List.set_cons_succ, List.set_cons_zero]
    refine later_b (x := (.tmp 30)) (y := (.tmp 32)) rfl (BinRun.is H4.out (bin_sleq _ x a.sh)) rfl rfl (by rfl) ?_; simp only [Act.put, List.setIfInBounds_toArray, List.set_cons_succ, List.set_cons_zero]
    go_big_quiet_step (fail)
    go_big_quiet_step (fail)
    refine wpQuiet_nil ?_
    rintro xw8 ⟨qxw8, exw8⟩
    have hbxw8 := qxw8.b
    rw [← exw8] at hbxw8
    clear qxw8 exw8
    obtain ⟨M9, hM9⟩ := sz_some xw8
    have lM9 := below_sz hbxw8 hN1 hM9
    have k10 := k1.below hbxw8 (by omega)
    have lo11 := lo0.trans (hbxw8.mono (by omega))
    clear k1 c2 c3 c4 c5 c6 c7 lo0 hbxw8
    go_wp2_with fail
    go_ret
    exact ⟨by rw [E.out]; rfl, lo11⟩
  have H0 := hid h0
  have H1 := hid h1
  have H2 := hid h2
  have H3 := hid h3
  have H4 := hid h4
  have E := hid (show r = true by rw [er, h0, h1, h2, h3, h4]; rfl)
  clear er h0 h1 h2 h3 h4
  obtain ⟨c2, c3, c4, c5, c6, c7⟩ := r_cells k1
  refine wp_region_later1 ((N + 1)) ?_
  try simp only [Act.put, List.setIfInBounds_toArray, List.set_cons_succ, List.set_cons_zero]
  go_big_quiet_step (fail)
  refine later_val (fun qq => run_bits 39 (.tmp 5) rfl N rfl 41 (Later.has hN1 k1 qq) undT szT) (by rfl) ?_; simp only [Act.put, List.setIfInBounds_toArray, List.set_cons_succ, List.set_cons_zero]
  go_big_quiet_step (fail)
  go_big_quiet_step ((go_at_call 25; exact later_of hN1 _ (fun K hK hKN => ret_is H0.out (Has_any a.b x) _ K hK)))
  go_big_quiet_step (fail)
  go_big_quiet_step (fail)
  refine later_c1 hN1 22 (.tmp 10) rfl rfl und64 rfl c4 (by rfl) ?_; simp only [Act.put, List.setIfInBounds_toArray, List.set_cons_succ, List.set_cons_zero]
  go_big_quiet_step (fail)
  refine later_b (x := (.tmp 11)) (y := (.tmp 12)) rfl (BinRun.is H1.out (bin_leq _ a.lo x)) rfl rfl (by rfl) ?_; simp only [Act.put, List.setIfInBounds_toArray, List.set_cons_succ, List.set_cons_zero]
  go_big_quiet_step (fail)
  go_big_quiet_step (fail)
  go_big_quiet_step (fail)
  go_big_quiet_step (fail)
  refine later_c1 hN1 22 (.tmp 17) rfl rfl und64 rfl c5 (by rfl) ?_; simp only [Act.put, List.setIfInBounds_toArray, List.set_cons_succ, List.set_cons_zero]
  refine later_b (x := (.tmp 16)) (y := (.tmp 18)) rfl (BinRun.is H2.out (bin_leq _ x a.hi)) rfl rfl (by rfl) ?_; simp only [Act.put, List.setIfInBounds_toArray, List.set_cons_succ, List.set_cons_zero]
  go_big_quiet_step (fail)
  go_big_quiet_step (fail)
  go_big_quiet_step (fail)
  refine later_c1 hN1 2 (.tmp 22) rfl rfl undI64 rfl c6 (by rfl) ?_; simp only [Act.put, List.setIfInBounds_toArray, List.set_cons_succ, List.set_cons_zero]
  go_big_quiet_step (fail)
  refine later_val (fun q => run_us (x := (.tmp 24)) rfl und64 undI64 rfl q.w') (by rfl) ?_; simp only [Act.put, List.setIfInBounds_toArray, List.set_cons_succ, List.set_cons_zero]
  refine later_b (x := (.tmp 23)) (y := (.tmp 25)) rfl (BinRun.is H3.out (bin_sleq _ a.sl x)) rfl rfl (by rfl) ?_; simp only [Act.put, List.setIfInBounds_toArray, List.set_cons_succ, List.set_cons_zero]
  go_big_quiet_step (fail)
  go_big_quiet_step (fail)
  go_big_quiet_step (fail)
  refine later_val (fun q => run_us (x := (.tmp 29)) rfl und64 undI64 rfl q.w') (by rfl) ?_; simp only [Act.put, List.setIfInBounds_toArray, List.set_cons_succ, List.set_cons_zero]
  go_big_quiet_step (fail)
  refine later_c1 hN1 2 (.tmp 31) rfl rfl undI64 rfl c7 (by rfl) ?_; simp only [Act.put, List.setIfInBounds_toArray, List.set_cons_succ, List.set_cons_zero]
  refine later_b (x := (.tmp 30)) (y := (.tmp 32)) rfl (BinRun.is H4.out (bin_sleq _ x a.sh)) rfl rfl (by rfl) ?_; simp only [Act.put, List.setIfInBounds_toArray, List.set_cons_succ, List.set_cons_zero]
  go_big_quiet_step (fail)
  go_big_quiet_step (fail)
  refine wpQuiet_nil ?_
  rintro xw8 ⟨qxw8, exw8⟩
  have hbxw8 := qxw8.b
  rw [← exw8] at hbxw8
  clear qxw8 exw8
  obtain ⟨M9, hM9⟩ := sz_some xw8
  have lM9 := below_sz hbxw8 hN1 hM9
  have k10 := k1.below hbxw8 (by omega)
  have lo11 := lo0.trans (hbxw8.mono (by omega))
  clear k1 c2 c3 c4 c5 c6 c7 lo0 hbxw8
  go_wp2_with fail
  go_ret
  exact ⟨by rw [E.out]; rfl, lo11⟩
set_option maxRecDepth 100000 in
set_option maxHeartbeats 4000000 in
theorem evals_any  (w : World) (N : Nat) (hN : Sz w N) : Calls Try.prog 9 #[] w fun e w' => e = .returned (.bool true) ∧ Below N w w' := by
  have h0 := hid (show (evF 3 true 7#64 0#64 == 0#64) = true from rfl)
  have h1 := hid (show (evF 9 true 7#64 0#64 == 7#64) = true from rfl)
  have h2 := hid (show (evF 12 false 2147483648#64 4#64 == 4160749568#64) = true by decide +kernel)
  have h3 := hid (show sHas (cR 7#64) 7#64 = true by decide +kernel)
  have h4 := hid (show sHas (obR tAny) 9#64 = true by decide +kernel)
  go_enter Try.func9, Try.ntmps9
  have lo0 : Below N w w := Below.refl N w
  go_upto_region 1 with fail
  refine wp_region_later1 (N) ?_
  try simp only [Act.put, List.setIfInBounds_toArray, List.set_cons_succ, List.set_cons_zero]
  go_big_quiet_step ((go_at_call 10; exact later_of hN _ (fun K hK hKN => Eval_any 3 true 7#64 0#64 _ K hK)))
  refine later_b (x := (.tmp 1)) (y := (.const (.int .u64 0))) rfl (BinRun.is h0.out (bin_eql _ (evF 3 true 7#64 0#64) 0#64)) rfl rfl (by rfl) ?_; simp only [Act.put, List.setIfInBounds_toArray, List.set_cons_succ, List.set_cons_zero]
  go_big_quiet_step (fail)
  go_big_quiet_step ((go_at_call 10; exact later_of hN _ (fun K hK hKN => Eval_any 9 true 7#64 0#64 _ K hK)))
  refine later_b (x := (.tmp 4)) (y := (.const (.int .u64 7))) rfl (BinRun.is h1.out (bin_eql _ (evF 9 true 7#64 0#64) 7#64)) rfl rfl (by rfl) ?_; simp only [Act.put, List.setIfInBounds_toArray, List.set_cons_succ, List.set_cons_zero]
  go_big_quiet_step (fail)
  go_big_quiet_step (fail)
  go_big_quiet_step ((go_at_call 10; exact later_of hN _ (fun K hK hKN => Eval_any 12 false 2147483648#64 4#64 _ K hK)))
  refine later_b (x := (.tmp 8)) (y := (.const (.int .u64 4160749568))) rfl (BinRun.is h2.out (bin_eql _ (evF 12 false 2147483648#64 4#64) 4160749568#64)) rfl rfl (by rfl) ?_; simp only [Act.put, List.setIfInBounds_toArray, List.set_cons_succ, List.set_cons_zero]
  go_big_quiet_step (fail)
  go_big_quiet_step (fail)
  go_big_quiet_step ((go_at_call 16; exact later_of hN _ (fun K hK hKN => SConst_any 7#64 _ K hK)))
  go_big_quiet_step ((go_at_call 13; exact later_of hN _ (fun K hK hKN => ret_is h3.out (SHas_any (cR 7#64) 7#64) _ K hK)))
  go_big_quiet_step (fail)
  go_big_quiet_step (fail)
  go_big_quiet_step ((go_at_call 21; exact later_of hN _ (fun K hK hKN => SAny_any _ K hK)))
  go_big_quiet_step ((go_at_call 13; exact later_of hN _ (fun K hK hKN => ret_is h4.out (SHas_any (obR tAny) 9#64) _ K hK)))
  go_big_quiet_step (fail)
  go_big_quiet_step (fail)
  refine wpQuiet_nil ?_
  rintro xw1 ⟨qxw1, exw1⟩
  have hbxw1 := qxw1.b
  rw [← exw1] at hbxw1
  clear qxw1 exw1
  obtain ⟨M2, hM2⟩ := sz_some xw1
  have lM2 := below_sz hbxw1 hN hM2
  have lo3 := lo0.trans (hbxw1.mono (by omega))
  clear lo0 hbxw1
  go_wp2_with fail
  go_ret
  exact ⟨rfl, lo3⟩
end Go.Proofs.Ytkljnpdojmcipaa
