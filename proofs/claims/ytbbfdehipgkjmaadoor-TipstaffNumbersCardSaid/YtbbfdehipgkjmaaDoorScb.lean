/- Contracts of ranges: one number, all numbers, of bits; is a number one of them? How many bits a word has: math/bits. Contracts of ranges: numbers whose upper bits are alike; greatest and least. -/
import Derived.Test.YtbbfdehipgkjmaaDoorSca
import Derived.Test.YtbbfdehipgkjmaaDoorBase
namespace Go.Proofs.YtbbfdehipgkjmaaDoor
open Go Go.RowKit
set_option maxRecDepth 100000 in
set_option maxHeartbeats 4000000 in
theorem SConst_any (x : W) (w : World) (N : Nat) (hN : Sz w N) : Calls Tryd.prog 7 #[Q x] w fun e w' => e = .returned (rV (cR x)) ∧ Below N w w' := by
  obtain ⟨dR, u1, u2⟩ := undR
  unfold rV
  go_enter Tryd.func7, Tryd.ntmps7
  go_upto_region 1 with (first
    | (refine wpl_alloc rfl 27 rfl 6 (rC zeroR) zeR (N) hN ?_; intro w1 hN1 hb1 hh1)
    | fail)
  have lo0 : Below N w w1 := hb1
  have k1 := hh1
  clear hh1 hb1
  go_upto_region 1 with fail
  refine wp_region_lit ?_
  try simp only [pA]
  refine wpl_run rfl (Q x) _ (run_mv (x := (.tmp 0)) rfl _ rfl) ?_; simp only [pA]
  refine wpl_cl rfl 20 _ _ rfl #[(Q x)] (by simp only [List.map_toArray, List.map_cons, List.map_nil] <;> rfl) (by kernel_rfl) (Value.agg (cellsOf (nC (tConst x)) 2)) (Const_any x w1 (N + 1) hN1) ?_
  intro xw2 hbxw2; simp only [pA]
  obtain ⟨M3, hM3⟩ := sz_some xw2
  have lM3 := below_sz hbxw2 hN1 hM3
  have k4 := k1.below hbxw2 (by omega)
  have lo5 := lo0.trans (hbxw2.mono (by omega))
  clear k1 lo0 hbxw2
  refine wpl_run rfl (Q x) _ (run_mv (x := (.tmp 0)) rfl _ rfl) ?_; simp only [pA]
  refine wpl_run rfl (Q x) _ (run_mv (x := (.tmp 0)) rfl _ rfl) ?_; simp only [pA]
  refine wpl_run rfl (Q x) _ (run_mv (x := (.tmp 0)) rfl _ rfl) ?_; simp only [pA]
  refine wpl_run rfl (S x) _ (run_us (x := (.tmp 7)) rfl und64 undI64 rfl _) ?_; simp only [pA]
  refine wpl_run rfl (Q x) _ (run_mv (x := (.tmp 0)) rfl _ rfl) ?_; simp only [pA]
  refine wpl_run rfl (S x) _ (run_us (x := (.tmp 9)) rfl und64 undI64 rfl _) ?_; simp only [pA]
  refine wpl_run rfl (Value.agg (cellsOf (rC ⟨(tConst x), x, x, x, x⟩) 6)) _ (run_bd 27 _ rfl (cellsOf (rC ⟨(tConst x), x, x, x, x⟩) 6) (by kernel_rfl) _) ?_; simp only [pA]
  refine wpl_store rfl 27 (.tmp 2) (.tmp 11) rfl N 6 (rC ⟨(tConst x), x, x, x, x⟩) rfl rfl 27 _ k4 szR (fun j _ => rC_one _ j) ?_
  intro xw6 t7 k8; simp only [pA]
  have lo9 := t7.below lo5 (by omega)
  have h10 := t7.sz hM3
  clear k4 lo5 hM3 t7
  go_wp2_with fail
  refine post_r rfl N rfl k8 ⟨dR, u1, u2⟩ szR rfl ?_
  exact ⟨rfl, lo9⟩
set_option maxRecDepth 100000 in
set_option maxHeartbeats 4000000 in
theorem OfBits_any (n : Nm) (w : World) (N : Nat) (hN : Sz w N) : Calls Tryd.prog 17 #[nV n] w fun e w' => e = .returned (rV (obR n)) ∧ Below N w w' := by
  obtain ⟨dR, u1, u2⟩ := undR
  unfold nV rV
  go_enter Tryd.func17, Tryd.ntmps17
  go_upto_region 1 with (first
    | (refine wpl_box rfl 25 (.tmp 0) rfl 2 _ rfl (N) hN ?_; intro w1 hN1 hb1 hh1)
    | (refine wpl_alloc rfl 27 rfl 6 (rC zeroR) zeR (N + 1) hN1 ?_; intro w2 hN2 hb2 hh2)
    | fail)
  have lo0 : Below N w w2 := (hb1.trans (hb2.mono (by omega)))
  have k1 := (hh1.below hb2 (by omega))
  have k2 := hh2
  clear hh1 hb1 hh2 hb2 hN1
  go_upto_region 1 with fail
  refine wp_region_lit ?_
  try simp only [pA]
  refine wpl_run rfl (Value.agg (cellsOf (nC n) 2)) _ (run_rw 25 (.tmp 1) rfl N rfl 25 2 _ k1 undT szT) ?_; simp only [pA]
  refine wpl_run rfl (Value.agg (cellsOf (rC ⟨n, 0#64, 18446744073709551615#64, (BitVec.ofInt 64 (-9223372036854775808)), (BitVec.ofInt 64 9223372036854775807)⟩) 6)) _ (run_bd 27 _ rfl (cellsOf (rC ⟨n, 0#64, 18446744073709551615#64, (BitVec.ofInt 64 (-9223372036854775808)), (BitVec.ofInt 64 9223372036854775807)⟩) 6) (by kernel_rfl) _) ?_; simp only [pA]
  refine wpl_store rfl 27 (.tmp 2) (.tmp 4) rfl (N + 1) 6 (rC ⟨n, 0#64, 18446744073709551615#64, (BitVec.ofInt 64 (-9223372036854775808)), (BitVec.ofInt 64 9223372036854775807)⟩) rfl rfl 27 _ k2 szR (fun j _ => rC_one _ j) ?_
  intro xw3 t4 k5; simp only [pA]
  have k6 := k1.touch t4 (by omega)
  have lo7 := t4.below lo0 (by omega)
  have h8 := t4.sz hN2
  clear k2 k1 lo0 hN2 t4
  go_wp2_with fail
  refine post_r rfl (N + 1) rfl k5 ⟨dR, u1, u2⟩ szR rfl ?_
  exact ⟨rfl, lo7⟩
set_option maxRecDepth 100000 in
set_option maxHeartbeats 4000000 in
theorem SAny_any  (w : World) (N : Nat) (hN : Sz w N) : Calls Tryd.prog 6 #[] w fun e w' => e = .returned (rV (obR tAny)) ∧ Below N w w' := by
  obtain ⟨dR, u1, u2⟩ := undR
  unfold rV
  go_enter Tryd.func6, Tryd.ntmps6
  go_upto_region 1 with (first
    | (refine wpl_alloc rfl 27 rfl 6 (rC zeroR) zeR (N) hN ?_; intro w1 hN1 hb1 hh1)
    | fail)
  have lo0 : Below N w w1 := hb1
  have k1 := hh1
  clear hh1 hb1
  go_upto_region 1 with fail
  refine wp_region_lit ?_
  try simp only [pA]
  refine wpl_cl rfl 19 _ _ rfl #[] (by simp only [List.map_toArray, List.map_cons, List.map_nil] <;> rfl) (by kernel_rfl) (Value.agg (cellsOf (nC tAny) 2)) (Any_any w1 (N + 1) hN1) ?_
  intro xw2 hbxw2; simp only [pA]
  obtain ⟨M3, hM3⟩ := sz_some xw2
  have lM3 := below_sz hbxw2 hN1 hM3
  have k4 := k1.below hbxw2 (by omega)
  have lo5 := lo0.trans (hbxw2.mono (by omega))
  clear k1 lo0 hbxw2
  refine wpl_cl rfl 17 _ _ rfl #[(Value.agg (cellsOf (nC tAny) 2))] (by simp only [List.map_toArray, List.map_cons, List.map_nil] <;> rfl) (by kernel_rfl) (Value.agg (cellsOf (rC (obR tAny)) 6)) (OfBits_any tAny xw2 M3 hM3) ?_
  intro xw6 hbxw6; simp only [pA]
  obtain ⟨M7, hM7⟩ := sz_some xw6
  have lM7 := below_sz hbxw6 hM3 hM7
  have k8 := k4.below hbxw6 (by omega)
  have lo9 := lo5.trans (hbxw6.mono (by omega))
  clear k4 lo5 hbxw6
  refine wpl_store rfl 27 (.tmp 0) (.tmp 2) rfl N 6 (rC (obR tAny)) rfl rfl 27 _ k8 szR (fun j _ => rC_one _ j) ?_
  intro xw10 t11 k12; simp only [pA]
  have lo13 := t11.below lo9 (by omega)
  have h14 := t11.sz hM7
  clear k8 lo9 hM7 t11
  go_wp2_with fail
  refine post_r rfl N rfl k12 ⟨dR, u1, u2⟩ szR rfl ?_
  exact ⟨rfl, lo13⟩
set_option maxRecDepth 100000 in
set_option maxHeartbeats 4000000 in
theorem SHas_any (a : Rn) (x : W) (w : World) (N : Nat) (hN : Sz w N) : Calls Tryd.prog 10 #[rV a, Q x] w fun e w' => e = .returned (.bool (sHas a x)) ∧ Below N w w' := by
  obtain ⟨r, er⟩ : ∃ r, r = sHas a x := ⟨_, rfl⟩
  rw [← er]
  unfold sHas at er
  unfold rV
  go_enter Tryd.func10, Tryd.ntmps10
  go_upto_region 1 with (first
    | (refine wpl_box rfl 27 (.tmp 0) rfl 6 _ rfl (N) hN ?_; intro w1 hN1 hb1 hh1)
    | fail)
  have lo0 : Below N w w1 := hb1
  have k1 := hh1
  clear hh1 hb1
  go_upto_region 1 with fail
  cases h0 : tHas a.b x
  · have H0 := hid h0
    have E := hid (show r = false by rw [er, h0]; rfl)
    clear er h0
    obtain ⟨c2, c3, c4, c5, c6, c7⟩ := r_cells k1
    refine wp_region_later1 ((N + 1)) ?_
    try simp only [pA]
    go_big_quiet_step (fail)
    refine later_val (fun qq => run_bits 25 (.tmp 5) rfl N rfl 27 (Later.has hN1 k1 qq) undT szT) (by rfl) ?_; simp only [pA]
    go_big_quiet_step (fail)
    go_big_quiet_step ((go_at_call 26; exact later_of hN1 _ (fun K hK hKN => ret_is H0.out (Has_any a.b x) _ K hK)))
    iterate 27 (go_big_quiet_step (fail))
    refine wpQuiet_nil (laterE hN1 ?_)
    intro xw8 M9 hbxw8 hM9 lM9
    have k10 := k1.below hbxw8 (by omega)
    have lo11 := lo0.trans (hbxw8.mono (by omega))
    clear k1 c2 c3 c4 c5 c6 c7 lo0 hbxw8
    go_wp2_with fail
    go_ret
    exact ⟨by rw [E.out]; rfl, lo11⟩
  cases h1 : a.lo.ule x
  · have H0 := hid h0
    have H1 := hid h1
    have E := hid (show r = false by rw [er, h0, h1]; rfl)
    clear er h0 h1
    obtain ⟨c2, c3, c4, c5, c6, c7⟩ := r_cells k1
    refine wp_region_later1 ((N + 1)) ?_
    try simp only [pA]
    go_big_quiet_step (fail)
    refine later_val (fun qq => run_bits 25 (.tmp 5) rfl N rfl 27 (Later.has hN1 k1 qq) undT szT) (by rfl) ?_; simp only [pA]
    go_big_quiet_step (fail)
    go_big_quiet_step ((go_at_call 26; exact later_of hN1 _ (fun K hK hKN => ret_is H0.out (Has_any a.b x) _ K hK)))
    iterate 2 (go_big_quiet_step (fail))
    refine later_c1 hN1 23 (.tmp 10) rfl rfl und64 rfl c4 (by rfl) ?_; simp only [pA]
    go_big_quiet_step (fail)
    refine later_b (x := (.tmp 11)) (y := (.tmp 12)) rfl (BinRun.is H1.out (bin_leq _ a.lo x)) rfl rfl (by rfl) ?_; simp only [pA]
    iterate 22 (go_big_quiet_step (fail))
    refine wpQuiet_nil (laterE hN1 ?_)
    intro xw8 M9 hbxw8 hM9 lM9
    have k10 := k1.below hbxw8 (by omega)
    have lo11 := lo0.trans (hbxw8.mono (by omega))
    clear k1 c2 c3 c4 c5 c6 c7 lo0 hbxw8
    go_wp2_with fail
    go_ret
    exact ⟨by rw [E.out]; rfl, lo11⟩
  cases h2 : x.ule a.hi
  · have H0 := hid h0
    have H1 := hid h1
    have H2 := hid h2
    have E := hid (show r = false by rw [er, h0, h1, h2]; rfl)
    clear er h0 h1 h2
    obtain ⟨c2, c3, c4, c5, c6, c7⟩ := r_cells k1
    refine wp_region_later1 ((N + 1)) ?_
    try simp only [pA]
    go_big_quiet_step (fail)
    refine later_val (fun qq => run_bits 25 (.tmp 5) rfl N rfl 27 (Later.has hN1 k1 qq) undT szT) (by rfl) ?_; simp only [pA]
    go_big_quiet_step (fail)
    go_big_quiet_step ((go_at_call 26; exact later_of hN1 _ (fun K hK hKN => ret_is H0.out (Has_any a.b x) _ K hK)))
    iterate 2 (go_big_quiet_step (fail))
    refine later_c1 hN1 23 (.tmp 10) rfl rfl und64 rfl c4 (by rfl) ?_; simp only [pA]
    go_big_quiet_step (fail)
    refine later_b (x := (.tmp 11)) (y := (.tmp 12)) rfl (BinRun.is H1.out (bin_leq _ a.lo x)) rfl rfl (by rfl) ?_; simp only [pA]
    iterate 4 (go_big_quiet_step (fail))
    refine later_c1 hN1 23 (.tmp 17) rfl rfl und64 rfl c5 (by rfl) ?_; simp only [pA]
    refine later_b (x := (.tmp 16)) (y := (.tmp 18)) rfl (BinRun.is H2.out (bin_leq _ x a.hi)) rfl rfl (by rfl) ?_; simp only [pA]
    iterate 16 (go_big_quiet_step (fail))
    refine wpQuiet_nil (laterE hN1 ?_)
    intro xw8 M9 hbxw8 hM9 lM9
    have k10 := k1.below hbxw8 (by omega)
    have lo11 := lo0.trans (hbxw8.mono (by omega))
    clear k1 c2 c3 c4 c5 c6 c7 lo0 hbxw8
    go_wp2_with fail
    go_ret
    exact ⟨by rw [E.out]; rfl, lo11⟩
  cases h3 : a.sl.sle x
  · have H0 := hid h0
    have H1 := hid h1
    have H2 := hid h2
    have H3 := hid h3
    have E := hid (show r = false by rw [er, h0, h1, h2, h3]; rfl)
    clear er h0 h1 h2 h3
    obtain ⟨c2, c3, c4, c5, c6, c7⟩ := r_cells k1
    refine wp_region_later1 ((N + 1)) ?_
    try simp only [pA]
    go_big_quiet_step (fail)
    refine later_val (fun qq => run_bits 25 (.tmp 5) rfl N rfl 27 (Later.has hN1 k1 qq) undT szT) (by rfl) ?_; simp only [pA]
    go_big_quiet_step (fail)
    go_big_quiet_step ((go_at_call 26; exact later_of hN1 _ (fun K hK hKN => ret_is H0.out (Has_any a.b x) _ K hK)))
    iterate 2 (go_big_quiet_step (fail))
    refine later_c1 hN1 23 (.tmp 10) rfl rfl und64 rfl c4 (by rfl) ?_; simp only [pA]
    go_big_quiet_step (fail)
    refine later_b (x := (.tmp 11)) (y := (.tmp 12)) rfl (BinRun.is H1.out (bin_leq _ a.lo x)) rfl rfl (by rfl) ?_; simp only [pA]
    iterate 4 (go_big_quiet_step (fail))
    refine later_c1 hN1 23 (.tmp 17) rfl rfl und64 rfl c5 (by rfl) ?_; simp only [pA]
    refine later_b (x := (.tmp 16)) (y := (.tmp 18)) rfl (BinRun.is H2.out (bin_leq _ x a.hi)) rfl rfl (by rfl) ?_; simp only [pA]
    iterate 3 (go_big_quiet_step (fail))
    refine later_c1 hN1 2 (.tmp 22) rfl rfl undI64 rfl c6 (by rfl) ?_; simp only [pA]
    go_big_quiet_step (fail)
    refine later_val (fun q => run_us (x := (.tmp 24)) rfl und64 undI64 rfl q.w') (by rfl) ?_; simp only [pA]
    refine later_b (x := (.tmp 23)) (y := (.tmp 25)) rfl (BinRun.is H3.out (bin_sleq _ a.sl x)) rfl rfl (by rfl) ?_; simp only [pA]
    iterate 9 (go_big_quiet_step (fail))
    refine wpQuiet_nil (laterE hN1 ?_)
    intro xw8 M9 hbxw8 hM9 lM9
    have k10 := k1.below hbxw8 (by omega)
    have lo11 := lo0.trans (hbxw8.mono (by omega))
    clear k1 c2 c3 c4 c5 c6 c7 lo0 hbxw8
    go_wp2_with fail
    go_ret
    exact ⟨by rw [E.out]; rfl, lo11⟩
  cases h4 : x.sle a.sh
  · have H0 := hid h0
    have H1 := hid h1
    have H2 := hid h2
    have H3 := hid h3
    have H4 := hid h4
    have E := hid (show r = false by rw [er, h0, h1, h2, h3, h4]; rfl)
    clear er h0 h1 h2 h3 h4
    obtain ⟨c2, c3, c4, c5, c6, c7⟩ := r_cells k1
    refine wp_region_later1 ((N + 1)) ?_
    try simp only [pA]
    go_big_quiet_step (fail)
    refine later_val (fun qq => run_bits 25 (.tmp 5) rfl N rfl 27 (Later.has hN1 k1 qq) undT szT) (by rfl) ?_; simp only [pA]
    go_big_quiet_step (fail)
    go_big_quiet_step ((go_at_call 26; exact later_of hN1 _ (fun K hK hKN => ret_is H0.out (Has_any a.b x) _ K hK)))
    iterate 2 (go_big_quiet_step (fail))
    refine later_c1 hN1 23 (.tmp 10) rfl rfl und64 rfl c4 (by rfl) ?_; simp only [pA]
    go_big_quiet_step (fail)
    refine later_b (x := (.tmp 11)) (y := (.tmp 12)) rfl (BinRun.is H1.out (bin_leq _ a.lo x)) rfl rfl (by rfl) ?_; simp only [pA]
    iterate 4 (go_big_quiet_step (fail))
    refine later_c1 hN1 23 (.tmp 17) rfl rfl und64 rfl c5 (by rfl) ?_; simp only [pA]
    refine later_b (x := (.tmp 16)) (y := (.tmp 18)) rfl (BinRun.is H2.out (bin_leq _ x a.hi)) rfl rfl (by rfl) ?_; simp only [pA]
    iterate 3 (go_big_quiet_step (fail))
    refine later_c1 hN1 2 (.tmp 22) rfl rfl undI64 rfl c6 (by rfl) ?_; simp only [pA]
    go_big_quiet_step (fail)
    refine later_val (fun q => run_us (x := (.tmp 24)) rfl und64 undI64 rfl q.w') (by rfl) ?_; simp only [pA]
    refine later_b (x := (.tmp 23)) (y := (.tmp 25)) rfl (BinRun.is H3.out (bin_sleq _ a.sl x)) rfl rfl (by rfl) ?_; simp only [pA]
    iterate 3 (go_big_quiet_step (fail))
    refine later_val (fun q => run_us (x := (.tmp 29)) rfl und64 undI64 rfl q.w') (by rfl) ?_; simp only [pA]
    go_big_quiet_step (fail)
    refine later_c1 hN1 2 (.tmp 31) rfl rfl undI64 rfl c7 (by rfl) ?_; simp only [pA]
    refine later_b (x := (.tmp 30)) (y := (.tmp 32)) rfl (BinRun.is H4.out (bin_sleq _ x a.sh)) rfl rfl (by rfl) ?_; simp only [pA]
    iterate 2 (go_big_quiet_step (fail))
    refine wpQuiet_nil (laterE hN1 ?_)
    intro xw8 M9 hbxw8 hM9 lM9
    have k10 := k1.below hbxw8 (by omega)
    have lo11 := lo0.trans (hbxw8.mono (by omega))
    clear k1 c2 c3 c4 c5 c6 c7 lo0 hbxw8
    go_wp2_with fail
    go_ret
    exact ⟨by rw [E.out]; rfl, lo11⟩
  have H0 := hid h0
  have H1 := hid h1
  have H2 := hid h2
  have H3 := hid h3
  have H4 := hid h4
  have E := hid (show r = true by rw [er, h0, h1, h2, h3, h4]; rfl)
  clear er h0 h1 h2 h3 h4
  obtain ⟨c2, c3, c4, c5, c6, c7⟩ := r_cells k1
  refine wp_region_later1 ((N + 1)) ?_
  try simp only [pA]
  go_big_quiet_step (fail)
  refine later_val (fun qq => run_bits 25 (.tmp 5) rfl N rfl 27 (Later.has hN1 k1 qq) undT szT) (by rfl) ?_; simp only [pA]
  go_big_quiet_step (fail)
  go_big_quiet_step ((go_at_call 26; exact later_of hN1 _ (fun K hK hKN => ret_is H0.out (Has_any a.b x) _ K hK)))
  iterate 2 (go_big_quiet_step (fail))
  refine later_c1 hN1 23 (.tmp 10) rfl rfl und64 rfl c4 (by rfl) ?_; simp only [pA]
  go_big_quiet_step (fail)
  refine later_b (x := (.tmp 11)) (y := (.tmp 12)) rfl (BinRun.is H1.out (bin_leq _ a.lo x)) rfl rfl (by rfl) ?_; simp only [pA]
  iterate 4 (go_big_quiet_step (fail))
  refine later_c1 hN1 23 (.tmp 17) rfl rfl und64 rfl c5 (by rfl) ?_; simp only [pA]
  refine later_b (x := (.tmp 16)) (y := (.tmp 18)) rfl (BinRun.is H2.out (bin_leq _ x a.hi)) rfl rfl (by rfl) ?_; simp only [pA]
  iterate 3 (go_big_quiet_step (fail))
  refine later_c1 hN1 2 (.tmp 22) rfl rfl undI64 rfl c6 (by rfl) ?_; simp only [pA]
  go_big_quiet_step (fail)
  refine later_val (fun q => run_us (x := (.tmp 24)) rfl und64 undI64 rfl q.w') (by rfl) ?_; simp only [pA]
  refine later_b (x := (.tmp 23)) (y := (.tmp 25)) rfl (BinRun.is H3.out (bin_sleq _ a.sl x)) rfl rfl (by rfl) ?_; simp only [pA]
  iterate 3 (go_big_quiet_step (fail))
  refine later_val (fun q => run_us (x := (.tmp 29)) rfl und64 undI64 rfl q.w') (by rfl) ?_; simp only [pA]
  go_big_quiet_step (fail)
  refine later_c1 hN1 2 (.tmp 31) rfl rfl undI64 rfl c7 (by rfl) ?_; simp only [pA]
  refine later_b (x := (.tmp 30)) (y := (.tmp 32)) rfl (BinRun.is H4.out (bin_sleq _ x a.sh)) rfl rfl (by rfl) ?_; simp only [pA]
  iterate 2 (go_big_quiet_step (fail))
  refine wpQuiet_nil (laterE hN1 ?_)
  intro xw8 M9 hbxw8 hM9 lM9
  have k10 := k1.below hbxw8 (by omega)
  have lo11 := lo0.trans (hbxw8.mono (by omega))
  clear k1 c2 c3 c4 c5 c6 c7 lo0 hbxw8
  go_wp2_with fail
  go_ret
  exact ⟨by rw [E.out]; rfl, lo11⟩
end Go.Proofs.YtbbfdehipgkjmaaDoor
namespace Go.Proofs.YtbbfdehipgkjmaaDoor
open Go Go.RowKit
def blen (n : Nat) : Nat := if n = 0 then 0 else n.log2 + 1
theorem blen_lt (n : Nat) : n < 2 ^ blen n := by
  unfold blen
  by_cases h : n = 0
  · rw [if_pos h, h]; decide
  · rw [if_neg h]; exact (Nat.log2_lt h).1 (Nat.lt_succ_self _)
theorem blen_le {n m : Nat} (h : n < 2 ^ m) : blen n ≤ m := by
  unfold blen
  by_cases h0 : n = 0
  · rw [if_pos h0]; omega
  · rw [if_neg h0]; exact (Nat.log2_lt h0).2 h
theorem le_blen {n m : Nat} (h : 2 ^ m ≤ n) : m + 1 ≤ blen n := by
  have h0 : n ≠ 0 := fun e => by rw [e] at h; have := Nat.two_pow_pos m; omega
  unfold blen
  rw [if_neg h0]
  have := (Nat.le_log2 h0).2 h
  omega
theorem blen_shift (n k : Nat) (h : 2 ^ k ≤ n) : blen n = k + blen (n / 2 ^ k) := by
  have hp := Nat.two_pow_pos k
  have h1 := blen_lt (n / 2 ^ k)
  have hq : 1 ≤ n / 2 ^ k := (Nat.le_div_iff_mul_le hp).2 (by omega)
  have e1 : n < 2 ^ (k + blen (n / 2 ^ k)) := by
    rw [Nat.pow_add, Nat.mul_comm]
    exact (Nat.div_lt_iff_lt_mul hp).1 h1
  have e2 := blen_le e1
  have h2 : blen (n / 2 ^ k) = (n / 2 ^ k).log2 + 1 := by unfold blen; rw [if_neg (by omega)]
  have h3 : 2 ^ (n / 2 ^ k).log2 ≤ n / 2 ^ k := (Nat.le_log2 (by omega)).1 (Nat.le_refl _)
  have h4 : 2 ^ (k + (n / 2 ^ k).log2) ≤ n := by
    rw [Nat.pow_add, Nat.mul_comm]
    exact (Nat.le_div_iff_mul_le hp).1 h3
  have h5 := le_blen h4
  omega
theorem run_tab {P : Program} {a : Act} {w : World} {o : Oper} {ty : TypeId} {s : ByteArray} {x : Operand} (ho : o.op = .index ty (.const (.string s)) x) (hu : P.underlying ty = some .string) {b : Nat} (hb : b < 256) (hx : a.eval x = .int .u8 (b : Int))
    (hs : ∀ b : Fin 256, (s[b.val]?).map (·.toNat) = some (blen b.val)) : (execOp a.eval o).run P w = .ok (.value (.int .u8 (blen b : Int))) w := by
  have h := hs ⟨b, hb⟩
  cases e : s[b]? with
  | none => simp [e] at h
  | some v =>
    simp only [e, Option.map_some, Option.some.injEq] at h
    have hc : a.eval (.const (.string s)) = .string s := rfl
    unfold execOp
    simp only [ho, hx, hc]
    simp [Instr.index, asIntOf, Sem.run_bind, run_underlying hu, e, h]
theorem run_u8 {P : Program} {a : Act} {o : Oper} {src dst : TypeId} {x : Operand} (ho : o.op = .convert src dst x) {k : IntKind} {p : W} (hs : P.underlying src = some (.int k)) (hd : P.underlying dst = some (.int .u8)) (hx : a.eval x = Q p) (hp : p.toNat < 256) (w : World) : (execOp a.eval o).run P w = .ok (.value (.int .u8 (p.toNat : Int))) w := by
  rw [run_conv ho hs hd hx w]
  have e : IntKind.u8.wrap (qn p) = (p.toNat : Int) := by
    have : IntKind.u8.wrap (qn p) = qn p % 256 := by simp [IntKind.wrap, IntKind.signed, IntKind.bits]
    rw [this]; unfold qn; omega
  rw [e]
theorem run_i8 {P : Program} {a : Act} {o : Oper} {src dst : TypeId} {x : Operand} (ho : o.op = .convert src dst x) {k : IntKind} {n : Nat} (hs : P.underlying src = some (.int k)) (hd : P.underlying dst = some (.int .i64)) (hx : a.eval x = .int .u8 (n : Int)) (hn : n < 1000) (w : World) : (execOp a.eval o).run P w = .ok (.value (.int .i64 (n : Int))) w := by
  rw [run_conv ho hs hd hx w]
  have e : IntKind.i64.wrap (n : Int) = (n : Int) := by rw [wrap_s, sn_ofInt]; split <;> omega
  rw [e]
theorem run_ladd {P : Program} {a : Act} {w : World} {o : Oper} {T ty : TypeId} {x y : Operand} (ho : o.op = .binOp .add T x y ty) {m n : Nat} (hx : a.eval x = .int .i64 (m : Int)) (hy : a.eval y = .int .i64 (n : Int)) (h : m + n < 1000) : (execOp a.eval o).run P w = .ok (.value (.int .i64 ((m + n : Nat) : Int))) w := by
  refine binRun_of (k := .i64) (k2 := .i64) (r := .int .i64 ((m + n : Nat) : Int)) (fun w => ?_) _ o x y ty w ho hx hy
  show (Op.intArith .add .i64 (m : Int) (n : Int)).run P w = _
  have e : IntKind.i64.wrap ((m : Int) + (n : Int)) = ((m + n : Nat) : Int) := by rw [wrap_s, sn_ofInt]; split <;> omega
  rw [← e]; rfl
theorem und8' : Tryd.prog.underlying 5 = some (.int .u8) := by kernel_rfl
theorem undStr : Tryd.prog.underlying 9 = some .string := by kernel_rfl
theorem ule_le (k : Nat) (hk : k < 2 ^ 64) (x : W) : BitVec.ule (BitVec.ofNat 64 k) x = decide (k ≤ x.toNat) := by
  unfold BitVec.ule; rw [BitVec.toNat_ofNat, Nat.mod_eq_of_lt hk]
theorem shr_nat (x : W) (k : Nat) : (x >>> k).toNat = x.toNat / 2 ^ k := by rw [BitVec.toNat_ushiftRight, Nat.shiftRight_eq_div_pow]
set_option maxRecDepth 100000 in
set_option maxHeartbeats 4000000 in
theorem Len_any (x : W) (w : World) (N : Nat) (hN : Sz w N) : Calls Tryd.prog 78 #[Q x] w fun e w' => e = .returned (.int .i64 (blen x.toNat : Int)) ∧ Below N w w' := by
  cases c0 : BitVec.ule 4294967296#64 x
  · cases c1 : BitVec.ule 65536#64 x
    · cases c2 : BitVec.ule 256#64 x
      · have C0 := hid c0
        have C1 := hid c1
        have C2 := hid c2
        have q0 := ule_le 4294967296 (by decide) x
        rw [show BitVec.ofNat 64 4294967296 = 4294967296#64 from rfl, c0] at q0
        have r0 := of_decide_eq_false q0.symm
        have q1 := ule_le 65536 (by decide) x
        rw [show BitVec.ofNat 64 65536 = 65536#64 from rfl, c1] at q1
        have r1 := of_decide_eq_false q1.symm
        have q2 := ule_le 256 (by decide) x
        rw [show BitVec.ofNat 64 256 = 256#64 from rfl, c2] at q2
        have r2 := of_decide_eq_false q2.symm
        have xl := x.isLt
        have hB : (x).toNat < 256 := by omega
        have HB := hid hB
        have hL := blen_le (m := 8) hB
        have HL := hid (show blen (x).toNat < 1000 by omega)
        have HA := hid (show 0 + blen (x).toNat < 1000 by omega)
        have E := hid (show blen x.toNat = 0 + blen (x).toNat by omega)
        clear xl hB hL c0 c1 c2 q0 q1 q2 r0 r1 r2 
        go_enter Tryd.func78, Tryd.ntmps78
        have lo0 : Below N w w := Below.refl N w
        go_upto_region 1 with fail
        refine wp_region_later1 (N) ?_
        try simp only [pA]
        go_big_quiet_step (fail)
        refine later_b (x := (.tmp 3)) (y := (.const (.int .u64 4294967296))) rfl (BinRun.is C0.out (bin_geq _ x 4294967296#64)) rfl rfl (by rfl) ?_; simp only [pA]
        refine wpQuiet_nil (laterE hN ?_)
        intro xw1 M2 hbxw1 hM2 lM2
        have lo3 := lo0.trans (hbxw1.mono (by omega))
        clear lo0 hbxw1
        go_upto_region 4 with fail
        refine wp_region_later1 (M2) ?_
        try simp only [pA]
        go_big_quiet_step (fail)
        refine later_b (x := (.tmp 7)) (y := (.const (.int .u64 65536))) rfl (BinRun.is C1.out (bin_geq _ x 65536#64)) rfl rfl (by rfl) ?_; simp only [pA]
        refine wpQuiet_nil (laterE hM2 ?_)
        intro xw4 M5 hbxw4 hM5 lM5
        have lo6 := lo3.trans (hbxw4.mono (by omega))
        clear lo3 hbxw4
        go_upto_region 7 with fail
        refine wp_region_later1 (M5) ?_
        try simp only [pA]
        go_big_quiet_step (fail)
        refine later_b (x := (.tmp 13)) (y := (.const (.int .u64 256))) rfl (BinRun.is C2.out (bin_geq _ x 256#64)) rfl rfl (by rfl) ?_; simp only [pA]
        refine wpQuiet_nil (laterE hM5 ?_)
        intro xw7 M8 hbxw7 hM8 lM8
        have lo9 := lo6.trans (hbxw7.mono (by omega))
        clear lo6 hbxw7
        go_upto_region 10 with fail
        refine wp_region_lit ?_
        try simp only [pA]
        refine wpl_run rfl (.int .i64 ((0 : Nat) : Int)) _ (run_mv (x := .tmp 2) rfl _ rfl) ?_; simp only [pA]
        refine wpl_run rfl (Q x) _ (run_mv (x := .tmp 0) rfl _ rfl) ?_; simp only [pA]
        refine wpl_run rfl (.int .u8 ((x).toNat : Int)) _ (run_u8 (x := .tmp 20) rfl und64 und8' rfl HB.out _) ?_; simp only [pA]
        refine wpl_run rfl (.int .u8 (blen (x).toNat : Int)) _ (run_tab (x := .tmp 21) rfl undStr HB.out rfl (by decide +kernel)) ?_; simp only [pA]
        refine wpl_run rfl (.int .i64 (blen (x).toNat : Int)) _ (run_i8 (x := .tmp 22) rfl und8' undInt rfl HL.out _) ?_; simp only [pA]
        refine wpl_run rfl (.int .i64 ((0 + blen (x).toNat : Nat) : Int)) _ (run_ladd (x := .tmp 19) (y := .tmp 23) rfl rfl rfl HA.out) ?_; simp only [pA]
        go_wp2_with fail
        go_ret
        exact ⟨congrArg (fun n : Nat => Ending.returned (Value.int .i64 (n : Int))) E.out.symm, lo9⟩
      · have C0 := hid c0
        have C1 := hid c1
        have C2 := hid c2
        have q0 := ule_le 4294967296 (by decide) x
        rw [show BitVec.ofNat 64 4294967296 = 4294967296#64 from rfl, c0] at q0
        have r0 := of_decide_eq_false q0.symm
        have q1 := ule_le 65536 (by decide) x
        rw [show BitVec.ofNat 64 65536 = 65536#64 from rfl, c1] at q1
        have r1 := of_decide_eq_false q1.symm
        have q2 := ule_le 256 (by decide) x
        rw [show BitVec.ofNat 64 256 = 256#64 from rfl, c2] at q2
        have r2 := of_decide_eq_true q2.symm
        have s2 := blen_shift (x).toNat 8 r2
        have t2 : ((x >>> (8#64).toNat)).toNat = (x).toNat / 2 ^ 8 := shr_nat _ _
        rw [← t2] at s2
        have xl := x.isLt
        have hB : ((x >>> (8#64).toNat)).toNat < 256 := by omega
        have HB := hid hB
        have hL := blen_le (m := 8) hB
        have HL := hid (show blen ((x >>> (8#64).toNat)).toNat < 1000 by omega)
        have HA := hid (show 8 + blen ((x >>> (8#64).toNat)).toNat < 1000 by omega)
        have E := hid (show blen x.toNat = 8 + blen ((x >>> (8#64).toNat)).toNat by omega)
        clear xl hB hL c0 c1 c2 q0 q1 q2 r0 r1 r2 s2 t2
        go_enter Tryd.func78, Tryd.ntmps78
        have lo0 : Below N w w := Below.refl N w
        go_upto_region 1 with fail
        refine wp_region_later1 (N) ?_
        try simp only [pA]
        go_big_quiet_step (fail)
        refine later_b (x := (.tmp 3)) (y := (.const (.int .u64 4294967296))) rfl (BinRun.is C0.out (bin_geq _ x 4294967296#64)) rfl rfl (by rfl) ?_; simp only [pA]
        refine wpQuiet_nil (laterE hN ?_)
        intro xw1 M2 hbxw1 hM2 lM2
        have lo3 := lo0.trans (hbxw1.mono (by omega))
        clear lo0 hbxw1
        go_upto_region 4 with fail
        refine wp_region_later1 (M2) ?_
        try simp only [pA]
        go_big_quiet_step (fail)
        refine later_b (x := (.tmp 7)) (y := (.const (.int .u64 65536))) rfl (BinRun.is C1.out (bin_geq _ x 65536#64)) rfl rfl (by rfl) ?_; simp only [pA]
        refine wpQuiet_nil (laterE hM2 ?_)
        intro xw4 M5 hbxw4 hM5 lM5
        have lo6 := lo3.trans (hbxw4.mono (by omega))
        clear lo3 hbxw4
        go_upto_region 7 with fail
        refine wp_region_later1 (M5) ?_
        try simp only [pA]
        go_big_quiet_step (fail)
        refine later_b (x := (.tmp 13)) (y := (.const (.int .u64 256))) rfl (BinRun.is C2.out (bin_geq _ x 256#64)) rfl rfl (by rfl) ?_; simp only [pA]
        refine wpQuiet_nil (laterE hM5 ?_)
        intro xw7 M8 hbxw7 hM8 lM8
        have lo9 := lo6.trans (hbxw7.mono (by omega))
        clear lo6 hbxw7
        go_upto_region 8 with fail
        refine wp_region_later1 (M8) ?_
        try simp only [pA]
        go_big_quiet_step (fail)
        refine later_b (x := (.tmp 15)) (y := (.const (.int .u64 8))) rfl (bin_shru _ x 8#64) rfl rfl (by rfl) ?_; simp only [pA]
        go_big_quiet_step (fail)
        refine wpQuiet_nil (laterE hM8 ?_)
        intro xw10 M11 hbxw10 hM11 lM11
        have lo12 := lo9.trans (hbxw10.mono (by omega))
        clear lo9 hbxw10
        go_upto_region 9 with fail
        refine wp_region_lit ?_
        try simp only [pA]
        refine wpl_run rfl (.int .i64 0) xw10 (by kernel_rfl) ?_; simp only [pA]
        refine wpl_run rfl (.int .i64 8) xw10 (by kernel_rfl) ?_; simp only [pA]
        refine wpl_run rfl (.int .i64 8) xw10 (by kernel_rfl) ?_; simp only [pA]
        go_upto_region 10 with fail
        refine wp_region_lit ?_
        try simp only [pA]
        refine wpl_run rfl (.int .i64 ((8 : Nat) : Int)) _ (run_mv (x := .tmp 2) rfl _ rfl) ?_; simp only [pA]
        refine wpl_run rfl (Q (x >>> (8#64).toNat)) _ (run_mv (x := .tmp 0) rfl _ rfl) ?_; simp only [pA]
        refine wpl_run rfl (.int .u8 (((x >>> (8#64).toNat)).toNat : Int)) _ (run_u8 (x := .tmp 20) rfl und64 und8' rfl HB.out _) ?_; simp only [pA]
        refine wpl_run rfl (.int .u8 (blen ((x >>> (8#64).toNat)).toNat : Int)) _ (run_tab (x := .tmp 21) rfl undStr HB.out rfl (by decide +kernel)) ?_; simp only [pA]
        refine wpl_run rfl (.int .i64 (blen ((x >>> (8#64).toNat)).toNat : Int)) _ (run_i8 (x := .tmp 22) rfl und8' undInt rfl HL.out _) ?_; simp only [pA]
        refine wpl_run rfl (.int .i64 ((8 + blen ((x >>> (8#64).toNat)).toNat : Nat) : Int)) _ (run_ladd (x := .tmp 19) (y := .tmp 23) rfl rfl rfl HA.out) ?_; simp only [pA]
        go_wp2_with fail
        go_ret
        exact ⟨congrArg (fun n : Nat => Ending.returned (Value.int .i64 (n : Int))) E.out.symm, lo12⟩
    · cases c2 : BitVec.ule 256#64 (x >>> (16#64).toNat)
      · have C0 := hid c0
        have C1 := hid c1
        have C2 := hid c2
        have q0 := ule_le 4294967296 (by decide) x
        rw [show BitVec.ofNat 64 4294967296 = 4294967296#64 from rfl, c0] at q0
        have r0 := of_decide_eq_false q0.symm
        have q1 := ule_le 65536 (by decide) x
        rw [show BitVec.ofNat 64 65536 = 65536#64 from rfl, c1] at q1
        have r1 := of_decide_eq_true q1.symm
        have s1 := blen_shift (x).toNat 16 r1
        have t1 : ((x >>> (16#64).toNat)).toNat = (x).toNat / 2 ^ 16 := shr_nat _ _
        rw [← t1] at s1
        have q2 := ule_le 256 (by decide) (x >>> (16#64).toNat)
        rw [show BitVec.ofNat 64 256 = 256#64 from rfl, c2] at q2
        have r2 := of_decide_eq_false q2.symm
        have xl := x.isLt
        have hB : ((x >>> (16#64).toNat)).toNat < 256 := by omega
        have HB := hid hB
        have hL := blen_le (m := 8) hB
        have HL := hid (show blen ((x >>> (16#64).toNat)).toNat < 1000 by omega)
        have HA := hid (show 16 + blen ((x >>> (16#64).toNat)).toNat < 1000 by omega)
        have E := hid (show blen x.toNat = 16 + blen ((x >>> (16#64).toNat)).toNat by omega)
        clear xl hB hL c0 c1 c2 q0 q1 q2 r0 r1 r2 s1 t1
        go_enter Tryd.func78, Tryd.ntmps78
        have lo0 : Below N w w := Below.refl N w
        go_upto_region 1 with fail
        refine wp_region_later1 (N) ?_
        try simp only [pA]
        go_big_quiet_step (fail)
        refine later_b (x := (.tmp 3)) (y := (.const (.int .u64 4294967296))) rfl (BinRun.is C0.out (bin_geq _ x 4294967296#64)) rfl rfl (by rfl) ?_; simp only [pA]
        refine wpQuiet_nil (laterE hN ?_)
        intro xw1 M2 hbxw1 hM2 lM2
        have lo3 := lo0.trans (hbxw1.mono (by omega))
        clear lo0 hbxw1
        go_upto_region 4 with fail
        refine wp_region_later1 (M2) ?_
        try simp only [pA]
        go_big_quiet_step (fail)
        refine later_b (x := (.tmp 7)) (y := (.const (.int .u64 65536))) rfl (BinRun.is C1.out (bin_geq _ x 65536#64)) rfl rfl (by rfl) ?_; simp only [pA]
        refine wpQuiet_nil (laterE hM2 ?_)
        intro xw4 M5 hbxw4 hM5 lM5
        have lo6 := lo3.trans (hbxw4.mono (by omega))
        clear lo3 hbxw4
        go_upto_region 5 with fail
        refine wp_region_later1 (M5) ?_
        try simp only [pA]
        go_big_quiet_step (fail)
        refine later_b (x := (.tmp 9)) (y := (.const (.int .u64 16))) rfl (bin_shru _ x 16#64) rfl rfl (by rfl) ?_; simp only [pA]
        go_big_quiet_step (fail)
        refine wpQuiet_nil (laterE hM5 ?_)
        intro xw7 M8 hbxw7 hM8 lM8
        have lo9 := lo6.trans (hbxw7.mono (by omega))
        clear lo6 hbxw7
        go_upto_region 6 with fail
        refine wp_region_lit ?_
        try simp only [pA]
        refine wpl_run rfl (.int .i64 0) xw7 (by kernel_rfl) ?_; simp only [pA]
        refine wpl_run rfl (.int .i64 16) xw7 (by kernel_rfl) ?_; simp only [pA]
        refine wpl_run rfl (.int .i64 16) xw7 (by kernel_rfl) ?_; simp only [pA]
        go_upto_region 7 with fail
        refine wp_region_later1 (M8) ?_
        try simp only [pA]
        go_big_quiet_step (fail)
        refine later_b (x := (.tmp 13)) (y := (.const (.int .u64 256))) rfl (BinRun.is C2.out (bin_geq _ (x >>> (16#64).toNat) 256#64)) rfl rfl (by rfl) ?_; simp only [pA]
        refine wpQuiet_nil (laterE hM8 ?_)
        intro xw10 M11 hbxw10 hM11 lM11
        have lo12 := lo9.trans (hbxw10.mono (by omega))
        clear lo9 hbxw10
        go_upto_region 10 with fail
        refine wp_region_lit ?_
        try simp only [pA]
        refine wpl_run rfl (.int .i64 ((16 : Nat) : Int)) _ (run_mv (x := .tmp 2) rfl _ rfl) ?_; simp only [pA]
        refine wpl_run rfl (Q (x >>> (16#64).toNat)) _ (run_mv (x := .tmp 0) rfl _ rfl) ?_; simp only [pA]
        refine wpl_run rfl (.int .u8 (((x >>> (16#64).toNat)).toNat : Int)) _ (run_u8 (x := .tmp 20) rfl und64 und8' rfl HB.out _) ?_; simp only [pA]
        refine wpl_run rfl (.int .u8 (blen ((x >>> (16#64).toNat)).toNat : Int)) _ (run_tab (x := .tmp 21) rfl undStr HB.out rfl (by decide +kernel)) ?_; simp only [pA]
        refine wpl_run rfl (.int .i64 (blen ((x >>> (16#64).toNat)).toNat : Int)) _ (run_i8 (x := .tmp 22) rfl und8' undInt rfl HL.out _) ?_; simp only [pA]
        refine wpl_run rfl (.int .i64 ((16 + blen ((x >>> (16#64).toNat)).toNat : Nat) : Int)) _ (run_ladd (x := .tmp 19) (y := .tmp 23) rfl rfl rfl HA.out) ?_; simp only [pA]
        go_wp2_with fail
        go_ret
        exact ⟨congrArg (fun n : Nat => Ending.returned (Value.int .i64 (n : Int))) E.out.symm, lo12⟩
      · have C0 := hid c0
        have C1 := hid c1
        have C2 := hid c2
        have q0 := ule_le 4294967296 (by decide) x
        rw [show BitVec.ofNat 64 4294967296 = 4294967296#64 from rfl, c0] at q0
        have r0 := of_decide_eq_false q0.symm
        have q1 := ule_le 65536 (by decide) x
        rw [show BitVec.ofNat 64 65536 = 65536#64 from rfl, c1] at q1
        have r1 := of_decide_eq_true q1.symm
        have s1 := blen_shift (x).toNat 16 r1
        have t1 : ((x >>> (16#64).toNat)).toNat = (x).toNat / 2 ^ 16 := shr_nat _ _
        rw [← t1] at s1
        have q2 := ule_le 256 (by decide) (x >>> (16#64).toNat)
        rw [show BitVec.ofNat 64 256 = 256#64 from rfl, c2] at q2
        have r2 := of_decide_eq_true q2.symm
        have s2 := blen_shift ((x >>> (16#64).toNat)).toNat 8 r2
        have t2 : (((x >>> (16#64).toNat) >>> (8#64).toNat)).toNat = ((x >>> (16#64).toNat)).toNat / 2 ^ 8 := shr_nat _ _
        rw [← t2] at s2
        have xl := x.isLt
        have hB : (((x >>> (16#64).toNat) >>> (8#64).toNat)).toNat < 256 := by omega
        have HB := hid hB
        have hL := blen_le (m := 8) hB
        have HL := hid (show blen (((x >>> (16#64).toNat) >>> (8#64).toNat)).toNat < 1000 by omega)
        have HA := hid (show 24 + blen (((x >>> (16#64).toNat) >>> (8#64).toNat)).toNat < 1000 by omega)
        have E := hid (show blen x.toNat = 24 + blen (((x >>> (16#64).toNat) >>> (8#64).toNat)).toNat by omega)
        clear xl hB hL c0 c1 c2 q0 q1 q2 r0 r1 r2 s1 t1 s2 t2
        go_enter Tryd.func78, Tryd.ntmps78
        have lo0 : Below N w w := Below.refl N w
        go_upto_region 1 with fail
        refine wp_region_later1 (N) ?_
        try simp only [pA]
        go_big_quiet_step (fail)
        refine later_b (x := (.tmp 3)) (y := (.const (.int .u64 4294967296))) rfl (BinRun.is C0.out (bin_geq _ x 4294967296#64)) rfl rfl (by rfl) ?_; simp only [pA]
        refine wpQuiet_nil (laterE hN ?_)
        intro xw1 M2 hbxw1 hM2 lM2
        have lo3 := lo0.trans (hbxw1.mono (by omega))
        clear lo0 hbxw1
        go_upto_region 4 with fail
        refine wp_region_later1 (M2) ?_
        try simp only [pA]
        go_big_quiet_step (fail)
        refine later_b (x := (.tmp 7)) (y := (.const (.int .u64 65536))) rfl (BinRun.is C1.out (bin_geq _ x 65536#64)) rfl rfl (by rfl) ?_; simp only [pA]
        refine wpQuiet_nil (laterE hM2 ?_)
        intro xw4 M5 hbxw4 hM5 lM5
        have lo6 := lo3.trans (hbxw4.mono (by omega))
        clear lo3 hbxw4
        go_upto_region 5 with fail
        refine wp_region_later1 (M5) ?_
        try simp only [pA]
        go_big_quiet_step (fail)
        refine later_b (x := (.tmp 9)) (y := (.const (.int .u64 16))) rfl (bin_shru _ x 16#64) rfl rfl (by rfl) ?_; simp only [pA]
        go_big_quiet_step (fail)
        refine wpQuiet_nil (laterE hM5 ?_)
        intro xw7 M8 hbxw7 hM8 lM8
        have lo9 := lo6.trans (hbxw7.mono (by omega))
        clear lo6 hbxw7
        go_upto_region 6 with fail
        refine wp_region_lit ?_
        try simp only [pA]
        refine wpl_run rfl (.int .i64 0) xw7 (by kernel_rfl) ?_; simp only [pA]
        refine wpl_run rfl (.int .i64 16) xw7 (by kernel_rfl) ?_; simp only [pA]
        refine wpl_run rfl (.int .i64 16) xw7 (by kernel_rfl) ?_; simp only [pA]
        go_upto_region 7 with fail
        refine wp_region_later1 (M8) ?_
        try simp only [pA]
        go_big_quiet_step (fail)
        refine later_b (x := (.tmp 13)) (y := (.const (.int .u64 256))) rfl (BinRun.is C2.out (bin_geq _ (x >>> (16#64).toNat) 256#64)) rfl rfl (by rfl) ?_; simp only [pA]
        refine wpQuiet_nil (laterE hM8 ?_)
        intro xw10 M11 hbxw10 hM11 lM11
        have lo12 := lo9.trans (hbxw10.mono (by omega))
        clear lo9 hbxw10
        go_upto_region 8 with fail
        refine wp_region_later1 (M11) ?_
        try simp only [pA]
        go_big_quiet_step (fail)
        refine later_b (x := (.tmp 15)) (y := (.const (.int .u64 8))) rfl (bin_shru _ (x >>> (16#64).toNat) 8#64) rfl rfl (by rfl) ?_; simp only [pA]
        go_big_quiet_step (fail)
        refine wpQuiet_nil (laterE hM11 ?_)
        intro xw13 M14 hbxw13 hM14 lM14
        have lo15 := lo12.trans (hbxw13.mono (by omega))
        clear lo12 hbxw13
        go_upto_region 9 with fail
        refine wp_region_lit ?_
        try simp only [pA]
        refine wpl_run rfl (.int .i64 16) xw13 (by kernel_rfl) ?_; simp only [pA]
        refine wpl_run rfl (.int .i64 24) xw13 (by kernel_rfl) ?_; simp only [pA]
        refine wpl_run rfl (.int .i64 24) xw13 (by kernel_rfl) ?_; simp only [pA]
        go_upto_region 10 with fail
        refine wp_region_lit ?_
        try simp only [pA]
        refine wpl_run rfl (.int .i64 ((24 : Nat) : Int)) _ (run_mv (x := .tmp 2) rfl _ rfl) ?_; simp only [pA]
        refine wpl_run rfl (Q ((x >>> (16#64).toNat) >>> (8#64).toNat)) _ (run_mv (x := .tmp 0) rfl _ rfl) ?_; simp only [pA]
        refine wpl_run rfl (.int .u8 ((((x >>> (16#64).toNat) >>> (8#64).toNat)).toNat : Int)) _ (run_u8 (x := .tmp 20) rfl und64 und8' rfl HB.out _) ?_; simp only [pA]
        refine wpl_run rfl (.int .u8 (blen (((x >>> (16#64).toNat) >>> (8#64).toNat)).toNat : Int)) _ (run_tab (x := .tmp 21) rfl undStr HB.out rfl (by decide +kernel)) ?_; simp only [pA]
        refine wpl_run rfl (.int .i64 (blen (((x >>> (16#64).toNat) >>> (8#64).toNat)).toNat : Int)) _ (run_i8 (x := .tmp 22) rfl und8' undInt rfl HL.out _) ?_; simp only [pA]
        refine wpl_run rfl (.int .i64 ((24 + blen (((x >>> (16#64).toNat) >>> (8#64).toNat)).toNat : Nat) : Int)) _ (run_ladd (x := .tmp 19) (y := .tmp 23) rfl rfl rfl HA.out) ?_; simp only [pA]
        go_wp2_with fail
        go_ret
        exact ⟨congrArg (fun n : Nat => Ending.returned (Value.int .i64 (n : Int))) E.out.symm, lo15⟩
  · cases c1 : BitVec.ule 65536#64 (x >>> (32#64).toNat)
    · cases c2 : BitVec.ule 256#64 (x >>> (32#64).toNat)
      · have C0 := hid c0
        have C1 := hid c1
        have C2 := hid c2
        have q0 := ule_le 4294967296 (by decide) x
        rw [show BitVec.ofNat 64 4294967296 = 4294967296#64 from rfl, c0] at q0
        have r0 := of_decide_eq_true q0.symm
        have s0 := blen_shift (x).toNat 32 r0
        have t0 : ((x >>> (32#64).toNat)).toNat = (x).toNat / 2 ^ 32 := shr_nat _ _
        rw [← t0] at s0
        have q1 := ule_le 65536 (by decide) (x >>> (32#64).toNat)
        rw [show BitVec.ofNat 64 65536 = 65536#64 from rfl, c1] at q1
        have r1 := of_decide_eq_false q1.symm
        have q2 := ule_le 256 (by decide) (x >>> (32#64).toNat)
        rw [show BitVec.ofNat 64 256 = 256#64 from rfl, c2] at q2
        have r2 := of_decide_eq_false q2.symm
        have xl := x.isLt
        have hB : ((x >>> (32#64).toNat)).toNat < 256 := by omega
        have HB := hid hB
        have hL := blen_le (m := 8) hB
        have HL := hid (show blen ((x >>> (32#64).toNat)).toNat < 1000 by omega)
        have HA := hid (show 32 + blen ((x >>> (32#64).toNat)).toNat < 1000 by omega)
        have E := hid (show blen x.toNat = 32 + blen ((x >>> (32#64).toNat)).toNat by omega)
        clear xl hB hL c0 c1 c2 q0 q1 q2 r0 r1 r2 s0 t0
        go_enter Tryd.func78, Tryd.ntmps78
        have lo0 : Below N w w := Below.refl N w
        go_upto_region 1 with fail
        refine wp_region_later1 (N) ?_
        try simp only [pA]
        go_big_quiet_step (fail)
        refine later_b (x := (.tmp 3)) (y := (.const (.int .u64 4294967296))) rfl (BinRun.is C0.out (bin_geq _ x 4294967296#64)) rfl rfl (by rfl) ?_; simp only [pA]
        refine wpQuiet_nil (laterE hN ?_)
        intro xw1 M2 hbxw1 hM2 lM2
        have lo3 := lo0.trans (hbxw1.mono (by omega))
        clear lo0 hbxw1
        go_upto_region 2 with fail
        refine wp_region_later1 (M2) ?_
        try simp only [pA]
        go_big_quiet_step (fail)
        refine later_b (x := (.tmp 5)) (y := (.const (.int .u64 32))) rfl (bin_shru _ x 32#64) rfl rfl (by rfl) ?_; simp only [pA]
        go_big_quiet_step (fail)
        refine wpQuiet_nil (laterE hM2 ?_)
        intro xw4 M5 hbxw4 hM5 lM5
        have lo6 := lo3.trans (hbxw4.mono (by omega))
        clear lo3 hbxw4
        go_upto_region 4 with fail
        refine wp_region_later1 (M5) ?_
        try simp only [pA]
        go_big_quiet_step (fail)
        refine later_b (x := (.tmp 7)) (y := (.const (.int .u64 65536))) rfl (BinRun.is C1.out (bin_geq _ (x >>> (32#64).toNat) 65536#64)) rfl rfl (by rfl) ?_; simp only [pA]
        refine wpQuiet_nil (laterE hM5 ?_)
        intro xw7 M8 hbxw7 hM8 lM8
        have lo9 := lo6.trans (hbxw7.mono (by omega))
        clear lo6 hbxw7
        go_upto_region 7 with fail
        refine wp_region_later1 (M8) ?_
        try simp only [pA]
        go_big_quiet_step (fail)
        refine later_b (x := (.tmp 13)) (y := (.const (.int .u64 256))) rfl (BinRun.is C2.out (bin_geq _ (x >>> (32#64).toNat) 256#64)) rfl rfl (by rfl) ?_; simp only [pA]
        refine wpQuiet_nil (laterE hM8 ?_)
        intro xw10 M11 hbxw10 hM11 lM11
        have lo12 := lo9.trans (hbxw10.mono (by omega))
        clear lo9 hbxw10
        go_upto_region 10 with fail
        refine wp_region_lit ?_
        try simp only [pA]
        refine wpl_run rfl (.int .i64 ((32 : Nat) : Int)) _ (run_mv (x := .tmp 2) rfl _ rfl) ?_; simp only [pA]
        refine wpl_run rfl (Q (x >>> (32#64).toNat)) _ (run_mv (x := .tmp 0) rfl _ rfl) ?_; simp only [pA]
        refine wpl_run rfl (.int .u8 (((x >>> (32#64).toNat)).toNat : Int)) _ (run_u8 (x := .tmp 20) rfl und64 und8' rfl HB.out _) ?_; simp only [pA]
        refine wpl_run rfl (.int .u8 (blen ((x >>> (32#64).toNat)).toNat : Int)) _ (run_tab (x := .tmp 21) rfl undStr HB.out rfl (by decide +kernel)) ?_; simp only [pA]
        refine wpl_run rfl (.int .i64 (blen ((x >>> (32#64).toNat)).toNat : Int)) _ (run_i8 (x := .tmp 22) rfl und8' undInt rfl HL.out _) ?_; simp only [pA]
        refine wpl_run rfl (.int .i64 ((32 + blen ((x >>> (32#64).toNat)).toNat : Nat) : Int)) _ (run_ladd (x := .tmp 19) (y := .tmp 23) rfl rfl rfl HA.out) ?_; simp only [pA]
        go_wp2_with fail
        go_ret
        exact ⟨congrArg (fun n : Nat => Ending.returned (Value.int .i64 (n : Int))) E.out.symm, lo12⟩
      · have C0 := hid c0
        have C1 := hid c1
        have C2 := hid c2
        have q0 := ule_le 4294967296 (by decide) x
        rw [show BitVec.ofNat 64 4294967296 = 4294967296#64 from rfl, c0] at q0
        have r0 := of_decide_eq_true q0.symm
        have s0 := blen_shift (x).toNat 32 r0
        have t0 : ((x >>> (32#64).toNat)).toNat = (x).toNat / 2 ^ 32 := shr_nat _ _
        rw [← t0] at s0
        have q1 := ule_le 65536 (by decide) (x >>> (32#64).toNat)
        rw [show BitVec.ofNat 64 65536 = 65536#64 from rfl, c1] at q1
        have r1 := of_decide_eq_false q1.symm
        have q2 := ule_le 256 (by decide) (x >>> (32#64).toNat)
        rw [show BitVec.ofNat 64 256 = 256#64 from rfl, c2] at q2
        have r2 := of_decide_eq_true q2.symm
        have s2 := blen_shift ((x >>> (32#64).toNat)).toNat 8 r2
        have t2 : (((x >>> (32#64).toNat) >>> (8#64).toNat)).toNat = ((x >>> (32#64).toNat)).toNat / 2 ^ 8 := shr_nat _ _
        rw [← t2] at s2
        have xl := x.isLt
        have hB : (((x >>> (32#64).toNat) >>> (8#64).toNat)).toNat < 256 := by omega
        have HB := hid hB
        have hL := blen_le (m := 8) hB
        have HL := hid (show blen (((x >>> (32#64).toNat) >>> (8#64).toNat)).toNat < 1000 by omega)
        have HA := hid (show 40 + blen (((x >>> (32#64).toNat) >>> (8#64).toNat)).toNat < 1000 by omega)
        have E := hid (show blen x.toNat = 40 + blen (((x >>> (32#64).toNat) >>> (8#64).toNat)).toNat by omega)
        clear xl hB hL c0 c1 c2 q0 q1 q2 r0 r1 r2 s0 t0 s2 t2
        go_enter Tryd.func78, Tryd.ntmps78
        have lo0 : Below N w w := Below.refl N w
        go_upto_region 1 with fail
        refine wp_region_later1 (N) ?_
        try simp only [pA]
        go_big_quiet_step (fail)
        refine later_b (x := (.tmp 3)) (y := (.const (.int .u64 4294967296))) rfl (BinRun.is C0.out (bin_geq _ x 4294967296#64)) rfl rfl (by rfl) ?_; simp only [pA]
        refine wpQuiet_nil (laterE hN ?_)
        intro xw1 M2 hbxw1 hM2 lM2
        have lo3 := lo0.trans (hbxw1.mono (by omega))
        clear lo0 hbxw1
        go_upto_region 2 with fail
        refine wp_region_later1 (M2) ?_
        try simp only [pA]
        go_big_quiet_step (fail)
        refine later_b (x := (.tmp 5)) (y := (.const (.int .u64 32))) rfl (bin_shru _ x 32#64) rfl rfl (by rfl) ?_; simp only [pA]
        go_big_quiet_step (fail)
        refine wpQuiet_nil (laterE hM2 ?_)
        intro xw4 M5 hbxw4 hM5 lM5
        have lo6 := lo3.trans (hbxw4.mono (by omega))
        clear lo3 hbxw4
        go_upto_region 4 with fail
        refine wp_region_later1 (M5) ?_
        try simp only [pA]
        go_big_quiet_step (fail)
        refine later_b (x := (.tmp 7)) (y := (.const (.int .u64 65536))) rfl (BinRun.is C1.out (bin_geq _ (x >>> (32#64).toNat) 65536#64)) rfl rfl (by rfl) ?_; simp only [pA]
        refine wpQuiet_nil (laterE hM5 ?_)
        intro xw7 M8 hbxw7 hM8 lM8
        have lo9 := lo6.trans (hbxw7.mono (by omega))
        clear lo6 hbxw7
        go_upto_region 7 with fail
        refine wp_region_later1 (M8) ?_
        try simp only [pA]
        go_big_quiet_step (fail)
        refine later_b (x := (.tmp 13)) (y := (.const (.int .u64 256))) rfl (BinRun.is C2.out (bin_geq _ (x >>> (32#64).toNat) 256#64)) rfl rfl (by rfl) ?_; simp only [pA]
        refine wpQuiet_nil (laterE hM8 ?_)
        intro xw10 M11 hbxw10 hM11 lM11
        have lo12 := lo9.trans (hbxw10.mono (by omega))
        clear lo9 hbxw10
        go_upto_region 8 with fail
        refine wp_region_later1 (M11) ?_
        try simp only [pA]
        go_big_quiet_step (fail)
        refine later_b (x := (.tmp 15)) (y := (.const (.int .u64 8))) rfl (bin_shru _ (x >>> (32#64).toNat) 8#64) rfl rfl (by rfl) ?_; simp only [pA]
        go_big_quiet_step (fail)
        refine wpQuiet_nil (laterE hM11 ?_)
        intro xw13 M14 hbxw13 hM14 lM14
        have lo15 := lo12.trans (hbxw13.mono (by omega))
        clear lo12 hbxw13
        go_upto_region 9 with fail
        refine wp_region_lit ?_
        try simp only [pA]
        refine wpl_run rfl (.int .i64 32) xw13 (by kernel_rfl) ?_; simp only [pA]
        refine wpl_run rfl (.int .i64 40) xw13 (by kernel_rfl) ?_; simp only [pA]
        refine wpl_run rfl (.int .i64 40) xw13 (by kernel_rfl) ?_; simp only [pA]
        go_upto_region 10 with fail
        refine wp_region_lit ?_
        try simp only [pA]
        refine wpl_run rfl (.int .i64 ((40 : Nat) : Int)) _ (run_mv (x := .tmp 2) rfl _ rfl) ?_; simp only [pA]
        refine wpl_run rfl (Q ((x >>> (32#64).toNat) >>> (8#64).toNat)) _ (run_mv (x := .tmp 0) rfl _ rfl) ?_; simp only [pA]
        refine wpl_run rfl (.int .u8 ((((x >>> (32#64).toNat) >>> (8#64).toNat)).toNat : Int)) _ (run_u8 (x := .tmp 20) rfl und64 und8' rfl HB.out _) ?_; simp only [pA]
        refine wpl_run rfl (.int .u8 (blen (((x >>> (32#64).toNat) >>> (8#64).toNat)).toNat : Int)) _ (run_tab (x := .tmp 21) rfl undStr HB.out rfl (by decide +kernel)) ?_; simp only [pA]
        refine wpl_run rfl (.int .i64 (blen (((x >>> (32#64).toNat) >>> (8#64).toNat)).toNat : Int)) _ (run_i8 (x := .tmp 22) rfl und8' undInt rfl HL.out _) ?_; simp only [pA]
        refine wpl_run rfl (.int .i64 ((40 + blen (((x >>> (32#64).toNat) >>> (8#64).toNat)).toNat : Nat) : Int)) _ (run_ladd (x := .tmp 19) (y := .tmp 23) rfl rfl rfl HA.out) ?_; simp only [pA]
        go_wp2_with fail
        go_ret
        exact ⟨congrArg (fun n : Nat => Ending.returned (Value.int .i64 (n : Int))) E.out.symm, lo15⟩
    · cases c2 : BitVec.ule 256#64 ((x >>> (32#64).toNat) >>> (16#64).toNat)
      · have C0 := hid c0
        have C1 := hid c1
        have C2 := hid c2
        have q0 := ule_le 4294967296 (by decide) x
        rw [show BitVec.ofNat 64 4294967296 = 4294967296#64 from rfl, c0] at q0
        have r0 := of_decide_eq_true q0.symm
        have s0 := blen_shift (x).toNat 32 r0
        have t0 : ((x >>> (32#64).toNat)).toNat = (x).toNat / 2 ^ 32 := shr_nat _ _
        rw [← t0] at s0
        have q1 := ule_le 65536 (by decide) (x >>> (32#64).toNat)
        rw [show BitVec.ofNat 64 65536 = 65536#64 from rfl, c1] at q1
        have r1 := of_decide_eq_true q1.symm
        have s1 := blen_shift ((x >>> (32#64).toNat)).toNat 16 r1
        have t1 : (((x >>> (32#64).toNat) >>> (16#64).toNat)).toNat = ((x >>> (32#64).toNat)).toNat / 2 ^ 16 := shr_nat _ _
        rw [← t1] at s1
        have q2 := ule_le 256 (by decide) ((x >>> (32#64).toNat) >>> (16#64).toNat)
        rw [show BitVec.ofNat 64 256 = 256#64 from rfl, c2] at q2
        have r2 := of_decide_eq_false q2.symm
        have xl := x.isLt
        have hB : (((x >>> (32#64).toNat) >>> (16#64).toNat)).toNat < 256 := by omega
        have HB := hid hB
        have hL := blen_le (m := 8) hB
        have HL := hid (show blen (((x >>> (32#64).toNat) >>> (16#64).toNat)).toNat < 1000 by omega)
        have HA := hid (show 48 + blen (((x >>> (32#64).toNat) >>> (16#64).toNat)).toNat < 1000 by omega)
        have E := hid (show blen x.toNat = 48 + blen (((x >>> (32#64).toNat) >>> (16#64).toNat)).toNat by omega)
        clear xl hB hL c0 c1 c2 q0 q1 q2 r0 r1 r2 s0 t0 s1 t1
        go_enter Tryd.func78, Tryd.ntmps78
        have lo0 : Below N w w := Below.refl N w
        go_upto_region 1 with fail
        refine wp_region_later1 (N) ?_
        try simp only [pA]
        go_big_quiet_step (fail)
        refine later_b (x := (.tmp 3)) (y := (.const (.int .u64 4294967296))) rfl (BinRun.is C0.out (bin_geq _ x 4294967296#64)) rfl rfl (by rfl) ?_; simp only [pA]
        refine wpQuiet_nil (laterE hN ?_)
        intro xw1 M2 hbxw1 hM2 lM2
        have lo3 := lo0.trans (hbxw1.mono (by omega))
        clear lo0 hbxw1
        go_upto_region 2 with fail
        refine wp_region_later1 (M2) ?_
        try simp only [pA]
        go_big_quiet_step (fail)
        refine later_b (x := (.tmp 5)) (y := (.const (.int .u64 32))) rfl (bin_shru _ x 32#64) rfl rfl (by rfl) ?_; simp only [pA]
        go_big_quiet_step (fail)
        refine wpQuiet_nil (laterE hM2 ?_)
        intro xw4 M5 hbxw4 hM5 lM5
        have lo6 := lo3.trans (hbxw4.mono (by omega))
        clear lo3 hbxw4
        go_upto_region 4 with fail
        refine wp_region_later1 (M5) ?_
        try simp only [pA]
        go_big_quiet_step (fail)
        refine later_b (x := (.tmp 7)) (y := (.const (.int .u64 65536))) rfl (BinRun.is C1.out (bin_geq _ (x >>> (32#64).toNat) 65536#64)) rfl rfl (by rfl) ?_; simp only [pA]
        refine wpQuiet_nil (laterE hM5 ?_)
        intro xw7 M8 hbxw7 hM8 lM8
        have lo9 := lo6.trans (hbxw7.mono (by omega))
        clear lo6 hbxw7
        go_upto_region 5 with fail
        refine wp_region_later1 (M8) ?_
        try simp only [pA]
        go_big_quiet_step (fail)
        refine later_b (x := (.tmp 9)) (y := (.const (.int .u64 16))) rfl (bin_shru _ (x >>> (32#64).toNat) 16#64) rfl rfl (by rfl) ?_; simp only [pA]
        go_big_quiet_step (fail)
        refine wpQuiet_nil (laterE hM8 ?_)
        intro xw10 M11 hbxw10 hM11 lM11
        have lo12 := lo9.trans (hbxw10.mono (by omega))
        clear lo9 hbxw10
        go_upto_region 6 with fail
        refine wp_region_lit ?_
        try simp only [pA]
        refine wpl_run rfl (.int .i64 32) xw10 (by kernel_rfl) ?_; simp only [pA]
        refine wpl_run rfl (.int .i64 48) xw10 (by kernel_rfl) ?_; simp only [pA]
        refine wpl_run rfl (.int .i64 48) xw10 (by kernel_rfl) ?_; simp only [pA]
        go_upto_region 7 with fail
        refine wp_region_later1 (M11) ?_
        try simp only [pA]
        go_big_quiet_step (fail)
        refine later_b (x := (.tmp 13)) (y := (.const (.int .u64 256))) rfl (BinRun.is C2.out (bin_geq _ ((x >>> (32#64).toNat) >>> (16#64).toNat) 256#64)) rfl rfl (by rfl) ?_; simp only [pA]
        refine wpQuiet_nil (laterE hM11 ?_)
        intro xw13 M14 hbxw13 hM14 lM14
        have lo15 := lo12.trans (hbxw13.mono (by omega))
        clear lo12 hbxw13
        go_upto_region 10 with fail
        refine wp_region_lit ?_
        try simp only [pA]
        refine wpl_run rfl (.int .i64 ((48 : Nat) : Int)) _ (run_mv (x := .tmp 2) rfl _ rfl) ?_; simp only [pA]
        refine wpl_run rfl (Q ((x >>> (32#64).toNat) >>> (16#64).toNat)) _ (run_mv (x := .tmp 0) rfl _ rfl) ?_; simp only [pA]
        refine wpl_run rfl (.int .u8 ((((x >>> (32#64).toNat) >>> (16#64).toNat)).toNat : Int)) _ (run_u8 (x := .tmp 20) rfl und64 und8' rfl HB.out _) ?_; simp only [pA]
        refine wpl_run rfl (.int .u8 (blen (((x >>> (32#64).toNat) >>> (16#64).toNat)).toNat : Int)) _ (run_tab (x := .tmp 21) rfl undStr HB.out rfl (by decide +kernel)) ?_; simp only [pA]
        refine wpl_run rfl (.int .i64 (blen (((x >>> (32#64).toNat) >>> (16#64).toNat)).toNat : Int)) _ (run_i8 (x := .tmp 22) rfl und8' undInt rfl HL.out _) ?_; simp only [pA]
        refine wpl_run rfl (.int .i64 ((48 + blen (((x >>> (32#64).toNat) >>> (16#64).toNat)).toNat : Nat) : Int)) _ (run_ladd (x := .tmp 19) (y := .tmp 23) rfl rfl rfl HA.out) ?_; simp only [pA]
        go_wp2_with fail
        go_ret
        exact ⟨congrArg (fun n : Nat => Ending.returned (Value.int .i64 (n : Int))) E.out.symm, lo15⟩
      · have C0 := hid c0
        have C1 := hid c1
        have C2 := hid c2
        have q0 := ule_le 4294967296 (by decide) x
        rw [show BitVec.ofNat 64 4294967296 = 4294967296#64 from rfl, c0] at q0
        have r0 := of_decide_eq_true q0.symm
        have s0 := blen_shift (x).toNat 32 r0
        have t0 : ((x >>> (32#64).toNat)).toNat = (x).toNat / 2 ^ 32 := shr_nat _ _
        rw [← t0] at s0
        have q1 := ule_le 65536 (by decide) (x >>> (32#64).toNat)
        rw [show BitVec.ofNat 64 65536 = 65536#64 from rfl, c1] at q1
        have r1 := of_decide_eq_true q1.symm
        have s1 := blen_shift ((x >>> (32#64).toNat)).toNat 16 r1
        have t1 : (((x >>> (32#64).toNat) >>> (16#64).toNat)).toNat = ((x >>> (32#64).toNat)).toNat / 2 ^ 16 := shr_nat _ _
        rw [← t1] at s1
        have q2 := ule_le 256 (by decide) ((x >>> (32#64).toNat) >>> (16#64).toNat)
        rw [show BitVec.ofNat 64 256 = 256#64 from rfl, c2] at q2
        have r2 := of_decide_eq_true q2.symm
        have s2 := blen_shift (((x >>> (32#64).toNat) >>> (16#64).toNat)).toNat 8 r2
        have t2 : ((((x >>> (32#64).toNat) >>> (16#64).toNat) >>> (8#64).toNat)).toNat = (((x >>> (32#64).toNat) >>> (16#64).toNat)).toNat / 2 ^ 8 := shr_nat _ _
        rw [← t2] at s2
        have xl := x.isLt
        have hB : ((((x >>> (32#64).toNat) >>> (16#64).toNat) >>> (8#64).toNat)).toNat < 256 := by omega
        have HB := hid hB
        have hL := blen_le (m := 8) hB
        have HL := hid (show blen ((((x >>> (32#64).toNat) >>> (16#64).toNat) >>> (8#64).toNat)).toNat < 1000 by omega)
        have HA := hid (show 56 + blen ((((x >>> (32#64).toNat) >>> (16#64).toNat) >>> (8#64).toNat)).toNat < 1000 by omega)
        have E := hid (show blen x.toNat = 56 + blen ((((x >>> (32#64).toNat) >>> (16#64).toNat) >>> (8#64).toNat)).toNat by omega)
        clear xl hB hL c0 c1 c2 q0 q1 q2 r0 r1 r2 s0 t0 s1 t1 s2 t2
        go_enter Tryd.func78, Tryd.ntmps78
        have lo0 : Below N w w := Below.refl N w
        go_upto_region 1 with fail
        refine wp_region_later1 (N) ?_
        try simp only [pA]
        go_big_quiet_step (fail)
        refine later_b (x := (.tmp 3)) (y := (.const (.int .u64 4294967296))) rfl (BinRun.is C0.out (bin_geq _ x 4294967296#64)) rfl rfl (by rfl) ?_; simp only [pA]
        refine wpQuiet_nil (laterE hN ?_)
        intro xw1 M2 hbxw1 hM2 lM2
        have lo3 := lo0.trans (hbxw1.mono (by omega))
        clear lo0 hbxw1
        go_upto_region 2 with fail
        refine wp_region_later1 (M2) ?_
        try simp only [pA]
        go_big_quiet_step (fail)
        refine later_b (x := (.tmp 5)) (y := (.const (.int .u64 32))) rfl (bin_shru _ x 32#64) rfl rfl (by rfl) ?_; simp only [pA]
        go_big_quiet_step (fail)
        refine wpQuiet_nil (laterE hM2 ?_)
        intro xw4 M5 hbxw4 hM5 lM5
        have lo6 := lo3.trans (hbxw4.mono (by omega))
        clear lo3 hbxw4
        go_upto_region 4 with fail
        refine wp_region_later1 (M5) ?_
        try simp only [pA]
        go_big_quiet_step (fail)
        refine later_b (x := (.tmp 7)) (y := (.const (.int .u64 65536))) rfl (BinRun.is C1.out (bin_geq _ (x >>> (32#64).toNat) 65536#64)) rfl rfl (by rfl) ?_; simp only [pA]
        refine wpQuiet_nil (laterE hM5 ?_)
        intro xw7 M8 hbxw7 hM8 lM8
        have lo9 := lo6.trans (hbxw7.mono (by omega))
        clear lo6 hbxw7
        go_upto_region 5 with fail
        refine wp_region_later1 (M8) ?_
        try simp only [pA]
        go_big_quiet_step (fail)
        refine later_b (x := (.tmp 9)) (y := (.const (.int .u64 16))) rfl (bin_shru _ (x >>> (32#64).toNat) 16#64) rfl rfl (by rfl) ?_; simp only [pA]
        go_big_quiet_step (fail)
        refine wpQuiet_nil (laterE hM8 ?_)
        intro xw10 M11 hbxw10 hM11 lM11
        have lo12 := lo9.trans (hbxw10.mono (by omega))
        clear lo9 hbxw10
        go_upto_region 6 with fail
        refine wp_region_lit ?_
        try simp only [pA]
        refine wpl_run rfl (.int .i64 32) xw10 (by kernel_rfl) ?_; simp only [pA]
        refine wpl_run rfl (.int .i64 48) xw10 (by kernel_rfl) ?_; simp only [pA]
        refine wpl_run rfl (.int .i64 48) xw10 (by kernel_rfl) ?_; simp only [pA]
        go_upto_region 7 with fail
        refine wp_region_later1 (M11) ?_
        try simp only [pA]
        go_big_quiet_step (fail)
        refine later_b (x := (.tmp 13)) (y := (.const (.int .u64 256))) rfl (BinRun.is C2.out (bin_geq _ ((x >>> (32#64).toNat) >>> (16#64).toNat) 256#64)) rfl rfl (by rfl) ?_; simp only [pA]
        refine wpQuiet_nil (laterE hM11 ?_)
        intro xw13 M14 hbxw13 hM14 lM14
        have lo15 := lo12.trans (hbxw13.mono (by omega))
        clear lo12 hbxw13
        go_upto_region 8 with fail
        refine wp_region_later1 (M14) ?_
        try simp only [pA]
        go_big_quiet_step (fail)
        refine later_b (x := (.tmp 15)) (y := (.const (.int .u64 8))) rfl (bin_shru _ ((x >>> (32#64).toNat) >>> (16#64).toNat) 8#64) rfl rfl (by rfl) ?_; simp only [pA]
        go_big_quiet_step (fail)
        refine wpQuiet_nil (laterE hM14 ?_)
        intro xw16 M17 hbxw16 hM17 lM17
        have lo18 := lo15.trans (hbxw16.mono (by omega))
        clear lo15 hbxw16
        go_upto_region 9 with fail
        refine wp_region_lit ?_
        try simp only [pA]
        refine wpl_run rfl (.int .i64 48) xw16 (by kernel_rfl) ?_; simp only [pA]
        refine wpl_run rfl (.int .i64 56) xw16 (by kernel_rfl) ?_; simp only [pA]
        refine wpl_run rfl (.int .i64 56) xw16 (by kernel_rfl) ?_; simp only [pA]
        go_upto_region 10 with fail
        refine wp_region_lit ?_
        try simp only [pA]
        refine wpl_run rfl (.int .i64 ((56 : Nat) : Int)) _ (run_mv (x := .tmp 2) rfl _ rfl) ?_; simp only [pA]
        refine wpl_run rfl (Q (((x >>> (32#64).toNat) >>> (16#64).toNat) >>> (8#64).toNat)) _ (run_mv (x := .tmp 0) rfl _ rfl) ?_; simp only [pA]
        refine wpl_run rfl (.int .u8 (((((x >>> (32#64).toNat) >>> (16#64).toNat) >>> (8#64).toNat)).toNat : Int)) _ (run_u8 (x := .tmp 20) rfl und64 und8' rfl HB.out _) ?_; simp only [pA]
        refine wpl_run rfl (.int .u8 (blen ((((x >>> (32#64).toNat) >>> (16#64).toNat) >>> (8#64).toNat)).toNat : Int)) _ (run_tab (x := .tmp 21) rfl undStr HB.out rfl (by decide +kernel)) ?_; simp only [pA]
        refine wpl_run rfl (.int .i64 (blen ((((x >>> (32#64).toNat) >>> (16#64).toNat) >>> (8#64).toNat)).toNat : Int)) _ (run_i8 (x := .tmp 22) rfl und8' undInt rfl HL.out _) ?_; simp only [pA]
        refine wpl_run rfl (.int .i64 ((56 + blen ((((x >>> (32#64).toNat) >>> (16#64).toNat) >>> (8#64).toNat)).toNat : Nat) : Int)) _ (run_ladd (x := .tmp 19) (y := .tmp 23) rfl rfl rfl HA.out) ?_; simp only [pA]
        go_wp2_with fail
        go_ret
        exact ⟨congrArg (fun n : Nat => Ending.returned (Value.int .i64 (n : Int))) E.out.symm, lo18⟩
end Go.Proofs.YtbbfdehipgkjmaaDoor
namespace Go.Proofs.YtbbfdehipgkjmaaDoor
open Go Go.RowKit
def uMax (p q : W) : W := if p.ult q then q else p
def uMin (p q : W) : W := if q.ult p then q else p
def sMax (p q : W) : W := if p.slt q then q else p
def sMin (p q : W) : W := if q.slt p then q else p
theorem ult_qn (p q : W) : p.ult q = decide (qn p < qn q) := by unfold BitVec.ult qn; simp
section
variable {P : Program} {a : Act} {o : Oper} {w : World} {x y : Operand} {T : TypeId}
theorem run_maxI {k : IntKind} {m n : Int} (ho : o.op = .call { callee := .builtin .max, args := #[x, y], argTypes := #[T, T] }) (hx : a.eval x = .int k m) (hy : a.eval y = .int k n) : (execOp a.eval o).run P w = .ok (.value (.int k (if n > m then n else m))) w := by
  have hrun : (Builtin.max_ #[T, T] o.type #[.int k m, .int k n]).run P w = .ok (.int k (if n > m then n else m)) w := by
    simp [Builtin.max_, Builtin.max2]
  simp [execOp, ho, resolve, invoke, builtin, hx, hy, hrun, Result.andThen]
theorem run_minI {k : IntKind} {m n : Int} (ho : o.op = .call { callee := .builtin .min, args := #[x, y], argTypes := #[T, T] }) (hx : a.eval x = .int k m) (hy : a.eval y = .int k n) : (execOp a.eval o).run P w = .ok (.value (.int k (if n < m then n else m))) w := by
  have hrun : (Builtin.min_ #[T, T] o.type #[.int k m, .int k n]).run P w = .ok (.int k (if n < m then n else m)) w := by
    simp [Builtin.min_, Builtin.min2]
  simp [execOp, ho, resolve, invoke, builtin, hx, hy, hrun, Result.andThen]
theorem run_maxQ {p q : W} (ho : o.op = .call { callee := .builtin .max, args := #[x, y], argTypes := #[T, T] }) (hx : a.eval x = Q p) (hy : a.eval y = Q q) (w : World) : (execOp a.eval o).run P w = .ok (.value (Q (uMax p q))) w := by
  rw [run_maxI ho hx hy]
  have e : (if qn q > qn p then qn q else qn p) = qn (uMax p q) := by
    unfold uMax
    rw [ult_qn]
    by_cases h : qn p < qn q <;> simp [h]
  rw [e]; rfl
theorem run_minQ {p q : W} (ho : o.op = .call { callee := .builtin .min, args := #[x, y], argTypes := #[T, T] }) (hx : a.eval x = Q p) (hy : a.eval y = Q q) (w : World) : (execOp a.eval o).run P w = .ok (.value (Q (uMin p q))) w := by
  rw [run_minI ho hx hy]
  have e : (if qn q < qn p then qn q else qn p) = qn (uMin p q) := by
    unfold uMin
    rw [ult_qn]
    by_cases h : qn q < qn p <;> simp [h]
  rw [e]; rfl
theorem run_maxS {p q : W} (ho : o.op = .call { callee := .builtin .max, args := #[x, y], argTypes := #[T, T] }) (hx : a.eval x = S p) (hy : a.eval y = S q) (w : World) : (execOp a.eval o).run P w = .ok (.value (S (sMax p q))) w := by
  rw [run_maxI ho hx hy]
  have e : (if sn q > sn p then sn q else sn p) = sn (sMax p q) := by
    unfold sMax
    rw [show p.slt q = decide (sn p < sn q) from rfl]
    by_cases h : sn p < sn q <;> simp [h]
  rw [e]; rfl
theorem run_minS {p q : W} (ho : o.op = .call { callee := .builtin .min, args := #[x, y], argTypes := #[T, T] }) (hx : a.eval x = S p) (hy : a.eval y = S q) (w : World) : (execOp a.eval o).run P w = .ok (.value (S (sMin p q))) w := by
  rw [run_minI ho hx hy]
  have e : (if sn q < sn p then sn q else sn p) = sn (sMin p q) := by
    unfold sMin
    rw [show q.slt p = decide (sn q < sn p) from rfl]
    by_cases h : sn q < sn p <;> simp [h]
  rw [e]; rfl
theorem run_lsub {n : Nat} {ty : TypeId} (ho : o.op = .binOp .sub T x y ty) (hx : a.eval x = .int .i64 64) (hy : a.eval y = .int .i64 (n : Int)) (h : n ≤ 64) (w : World) : (execOp a.eval o).run P w = .ok (.value (.int .i64 ((64 - n : Nat) : Int))) w := by
  refine binRun_of (k := .i64) (k2 := .i64) (r := .int .i64 ((64 - n : Nat) : Int)) (fun w => ?_) _ o x y ty w ho hx hy
  show (Op.intArith .sub .i64 64 (n : Int)).run P w = _
  have e : IntKind.i64.wrap (64 - (n : Int)) = ((64 - n : Nat) : Int) := by rw [wrap_s, sn_ofInt]; split <;> omega
  rw [← e]; rfl
end
theorem blen_64 (x : W) : blen x.toNat ≤ 64 := blen_le x.isLt
/-- All numbers whose upper bits are those that two numbers have alike. -/
def lowM (x y : W) : W := BitVec.allOnes 64 >>> (64 - blen (x ^^^ y).toNat)
def sAlike (x y : W) : Nm := ⟨x &&& ~~~lowM x y, lowM x y⟩
theorem set_lo (r : Rn) (v : W) (j : Nat) : upd (rC r) 2 (Q v) j = rC { r with lo := v } j := by unfold upd rC; by_cases h : j = 2 <;> simp [h]
theorem set_hi (r : Rn) (v : W) (j : Nat) : upd (rC r) 3 (Q v) j = rC { r with hi := v } j := by unfold upd rC; by_cases h : j = 3 <;> simp [h]
theorem set_sl (r : Rn) (v : W) (j : Nat) : upd (rC r) 4 (S v) j = rC { r with sl := v } j := by unfold upd rC; by_cases h : j = 4 <;> simp [h]
theorem set_sh (r : Rn) (v : W) (j : Nat) (hj : j < 6) : upd (rC r) 5 (S v) j = rC { r with sh := v } j := by
  unfold upd rC
  rcases (show j = 0 ∨ j = 1 ∨ j = 2 ∨ j = 3 ∨ j = 4 ∨ j = 5 by omega) with rfl | rfl | rfl | rfl | rfl | rfl <;> simp
set_option maxRecDepth 100000 in
set_option maxHeartbeats 4000000 in
theorem Lead_any (x : W) (w : World) (N : Nat) (hN : Sz w N) : Calls Tryd.prog 59 #[Q x] w fun e w' => e = .returned (.int .i64 ((64 - blen x.toNat : Nat) : Int)) ∧ Below N w w' := by
  have hb := hid (blen_64 x)
  go_enter Tryd.func59, Tryd.ntmps59
  have lo0 : Below N w w := Below.refl N w
  go_upto_region 1 with fail
  refine wp_region_later1 (N) ?_
  go_big_quiet_step (fail)
  go_big_quiet_step ((go_at_call 78; exact later_of hN _ (fun K hK hKN => Len_any x _ K hK)))
  refine later_val (fun q => run_lsub (x := .const (.int .i64 64)) (y := .tmp 4) rfl rfl rfl hb.out q.w') (by rfl) ?_; simp only [pA]
  go_big_quiet_step (fail)
  refine wpQuiet_nil (laterE hN ?_)
  intro xw1 M1 hbxw1 hM1 lM1
  have lo2 := lo0.trans (hbxw1.mono (by omega))
  clear lo0 hbxw1
  go_wp2_with fail
  go_ret
  exact ⟨rfl, lo2⟩
set_option maxRecDepth 100000 in
set_option maxHeartbeats 4000000 in
theorem Alike_any (x y : W) (w : World) (N : Nat) (hN : Sz w N) : Calls Tryd.prog 37 #[Q x, Q y] w fun e w' => e = .returned (nV (sAlike x y)) ∧ Below N w w' := by
  obtain ⟨dT, u1, u2⟩ := undT
  unfold nV
  go_enter Tryd.func37, Tryd.ntmps37
  go_upto_region 1 with (first
    | (refine wpl_alloc rfl 25 rfl 2 (nC zeroN) zeT (N) hN ?_; intro w1 hN1 hb1 hh1)
    | fail)
  have lo0 : Below N w w1 := hb1
  have k1 := hh1
  clear hh1 hb1
  go_upto_region 1 with fail
  refine wp_region_later1 ((N + 1)) ?_
  try simp only [pA]
  iterate 2 (go_big_quiet_step (fail))
  refine later_b (x := (.tmp 6)) (y := (.tmp 7)) rfl (bin_xor _ x y) rfl rfl (by rfl) ?_; simp only [pA]
  go_big_quiet_step ((go_at_call 59; exact later_of hN1 _ (fun K hK hKN => Lead_any (x ^^^ y) _ K hK)))
  refine later_b (x := (.const (.int .u64 18446744073709551615))) (y := (.tmp 9)) rfl (bin_shr _ 18446744073709551615#64 (64 - blen ((x ^^^ y)).toNat)) rfl rfl (by rfl) ?_; simp only [pA]
  go_big_quiet_step (fail)
  refine wpQuiet_nil (laterE hN1 ?_)
  intro xw2 M3 hbxw2 hM3 lM3
  have k4 := k1.below hbxw2 (by omega)
  have lo5 := lo0.trans (hbxw2.mono (by omega))
  clear k1 lo0 hbxw2
  go_upto_region 2 with fail
  refine wp_region_lit ?_
  try simp only [pA]
  refine wpl_run rfl (Q x) _ (run_mv (x := (.tmp 0)) rfl _ rfl) ?_; simp only [pA]
  refine wpl_run rfl (Q (18446744073709551615#64 >>> (64 - blen ((x ^^^ y)).toNat))) _ (run_mv (x := (.tmp 5)) rfl _ rfl) ?_; simp only [pA]
  refine wpl_b (x := (.tmp 11)) (y := (.tmp 12)) rfl rfl (bin_andn _ x (18446744073709551615#64 >>> (64 - blen ((x ^^^ y)).toNat))) rfl rfl ?_; simp only [pA]
  refine wpl_run rfl (Q (18446744073709551615#64 >>> (64 - blen ((x ^^^ y)).toNat))) _ (run_mv (x := (.tmp 5)) rfl _ rfl) ?_; simp only [pA]
  refine wpl_run rfl (Value.agg (cellsOf (nC ⟨(x &&& ~~~(18446744073709551615#64 >>> (64 - blen ((x ^^^ y)).toNat))), (18446744073709551615#64 >>> (64 - blen ((x ^^^ y)).toNat))⟩) 2)) _ (run_bd 25 _ rfl (cellsOf (nC ⟨(x &&& ~~~(18446744073709551615#64 >>> (64 - blen ((x ^^^ y)).toNat))), (18446744073709551615#64 >>> (64 - blen ((x ^^^ y)).toNat))⟩) 2) (by kernel_rfl) _) ?_; simp only [pA]
  refine wpl_store rfl 25 (.tmp 4) (.tmp 15) rfl N 2 (nC ⟨(x &&& ~~~(18446744073709551615#64 >>> (64 - blen ((x ^^^ y)).toNat))), (18446744073709551615#64 >>> (64 - blen ((x ^^^ y)).toNat))⟩) rfl rfl 25 _ k4 szT (fun j _ => nC_one _ j) ?_
  intro xw6 t7 k8; simp only [pA]
  have lo9 := t7.below lo5 (by omega)
  have h10 := t7.sz hM3
  clear k4 lo5 hM3 t7
  go_wp2_with fail
  refine post_n rfl N rfl k8 ⟨dT, u1, u2⟩ szT rfl ?_
  exact ⟨rfl, lo9⟩
end Go.Proofs.YtbbfdehipgkjmaaDoor
