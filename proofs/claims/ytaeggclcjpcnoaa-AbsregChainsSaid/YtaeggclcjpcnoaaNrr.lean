/- Contracts of the document's bits: what a bit may be; a bit that may be these. Contracts of the document's bits: the lower ones, shifted ones. Contracts of the document's bits: of either, of both. What is told of both, of either, and of one within another one, is the document's. -/
import Derived.Test.YtaeggclcjpcnoaaNk
namespace Go.Proofs.Ytaeggclcjpcnoaa
open Go Go.RowKit
def bC (p : Bool × Bool) : Nat → Value := fun j => if j = 0 then .bool p.1 else .bool p.2
def bV (p : Bool × Bool) : Value := .agg (cellsOf (bC p) 2)
theorem bC_one (p : Bool × Bool) (j : Nat) : (bC p j).oneCell' = true := by unfold bC; split <;> rfl
theorem b_cells {w : World} {b T : Nat} {p : Bool × Bool} (h : Has w b T 2 (bC p)) : w.cell? ⟨b, 0, none⟩ = some (.bool p.1) ∧ w.cell? ⟨b, 1, none⟩ = some (.bool p.2) := ⟨h.cell (by omega), h.cell (by omega)⟩
theorem undB : ∃ d, Try.prog.underlying 140 = some d ∧ d.isRow = true := row_ofN (by kernel_rfl)
theorem szB : (Try.prog.info? 140).map (·.size) = some 2 := by kernel_rfl
theorem zeB : (Try.prog.info? 140).map (fun i => (i.zero, i.size)) = some (some (.agg (cellsOf (bC (false, false)) 2)), 2) := by kernel_rfl
theorem sz1b : (Try.prog.info? 4).map (·.size) = some 1 := by kernel_rfl
theorem bit_shr (x : W) (i : Nat) : (x >>> i &&& 1#64 == 1#64) = x.getLsbD i := by
  rw [Bool.eq_iff_iff, beq_iff_eq]
  constructor
  · intro h
    have := congrArg (fun z => z.getLsbD 0) h
    simpa [BitVec.getLsbD_ushiftRight] using this
  · intro h
    apply BitVec.eq_of_getLsbD_eq
    intro j hj
    rw [BitVec.getLsbD_and, BitVec.getLsbD_ushiftRight]
    by_cases e : j = 0
    · subst e; simp [h]
    · simp [BitVec.getLsbD_one, e]
set_option maxRecDepth 100000 in
set_option maxHeartbeats 2000000 in
theorem Bits_any (a : Nm) (i : Nat) (w : World) (N : Nat) (hN : Sz w N) : Calls Try.prog 100 #[nV a, .int .i64 (i : Int)] w fun e w' => e = .returned (bV (rBits a i)) ∧ Below N w w' := by
  obtain ⟨dB, u1, u2⟩ := undB
  have i0 : (0 : Int) ≤ (i : Int) := by omega
  unfold nV bV
  go_enter Try.func100, Try.ntmps100
  go_upto_region 1 with (first
    | (refine wpl_box rfl 32 (.tmp 0) rfl 2 _ rfl (N) hN ?_; intro w1 hN1 hb1 hh1)
    | (refine wpl_alloc rfl 140 rfl 2 (bC (false, false)) zeB (N + 1) hN1 ?_; intro w2 hN2 hb2 hh2)
    | fail)
  have lo0 : Below N w w2 := (hb1.trans (hb2.mono (by omega)))
  have k1 := (hh1.below hb2 (by omega))
  have k2 := hh2
  clear hh1 hb1 hh2 hb2 hN1
  go_upto_region 1 with fail
  cases hm : a.m.getLsbD i
  · have H := hid (show (a.m >>> i &&& 1#64 == 1#64) = false by rw [bit_shr, hm])
    have E := hid (show rBits a i = (!a.v.getLsbD i, a.v.getLsbD i) by unfold rBits; rw [hm]; rfl)
    clear hm
    obtain ⟨c3, c4⟩ := n_cells k1
    refine wp_region_later1 ((N + 1 + 1)) ?_
    try simp only [pA]
    go_big_quiet_step (fail)
    refine later_c1 hN2 22 (.tmp 6) rfl rfl und64 rfl c4 (by rfl) ?_; simp only [pA]
    go_big_quiet_step (fail)
    refine later_b (x := (.tmp 7)) (y := (.tmp 8)) rfl (bin_shr _ a.m i) rfl rfl (by rfl) ?_; simp only [pA]
    refine later_b (x := (.tmp 9)) (y := (.const (.int .u64 1))) rfl (bin_and _ (a.m >>> i) 1#64) rfl rfl (by rfl) ?_; simp only [pA]
    refine later_b (x := (.tmp 10)) (y := (.const (.int .u64 1))) rfl (BinRun.is H.out (bin_eql _ ((a.m >>> i) &&& 1#64) 1#64)) rfl rfl (by rfl) ?_; simp only [pA]
    refine wpQuiet_nil ?_
    rintro xw5 ⟨qxw5, exw5⟩
    have hbxw5 := qxw5.b
    rw [← exw5] at hbxw5
    clear qxw5 exw5
    obtain ⟨M6, hM6⟩ := sz_some xw5
    have lM6 := below_sz hbxw5 hN2 hM6
    have k7 := k1.below hbxw5 (by omega)
    have k8 := k2.below hbxw5 (by omega)
    have lo9 := lo0.trans (hbxw5.mono (by omega))
    clear k1 c3 c4 k2 lo0 hbxw5
    have H2 := hid (bit_shr a.v i)
    go_upto_region 3 with fail
    obtain ⟨c10, c11⟩ := n_cells k7
    refine wp_region_later1 (M6) ?_
    try simp only [pA]
    go_big_quiet_step (fail)
    refine later_c1 hM6 22 (.tmp 13) rfl rfl und64 rfl c10 (by rfl) ?_; simp only [pA]
    go_big_quiet_step (fail)
    refine later_b (x := (.tmp 14)) (y := (.tmp 15)) rfl (bin_shr _ a.v i) rfl rfl (by rfl) ?_; simp only [pA]
    refine later_b (x := (.tmp 16)) (y := (.const (.int .u64 1))) rfl (bin_and _ (a.v >>> i) 1#64) rfl rfl (by rfl) ?_; simp only [pA]
    refine later_b (x := (.tmp 17)) (y := (.const (.int .u64 1))) rfl (BinRun.is H2.out (bin_eql _ ((a.v >>> i) &&& 1#64) 1#64)) rfl rfl (by rfl) ?_; simp only [pA]
    go_big_quiet_step (fail)
    refine wpQuiet_nil ?_
    rintro xw12 ⟨qxw12, exw12⟩
    have hbxw12 := qxw12.b
    rw [← exw12] at hbxw12
    clear qxw12 exw12
    obtain ⟨M13, hM13⟩ := sz_some xw12
    have lM13 := below_sz hbxw12 hM6 hM13
    have k14 := k7.below hbxw12 (by omega)
    have k15 := k8.below hbxw12 (by omega)
    have lo16 := lo9.trans (hbxw12.mono (by omega))
    clear k7 c10 c11 k8 lo9 hbxw12
    go_wp2_with (first
      | (refine wpl_build rfl 140 _ rfl (cellsOf (bC (!a.v.getLsbD i, a.v.getLsbD i)) 2) (by kernel_rfl) ?_)
      | (refine wpl_store rfl 140 (.tmp 4) (.tmp 22) rfl (N + 1) 2 (bC (!a.v.getLsbD i, a.v.getLsbD i)) rfl rfl 140 _ k15 szB (fun j _ => bC_one _ j) ?_; intro wq tq hq)
      | fail)
    refine post_cell rfl (N + 1) rfl hq dB u1 u2 szB rfl ?_
    exact ⟨by rw [E.out], tq.below lo16 (by omega)⟩
  · have H := hid (show (a.m >>> i &&& 1#64 == 1#64) = true by rw [bit_shr, hm])
    have E := hid (show rBits a i = (true, true) by unfold rBits; rw [hm]; rfl)
    clear hm
    obtain ⟨c3, c4⟩ := n_cells k1
    refine wp_region_later1 ((N + 1 + 1)) ?_
    try simp only [pA]
    go_big_quiet_step (fail)
    refine later_c1 hN2 22 (.tmp 6) rfl rfl und64 rfl c4 (by rfl) ?_; simp only [pA]
    go_big_quiet_step (fail)
    refine later_b (x := (.tmp 7)) (y := (.tmp 8)) rfl (bin_shr _ a.m i) rfl rfl (by rfl) ?_; simp only [pA]
    refine later_b (x := (.tmp 9)) (y := (.const (.int .u64 1))) rfl (bin_and _ (a.m >>> i) 1#64) rfl rfl (by rfl) ?_; simp only [pA]
    refine later_b (x := (.tmp 10)) (y := (.const (.int .u64 1))) rfl (BinRun.is H.out (bin_eql _ ((a.m >>> i) &&& 1#64) 1#64)) rfl rfl (by rfl) ?_; simp only [pA]
    refine wpQuiet_nil ?_
    rintro xw5 ⟨qxw5, exw5⟩
    have hbxw5 := qxw5.b
    rw [← exw5] at hbxw5
    clear qxw5 exw5
    obtain ⟨M6, hM6⟩ := sz_some xw5
    have lM6 := below_sz hbxw5 hN2 hM6
    have k7 := k1.below hbxw5 (by omega)
    have k8 := k2.below hbxw5 (by omega)
    have lo9 := lo0.trans (hbxw5.mono (by omega))
    clear k1 c3 c4 k2 lo0 hbxw5
    go_wp2_with (first
      | (refine wpl_build rfl 140 _ rfl (cellsOf (bC (true, true)) 2) (by kernel_rfl) ?_)
      | (refine wpl_store rfl 140 (.tmp 4) (.tmp 12) rfl (N + 1) 2 (bC (true, true)) rfl rfl 140 _ k8 szB (fun j _ => bC_one _ j) ?_; intro wq tq hq)
      | fail)
    refine post_cell rfl (N + 1) rfl hq dB u1 u2 szB rfl ?_
    exact ⟨by rw [E.out], tq.below lo9 (by omega)⟩
set_option maxRecDepth 100000 in
set_option maxHeartbeats 2000000 in
theorem Set_any (o : Nm) (i : Nat) (y : Bool × Bool) (w : World) (N : Nat) (hN : Sz w N) : Calls Try.prog 101 #[nV o, .int .i64 (i : Int), bV y] w fun e w' => e = .returned (nV (rSet o i y)) ∧ Below N w w' := by
  obtain ⟨dU, u1, u2⟩ := undU
  have i0 : (0 : Int) ≤ (i : Int) := by omega
  obtain ⟨y0, y1⟩ := y
  cases y0 <;> cases y1
  · unfold nV bV
    go_enter Try.func101, Try.ntmps101
    go_upto_region 1 with (first
      | (refine wpl_box rfl 32 (.tmp 0) rfl 2 _ rfl (N) hN ?_; intro w1 hN1 hb1 hh1)
      | (refine wpl_box rfl 140 (.tmp 2) rfl 2 _ rfl (N + 1) hN1 ?_; intro w2 hN2 hb2 hh2)
      | (refine wpl_alloc rfl 32 rfl 2 (nC zeroN) zeU (N + 1 + 1) hN2 ?_; intro w3 hN3 hb3 hh3)
      | fail)
    have lo0 : Below N w w3 := ((hb1.trans (hb2.mono (by omega))).trans (hb3.mono (by omega)))
    have k1 := ((hh1.below hb2 (by omega)).below hb3 (by omega))
    have k2 := (hh2.below hb3 (by omega))
    have k3 := hh3
    clear hh1 hb1 hh2 hb2 hh3 hb3 hN1 hN2
    go_upto_region 1 with fail
    obtain ⟨c4, c5⟩ := b_cells k2
    refine wp_region_later1 ((N + 1 + 1 + 1)) ?_
    try simp only [pA]
    go_big_quiet_step (fail)
    refine later_c1 hN3 4 (.tmp 7) rfl rfl undBool rfl c4 (by rfl) ?_; simp only [pA]
    go_big_quiet_step (fail)
    go_big_quiet_step (fail)
    go_big_quiet_step (fail)
    go_big_quiet_step (fail)
    refine wpQuiet_nil ?_
    rintro xw6 ⟨qxw6, exw6⟩
    have hbxw6 := qxw6.b
    rw [← exw6] at hbxw6
    clear qxw6 exw6
    obtain ⟨M7, hM7⟩ := sz_some xw6
    have lM7 := below_sz hbxw6 hN3 hM7
    have k8 := k1.below hbxw6 (by omega)
    have k9 := k2.below hbxw6 (by omega)
    have k10 := k3.below hbxw6 (by omega)
    have lo11 := lo0.trans (hbxw6.mono (by omega))
    clear k1 k2 c4 c5 k3 lo0 hbxw6
    go_upto_region 3 with fail
    obtain ⟨c12, c13⟩ := b_cells k9
    refine wp_region_later1 (M7) ?_
    try simp only [pA]
    go_big_quiet_step (fail)
    refine later_c1 hM7 4 (.tmp 19) rfl rfl undBool rfl c13 (by rfl) ?_; simp only [pA]
    refine wpQuiet_nil ?_
    rintro xw14 ⟨qxw14, exw14⟩
    have hbxw14 := qxw14.b
    rw [← exw14] at hbxw14
    clear qxw14 exw14
    obtain ⟨M15, hM15⟩ := sz_some xw14
    have lM15 := below_sz hbxw14 hM7 hM15
    have k16 := k8.below hbxw14 (by omega)
    have k17 := k9.below hbxw14 (by omega)
    have k18 := k10.below hbxw14 (by omega)
    have lo19 := lo11.trans (hbxw14.mono (by omega))
    clear k8 k9 c12 c13 k10 lo11 hbxw14
    go_upto_region 5 with fail
    refine wp_region_lit ?_
    try simp only [pA]
    refine wpl_run rfl (Value.agg (cellsOf (nC o) 2)) _ (run_rw 32 (.tmp 3) rfl N rfl 32 2 _ k16 undU szU) ?_; simp only [pA]
    refine wpl_store rfl 32 (.tmp 6) (.tmp 27) rfl (N + 1 + 1) 2 (nC o) rfl rfl 32 _ k18 szU (fun j _ => nC_one _ j) ?_
    intro xw20 t21 k22; simp only [pA]
    have k23 := k16.touch t21 (by omega)
    have k24 := k17.touch t21 (by omega)
    have lo25 := t21.below lo19 (by omega)
    have h26 := t21.sz hM15
    clear k18 k16 k17 lo19 hM15 t21
    go_wp2_with fail
    refine post_n rfl (N + 1 + 1) rfl k22 ⟨dU, u1, u2⟩ szU rfl ?_
    exact ⟨rfl, lo25⟩
  · unfold nV bV
    go_enter Try.func101, Try.ntmps101
    go_upto_region 1 with (first
      | (refine wpl_box rfl 32 (.tmp 0) rfl 2 _ rfl (N) hN ?_; intro w1 hN1 hb1 hh1)
      | (refine wpl_box rfl 140 (.tmp 2) rfl 2 _ rfl (N + 1) hN1 ?_; intro w2 hN2 hb2 hh2)
      | (refine wpl_alloc rfl 32 rfl 2 (nC zeroN) zeU (N + 1 + 1) hN2 ?_; intro w3 hN3 hb3 hh3)
      | fail)
    have lo0 : Below N w w3 := ((hb1.trans (hb2.mono (by omega))).trans (hb3.mono (by omega)))
    have k1 := ((hh1.below hb2 (by omega)).below hb3 (by omega))
    have k2 := (hh2.below hb3 (by omega))
    have k3 := hh3
    clear hh1 hb1 hh2 hb2 hh3 hb3 hN1 hN2
    go_upto_region 1 with fail
    obtain ⟨c4, c5⟩ := b_cells k2
    refine wp_region_later1 ((N + 1 + 1 + 1)) ?_
    try simp only [pA]
    go_big_quiet_step (fail)
    refine later_c1 hN3 4 (.tmp 7) rfl rfl undBool rfl c4 (by rfl) ?_; simp only [pA]
    go_big_quiet_step (fail)
    go_big_quiet_step (fail)
    go_big_quiet_step (fail)
    go_big_quiet_step (fail)
    refine wpQuiet_nil ?_
    rintro xw6 ⟨qxw6, exw6⟩
    have hbxw6 := qxw6.b
    rw [← exw6] at hbxw6
    clear qxw6 exw6
    obtain ⟨M7, hM7⟩ := sz_some xw6
    have lM7 := below_sz hbxw6 hN3 hM7
    have k8 := k1.below hbxw6 (by omega)
    have k9 := k2.below hbxw6 (by omega)
    have k10 := k3.below hbxw6 (by omega)
    have lo11 := lo0.trans (hbxw6.mono (by omega))
    clear k1 k2 c4 c5 k3 lo0 hbxw6
    go_upto_region 3 with fail
    obtain ⟨c12, c13⟩ := b_cells k9
    refine wp_region_later1 (M7) ?_
    try simp only [pA]
    go_big_quiet_step (fail)
    refine later_c1 hM7 4 (.tmp 19) rfl rfl undBool rfl c13 (by rfl) ?_; simp only [pA]
    refine wpQuiet_nil ?_
    rintro xw14 ⟨qxw14, exw14⟩
    have hbxw14 := qxw14.b
    rw [← exw14] at hbxw14
    clear qxw14 exw14
    obtain ⟨M15, hM15⟩ := sz_some xw14
    have lM15 := below_sz hbxw14 hM7 hM15
    have k16 := k8.below hbxw14 (by omega)
    have k17 := k9.below hbxw14 (by omega)
    have k18 := k10.below hbxw14 (by omega)
    have lo19 := lo11.trans (hbxw14.mono (by omega))
    clear k8 k9 c12 c13 k10 lo11 hbxw14
    go_upto_region 4 with fail
    refine wp_region_any (by kernel_rfl) ?_
    replace k16 : Has xw14.drew N 32 2 (nC o) := k16
    replace k17 : Has xw14.drew (N + 1) 140 2 (bC (false, true)) := k17
    replace k18 : Has xw14.drew (N + 1 + 1) 32 2 (nC zeroN) := k18
    replace hM15 : Sz xw14.drew M15 := hM15
    replace lo19 : Below N w xw14.drew := lo19.drew
    change wpAny _ _ _ _ _ _ _ (World.drew _)
    generalize xw14.drew = xw20 at *
    obtain ⟨c21, c22⟩ := n_cells k16
    refine wpAny_pot (rem := [0, 1, 2, 3, 4, 5]) (FG M15 (fun j => if j = 0 then some (Value.pointer (some ⟨N, 0, none⟩)) else if j = 1 then some (Q o.v) else if j = 2 then some (Value.int .i64 (i : Int)) else if j = 3 then some (Q (1#64 <<< i)) else if j = 4 then some (Q (o.v ||| (1#64 <<< i))) else some (Value.pointer (some ⟨N, 0, none⟩))) (fun j => (0, 0, fun _ => undef))) (TwoN (fun j => if j = 0 then some (Value.pointer (some ⟨N, 0, none⟩)) else if j = 1 then some (Q o.v) else if j = 2 then some (Value.int .i64 (i : Int)) else if j = 3 then some (Q (1#64 <<< i)) else if j = 4 then some (Q (o.v ||| (1#64 <<< i))) else some (Value.pointer (some ⟨N, 0, none⟩)))) (Below M15 xw20) _ _ _ _ (by kernel_rfl) (size_dstG (by kernel_rfl)) (Below.refl _ _) ?_ ?_
    · intro i hi ac wa hI ha hv
      simp only [List.mem_cons, List.not_mem_nil, or_false] at hi
      rcases hi with rfl | rfl | rfl | rfl | rfl | rfl
      · exact potg_run rfl rfl (Value.pointer (some ⟨N, 0, none⟩)) rfl (run_fa 32 (.tmp 3) 0 0 rfl (ha 3 (not_dstG (by kernel_rfl))) faU0) hM15 hI
      · obtain ⟨v0, hv0a, hv0b⟩ := hv 0 (by simp) (by kernel_rfl)
        have ev0 := hv0b.val rfl
        subst ev0
        exact potg_run rfl rfl (Q o.v) rfl (run_c1 22 (.tmp 21) rfl ⟨N, 0, none⟩ (hv0a 21 rfl) und64 rfl (keep_c hI hM15 c21)) hM15 hI
      · exact potg_run rfl rfl (Value.int .i64 (i : Int)) rfl (run_mv (x := (.tmp 1)) rfl _ (ha 1 (not_dstG (by kernel_rfl)))) hM15 hI
      · obtain ⟨v2, hv2a, hv2b⟩ := hv 2 (by simp) (by kernel_rfl)
        have ev2 := hv2b.val rfl
        subst ev2
        exact potg_run rfl rfl (Q (1#64 <<< i)) rfl ((bin_shl _ 1#64 i) _ _ (.const (.int .u64 1)) (.tmp 23) _ wa rfl rfl (hv2a 23 rfl)) hM15 hI
      · obtain ⟨v1, hv1a, hv1b⟩ := hv 1 (by simp) (by kernel_rfl)
        have ev1 := hv1b.val rfl
        subst ev1
        obtain ⟨v3, hv3a, hv3b⟩ := hv 3 (by simp) (by kernel_rfl)
        have ev3 := hv3b.val rfl
        subst ev3
        exact potg_run rfl rfl (Q (o.v ||| (1#64 <<< i))) rfl ((bin_or _ o.v (1#64 <<< i)) _ _ (.tmp 22) (.tmp 24) _ wa rfl (hv1a 22 rfl) (hv3a 24 rfl)) hM15 hI
      · exact potg_run rfl rfl (Value.pointer (some ⟨N, 0, none⟩)) rfl (run_fa 32 (.tmp 3) 0 0 rfl (ha 3 (not_dstG (by kernel_rfl))) faU0) hM15 hI
    · intro vals w5_23_ hb5_23_ hF hG
      have e_23_0 := (hF 0 (by simp)).val rfl
      have e_23_1 := (hF 1 (by simp)).val rfl
      have e_23_2 := (hF 2 (by simp)).val rfl
      have e_23_3 := (hF 3 (by simp)).val rfl
      have e_23_4 := (hF 4 (by simp)).val rfl
      have e_23_5 := (hF 5 (by simp)).val rfl
      clear hF hG
      simp only [List.foldl_cons, List.foldl_nil, dstOf, List.getElem?_toArray, List.getElem?_cons_succ, List.getElem?_cons_zero, Option.bind_some, Act.put, List.setIfInBounds_toArray, List.set_cons_succ, List.set_cons_zero, e_23_0, e_23_1, e_23_2, e_23_3, e_23_4, e_23_5]
      clear e_23_0 e_23_1 e_23_2 e_23_3 e_23_4 e_23_5
      refine wpAny_chain [6] _ _ _ _ (by kernel_rfl) (by decide) ?_
      simp only [List.filterMap_cons, List.filterMap_nil, List.getElem?_toArray, List.getElem?_cons_succ, List.getElem?_cons_zero]
      have k24 := k16.below hb5_23_ (by omega)
      have k25 := k17.below hb5_23_ (by omega)
      have k26 := k18.below hb5_23_ (by omega)
      have lo27 := lo19.trans (hb5_23_.mono (by omega))
      clear k16 c21 c22 k17 k18 lo19 hb5_23_
      refine wpl_set rfl 22 (.tmp 26) (.tmp 25) rfl N 0 rfl _ rfl sz64 rfl rfl 32 2 _ k24 (by omega) ?_
      intro xw28 t29 k30_
      have k30 : Has xw28 N 32 2 (nC ⟨(o.v ||| (1#64 <<< i)), o.m⟩) := k30_.congr (fun j hj => by rcases (show j = 0 ∨ j = 1 by omega) with rfl | rfl <;> rfl)
      have k31 := k25.touch t29 (by omega)
      have k32 := k26.touch t29 (by omega)
      have lo33 := t29.below lo27 (by omega)
      clear k24 k30_ k25 k26 lo27 t29
      obtain ⟨M34, hM34⟩ := sz_some xw28
      have lt_35 := k30.ltN hM34
      have lt_36 := k31.ltN hM34
      have lt_37 := k32.ltN hM34
      go_upto_region 5 with fail
      refine wp_region_lit ?_
      try simp only [pA]
      refine wpl_run rfl (Value.agg (cellsOf (nC ⟨(o.v ||| (1#64 <<< i)), o.m⟩) 2)) _ (run_rw 32 (.tmp 3) rfl N rfl 32 2 _ k30 undU szU) ?_; simp only [pA]
      refine wpl_store rfl 32 (.tmp 6) (.tmp 27) rfl (N + 1 + 1) 2 (nC ⟨(o.v ||| (1#64 <<< i)), o.m⟩) rfl rfl 32 _ k32 szU (fun j _ => nC_one _ j) ?_
      intro xw38 t39 k40; simp only [pA]
      have k41 := k30.touch t39 (by omega)
      have k42 := k31.touch t39 (by omega)
      have lo43 := t39.below lo33 (by omega)
      have h44 := t39.sz hM34
      clear k32 k30 k31 lo33 hM34 t39
      go_wp2_with fail
      refine post_n rfl (N + 1 + 1) rfl k40 ⟨dU, u1, u2⟩ szU rfl ?_
      exact ⟨rfl, lo43⟩
  · unfold nV bV
    go_enter Try.func101, Try.ntmps101
    go_upto_region 1 with (first
      | (refine wpl_box rfl 32 (.tmp 0) rfl 2 _ rfl (N) hN ?_; intro w1 hN1 hb1 hh1)
      | (refine wpl_box rfl 140 (.tmp 2) rfl 2 _ rfl (N + 1) hN1 ?_; intro w2 hN2 hb2 hh2)
      | (refine wpl_alloc rfl 32 rfl 2 (nC zeroN) zeU (N + 1 + 1) hN2 ?_; intro w3 hN3 hb3 hh3)
      | fail)
    have lo0 : Below N w w3 := ((hb1.trans (hb2.mono (by omega))).trans (hb3.mono (by omega)))
    have k1 := ((hh1.below hb2 (by omega)).below hb3 (by omega))
    have k2 := (hh2.below hb3 (by omega))
    have k3 := hh3
    clear hh1 hb1 hh2 hb2 hh3 hb3 hN1 hN2
    go_upto_region 1 with fail
    obtain ⟨c4, c5⟩ := b_cells k2
    refine wp_region_later1 ((N + 1 + 1 + 1)) ?_
    try simp only [pA]
    go_big_quiet_step (fail)
    refine later_c1 hN3 4 (.tmp 7) rfl rfl undBool rfl c4 (by rfl) ?_; simp only [pA]
    go_big_quiet_step (fail)
    go_big_quiet_step (fail)
    refine later_c1 hN3 4 (.tmp 10) rfl rfl undBool rfl c5 (by rfl) ?_; simp only [pA]
    go_big_quiet_step (fail)
    refine wpQuiet_nil ?_
    rintro xw6 ⟨qxw6, exw6⟩
    have hbxw6 := qxw6.b
    rw [← exw6] at hbxw6
    clear qxw6 exw6
    obtain ⟨M7, hM7⟩ := sz_some xw6
    have lM7 := below_sz hbxw6 hN3 hM7
    have k8 := k1.below hbxw6 (by omega)
    have k9 := k2.below hbxw6 (by omega)
    have k10 := k3.below hbxw6 (by omega)
    have lo11 := lo0.trans (hbxw6.mono (by omega))
    clear k1 k2 c4 c5 k3 lo0 hbxw6
    go_upto_region 3 with fail
    obtain ⟨c12, c13⟩ := b_cells k9
    refine wp_region_later1 (M7) ?_
    try simp only [pA]
    go_big_quiet_step (fail)
    refine later_c1 hM7 4 (.tmp 19) rfl rfl undBool rfl c13 (by rfl) ?_; simp only [pA]
    refine wpQuiet_nil ?_
    rintro xw14 ⟨qxw14, exw14⟩
    have hbxw14 := qxw14.b
    rw [← exw14] at hbxw14
    clear qxw14 exw14
    obtain ⟨M15, hM15⟩ := sz_some xw14
    have lM15 := below_sz hbxw14 hM7 hM15
    have k16 := k8.below hbxw14 (by omega)
    have k17 := k9.below hbxw14 (by omega)
    have k18 := k10.below hbxw14 (by omega)
    have lo19 := lo11.trans (hbxw14.mono (by omega))
    clear k8 k9 c12 c13 k10 lo11 hbxw14
    go_upto_region 5 with fail
    refine wp_region_lit ?_
    try simp only [pA]
    refine wpl_run rfl (Value.agg (cellsOf (nC o) 2)) _ (run_rw 32 (.tmp 3) rfl N rfl 32 2 _ k16 undU szU) ?_; simp only [pA]
    refine wpl_store rfl 32 (.tmp 6) (.tmp 27) rfl (N + 1 + 1) 2 (nC o) rfl rfl 32 _ k18 szU (fun j _ => nC_one _ j) ?_
    intro xw20 t21 k22; simp only [pA]
    have k23 := k16.touch t21 (by omega)
    have k24 := k17.touch t21 (by omega)
    have lo25 := t21.below lo19 (by omega)
    have h26 := t21.sz hM15
    clear k18 k16 k17 lo19 hM15 t21
    go_wp2_with fail
    refine post_n rfl (N + 1 + 1) rfl k22 ⟨dU, u1, u2⟩ szU rfl ?_
    exact ⟨rfl, lo25⟩
  · unfold nV bV
    go_enter Try.func101, Try.ntmps101
    go_upto_region 1 with (first
      | (refine wpl_box rfl 32 (.tmp 0) rfl 2 _ rfl (N) hN ?_; intro w1 hN1 hb1 hh1)
      | (refine wpl_box rfl 140 (.tmp 2) rfl 2 _ rfl (N + 1) hN1 ?_; intro w2 hN2 hb2 hh2)
      | (refine wpl_alloc rfl 32 rfl 2 (nC zeroN) zeU (N + 1 + 1) hN2 ?_; intro w3 hN3 hb3 hh3)
      | fail)
    have lo0 : Below N w w3 := ((hb1.trans (hb2.mono (by omega))).trans (hb3.mono (by omega)))
    have k1 := ((hh1.below hb2 (by omega)).below hb3 (by omega))
    have k2 := (hh2.below hb3 (by omega))
    have k3 := hh3
    clear hh1 hb1 hh2 hb2 hh3 hb3 hN1 hN2
    go_upto_region 1 with fail
    obtain ⟨c4, c5⟩ := b_cells k2
    refine wp_region_later1 ((N + 1 + 1 + 1)) ?_
    try simp only [pA]
    go_big_quiet_step (fail)
    refine later_c1 hN3 4 (.tmp 7) rfl rfl undBool rfl c4 (by rfl) ?_; simp only [pA]
    go_big_quiet_step (fail)
    go_big_quiet_step (fail)
    refine later_c1 hN3 4 (.tmp 10) rfl rfl undBool rfl c5 (by rfl) ?_; simp only [pA]
    go_big_quiet_step (fail)
    refine wpQuiet_nil ?_
    rintro xw6 ⟨qxw6, exw6⟩
    have hbxw6 := qxw6.b
    rw [← exw6] at hbxw6
    clear qxw6 exw6
    obtain ⟨M7, hM7⟩ := sz_some xw6
    have lM7 := below_sz hbxw6 hN3 hM7
    have k8 := k1.below hbxw6 (by omega)
    have k9 := k2.below hbxw6 (by omega)
    have k10 := k3.below hbxw6 (by omega)
    have lo11 := lo0.trans (hbxw6.mono (by omega))
    clear k1 k2 c4 c5 k3 lo0 hbxw6
    go_upto_region 2 with fail
    refine wp_region_any (by kernel_rfl) ?_
    replace k8 : Has xw6.drew N 32 2 (nC o) := k8
    replace k9 : Has xw6.drew (N + 1) 140 2 (bC (true, true)) := k9
    replace k10 : Has xw6.drew (N + 1 + 1) 32 2 (nC zeroN) := k10
    replace hM7 : Sz xw6.drew M7 := hM7
    replace lo11 : Below N w xw6.drew := lo11.drew
    change wpAny _ _ _ _ _ _ _ (World.drew _)
    generalize xw6.drew = xw12 at *
    obtain ⟨c13, c14⟩ := n_cells k8
    refine wpAny_pot (rem := [0, 1, 2, 3, 4, 5]) (FG M7 (fun j => if j = 0 then some (Value.pointer (some ⟨N, 1, none⟩)) else if j = 1 then some (Q o.m) else if j = 2 then some (Value.int .i64 (i : Int)) else if j = 3 then some (Q (1#64 <<< i)) else if j = 4 then some (Q (o.m ||| (1#64 <<< i))) else some (Value.pointer (some ⟨N, 1, none⟩))) (fun j => (0, 0, fun _ => undef))) (TwoN (fun j => if j = 0 then some (Value.pointer (some ⟨N, 1, none⟩)) else if j = 1 then some (Q o.m) else if j = 2 then some (Value.int .i64 (i : Int)) else if j = 3 then some (Q (1#64 <<< i)) else if j = 4 then some (Q (o.m ||| (1#64 <<< i))) else some (Value.pointer (some ⟨N, 1, none⟩)))) (Below M7 xw12) _ _ _ _ (by kernel_rfl) (size_dstG (by kernel_rfl)) (Below.refl _ _) ?_ ?_
    · intro i hi ac wa hI ha hv
      simp only [List.mem_cons, List.not_mem_nil, or_false] at hi
      rcases hi with rfl | rfl | rfl | rfl | rfl | rfl
      · exact potg_run rfl rfl (Value.pointer (some ⟨N, 1, none⟩)) rfl (run_fa 32 (.tmp 3) 1 1 rfl (ha 3 (not_dstG (by kernel_rfl))) faU1) hM7 hI
      · obtain ⟨v0, hv0a, hv0b⟩ := hv 0 (by simp) (by kernel_rfl)
        have ev0 := hv0b.val rfl
        subst ev0
        exact potg_run rfl rfl (Q o.m) rfl (run_c1 22 (.tmp 13) rfl ⟨N, 1, none⟩ (hv0a 13 rfl) und64 rfl (keep_c hI hM7 c14)) hM7 hI
      · exact potg_run rfl rfl (Value.int .i64 (i : Int)) rfl (run_mv (x := (.tmp 1)) rfl _ (ha 1 (not_dstG (by kernel_rfl)))) hM7 hI
      · obtain ⟨v2, hv2a, hv2b⟩ := hv 2 (by simp) (by kernel_rfl)
        have ev2 := hv2b.val rfl
        subst ev2
        exact potg_run rfl rfl (Q (1#64 <<< i)) rfl ((bin_shl _ 1#64 i) _ _ (.const (.int .u64 1)) (.tmp 15) _ wa rfl rfl (hv2a 15 rfl)) hM7 hI
      · obtain ⟨v1, hv1a, hv1b⟩ := hv 1 (by simp) (by kernel_rfl)
        have ev1 := hv1b.val rfl
        subst ev1
        obtain ⟨v3, hv3a, hv3b⟩ := hv 3 (by simp) (by kernel_rfl)
        have ev3 := hv3b.val rfl
        subst ev3
        exact potg_run rfl rfl (Q (o.m ||| (1#64 <<< i))) rfl ((bin_or _ o.m (1#64 <<< i)) _ _ (.tmp 14) (.tmp 16) _ wa rfl (hv1a 14 rfl) (hv3a 16 rfl)) hM7 hI
      · exact potg_run rfl rfl (Value.pointer (some ⟨N, 1, none⟩)) rfl (run_fa 32 (.tmp 3) 1 1 rfl (ha 3 (not_dstG (by kernel_rfl))) faU1) hM7 hI
    · intro vals w5_15_ hb5_15_ hF hG
      have e_15_0 := (hF 0 (by simp)).val rfl
      have e_15_1 := (hF 1 (by simp)).val rfl
      have e_15_2 := (hF 2 (by simp)).val rfl
      have e_15_3 := (hF 3 (by simp)).val rfl
      have e_15_4 := (hF 4 (by simp)).val rfl
      have e_15_5 := (hF 5 (by simp)).val rfl
      clear hF hG
      simp only [List.foldl_cons, List.foldl_nil, dstOf, List.getElem?_toArray, List.getElem?_cons_succ, List.getElem?_cons_zero, Option.bind_some, Act.put, List.setIfInBounds_toArray, List.set_cons_succ, List.set_cons_zero, e_15_0, e_15_1, e_15_2, e_15_3, e_15_4, e_15_5]
      clear e_15_0 e_15_1 e_15_2 e_15_3 e_15_4 e_15_5
      refine wpAny_chain [6] _ _ _ _ (by kernel_rfl) (by decide) ?_
      simp only [List.filterMap_cons, List.filterMap_nil, List.getElem?_toArray, List.getElem?_cons_succ, List.getElem?_cons_zero]
      have k16 := k8.below hb5_15_ (by omega)
      have k17 := k9.below hb5_15_ (by omega)
      have k18 := k10.below hb5_15_ (by omega)
      have lo19 := lo11.trans (hb5_15_.mono (by omega))
      clear k8 c13 c14 k9 k10 lo11 hb5_15_
      refine wpl_set rfl 22 (.tmp 18) (.tmp 17) rfl N 1 rfl _ rfl sz64 rfl rfl 32 2 _ k16 (by omega) ?_
      intro xw20 t21 k22_
      have k22 : Has xw20 N 32 2 (nC ⟨o.v, (o.m ||| (1#64 <<< i))⟩) := k22_.congr (fun j hj => by rcases (show j = 0 ∨ j = 1 by omega) with rfl | rfl <;> rfl)
      have k23 := k17.touch t21 (by omega)
      have k24 := k18.touch t21 (by omega)
      have lo25 := t21.below lo19 (by omega)
      clear k16 k22_ k17 k18 lo19 t21
      obtain ⟨M26, hM26⟩ := sz_some xw20
      have lt_27 := k22.ltN hM26
      have lt_28 := k23.ltN hM26
      have lt_29 := k24.ltN hM26
      go_upto_region 5 with fail
      refine wp_region_lit ?_
      try simp only [pA]
      refine wpl_run rfl (Value.agg (cellsOf (nC ⟨o.v, (o.m ||| (1#64 <<< i))⟩) 2)) _ (run_rw 32 (.tmp 3) rfl N rfl 32 2 _ k22 undU szU) ?_; simp only [pA]
      refine wpl_store rfl 32 (.tmp 6) (.tmp 27) rfl (N + 1 + 1) 2 (nC ⟨o.v, (o.m ||| (1#64 <<< i))⟩) rfl rfl 32 _ k24 szU (fun j _ => nC_one _ j) ?_
      intro xw30 t31 k32; simp only [pA]
      have k33 := k22.touch t31 (by omega)
      have k34 := k23.touch t31 (by omega)
      have lo35 := t31.below lo25 (by omega)
      have h36 := t31.sz hM26
      clear k24 k22 k23 lo25 hM26 t31
      go_wp2_with fail
      refine post_n rfl (N + 1 + 1) rfl k32 ⟨dU, u1, u2⟩ szU rfl ?_
      exact ⟨rfl, lo35⟩
end Go.Proofs.Ytaeggclcjpcnoaa
namespace Go.Proofs.Ytaeggclcjpcnoaa
open Go Go.RowKit
def rLow (a : Nm) (n : Nat) : Nm := rN (rBits a) n
theorem rN_same {y z : Nat → Bool × Bool} : ∀ n, (∀ i, i < n → y i = z i) → rN y n = rN z n
  | 0, _ => rfl
  | n + 1, h => by show rSet (rN y n) n (y n) = rSet (rN z n) n (z n); rw [rN_same n (fun i hi => h i (by omega)), h n (by omega)]
theorem rSet_no (o : Nm) (i : Nat) (x : Bool) : rSet o i (x, false) = o := by unfold rSet; cases x <;> rfl
/-- Where a bit comes from. -/
def rFrom (i k : Nat) (left : Bool) : Int := if left then (i : Int) - (k : Int) else (i : Int) + (k : Int)
def rShY (a : Nm) (k : Nat) (left : Bool) (i : Nat) : Bool × Bool := if 0 ≤ rFrom i k left ∧ rFrom i k left < 64 then rBits a (rFrom i k left).toNat else (true, false)
def rShift (a : Nm) (k : Nat) (left : Bool) : Nm := rN (rShY a k left) 64
theorem sh_in {a : Nm} {s k : Nat} {l : Bool} (h0 : 0 ≤ rFrom k s l) (h1 : rFrom k s l < 64) : rN (rShY a s l) (k + 1) = rSet (rN (rShY a s l) k) k (rBits a (rFrom k s l).toNat) := by
  show rSet (rN (rShY a s l) k) k (rShY a s l k) = _
  unfold rShY; rw [if_pos ⟨h0, h1⟩]
theorem sh_out {a : Nm} {s k : Nat} {l : Bool} (h : ¬ (0 ≤ rFrom k s l ∧ rFrom k s l < 64)) : rN (rShY a s l) (k + 1) = rN (rShY a s l) k := by
  show rSet (rN (rShY a s l) k) k (rShY a s l k) = _
  rw [show rShY a s l k = (true, false) from by unfold rShY; rw [if_neg h]]
  exact rSet_no _ _ _
theorem Bits_at (a : Nm) (z : Int) (hz : 0 ≤ z) (w : World) (N : Nat) (hN : Sz w N) : Calls Try.prog 100 #[nV a, .int .i64 z] w fun e w' => e = .returned (bV (rBits a z.toNat)) ∧ Below N w w' := by
  have := Bits_any a z.toNat w N hN
  rw [Int.toNat_of_nonneg hz] at this; exact this
end Go.Proofs.Ytaeggclcjpcnoaa
namespace Go.Proofs.Ytaeggclcjpcnoaa
open Go Go.RowKit
theorem bits_three (a : Nm) (i : Nat) : rBits a i = (true, true) ∨ rBits a i = (true, false) ∨ rBits a i = (false, true) := by
  unfold rBits
  cases a.m.getLsbD i <;> cases a.v.getLsbD i <;> simp
theorem Bits_is {a : Nm} {i : Nat} {p : Bool × Bool} (h : rBits a i = p) (w : World) (N : Nat) (hN : Sz w N) : Calls Try.prog 100 #[nV a, .int .i64 (i : Int)] w fun e w' => e = .returned (bV p) ∧ Below N w w' := by
  rw [← h]; exact Bits_any a i w N hN
def rJoin (a b : Nm) : Nm := rN (fun i => ((rBits a i).1 || (rBits b i).1, (rBits a i).2 || (rBits b i).2)) 64
def rMeetY (a b : Nm) (i : Nat) : Bool × Bool := ((rBits a i).1 && (rBits b i).1, (rBits a i).2 && (rBits b i).2)
/-- No bit of the first n is none's. -/
def rMeetOk (a b : Nm) (n : Nat) : Prop := ∀ i, i < n → rMeetY a b i ≠ (false, false)
set_option maxRecDepth 100000 in
set_option maxHeartbeats 8000000 in
theorem RJoin_any (a b : Nm) (w : World) (N : Nat) (hN : Sz w N) : Calls Try.prog 68 #[nV a, nV b] w fun e w' => e = .returned (nV (rJoin a b)) ∧ Below N w w' := by
  obtain ⟨dU, u1, u2⟩ := undU
  unfold rJoin
  obtain ⟨y, hy⟩ : ∃ y, y = (fun i => ((rBits a i).1 || (rBits b i).1, (rBits a i).2 || (rBits b i).2)) := ⟨_, rfl⟩
  rw [← hy]
  have Hy := hid hy
  clear hy
  unfold nV
  go_enter Try.func68, Try.ntmps68
  go_upto_region 1 with (first
    | (refine wpl_box rfl 32 (.tmp 0) rfl 2 _ rfl (N) hN ?_; intro w1 hN1 hb1 hh1)
    | (refine wpl_box rfl 32 (.tmp 1) rfl 2 _ rfl (N + 1) hN1 ?_; intro w2 hN2 hb2 hh2)
    | (refine wpl_alloc rfl 32 rfl 2 (nC zeroN) zeU (N + 1 + 1) hN2 ?_; intro w3 hN3 hb3 hh3)
    | fail)
  have lo0 : Below N w w3 := ((hb1.trans (hb2.mono (by omega))).trans (hb3.mono (by omega)))
  have k1 := ((hh1.below hb2 (by omega)).below hb3 (by omega))
  have k2 := (hh2.below hb3 (by omega))
  have k3 := hh3
  clear hh1 hb1 hh2 hb2 hh3 hb3 hN1 hN2
  go_upto_region 1 with fail
  refine wp_region_lit ?_
  try simp only [pA]
  obtain ⟨b_xw4, eb_xw4⟩ : ∃ b_xw4, b_xw4 = (N + 1 + 1 + 1) := ⟨_, rfl⟩
  have hzb_xw4 : Sz w3 b_xw4 := by rw [eb_xw4]; exact hN3
  have lob_xw4 : (N + 1 + 1 + 1) ≤ b_xw4 := by omega
  have upb_xw4 : b_xw4 ≤ (N + 1 + 1 + 1) := by omega
  clear eb_xw4
  refine wpl_alloc rfl 32 rfl 2 (nC zeroN) zeU b_xw4 hzb_xw4 ?_
  intro xw4 hMxw4 hbxw4 hhxw4; simp only [pA]
  have k5 := k1.below hbxw4 (by omega)
  have k6 := k2.below hbxw4 (by omega)
  have k7 := k3.below hbxw4 (by omega)
  have lo8 := lo0.trans (hbxw4.mono (by omega))
  clear k1 k2 k3 lo0 hbxw4 hzb_xw4
  obtain ⟨M9, eM9⟩ : ∃ M9, M9 = b_xw4 + 1 := ⟨_, rfl⟩
  rw [← eM9] at hMxw4
  have loM9 : b_xw4 + 1 ≤ M9 := by omega
  have upM9 : M9 ≤ b_xw4 + 1 := by omega
  clear eM9
  go_wp2_with fail
  go_loopg [6, 7, 8] (64) (fun g x6 x7 x8 wr => ∃ k : Nat, k ≤ 64 ∧ g = 64 - k ∧ x6 = .int .i64 (k : Int) ∧ Has wr N 32 2 (nC a) ∧ Has wr (N + 1) 32 2 (nC b) ∧ Has wr (N + 1 + 1) 32 2 (nC zeroN) ∧ Has wr b_xw4 32 2 (nC (rN y k)) ∧ Below N w wr)
  case atStart => exact ⟨0, by omega, rfl, rfl, k5, k6, k7, hhxw4, lo8⟩
  case round =>
    clear k5 k6 k7 hhxw4 lo8
    obtain ⟨k, hkk, rfl, rfl, k10, k11, k12, k13, lo14⟩ := hrel
    obtain ⟨M15, hM15⟩ := sz_some wr
    have lt_16 := k10.ltN hM15
    have lt_17 := k11.ltN hM15
    have lt_18 := k12.ltN hM15
    have lt_19 := k13.ltN hM15
    have k0 : (0 : Int) ≤ (k : Int) := by omega
    by_cases hlt : k < 64
    · have t1 : (k : Int) < 64 := by omega
      obtain ⟨y0, y1, hyb⟩ : ∃ y0 y1, rBits b k = (y0, y1) := ⟨_, _, rfl⟩
      have HY := hid hyb
      rcases bits_three a k with hxa | hxa | hxa
      · have HX := hid hxa
        have E := hid (show rN y (k + 1) = rSet (rN y k) k (true, true) by show rSet (rN y k) k (y k) = _; rw [Hy.out]; show rSet _ k ((rBits a k).1 || (rBits b k).1, (rBits a k).2 || (rBits b k).2) = _; rw [hxa, hyb]; rfl)
        clear hxa hyb
        go_upto_region 5 with fail
        refine wp_region_any (by kernel_rfl) ?_
        replace k10 : Has wr.drew N 32 2 (nC a) := k10
        replace k11 : Has wr.drew (N + 1) 32 2 (nC b) := k11
        replace k12 : Has wr.drew (N + 1 + 1) 32 2 (nC zeroN) := k12
        replace k13 : Has wr.drew b_xw4 32 2 (nC (rN y k)) := k13
        replace hM15 : Sz wr.drew M15 := hM15
        replace lo14 : Below N w wr.drew := lo14.drew
        change wpAny _ _ _ _ _ _ _ (World.drew _)
        generalize wr.drew = xw20 at *
        refine wpAny_pot (rem := [0, 1, 2, 3, 4, 5, 6, 7]) (FG M15 (fun j => if j = 0 then some (Value.agg (cellsOf (nC a) 2)) else if j = 1 then some (Value.int .i64 (k : Int)) else if j = 2 then some (Value.agg (cellsOf (bC (true, true)) 2)) else if j = 3 then some (Value.agg (cellsOf (nC b) 2)) else if j = 4 then some (Value.int .i64 (k : Int)) else if j = 5 then some (Value.agg (cellsOf (bC (y0, y1)) 2)) else if j = 6 then none else none) (fun j => if j = 6 then (140, 2, bC (false, false)) else (140, 2, bC (false, false)))) (TwoN (fun j => if j = 0 then some (Value.agg (cellsOf (nC a) 2)) else if j = 1 then some (Value.int .i64 (k : Int)) else if j = 2 then some (Value.agg (cellsOf (bC (true, true)) 2)) else if j = 3 then some (Value.agg (cellsOf (nC b) 2)) else if j = 4 then some (Value.int .i64 (k : Int)) else if j = 5 then some (Value.agg (cellsOf (bC (y0, y1)) 2)) else if j = 6 then none else none)) (Below M15 xw20) _ _ _ _ (by kernel_rfl) (size_dstG (by kernel_rfl)) (Below.refl _ _) ?_ ?_
        · intro i hi ac wa hI ha hv
          simp only [List.mem_cons, List.not_mem_nil, or_false] at hi
          rcases hi with rfl | rfl | rfl | rfl | rfl | rfl | rfl | rfl
          · exact potg_run rfl rfl (Value.agg (cellsOf (nC a) 2)) rfl (run_rw 32 (.tmp 2) rfl N (ha 2 (not_dstG (by kernel_rfl))) 32 2 _ (Has.below k10 hI (Has.ltN k10 hM15)) undU szU) hM15 hI
          · exact potg_run rfl rfl (Value.int .i64 (k : Int)) rfl (run_mv (x := (.tmp 6)) rfl _ (ha 6 (not_dstG (by kernel_rfl)))) hM15 hI
          · obtain ⟨v0, hv0a, hv0b⟩ := hv 0 (by simp) (by kernel_rfl)
            have ev0 := hv0b.val rfl
            subst ev0
            obtain ⟨v1, hv1a, hv1b⟩ := hv 1 (by simp) (by kernel_rfl)
            have ev1 := hv1b.val rfl
            subst ev1
            exact potg_cl rfl rfl 100 _ _ rfl #[(Value.agg (cellsOf (nC a) 2)), (Value.int .i64 (k : Int))] (by simp only [List.map_toArray, List.map_cons, List.map_nil, (show ac.eval (.tmp 13) = (Value.agg (cellsOf (nC a) 2)) from (hv0a 13 rfl)), (show ac.eval (.tmp 14) = (Value.int .i64 (k : Int)) from (hv1a 14 rfl))] <;> rfl) (by kernel_rfl) (Value.agg (cellsOf (bC (true, true)) 2)) (fun K hK => Bits_is HX.out wa K hK) rfl hM15 hI
          · exact potg_run rfl rfl (Value.agg (cellsOf (nC b) 2)) rfl (run_rw 32 (.tmp 3) rfl (N + 1) (ha 3 (not_dstG (by kernel_rfl))) 32 2 _ (Has.below k11 hI (Has.ltN k11 hM15)) undU szU) hM15 hI
          · exact potg_run rfl rfl (Value.int .i64 (k : Int)) rfl (run_mv (x := (.tmp 6)) rfl _ (ha 6 (not_dstG (by kernel_rfl)))) hM15 hI
          · obtain ⟨v3, hv3a, hv3b⟩ := hv 3 (by simp) (by kernel_rfl)
            have ev3 := hv3b.val rfl
            subst ev3
            obtain ⟨v4, hv4a, hv4b⟩ := hv 4 (by simp) (by kernel_rfl)
            have ev4 := hv4b.val rfl
            subst ev4
            exact potg_cl rfl rfl 100 _ _ rfl #[(Value.agg (cellsOf (nC b) 2)), (Value.int .i64 (k : Int))] (by simp only [List.map_toArray, List.map_cons, List.map_nil, (show ac.eval (.tmp 16) = (Value.agg (cellsOf (nC b) 2)) from (hv3a 16 rfl)), (show ac.eval (.tmp 17) = (Value.int .i64 (k : Int)) from (hv4a 17 rfl))] <;> rfl) (by kernel_rfl) (Value.agg (cellsOf (bC (y0, y1)) 2)) (fun K hK => Bits_is HY.out wa K hK) rfl hM15 hI
          · exact potg_al rfl rfl rfl zeB rfl rfl hM15 hI
          · exact potg_al rfl rfl rfl zeB rfl rfl hM15 hI
        · intro vals w5_21_ hb5_21_ hF hG
          have e_21_0 := (hF 0 (by simp)).val rfl
          have e_21_1 := (hF 1 (by simp)).val rfl
          have e_21_2 := (hF 2 (by simp)).val rfl
          have e_21_3 := (hF 3 (by simp)).val rfl
          have e_21_4 := (hF 4 (by simp)).val rfl
          have e_21_5 := (hF 5 (by simp)).val rfl
          obtain ⟨b_21_6, l_21_6, e_21_6, h_21_6⟩ := (hF 6 (by simp)).al rfl rfl
          obtain ⟨b_21_7, l_21_7, e_21_7, h_21_7⟩ := (hF 7 (by simp)).al rfl rfl
          have n_21_6_7 := hG 6 (by simp) 7 (by simp) (by omega) rfl rfl b_21_6 b_21_7 e_21_6 e_21_7
          clear hF hG
          simp only [List.foldl_cons, List.foldl_nil, dstOf, List.getElem?_toArray, List.getElem?_cons_succ, List.getElem?_cons_zero, Option.bind_some, Act.put, List.setIfInBounds_toArray, List.set_cons_succ, List.set_cons_zero, e_21_0, e_21_1, e_21_2, e_21_3, e_21_4, e_21_5, e_21_6, e_21_7]
          clear e_21_0 e_21_1 e_21_2 e_21_3 e_21_4 e_21_5 e_21_6 e_21_7
          refine wpAny_chain [8, 9] _ _ _ _ (by kernel_rfl) (by decide) ?_
          simp only [List.filterMap_cons, List.filterMap_nil, List.getElem?_toArray, List.getElem?_cons_succ, List.getElem?_cons_zero]
          have k22 := k10.below hb5_21_ (by omega)
          have k23 := k11.below hb5_21_ (by omega)
          have k24 := k12.below hb5_21_ (by omega)
          have k25 := k13.below hb5_21_ (by omega)
          have lo26 := lo14.trans (hb5_21_.mono (by omega))
          clear k10 k11 k12 k13 lo14 hb5_21_
          refine wpl_store rfl 140 (.tmp 7) (.tmp 15) rfl b_21_6 2 (bC (true, true)) rfl rfl 140 _ h_21_6 szB (fun j _ => bC_one _ j) ?_
          intro xw27 t28 k29
          have k30 := k22.touch t28 (by omega)
          have k31 := k23.touch t28 (by omega)
          have k32 := k24.touch t28 (by omega)
          have k33 := k25.touch t28 (by omega)
          have k34 := h_21_7.touch t28 (by omega)
          have lo35 := t28.below lo26 (by omega)
          clear h_21_6 k22 k23 k24 k25 h_21_7 lo26 t28
          refine wpl_store rfl 140 (.tmp 8) (.tmp 18) rfl b_21_7 2 (bC (y0, y1)) rfl rfl 140 _ k34 szB (fun j _ => bC_one _ j) ?_
          intro xw36 t37 k38
          have k39 := k30.touch t37 (by omega)
          have k40 := k31.touch t37 (by omega)
          have k41 := k32.touch t37 (by omega)
          have k42 := k33.touch t37 (by omega)
          have k43 := k29.touch t37 (by omega)
          have lo44 := t37.below lo35 (by omega)
          clear k34 k30 k31 k32 k33 k29 lo35 t37
          obtain ⟨M45, hM45⟩ := sz_some xw36
          have lt_46 := k39.ltN hM45
          have lt_47 := k40.ltN hM45
          have lt_48 := k41.ltN hM45
          have lt_49 := k42.ltN hM45
          have lt_50 := k43.ltN hM45
          have lt_51 := k38.ltN hM45
          go_upto_region 6 with fail
          refine wp_region_lit ?_
          try simp only [pA]
          change wpList _ _ _ ((_ :: _ :: _ :: _ :: _ :: _ :: _ :: _ :: _ :: _ :: _ :: _ :: _ :: _ :: _ :: _ :: []) ++ (_ :: [])) _ _
          obtain ⟨c52, c53⟩ := b_cells k43
          obtain ⟨c54, c55⟩ := b_cells k38
          refine wpList_prefix (C := fun w' => ∃ x : Later M45 xw36, w' = x.w') _ _ _ _ ⟨⟨_, Below.refl _ _⟩, rfl⟩ ?_
          refine later_row hM45 32 (.tmp 5) rfl (b_xw4) rfl 32 2 _ k42 undU szU (by rfl) ?_; simp only [pA]
          go_big_quiet_step (fail)
          go_big_quiet_step (fail)
          refine later_c1 hM45 4 (.tmp 21) rfl rfl undBool rfl c52 (by rfl) ?_; simp only [pA]
          go_big_quiet_step (fail)
          go_big_quiet_step (fail)
          go_big_quiet_step (fail)
          go_big_quiet_step (fail)
          go_big_quiet_step (fail)
          refine later_c1 hM45 4 (.tmp 27) rfl rfl undBool rfl c53 (by rfl) ?_; simp only [pA]
          go_big_quiet_step (fail)
          go_big_quiet_step (fail)
          go_big_quiet_step (fail)
          go_big_quiet_step (fail)
          refine later_val (fun q => run_bd 140 _ rfl (cellsOf (bC (true, true)) 2) (by kernel_rfl) q.w') (by rfl) ?_; simp only [pA]
          go_big_quiet_step ((go_at_call 101; exact later_of hM45 _ (fun K hK hKN => Set_any (rN y k) k (true, true) _ K hK)))
          refine wpQuiet_nil ?_
          rintro xw56 ⟨qxw56, exw56⟩
          have hbxw56 := qxw56.b
          rw [← exw56] at hbxw56
          clear qxw56 exw56
          obtain ⟨M57, hM57⟩ := sz_some xw56
          have lM57 := below_sz hbxw56 hM45 hM57
          have k58 := k39.below hbxw56 (by omega)
          have k59 := k40.below hbxw56 (by omega)
          have k60 := k41.below hbxw56 (by omega)
          have k61 := k42.below hbxw56 (by omega)
          have k62 := k43.below hbxw56 (by omega)
          have k63 := k38.below hbxw56 (by omega)
          have lo64 := lo44.trans (hbxw56.mono (by omega))
          clear k39 k40 k41 k42 k43 c52 c53 k38 c54 c55 lo44 hbxw56
          refine wpl_store rfl 32 (.tmp 5) (.tmp 34) rfl b_xw4 2 (nC (rSet (rN y k) k (true, true))) rfl rfl 32 _ k61 szU (fun j _ => nC_one _ j) ?_
          intro xw65 t66 k67
          have k68 := k58.touch t66 (by omega)
          have k69 := k59.touch t66 (by omega)
          have k70 := k60.touch t66 (by omega)
          have k71 := k62.touch t66 (by omega)
          have k72 := k63.touch t66 (by omega)
          have lo73 := t66.below lo64 (by omega)
          clear k61 k58 k59 k60 k62 k63 lo64 t66
          go_wp2_with fail
          go_roundg (64 - (k + 1))
          case rel => exact ⟨k + 1, by omega, rfl, by simp, k68, k69, k70, by rw [E.out]; exact k67, lo73⟩
          case measure => omega
      · have HX := hid hxa
        have E := hid (show rN y (k + 1) = rSet (rN y k) k (true, y1) by show rSet (rN y k) k (y k) = _; rw [Hy.out]; show rSet _ k ((rBits a k).1 || (rBits b k).1, (rBits a k).2 || (rBits b k).2) = _; rw [hxa, hyb]; rfl)
        clear hxa hyb
        go_upto_region 5 with fail
        refine wp_region_any (by kernel_rfl) ?_
        replace k10 : Has wr.drew N 32 2 (nC a) := k10
        replace k11 : Has wr.drew (N + 1) 32 2 (nC b) := k11
        replace k12 : Has wr.drew (N + 1 + 1) 32 2 (nC zeroN) := k12
        replace k13 : Has wr.drew b_xw4 32 2 (nC (rN y k)) := k13
        replace hM15 : Sz wr.drew M15 := hM15
        replace lo14 : Below N w wr.drew := lo14.drew
        change wpAny _ _ _ _ _ _ _ (World.drew _)
        generalize wr.drew = xw20 at *
        refine wpAny_pot (rem := [0, 1, 2, 3, 4, 5, 6, 7]) (FG M15 (fun j => if j = 0 then some (Value.agg (cellsOf (nC a) 2)) else if j = 1 then some (Value.int .i64 (k : Int)) else if j = 2 then some (Value.agg (cellsOf (bC (true, false)) 2)) else if j = 3 then some (Value.agg (cellsOf (nC b) 2)) else if j = 4 then some (Value.int .i64 (k : Int)) else if j = 5 then some (Value.agg (cellsOf (bC (y0, y1)) 2)) else if j = 6 then none else none) (fun j => if j = 6 then (140, 2, bC (false, false)) else (140, 2, bC (false, false)))) (TwoN (fun j => if j = 0 then some (Value.agg (cellsOf (nC a) 2)) else if j = 1 then some (Value.int .i64 (k : Int)) else if j = 2 then some (Value.agg (cellsOf (bC (true, false)) 2)) else if j = 3 then some (Value.agg (cellsOf (nC b) 2)) else if j = 4 then some (Value.int .i64 (k : Int)) else if j = 5 then some (Value.agg (cellsOf (bC (y0, y1)) 2)) else if j = 6 then none else none)) (Below M15 xw20) _ _ _ _ (by kernel_rfl) (size_dstG (by kernel_rfl)) (Below.refl _ _) ?_ ?_
        · intro i hi ac wa hI ha hv
          simp only [List.mem_cons, List.not_mem_nil, or_false] at hi
          rcases hi with rfl | rfl | rfl | rfl | rfl | rfl | rfl | rfl
          · exact potg_run rfl rfl (Value.agg (cellsOf (nC a) 2)) rfl (run_rw 32 (.tmp 2) rfl N (ha 2 (not_dstG (by kernel_rfl))) 32 2 _ (Has.below k10 hI (Has.ltN k10 hM15)) undU szU) hM15 hI
          · exact potg_run rfl rfl (Value.int .i64 (k : Int)) rfl (run_mv (x := (.tmp 6)) rfl _ (ha 6 (not_dstG (by kernel_rfl)))) hM15 hI
          · obtain ⟨v0, hv0a, hv0b⟩ := hv 0 (by simp) (by kernel_rfl)
            have ev0 := hv0b.val rfl
            subst ev0
            obtain ⟨v1, hv1a, hv1b⟩ := hv 1 (by simp) (by kernel_rfl)
            have ev1 := hv1b.val rfl
            subst ev1
            exact potg_cl rfl rfl 100 _ _ rfl #[(Value.agg (cellsOf (nC a) 2)), (Value.int .i64 (k : Int))] (by simp only [List.map_toArray, List.map_cons, List.map_nil, (show ac.eval (.tmp 13) = (Value.agg (cellsOf (nC a) 2)) from (hv0a 13 rfl)), (show ac.eval (.tmp 14) = (Value.int .i64 (k : Int)) from (hv1a 14 rfl))] <;> rfl) (by kernel_rfl) (Value.agg (cellsOf (bC (true, false)) 2)) (fun K hK => Bits_is HX.out wa K hK) rfl hM15 hI
          · exact potg_run rfl rfl (Value.agg (cellsOf (nC b) 2)) rfl (run_rw 32 (.tmp 3) rfl (N + 1) (ha 3 (not_dstG (by kernel_rfl))) 32 2 _ (Has.below k11 hI (Has.ltN k11 hM15)) undU szU) hM15 hI
          · exact potg_run rfl rfl (Value.int .i64 (k : Int)) rfl (run_mv (x := (.tmp 6)) rfl _ (ha 6 (not_dstG (by kernel_rfl)))) hM15 hI
          · obtain ⟨v3, hv3a, hv3b⟩ := hv 3 (by simp) (by kernel_rfl)
            have ev3 := hv3b.val rfl
            subst ev3
            obtain ⟨v4, hv4a, hv4b⟩ := hv 4 (by simp) (by kernel_rfl)
            have ev4 := hv4b.val rfl
            subst ev4
            exact potg_cl rfl rfl 100 _ _ rfl #[(Value.agg (cellsOf (nC b) 2)), (Value.int .i64 (k : Int))] (by simp only [List.map_toArray, List.map_cons, List.map_nil, (show ac.eval (.tmp 16) = (Value.agg (cellsOf (nC b) 2)) from (hv3a 16 rfl)), (show ac.eval (.tmp 17) = (Value.int .i64 (k : Int)) from (hv4a 17 rfl))] <;> rfl) (by kernel_rfl) (Value.agg (cellsOf (bC (y0, y1)) 2)) (fun K hK => Bits_is HY.out wa K hK) rfl hM15 hI
          · exact potg_al rfl rfl rfl zeB rfl rfl hM15 hI
          · exact potg_al rfl rfl rfl zeB rfl rfl hM15 hI
        · intro vals w5_21_ hb5_21_ hF hG
          have e_21_0 := (hF 0 (by simp)).val rfl
          have e_21_1 := (hF 1 (by simp)).val rfl
          have e_21_2 := (hF 2 (by simp)).val rfl
          have e_21_3 := (hF 3 (by simp)).val rfl
          have e_21_4 := (hF 4 (by simp)).val rfl
          have e_21_5 := (hF 5 (by simp)).val rfl
          obtain ⟨b_21_6, l_21_6, e_21_6, h_21_6⟩ := (hF 6 (by simp)).al rfl rfl
          obtain ⟨b_21_7, l_21_7, e_21_7, h_21_7⟩ := (hF 7 (by simp)).al rfl rfl
          have n_21_6_7 := hG 6 (by simp) 7 (by simp) (by omega) rfl rfl b_21_6 b_21_7 e_21_6 e_21_7
          clear hF hG
          simp only [List.foldl_cons, List.foldl_nil, dstOf, List.getElem?_toArray, List.getElem?_cons_succ, List.getElem?_cons_zero, Option.bind_some, Act.put, List.setIfInBounds_toArray, List.set_cons_succ, List.set_cons_zero, e_21_0, e_21_1, e_21_2, e_21_3, e_21_4, e_21_5, e_21_6, e_21_7]
          clear e_21_0 e_21_1 e_21_2 e_21_3 e_21_4 e_21_5 e_21_6 e_21_7
          refine wpAny_chain [8, 9] _ _ _ _ (by kernel_rfl) (by decide) ?_
          simp only [List.filterMap_cons, List.filterMap_nil, List.getElem?_toArray, List.getElem?_cons_succ, List.getElem?_cons_zero]
          have k22 := k10.below hb5_21_ (by omega)
          have k23 := k11.below hb5_21_ (by omega)
          have k24 := k12.below hb5_21_ (by omega)
          have k25 := k13.below hb5_21_ (by omega)
          have lo26 := lo14.trans (hb5_21_.mono (by omega))
          clear k10 k11 k12 k13 lo14 hb5_21_
          refine wpl_store rfl 140 (.tmp 7) (.tmp 15) rfl b_21_6 2 (bC (true, false)) rfl rfl 140 _ h_21_6 szB (fun j _ => bC_one _ j) ?_
          intro xw27 t28 k29
          have k30 := k22.touch t28 (by omega)
          have k31 := k23.touch t28 (by omega)
          have k32 := k24.touch t28 (by omega)
          have k33 := k25.touch t28 (by omega)
          have k34 := h_21_7.touch t28 (by omega)
          have lo35 := t28.below lo26 (by omega)
          clear h_21_6 k22 k23 k24 k25 h_21_7 lo26 t28
          refine wpl_store rfl 140 (.tmp 8) (.tmp 18) rfl b_21_7 2 (bC (y0, y1)) rfl rfl 140 _ k34 szB (fun j _ => bC_one _ j) ?_
          intro xw36 t37 k38
          have k39 := k30.touch t37 (by omega)
          have k40 := k31.touch t37 (by omega)
          have k41 := k32.touch t37 (by omega)
          have k42 := k33.touch t37 (by omega)
          have k43 := k29.touch t37 (by omega)
          have lo44 := t37.below lo35 (by omega)
          clear k34 k30 k31 k32 k33 k29 lo35 t37
          obtain ⟨M45, hM45⟩ := sz_some xw36
          have lt_46 := k39.ltN hM45
          have lt_47 := k40.ltN hM45
          have lt_48 := k41.ltN hM45
          have lt_49 := k42.ltN hM45
          have lt_50 := k43.ltN hM45
          have lt_51 := k38.ltN hM45
          go_upto_region 6 with fail
          refine wp_region_lit ?_
          try simp only [pA]
          change wpList _ _ _ ((_ :: _ :: _ :: _ :: _ :: _ :: _ :: _ :: _ :: _ :: _ :: _ :: _ :: _ :: _ :: _ :: []) ++ (_ :: [])) _ _
          obtain ⟨c52, c53⟩ := b_cells k43
          obtain ⟨c54, c55⟩ := b_cells k38
          refine wpList_prefix (C := fun w' => ∃ x : Later M45 xw36, w' = x.w') _ _ _ _ ⟨⟨_, Below.refl _ _⟩, rfl⟩ ?_
          refine later_row hM45 32 (.tmp 5) rfl (b_xw4) rfl 32 2 _ k42 undU szU (by rfl) ?_; simp only [pA]
          go_big_quiet_step (fail)
          go_big_quiet_step (fail)
          refine later_c1 hM45 4 (.tmp 21) rfl rfl undBool rfl c52 (by rfl) ?_; simp only [pA]
          go_big_quiet_step (fail)
          go_big_quiet_step (fail)
          go_big_quiet_step (fail)
          go_big_quiet_step (fail)
          go_big_quiet_step (fail)
          refine later_c1 hM45 4 (.tmp 27) rfl rfl undBool rfl c53 (by rfl) ?_; simp only [pA]
          go_big_quiet_step (fail)
          go_big_quiet_step (fail)
          refine later_c1 hM45 4 (.tmp 30) rfl rfl undBool rfl c55 (by rfl) ?_; simp only [pA]
          go_big_quiet_step (fail)
          refine later_val (fun q => run_bd 140 _ rfl (cellsOf (bC (true, y1)) 2) (by kernel_rfl) q.w') (by rfl) ?_; simp only [pA]
          go_big_quiet_step ((go_at_call 101; exact later_of hM45 _ (fun K hK hKN => Set_any (rN y k) k (true, y1) _ K hK)))
          refine wpQuiet_nil ?_
          rintro xw56 ⟨qxw56, exw56⟩
          have hbxw56 := qxw56.b
          rw [← exw56] at hbxw56
          clear qxw56 exw56
          obtain ⟨M57, hM57⟩ := sz_some xw56
          have lM57 := below_sz hbxw56 hM45 hM57
          have k58 := k39.below hbxw56 (by omega)
          have k59 := k40.below hbxw56 (by omega)
          have k60 := k41.below hbxw56 (by omega)
          have k61 := k42.below hbxw56 (by omega)
          have k62 := k43.below hbxw56 (by omega)
          have k63 := k38.below hbxw56 (by omega)
          have lo64 := lo44.trans (hbxw56.mono (by omega))
          clear k39 k40 k41 k42 k43 c52 c53 k38 c54 c55 lo44 hbxw56
          refine wpl_store rfl 32 (.tmp 5) (.tmp 34) rfl b_xw4 2 (nC (rSet (rN y k) k (true, y1))) rfl rfl 32 _ k61 szU (fun j _ => nC_one _ j) ?_
          intro xw65 t66 k67
          have k68 := k58.touch t66 (by omega)
          have k69 := k59.touch t66 (by omega)
          have k70 := k60.touch t66 (by omega)
          have k71 := k62.touch t66 (by omega)
          have k72 := k63.touch t66 (by omega)
          have lo73 := t66.below lo64 (by omega)
          clear k61 k58 k59 k60 k62 k63 lo64 t66
          go_wp2_with fail
          go_roundg (64 - (k + 1))
          case rel => exact ⟨k + 1, by omega, rfl, by simp, k68, k69, k70, by rw [E.out]; exact k67, lo73⟩
          case measure => omega
      · have HX := hid hxa
        have E := hid (show rN y (k + 1) = rSet (rN y k) k (y0, true) by show rSet (rN y k) k (y k) = _; rw [Hy.out]; show rSet _ k ((rBits a k).1 || (rBits b k).1, (rBits a k).2 || (rBits b k).2) = _; rw [hxa, hyb]; rfl)
        clear hxa hyb
        go_upto_region 5 with fail
        refine wp_region_any (by kernel_rfl) ?_
        replace k10 : Has wr.drew N 32 2 (nC a) := k10
        replace k11 : Has wr.drew (N + 1) 32 2 (nC b) := k11
        replace k12 : Has wr.drew (N + 1 + 1) 32 2 (nC zeroN) := k12
        replace k13 : Has wr.drew b_xw4 32 2 (nC (rN y k)) := k13
        replace hM15 : Sz wr.drew M15 := hM15
        replace lo14 : Below N w wr.drew := lo14.drew
        change wpAny _ _ _ _ _ _ _ (World.drew _)
        generalize wr.drew = xw20 at *
        refine wpAny_pot (rem := [0, 1, 2, 3, 4, 5, 6, 7]) (FG M15 (fun j => if j = 0 then some (Value.agg (cellsOf (nC a) 2)) else if j = 1 then some (Value.int .i64 (k : Int)) else if j = 2 then some (Value.agg (cellsOf (bC (false, true)) 2)) else if j = 3 then some (Value.agg (cellsOf (nC b) 2)) else if j = 4 then some (Value.int .i64 (k : Int)) else if j = 5 then some (Value.agg (cellsOf (bC (y0, y1)) 2)) else if j = 6 then none else none) (fun j => if j = 6 then (140, 2, bC (false, false)) else (140, 2, bC (false, false)))) (TwoN (fun j => if j = 0 then some (Value.agg (cellsOf (nC a) 2)) else if j = 1 then some (Value.int .i64 (k : Int)) else if j = 2 then some (Value.agg (cellsOf (bC (false, true)) 2)) else if j = 3 then some (Value.agg (cellsOf (nC b) 2)) else if j = 4 then some (Value.int .i64 (k : Int)) else if j = 5 then some (Value.agg (cellsOf (bC (y0, y1)) 2)) else if j = 6 then none else none)) (Below M15 xw20) _ _ _ _ (by kernel_rfl) (size_dstG (by kernel_rfl)) (Below.refl _ _) ?_ ?_
        · intro i hi ac wa hI ha hv
          simp only [List.mem_cons, List.not_mem_nil, or_false] at hi
          rcases hi with rfl | rfl | rfl | rfl | rfl | rfl | rfl | rfl
          · exact potg_run rfl rfl (Value.agg (cellsOf (nC a) 2)) rfl (run_rw 32 (.tmp 2) rfl N (ha 2 (not_dstG (by kernel_rfl))) 32 2 _ (Has.below k10 hI (Has.ltN k10 hM15)) undU szU) hM15 hI
          · exact potg_run rfl rfl (Value.int .i64 (k : Int)) rfl (run_mv (x := (.tmp 6)) rfl _ (ha 6 (not_dstG (by kernel_rfl)))) hM15 hI
          · obtain ⟨v0, hv0a, hv0b⟩ := hv 0 (by simp) (by kernel_rfl)
            have ev0 := hv0b.val rfl
            subst ev0
            obtain ⟨v1, hv1a, hv1b⟩ := hv 1 (by simp) (by kernel_rfl)
            have ev1 := hv1b.val rfl
            subst ev1
            exact potg_cl rfl rfl 100 _ _ rfl #[(Value.agg (cellsOf (nC a) 2)), (Value.int .i64 (k : Int))] (by simp only [List.map_toArray, List.map_cons, List.map_nil, (show ac.eval (.tmp 13) = (Value.agg (cellsOf (nC a) 2)) from (hv0a 13 rfl)), (show ac.eval (.tmp 14) = (Value.int .i64 (k : Int)) from (hv1a 14 rfl))] <;> rfl) (by kernel_rfl) (Value.agg (cellsOf (bC (false, true)) 2)) (fun K hK => Bits_is HX.out wa K hK) rfl hM15 hI
          · exact potg_run rfl rfl (Value.agg (cellsOf (nC b) 2)) rfl (run_rw 32 (.tmp 3) rfl (N + 1) (ha 3 (not_dstG (by kernel_rfl))) 32 2 _ (Has.below k11 hI (Has.ltN k11 hM15)) undU szU) hM15 hI
          · exact potg_run rfl rfl (Value.int .i64 (k : Int)) rfl (run_mv (x := (.tmp 6)) rfl _ (ha 6 (not_dstG (by kernel_rfl)))) hM15 hI
          · obtain ⟨v3, hv3a, hv3b⟩ := hv 3 (by simp) (by kernel_rfl)
            have ev3 := hv3b.val rfl
            subst ev3
            obtain ⟨v4, hv4a, hv4b⟩ := hv 4 (by simp) (by kernel_rfl)
            have ev4 := hv4b.val rfl
            subst ev4
            exact potg_cl rfl rfl 100 _ _ rfl #[(Value.agg (cellsOf (nC b) 2)), (Value.int .i64 (k : Int))] (by simp only [List.map_toArray, List.map_cons, List.map_nil, (show ac.eval (.tmp 16) = (Value.agg (cellsOf (nC b) 2)) from (hv3a 16 rfl)), (show ac.eval (.tmp 17) = (Value.int .i64 (k : Int)) from (hv4a 17 rfl))] <;> rfl) (by kernel_rfl) (Value.agg (cellsOf (bC (y0, y1)) 2)) (fun K hK => Bits_is HY.out wa K hK) rfl hM15 hI
          · exact potg_al rfl rfl rfl zeB rfl rfl hM15 hI
          · exact potg_al rfl rfl rfl zeB rfl rfl hM15 hI
        · intro vals w5_21_ hb5_21_ hF hG
          have e_21_0 := (hF 0 (by simp)).val rfl
          have e_21_1 := (hF 1 (by simp)).val rfl
          have e_21_2 := (hF 2 (by simp)).val rfl
          have e_21_3 := (hF 3 (by simp)).val rfl
          have e_21_4 := (hF 4 (by simp)).val rfl
          have e_21_5 := (hF 5 (by simp)).val rfl
          obtain ⟨b_21_6, l_21_6, e_21_6, h_21_6⟩ := (hF 6 (by simp)).al rfl rfl
          obtain ⟨b_21_7, l_21_7, e_21_7, h_21_7⟩ := (hF 7 (by simp)).al rfl rfl
          have n_21_6_7 := hG 6 (by simp) 7 (by simp) (by omega) rfl rfl b_21_6 b_21_7 e_21_6 e_21_7
          clear hF hG
          simp only [List.foldl_cons, List.foldl_nil, dstOf, List.getElem?_toArray, List.getElem?_cons_succ, List.getElem?_cons_zero, Option.bind_some, Act.put, List.setIfInBounds_toArray, List.set_cons_succ, List.set_cons_zero, e_21_0, e_21_1, e_21_2, e_21_3, e_21_4, e_21_5, e_21_6, e_21_7]
          clear e_21_0 e_21_1 e_21_2 e_21_3 e_21_4 e_21_5 e_21_6 e_21_7
          refine wpAny_chain [8, 9] _ _ _ _ (by kernel_rfl) (by decide) ?_
          simp only [List.filterMap_cons, List.filterMap_nil, List.getElem?_toArray, List.getElem?_cons_succ, List.getElem?_cons_zero]
          have k22 := k10.below hb5_21_ (by omega)
          have k23 := k11.below hb5_21_ (by omega)
          have k24 := k12.below hb5_21_ (by omega)
          have k25 := k13.below hb5_21_ (by omega)
          have lo26 := lo14.trans (hb5_21_.mono (by omega))
          clear k10 k11 k12 k13 lo14 hb5_21_
          refine wpl_store rfl 140 (.tmp 7) (.tmp 15) rfl b_21_6 2 (bC (false, true)) rfl rfl 140 _ h_21_6 szB (fun j _ => bC_one _ j) ?_
          intro xw27 t28 k29
          have k30 := k22.touch t28 (by omega)
          have k31 := k23.touch t28 (by omega)
          have k32 := k24.touch t28 (by omega)
          have k33 := k25.touch t28 (by omega)
          have k34 := h_21_7.touch t28 (by omega)
          have lo35 := t28.below lo26 (by omega)
          clear h_21_6 k22 k23 k24 k25 h_21_7 lo26 t28
          refine wpl_store rfl 140 (.tmp 8) (.tmp 18) rfl b_21_7 2 (bC (y0, y1)) rfl rfl 140 _ k34 szB (fun j _ => bC_one _ j) ?_
          intro xw36 t37 k38
          have k39 := k30.touch t37 (by omega)
          have k40 := k31.touch t37 (by omega)
          have k41 := k32.touch t37 (by omega)
          have k42 := k33.touch t37 (by omega)
          have k43 := k29.touch t37 (by omega)
          have lo44 := t37.below lo35 (by omega)
          clear k34 k30 k31 k32 k33 k29 lo35 t37
          obtain ⟨M45, hM45⟩ := sz_some xw36
          have lt_46 := k39.ltN hM45
          have lt_47 := k40.ltN hM45
          have lt_48 := k41.ltN hM45
          have lt_49 := k42.ltN hM45
          have lt_50 := k43.ltN hM45
          have lt_51 := k38.ltN hM45
          go_upto_region 6 with fail
          refine wp_region_lit ?_
          try simp only [pA]
          change wpList _ _ _ ((_ :: _ :: _ :: _ :: _ :: _ :: _ :: _ :: _ :: _ :: _ :: _ :: _ :: _ :: _ :: _ :: []) ++ (_ :: [])) _ _
          obtain ⟨c52, c53⟩ := b_cells k43
          obtain ⟨c54, c55⟩ := b_cells k38
          refine wpList_prefix (C := fun w' => ∃ x : Later M45 xw36, w' = x.w') _ _ _ _ ⟨⟨_, Below.refl _ _⟩, rfl⟩ ?_
          refine later_row hM45 32 (.tmp 5) rfl (b_xw4) rfl 32 2 _ k42 undU szU (by rfl) ?_; simp only [pA]
          go_big_quiet_step (fail)
          go_big_quiet_step (fail)
          refine later_c1 hM45 4 (.tmp 21) rfl rfl undBool rfl c52 (by rfl) ?_; simp only [pA]
          go_big_quiet_step (fail)
          go_big_quiet_step (fail)
          refine later_c1 hM45 4 (.tmp 24) rfl rfl undBool rfl c54 (by rfl) ?_; simp only [pA]
          go_big_quiet_step (fail)
          go_big_quiet_step (fail)
          refine later_c1 hM45 4 (.tmp 27) rfl rfl undBool rfl c53 (by rfl) ?_; simp only [pA]
          go_big_quiet_step (fail)
          go_big_quiet_step (fail)
          go_big_quiet_step (fail)
          go_big_quiet_step (fail)
          refine later_val (fun q => run_bd 140 _ rfl (cellsOf (bC (y0, true)) 2) (by kernel_rfl) q.w') (by rfl) ?_; simp only [pA]
          go_big_quiet_step ((go_at_call 101; exact later_of hM45 _ (fun K hK hKN => Set_any (rN y k) k (y0, true) _ K hK)))
          refine wpQuiet_nil ?_
          rintro xw56 ⟨qxw56, exw56⟩
          have hbxw56 := qxw56.b
          rw [← exw56] at hbxw56
          clear qxw56 exw56
          obtain ⟨M57, hM57⟩ := sz_some xw56
          have lM57 := below_sz hbxw56 hM45 hM57
          have k58 := k39.below hbxw56 (by omega)
          have k59 := k40.below hbxw56 (by omega)
          have k60 := k41.below hbxw56 (by omega)
          have k61 := k42.below hbxw56 (by omega)
          have k62 := k43.below hbxw56 (by omega)
          have k63 := k38.below hbxw56 (by omega)
          have lo64 := lo44.trans (hbxw56.mono (by omega))
          clear k39 k40 k41 k42 k43 c52 c53 k38 c54 c55 lo44 hbxw56
          refine wpl_store rfl 32 (.tmp 5) (.tmp 34) rfl b_xw4 2 (nC (rSet (rN y k) k (y0, true))) rfl rfl 32 _ k61 szU (fun j _ => nC_one _ j) ?_
          intro xw65 t66 k67
          have k68 := k58.touch t66 (by omega)
          have k69 := k59.touch t66 (by omega)
          have k70 := k60.touch t66 (by omega)
          have k71 := k62.touch t66 (by omega)
          have k72 := k63.touch t66 (by omega)
          have lo73 := t66.below lo64 (by omega)
          clear k61 k58 k59 k60 k62 k63 lo64 t66
          go_wp2_with fail
          go_roundg (64 - (k + 1))
          case rel => exact ⟨k + 1, by omega, rfl, by simp, k68, k69, k70, by rw [E.out]; exact k67, lo73⟩
          case measure => omega
    · have ek : k = 64 := by omega
      subst ek
      go_upto_region 7 with fail
      refine wp_region_lit ?_
      try simp only [pA]
      refine wpl_run rfl (Value.agg (cellsOf (nC (rN y 64)) 2)) _ (run_rw 32 (.tmp 5) rfl b_xw4 rfl 32 2 _ k13 undU szU) ?_; simp only [pA]
      refine wpl_store rfl 32 (.tmp 4) (.tmp 35) rfl (N + 1 + 1) 2 (nC (rN y 64)) rfl rfl 32 _ k12 szU (fun j _ => nC_one _ j) ?_
      intro xw20 t21 k22; simp only [pA]
      have k23 := k10.touch t21 (by omega)
      have k24 := k11.touch t21 (by omega)
      have k25 := k13.touch t21 (by omega)
      have lo26 := t21.below lo14 (by omega)
      have h27 := t21.sz hM15
      clear k12 k10 k11 k13 lo14 hM15 t21
      go_wp2_with fail
      refine post_n rfl (N + 1 + 1) rfl k22 ⟨dU, u1, u2⟩ szU rfl ?_
      exact ⟨rfl, lo26⟩
def rMeetB (a b : Nm) : Bool := (List.range 64).all (fun i => rMeetY a b i != (false, false))
def rMeetN (a b : Nm) : Nm := if rMeetB a b then rN (rMeetY a b) 64 else zeroN
theorem meet_none {a b : Nm} {k : Nat} (hk : k < 64) (h : rMeetY a b k = (false, false)) : rMeetN a b = zeroN ∧ rMeetB a b = false := by
  have h1 : rMeetB a b = false := by
    unfold rMeetB
    rw [List.all_eq_false]
    exact ⟨k, List.mem_range.2 hk, by rw [h]; decide⟩
  exact ⟨by unfold rMeetN; rw [h1]; rfl, h1⟩
theorem meet_all {a b : Nm} (h : ∀ i, i < 64 → rMeetY a b i ≠ (false, false)) : rMeetN a b = rN (rMeetY a b) 64 ∧ rMeetB a b = true := by
  have h1 : rMeetB a b = true := by
    unfold rMeetB
    rw [List.all_eq_true]
    intro i hi
    exact bne_iff_ne.2 (h i (List.mem_range.1 hi))
  exact ⟨by unfold rMeetN; rw [h1]; rfl, h1⟩
end Go.Proofs.Ytaeggclcjpcnoaa
namespace Go.Proofs.Ytaeggclcjpcnoaa
open Go Go.RowKit
theorem join_ref {a b : Nm} (ha : Rgt a) (hb : Rgt b) : tJoin a b = rJoin a b := by
  refine rN_eq fun i hi => ?_
  have h1 := ha.bit i
  have h2 := hb.bit i
  unfold tJoin tKnown rBits
  simp only [BitVec.getLsbD_and, BitVec.getLsbD_or, BitVec.getLsbD_xor, BitVec.getLsbD_not, hi, decide_true, Bool.true_and]
  revert h1 h2
  cases a.v.getLsbD i <;> cases b.v.getLsbD i <;> cases a.m.getLsbD i <;> cases b.m.getLsbD i <;> decide
def apartW (a b : Nm) : W := (a.v ^^^ b.v) &&& ~~~(a.m ||| b.m)
theorem meet_of {a b : Nm} (ha : Rgt a) (hb : Rgt b) : tMeet a b = if apartW a b != 0#64 then (⟨0#64, 0#64⟩, false) else (⟨a.v ||| b.v, a.m &&& b.m⟩, true) := by
  unfold tMeet apartW
  rw [tRight_iff.2 ha, tRight_iff.2 hb]; rfl
theorem apart_bit {a b : Nm} (ha : Rgt a) (hb : Rgt b) {i : Nat} (hi : i < 64) : ((apartW a b).getLsbD i = true) ↔ rMeetY a b i = (false, false) := by
  have h1 := ha.bit i
  have h2 := hb.bit i
  unfold apartW rMeetY rBits
  simp only [BitVec.getLsbD_and, BitVec.getLsbD_or, BitVec.getLsbD_xor, BitVec.getLsbD_not, hi, decide_true, Bool.true_and]
  revert h1 h2
  cases a.v.getLsbD i <;> cases b.v.getLsbD i <;> cases a.m.getLsbD i <;> cases b.m.getLsbD i <;> decide
theorem apart_iff {a b : Nm} (ha : Rgt a) (hb : Rgt b) : (apartW a b != 0#64) = !rMeetB a b := by
  rw [Bool.eq_iff_iff]
  constructor
  · intro h
    rw [bne_iff_ne] at h
    have : ∃ i, i < 64 ∧ (apartW a b).getLsbD i = true := by
      apply Classical.byContradiction
      intro hc
      apply h
      apply BitVec.eq_of_getLsbD_eq
      intro i hi
      cases hb : (apartW a b).getLsbD i
      · simp
      · exact absurd ⟨i, hi, hb⟩ hc
    obtain ⟨i, hi, hbit⟩ := this
    rw [(meet_none hi ((apart_bit ha hb hi).1 hbit)).2]; rfl
  · intro h
    rw [bne_iff_ne]
    intro h0
    have : rMeetB a b = true := (meet_all (fun i hi hc => by
      have := (apart_bit ha hb hi).2 hc
      rw [h0] at this; simp at this)).2
    rw [this] at h; cases h
theorem meetB_ref {a b : Nm} (ha : Rgt a) (hb : Rgt b) : meetB a b = rMeetB a b := by
  unfold meetB
  rw [meet_of ha hb, apart_iff ha hb]
  cases rMeetB a b <;> rfl
theorem apart_zero {a b : Nm} (ha : Rgt a) (hb : Rgt b) (h : meetB a b = true) (i : Nat) (hi : i < 64) : (apartW a b).getLsbD i = false := by
  have h1 := apart_iff ha hb
  rw [← meetB_ref ha hb, h] at h1
  have : apartW a b = 0#64 := by
    have : ¬ (apartW a b != 0#64) = true := by rw [h1]; decide
    simpa using this
  rw [this]; simp
theorem meetN_val {a b : Nm} (ha : Rgt a) (hb : Rgt b) (h : meetB a b = true) : meetN a b = ⟨a.v ||| b.v, a.m &&& b.m⟩ := by
  have h1 := apart_iff ha hb
  rw [← meetB_ref ha hb, h] at h1
  unfold meetN
  rw [meet_of ha hb, h1]; rfl
theorem meetN_ref {a b : Nm} (ha : Rgt a) (hb : Rgt b) : meetN a b = rMeetN a b := by
  cases h : meetB a b
  · have h1 := apart_iff ha hb
    have h2 := meetB_ref ha hb
    rw [h] at h2
    rw [← h2] at h1
    have : rMeetN a b = zeroN := by unfold rMeetN; rw [← h2]; rfl
    rw [this]
    unfold meetN
    rw [meet_of ha hb, h1]; rfl
  · rw [meetN_val ha hb h]
    have h2 := meetB_ref ha hb
    rw [h] at h2
    have : rMeetN a b = rN (rMeetY a b) 64 := by unfold rMeetN; rw [← h2]; rfl
    rw [this]
    refine rN_eq fun i hi => ?_
    have h3 := apart_zero ha hb h i hi
    have h4 := ha.bit i
    have h5 := hb.bit i
    unfold apartW at h3
    unfold rMeetY rBits
    simp only [BitVec.getLsbD_and, BitVec.getLsbD_or, BitVec.getLsbD_xor, BitVec.getLsbD_not, hi, decide_true, Bool.true_and] at h3 ⊢
    revert h3 h4 h5
    cases a.v.getLsbD i <;> cases b.v.getLsbD i <;> cases a.m.getLsbD i <;> cases b.m.getLsbD i <;> decide
theorem within_iff {a b : Nm} (ha : Rgt a) (hb : Rgt b) : tWithin a b = true ↔ ∀ i, i < 64 → (a.m.getLsbD i = true → b.m.getLsbD i = true) ∧ (b.m.getLsbD i = false → a.v.getLsbD i = b.v.getLsbD i) := by
  constructor
  · intro h
    unfold tWithin at h
    rw [tRight_iff.2 ha] at h
    simp only [Bool.not_true, Bool.false_or, Bool.and_eq_true, beq_iff_eq] at h
    obtain ⟨h1, h2⟩ := h
    rw [has_iff] at h2
    intro i hi
    have h3 := congrArg (fun z => z.getLsbD i) h1
    simp only [BitVec.getLsbD_and, BitVec.getLsbD_not, hi, decide_true, Bool.true_and, BitVec.getLsbD_zero] at h3
    have h4 := h2 i hi
    revert h3 h4
    cases a.v.getLsbD i <;> cases b.v.getLsbD i <;> cases a.m.getLsbD i <;> cases b.m.getLsbD i <;> decide
  · exact within_bits hb
theorem within_meet {a b : Nm} (ha : Rgt a) (hb : Rgt b) : tWithin a b = (meetB a b && (meetN a b).beq a) := by
  rw [Bool.eq_iff_iff, Bool.and_eq_true, within_iff ha hb]
  constructor
  · intro h
    have h1 : meetB a b = true := by
      rw [meetB_ref ha hb]
      refine (meet_all (fun i hi hc => ?_)).2
      have h2 := (apart_bit ha hb hi).2 hc
      have h3 := h i hi
      unfold apartW at h2
      simp only [BitVec.getLsbD_and, BitVec.getLsbD_or, BitVec.getLsbD_xor, BitVec.getLsbD_not, hi, decide_true, Bool.true_and] at h2
      revert h2 h3
      cases a.v.getLsbD i <;> cases b.v.getLsbD i <;> cases a.m.getLsbD i <;> cases b.m.getLsbD i <;> decide
    refine ⟨h1, Nm.beq_iff.2 ?_⟩
    rw [meetN_val ha hb h1]
    apply Nm.ext'
    · apply BitVec.eq_of_getLsbD_eq; intro i hi
      have h3 := h i hi
      have h4 := hb.bit i
      show (a.v ||| b.v).getLsbD i = a.v.getLsbD i
      rw [BitVec.getLsbD_or]
      revert h3 h4
      cases a.v.getLsbD i <;> cases b.v.getLsbD i <;> cases a.m.getLsbD i <;> cases b.m.getLsbD i <;> decide
    · apply BitVec.eq_of_getLsbD_eq; intro i hi
      have h3 := h i hi
      show (a.m &&& b.m).getLsbD i = a.m.getLsbD i
      rw [BitVec.getLsbD_and]
      revert h3
      cases a.v.getLsbD i <;> cases b.v.getLsbD i <;> cases a.m.getLsbD i <;> cases b.m.getLsbD i <;> decide
  · rintro ⟨h1, h2⟩ i hi
    have h3 := apart_zero ha hb h1 i hi
    rw [Nm.beq_iff, meetN_val ha hb h1] at h2
    have h4 := congrArg (fun z : Nm => z.v.getLsbD i) h2
    have h5 := congrArg (fun z : Nm => z.m.getLsbD i) h2
    unfold apartW at h3
    simp only [BitVec.getLsbD_and, BitVec.getLsbD_or, BitVec.getLsbD_xor, BitVec.getLsbD_not, hi, decide_true, Bool.true_and] at h3 h4 h5
    revert h3 h4 h5
    cases a.v.getLsbD i <;> cases b.v.getLsbD i <;> cases a.m.getLsbD i <;> cases b.m.getLsbD i <;> decide
theorem within_join_l {a b : Nm} (ha : Rgt a) (hb : Rgt b) : tWithin a (tJoin a b) = true := by
  refine within_bits (known_rgt _ _) fun i hi => ?_
  unfold tJoin tKnown
  simp only [BitVec.getLsbD_and, BitVec.getLsbD_or, BitVec.getLsbD_xor, BitVec.getLsbD_not, hi, decide_true, Bool.true_and]
  cases a.v.getLsbD i <;> cases b.v.getLsbD i <;> cases a.m.getLsbD i <;> cases b.m.getLsbD i <;> decide
theorem within_join_r {a b : Nm} (ha : Rgt a) (hb : Rgt b) : tWithin b (tJoin a b) = true := by rw [join_comm']; exact within_join_l hb ha
theorem within_any (a : Nm) : tWithin a tAny = true := by
  refine within_bits (by unfold Rgt tAny; simp) fun i hi => ?_
  simp only [tAny, BitVec.getLsbD_allOnes, hi, decide_true]
  simp
theorem meet_rgt {a b : Nm} (ha : Rgt a) (hb : Rgt b) (h : meetB a b = true) : Rgt (meetN a b) := by
  rw [meetN_val ha hb h]
  refine rgt_of fun i hi => ?_
  have h4 := ha.bit i
  have h5 := hb.bit i
  simp only [BitVec.getLsbD_and, BitVec.getLsbD_or]
  revert h4 h5
  cases a.v.getLsbD i <;> cases b.v.getLsbD i <;> cases a.m.getLsbD i <;> cases b.m.getLsbD i <;> decide
theorem within_meet_l {a b : Nm} (ha : Rgt a) (hb : Rgt b) (h : meetB a b = true) : tWithin (meetN a b) a = true := by
  rw [meetN_val ha hb h]
  refine within_bits ha fun i hi => ?_
  have h3 := apart_zero ha hb h i hi
  have h5 := hb.bit i
  unfold apartW at h3
  simp only [BitVec.getLsbD_and, BitVec.getLsbD_or, BitVec.getLsbD_xor, BitVec.getLsbD_not, hi, decide_true, Bool.true_and] at h3 ⊢
  revert h3 h5
  cases a.v.getLsbD i <;> cases b.v.getLsbD i <;> cases a.m.getLsbD i <;> cases b.m.getLsbD i <;> decide
theorem within_meet_r {a b : Nm} (ha : Rgt a) (hb : Rgt b) (h : meetB a b = true) : tWithin (meetN a b) b = true := by
  rw [meetN_val ha hb h]
  refine within_bits hb fun i hi => ?_
  have h3 := apart_zero ha hb h i hi
  have h5 := ha.bit i
  unfold apartW at h3
  simp only [BitVec.getLsbD_and, BitVec.getLsbD_or, BitVec.getLsbD_xor, BitVec.getLsbD_not, hi, decide_true, Bool.true_and] at h3 ⊢
  revert h3 h5
  cases a.v.getLsbD i <;> cases b.v.getLsbD i <;> cases a.m.getLsbD i <;> cases b.m.getLsbD i <;> decide
end Go.Proofs.Ytaeggclcjpcnoaa
