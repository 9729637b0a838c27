/- Contracts of the document's bits: what a bit may be; a bit that may be these. -/
import Derived.Test.YtbeikhokkpioeaaNme
namespace Go.Proofs.Ytbeikhokkpioeaa
open Go Go.RowKit
def bC (p : Bool × Bool) : Nat → Value := fun j => if j = 0 then .bool p.1 else .bool p.2
def bV (p : Bool × Bool) : Value := .agg (cellsOf (bC p) 2)
theorem bC_one (p : Bool × Bool) (j : Nat) : (bC p j).oneCell' = true := by unfold bC; split <;> rfl
theorem b_cells {w : World} {b T : Nat} {p : Bool × Bool} (h : Has w b T 2 (bC p)) : w.cell? ⟨b, 0, none⟩ = some (.bool p.1) ∧ w.cell? ⟨b, 1, none⟩ = some (.bool p.2) := ⟨h.cell (by omega), h.cell (by omega)⟩
theorem undB : ∃ d, Try.prog.underlying 58 = some d ∧ d.isRow = true := row_ofN (by kernel_rfl)
theorem szB : (Try.prog.info? 58).map (·.size) = some 2 := by kernel_rfl
theorem zeB : (Try.prog.info? 58).map (fun i => (i.zero, i.size)) = some (some (.agg (cellsOf (bC (false, false)) 2)), 2) := by kernel_rfl
theorem sz1b : (Try.prog.info? 4).map (·.size) = some 1 := by kernel_rfl
theorem bit_shr (x : W) (i : Nat) : (x >>> i &&& 1#64 == 1#64) = x.getLsbD i := by
  rw [Bool.eq_iff_iff, beq_iff_eq]
  constructor
  · intro h
    have := congrArg (fun z => z.getLsbD 0) h
    simpa [BitVec.getLsbD_ushiftRight] using this
  · intro h
    apply BitVec.eq_of_getLsbD_eq
    intro j hj
    rw [BitVec.getLsbD_and, BitVec.getLsbD_ushiftRight]
    by_cases e : j = 0
    · subst e; simp [h]
    · simp [BitVec.getLsbD_one, e]
set_option maxRecDepth 100000 in
set_option maxHeartbeats 2000000 in
theorem Bits_any (a : Nm) (i : Nat) (w : World) (N : Nat) (hN : Sz w N) : Calls Try.prog 39 #[nV a, .int .i64 (i : Int)] w fun e w' => e = .returned (bV (rBits a i)) ∧ Below N w w' := by
  obtain ⟨dB, u1, u2⟩ := undB
  have i0 : (0 : Int) ≤ (i : Int) := by omega
  unfold nV bV
  go_enter Try.func39, Try.ntmps39
  go_upto_region 1 with (first
    | (refine wpl_box rfl 24 (.tmp 0) rfl 2 _ rfl (N) hN ?_; intro w1 hN1 hb1 hh1)
    | (refine wpl_alloc rfl 58 rfl 2 (bC (false, false)) zeB (N + 1) hN1 ?_; intro w2 hN2 hb2 hh2)
    | fail)
  have lo0 : Below N w w2 := (hb1.trans (hb2.mono (by omega)))
  have k1 := (hh1.below hb2 (by omega))
  have k2 := hh2
  clear hh1 hb1 hh2 hb2 hN1
  go_upto_region 1 with fail
  cases hm : a.m.getLsbD i
  · have H := hid (show (a.m >>> i &&& 1#64 == 1#64) = false by rw [bit_shr, hm])
    have E := hid (show rBits a i = (!a.v.getLsbD i, a.v.getLsbD i) by unfold rBits; rw [hm]; rfl)
    clear hm
    obtain ⟨c3, c4⟩ := n_cells k1
    refine wp_region_later1 ((N + 1 + 1)) ?_
    try simp only [Act.put, List.setIfInBounds_toArray, List.set_cons_succ, List.set_cons_zero]
    go_big_quiet_step (fail)
    refine later_c1 hN2 22 (.tmp 6) rfl rfl und64 rfl c4 (by rfl) ?_; simp only [Act.put, List.setIfInBounds_toArray, List.set_cons_succ, List.set_cons_zero]
    go_big_quiet_step (fail)
    refine later_b (x := (.tmp 7)) (y := (.tmp 8)) rfl (bin_shr _ a.m i) rfl rfl (by rfl) ?_; simp only [Act.put, List.setIfInBounds_toArray, List.set_cons_succ, List.set_cons_zero]
    refine later_b (x := (.tmp 9)) (y := (.const (.int .u64 1))) rfl (bin_and _ (a.m >>> i) 1#64) rfl rfl (by rfl) ?_; simp only [Act.put, List.setIfInBounds_toArray, List.set_cons_succ, List.set_cons_zero]
    refine later_b (x := (.tmp 10)) (y := (.const (.int .u64 1))) rfl (BinRun.is H.out (bin_eql _ ((a.m >>> i) &&& 1#64) 1#64)) rfl rfl (by rfl) ?_; simp only [Act.put, List.setIfInBounds_toArray, List.set_cons_succ, List.set_cons_zero]
    refine wpQuiet_nil ?_
    rintro xw5 ⟨qxw5, exw5⟩
    have hbxw5 := qxw5.b
    rw [← exw5] at hbxw5
    clear qxw5 exw5
    obtain ⟨M6, hM6⟩ := sz_some xw5
    have lM6 := below_sz hbxw5 hN2 hM6
    have k7 := k1.below hbxw5 (by omega)
    have k8 := k2.below hbxw5 (by omega)
    have lo9 := lo0.trans (hbxw5.mono (by omega))
    clear k1 c3 c4 k2 lo0 hbxw5
    have H2 := hid (bit_shr a.v i)
    go_upto_region 3 with fail
    obtain ⟨c10, c11⟩ := n_cells k7
    refine wp_region_later1 (M6) ?_
    try simp only [Act.put, List.setIfInBounds_toArray, List.set_cons_succ, List.set_cons_zero]
    go_big_quiet_step (fail)
    refine later_c1 hM6 22 (.tmp 13) rfl rfl und64 rfl c10 (by rfl) ?_; simp only [Act.put, List.setIfInBounds_toArray, List.set_cons_succ, List.set_cons_zero]
    go_big_quiet_step (fail)
    refine later_b (x := (.tmp 14)) (y := (.tmp 15)) rfl (bin_shr _ a.v i) rfl rfl (by rfl) ?_; simp only [Act.put, List.setIfInBounds_toArray, List.set_cons_succ, List.set_cons_zero]
    refine later_b (x := (.tmp 16)) (y := (.const (.int .u64 1))) rfl (bin_and _ (a.v >>> i) 1#64) rfl rfl (by rfl) ?_; simp only [Act.put, List.setIfInBounds_toArray, List.set_cons_succ, List.set_cons_zero]
    refine later_b (x := (.tmp 17)) (y := (.const (.int .u64 1))) rfl (BinRun.is H2.out (bin_eql _ ((a.v >>> i) &&& 1#64) 1#64)) rfl rfl (by rfl) ?_; simp only [Act.put, List.setIfInBounds_toArray, List.set_cons_succ, List.set_cons_zero]
    go_big_quiet_step (fail)
    refine wpQuiet_nil ?_
    rintro xw12 ⟨qxw12, exw12⟩
    have hbxw12 := qxw12.b
    rw [← exw12] at hbxw12
    clear qxw12 exw12
    obtain ⟨M13, hM13⟩ := sz_some xw12
    have lM13 := below_sz hbxw12 hM6 hM13
    have k14 := k7.below hbxw12 (by omega)
    have k15 := k8.below hbxw12 (by omega)
    have lo16 := lo9.trans (hbxw12.mono (by omega))
    clear k7 c10 c11 k8 lo9 hbxw12
    go_wp2_with (first
      | (refine wpl_build rfl 58 _ rfl (cellsOf (bC (!a.v.getLsbD i, a.v.getLsbD i)) 2) (by kernel_rfl) ?_)
      | (refine wpl_store rfl 58 (.tmp 4) (.tmp 22) rfl (N + 1) 2 (bC (!a.v.getLsbD i, a.v.getLsbD i)) rfl rfl 58 _ k15 szB (fun j _ => bC_one _ j) ?_; intro wq tq hq)
      | fail)
    refine post_cell rfl (N + 1) rfl hq dB u1 u2 szB rfl ?_
    exact ⟨by rw [E.out], tq.below lo16 (by omega)⟩
  · have H := hid (show (a.m >>> i &&& 1#64 == 1#64) = true by rw [bit_shr, hm])
    have E := hid (show rBits a i = (true, true) by unfold rBits; rw [hm]; rfl)
    clear hm
    obtain ⟨c3, c4⟩ := n_cells k1
    refine wp_region_later1 ((N + 1 + 1)) ?_
    try simp only [Act.put, List.setIfInBounds_toArray, List.set_cons_succ, List.set_cons_zero]
    go_big_quiet_step (fail)
    refine later_c1 hN2 22 (.tmp 6) rfl rfl und64 rfl c4 (by rfl) ?_; simp only [Act.put, List.setIfInBounds_toArray, List.set_cons_succ, List.set_cons_zero]
    go_big_quiet_step (fail)
    refine later_b (x := (.tmp 7)) (y := (.tmp 8)) rfl (bin_shr _ a.m i) rfl rfl (by rfl) ?_; simp only [Act.put, List.setIfInBounds_toArray, List.set_cons_succ, List.set_cons_zero]
    refine later_b (x := (.tmp 9)) (y := (.const (.int .u64 1))) rfl (bin_and _ (a.m >>> i) 1#64) rfl rfl (by rfl) ?_; simp only [Act.put, List.setIfInBounds_toArray, List.set_cons_succ, List.set_cons_zero]
    refine later_b (x := (.tmp 10)) (y := (.const (.int .u64 1))) rfl (BinRun.is H.out (bin_eql _ ((a.m >>> i) &&& 1#64) 1#64)) rfl rfl (by rfl) ?_; simp only [Act.put, List.setIfInBounds_toArray, List.set_cons_succ, List.set_cons_zero]
    refine wpQuiet_nil ?_
    rintro xw5 ⟨qxw5, exw5⟩
    have hbxw5 := qxw5.b
    rw [← exw5] at hbxw5
    clear qxw5 exw5
    obtain ⟨M6, hM6⟩ := sz_some xw5
    have lM6 := below_sz hbxw5 hN2 hM6
    have k7 := k1.below hbxw5 (by omega)
    have k8 := k2.below hbxw5 (by omega)
    have lo9 := lo0.trans (hbxw5.mono (by omega))
    clear k1 c3 c4 k2 lo0 hbxw5
    go_wp2_with (first
      | (refine wpl_build rfl 58 _ rfl (cellsOf (bC (true, true)) 2) (by kernel_rfl) ?_)
      | (refine wpl_store rfl 58 (.tmp 4) (.tmp 12) rfl (N + 1) 2 (bC (true, true)) rfl rfl 58 _ k8 szB (fun j _ => bC_one _ j) ?_; intro wq tq hq)
      | fail)
    refine post_cell rfl (N + 1) rfl hq dB u1 u2 szB rfl ?_
    exact ⟨by rw [E.out], tq.below lo9 (by omega)⟩
set_option maxRecDepth 100000 in
set_option maxHeartbeats 2000000 in
theorem Set_any (o : Nm) (i : Nat) (y : Bool × Bool) (w : World) (N : Nat) (hN : Sz w N) : Calls Try.prog 40 #[nV o, .int .i64 (i : Int), bV y] w fun e w' => e = .returned (nV (rSet o i y)) ∧ Below N w w' := by
  obtain ⟨dU, u1, u2⟩ := undU
  have i0 : (0 : Int) ≤ (i : Int) := by omega
  obtain ⟨y0, y1⟩ := y
  cases y0 <;> cases y1
  · unfold nV bV
    go_enter Try.func40, Try.ntmps40
    go_upto_region 1 with (first
      | (refine wpl_box rfl 24 (.tmp 0) rfl 2 _ rfl (N) hN ?_; intro w1 hN1 hb1 hh1)
      | (refine wpl_box rfl 58 (.tmp 2) rfl 2 _ rfl (N + 1) hN1 ?_; intro w2 hN2 hb2 hh2)
      | (refine wpl_alloc rfl 24 rfl 2 (nC zeroN) zeU (N + 1 + 1) hN2 ?_; intro w3 hN3 hb3 hh3)
      | fail)
    have lo0 : Below N w w3 := ((hb1.trans (hb2.mono (by omega))).trans (hb3.mono (by omega)))
    have k1 := ((hh1.below hb2 (by omega)).below hb3 (by omega))
    have k2 := (hh2.below hb3 (by omega))
    have k3 := hh3
    clear hh1 hb1 hh2 hb2 hh3 hb3 hN1 hN2
    go_upto_region 1 with fail
    obtain ⟨c4, c5⟩ := b_cells k2
    refine wp_region_later1 ((N + 1 + 1 + 1)) ?_
    try simp only [Act.put, List.setIfInBounds_toArray, List.set_cons_succ, List.set_cons_zero]
    go_big_quiet_step (fail)
    refine later_c1 hN3 4 (.tmp 7) rfl rfl undBool rfl c4 (by rfl) ?_; simp only [Act.put, List.setIfInBounds_toArray, List.set_cons_succ, List.set_cons_zero]
    go_big_quiet_step (fail)
    go_big_quiet_step (fail)
    go_big_quiet_step (fail)
    go_big_quiet_step (fail)
    refine wpQuiet_nil ?_
    rintro xw6 ⟨qxw6, exw6⟩
    have hbxw6 := qxw6.b
    rw [← exw6] at hbxw6
    clear qxw6 exw6
    obtain ⟨M7, hM7⟩ := sz_some xw6
    have lM7 := below_sz hbxw6 hN3 hM7
    have k8 := k1.below hbxw6 (by omega)
    have k9 := k2.below hbxw6 (by omega)
    have k10 := k3.below hbxw6 (by omega)
    have lo11 := lo0.trans (hbxw6.mono (by omega))
    clear k1 k2 c4 c5 k3 lo0 hbxw6
    go_upto_region 3 with fail
    obtain ⟨c12, c13⟩ := b_cells k9
    refine wp_region_later1 (M7) ?_
    try simp only [Act.put, List.setIfInBounds_toArray, List.set_cons_succ, List.set_cons_zero]
    go_big_quiet_step (fail)
    refine later_c1 hM7 4 (.tmp 19) rfl rfl undBool rfl c13 (by rfl) ?_; simp only [Act.put, List.setIfInBounds_toArray, List.set_cons_succ, List.set_cons_zero]
    refine wpQuiet_nil ?_
    rintro xw14 ⟨qxw14, exw14⟩
    have hbxw14 := qxw14.b
    rw [← exw14] at hbxw14
    clear qxw14 exw14
    obtain ⟨M15, hM15⟩ := sz_some xw14
    have lM15 := below_sz hbxw14 hM7 hM15
    have k16 := k8.below hbxw14 (by omega)
    have k17 := k9.below hbxw14 (by omega)
    have k18 := k10.below hbxw14 (by omega)
    have lo19 := lo11.trans (hbxw14.mono (by omega))
    clear k8 k9 c12 c13 k10 lo11 hbxw14
    go_upto_region 5 with fail
    refine wp_region_lit ?_
    try simp only [Act.put, List.setIfInBounds_toArray, List.set_cons_succ, List.set_cons_zero]
    refine wpl_run rfl (Value.agg (cellsOf (nC o) 2)) _ (run_rw 24 (.tmp 3) rfl N rfl 24 2 _ k16 undU szU) ?_; simp only [Act.put, List.setIfInBounds_toArray, List.set_cons_succ, List.set_cons_zero]
    refine wpl_store rfl 24 (.tmp 6) (.tmp 27) rfl (N + 1 + 1) 2 (nC o) rfl rfl 24 _ k18 szU (fun j _ => nC_one _ j) ?_
    intro xw20 t21 k22; simp only [Act.put, List.setIfInBounds_toArray, List.set_cons_succ, List.set_cons_zero]
    have k23 := k16.touch t21 (by omega)
    have k24 := k17.touch t21 (by omega)
    have lo25 := t21.below lo19 (by omega)
    have h26 := t21.sz hM15
    clear k18 k16 k17 lo19 hM15 t21
    go_wp2_with fail
    refine post_n rfl (N + 1 + 1) rfl k22 ⟨dU, u1, u2⟩ szU rfl ?_
    exact ⟨rfl, lo25⟩
  · unfold nV bV
    go_enter Try.func40, Try.ntmps40
    go_upto_region 1 with (first
      | (refine wpl_box rfl 24 (.tmp 0) rfl 2 _ rfl (N) hN ?_; intro w1 hN1 hb1 hh1)
      | (refine wpl_box rfl 58 (.tmp 2) rfl 2 _ rfl (N + 1) hN1 ?_; intro w2 hN2 hb2 hh2)
      | (refine wpl_alloc rfl 24 rfl 2 (nC zeroN) zeU (N + 1 + 1) hN2 ?_; intro w3 hN3 hb3 hh3)
      | fail)
    have lo0 : Below N w w3 := ((hb1.trans (hb2.mono (by omega))).trans (hb3.mono (by omega)))
    have k1 := ((hh1.below hb2 (by omega)).below hb3 (by omega))
    have k2 := (hh2.below hb3 (by omega))
    have k3 := hh3
    clear hh1 hb1 hh2 hb2 hh3 hb3 hN1 hN2
    go_upto_region 1 with fail
    obtain ⟨c4, c5⟩ := b_cells k2
    refine wp_region_later1 ((N + 1 + 1 + 1)) ?_
    try simp only [Act.put, List.setIfInBounds_toArray, List.set_cons_succ, List.set_cons_zero]
    go_big_quiet_step (fail)
    refine later_c1 hN3 4 (.tmp 7) rfl rfl undBool rfl c4 (by rfl) ?_; simp only [Act.put, List.setIfInBounds_toArray, List.set_cons_succ, List.set_cons_zero]
    go_big_quiet_step (fail)
    go_big_quiet_step (fail)
    go_big_quiet_step (fail)
    go_big_quiet_step (fail)
    refine wpQuiet_nil ?_
    rintro xw6 ⟨qxw6, exw6⟩
    have hbxw6 := qxw6.b
    rw [← exw6] at hbxw6
    clear qxw6 exw6
    obtain ⟨M7, hM7⟩ := sz_some xw6
    have lM7 := below_sz hbxw6 hN3 hM7
    have k8 := k1.below hbxw6 (by omega)
    have k9 := k2.below hbxw6 (by omega)
    have k10 := k3.below hbxw6 (by omega)
    have lo11 := lo0.trans (hbxw6.mono (by omega))
    clear k1 k2 c4 c5 k3 lo0 hbxw6
    go_upto_region 3 with fail
    obtain ⟨c12, c13⟩ := b_cells k9
    refine wp_region_later1 (M7) ?_
    try simp only [Act.put, List.setIfInBounds_toArray, List.set_cons_succ, List.set_cons_zero]
    go_big_quiet_step (fail)
    refine later_c1 hM7 4 (.tmp 19) rfl rfl undBool rfl c13 (by rfl) ?_; simp only [Act.put, List.setIfInBounds_toArray, List.set_cons_succ, List.set_cons_zero]
    refine wpQuiet_nil ?_
    rintro xw14 ⟨qxw14, exw14⟩
    have hbxw14 := qxw14.b
    rw [← exw14] at hbxw14
    clear qxw14 exw14
    obtain ⟨M15, hM15⟩ := sz_some xw14
    have lM15 := below_sz hbxw14 hM7 hM15
    have k16 := k8.below hbxw14 (by omega)
    have k17 := k9.below hbxw14 (by omega)
    have k18 := k10.below hbxw14 (by omega)
    have lo19 := lo11.trans (hbxw14.mono (by omega))
    clear k8 k9 c12 c13 k10 lo11 hbxw14
    go_upto_region 4 with fail
    refine wp_region_any (by kernel_rfl) ?_
    replace k16 : Has xw14.drew N 24 2 (nC o) := k16
    replace k17 : Has xw14.drew (N + 1) 58 2 (bC (false, true)) := k17
    replace k18 : Has xw14.drew (N + 1 + 1) 24 2 (nC zeroN) := k18
    replace hM15 : Sz xw14.drew M15 := hM15
    replace lo19 : Below N w xw14.drew := lo19.drew
    change wpAny _ _ _ _ _ _ _ (World.drew _)
    generalize xw14.drew = xw20 at *
    obtain ⟨c21, c22⟩ := n_cells k16
    refine wpAny_pot (rem := [0, 1, 2, 3, 4, 5]) (FG M15 (fun j => if j = 0 then some (Value.pointer (some ⟨N, 0, none⟩)) else if j = 1 then some (Q o.v) else if j = 2 then some (Value.int .i64 (i : Int)) else if j = 3 then some (Q (1#64 <<< i)) else if j = 4 then some (Q (o.v ||| (1#64 <<< i))) else some (Value.pointer (some ⟨N, 0, none⟩))) (fun j => (0, 0, fun _ => undef))) (TwoN (fun j => if j = 0 then some (Value.pointer (some ⟨N, 0, none⟩)) else if j = 1 then some (Q o.v) else if j = 2 then some (Value.int .i64 (i : Int)) else if j = 3 then some (Q (1#64 <<< i)) else if j = 4 then some (Q (o.v ||| (1#64 <<< i))) else some (Value.pointer (some ⟨N, 0, none⟩)))) (Below M15 xw20) _ _ _ _ (by kernel_rfl) (size_dstG (by kernel_rfl)) (Below.refl _ _) ?_ ?_
    · intro i hi ac wa hI ha hv
      simp only [List.mem_cons, List.not_mem_nil, or_false] at hi
      rcases hi with rfl | rfl | rfl | rfl | rfl | rfl
      · exact potg_run rfl rfl (Value.pointer (some ⟨N, 0, none⟩)) rfl (run_fa 24 (.tmp 3) 0 0 rfl (ha 3 (not_dstG (by kernel_rfl))) faU0) hM15 hI
      · obtain ⟨v0, hv0a, hv0b⟩ := hv 0 (by simp) (by kernel_rfl)
        have ev0 := hv0b.val rfl
        subst ev0
        exact potg_run rfl rfl (Q o.v) rfl (run_c1 22 (.tmp 21) rfl ⟨N, 0, none⟩ (hv0a 21 rfl) und64 rfl (keep_c hI hM15 c21)) hM15 hI
      · exact potg_run rfl rfl (Value.int .i64 (i : Int)) rfl (run_mv (x := (.tmp 1)) rfl _ (ha 1 (not_dstG (by kernel_rfl)))) hM15 hI
      · obtain ⟨v2, hv2a, hv2b⟩ := hv 2 (by simp) (by kernel_rfl)
        have ev2 := hv2b.val rfl
        subst ev2
        exact potg_run rfl rfl (Q (1#64 <<< i)) rfl ((bin_shl _ 1#64 i) _ _ (.const (.int .u64 1)) (.tmp 23) _ wa rfl rfl (hv2a 23 rfl)) hM15 hI
      · obtain ⟨v1, hv1a, hv1b⟩ := hv 1 (by simp) (by kernel_rfl)
        have ev1 := hv1b.val rfl
        subst ev1
        obtain ⟨v3, hv3a, hv3b⟩ := hv 3 (by simp) (by kernel_rfl)
        have ev3 := hv3b.val rfl
        subst ev3
        exact potg_run rfl rfl (Q (o.v ||| (1#64 <<< i))) rfl ((bin_or _ o.v (1#64 <<< i)) _ _ (.tmp 22) (.tmp 24) _ wa rfl (hv1a 22 rfl) (hv3a 24 rfl)) hM15 hI
      · exact potg_run rfl rfl (Value.pointer (some ⟨N, 0, none⟩)) rfl (run_fa 24 (.tmp 3) 0 0 rfl (ha 3 (not_dstG (by kernel_rfl))) faU0) hM15 hI
    · intro vals w5_23_ hb5_23_ hF hG
      have e_23_0 := (hF 0 (by simp)).val rfl
      have e_23_1 := (hF 1 (by simp)).val rfl
      have e_23_2 := (hF 2 (by simp)).val rfl
      have e_23_3 := (hF 3 (by simp)).val rfl
      have e_23_4 := (hF 4 (by simp)).val rfl
      have e_23_5 := (hF 5 (by simp)).val rfl
      clear hF hG
      simp only [List.foldl_cons, List.foldl_nil, dstOf, List.getElem?_toArray, List.getElem?_cons_succ, List.getElem?_cons_zero, Option.bind_some, Act.put, List.setIfInBounds_toArray, List.set_cons_succ, List.set_cons_zero, e_23_0, e_23_1, e_23_2, e_23_3, e_23_4, e_23_5]
      clear e_23_0 e_23_1 e_23_2 e_23_3 e_23_4 e_23_5
      refine wpAny_chain [6] _ _ _ _ (by kernel_rfl) (by decide) ?_
      simp only [List.filterMap_cons, List.filterMap_nil, List.getElem?_toArray, List.getElem?_cons_succ, List.getElem?_cons_zero]
      have k24 := k16.below hb5_23_ (by omega)
      have k25 := k17.below hb5_23_ (by omega)
      have k26 := k18.below hb5_23_ (by omega)
      have lo27 := lo19.trans (hb5_23_.mono (by omega))
      clear k16 c21 c22 k17 k18 lo19 hb5_23_
      refine wpl_set rfl 22 (.tmp 26) (.tmp 25) rfl N 0 rfl _ rfl sz64 rfl rfl 24 2 _ k24 (by omega) ?_
      intro xw28 t29 k30_
      have k30 : Has xw28 N 24 2 (nC ⟨(o.v ||| (1#64 <<< i)), o.m⟩) := k30_.congr (fun j hj => by rcases (show j = 0 ∨ j = 1 by omega) with rfl | rfl <;> rfl)
      have k31 := k25.touch t29 (by omega)
      have k32 := k26.touch t29 (by omega)
      have lo33 := t29.below lo27 (by omega)
      clear k24 k30_ k25 k26 lo27 t29
      obtain ⟨M34, hM34⟩ := sz_some xw28
      have lt_35 := k30.ltN hM34
      have lt_36 := k31.ltN hM34
      have lt_37 := k32.ltN hM34
      go_upto_region 5 with fail
      refine wp_region_lit ?_
      try simp only [Act.put, List.setIfInBounds_toArray, List.set_cons_succ, List.set_cons_zero]
      refine wpl_run rfl (Value.agg (cellsOf (nC ⟨(o.v ||| (1#64 <<< i)), o.m⟩) 2)) _ (run_rw 24 (.tmp 3) rfl N rfl 24 2 _ k30 undU szU) ?_; simp only [Act.put, List.setIfInBounds_toArray, List.set_cons_succ, List.set_cons_zero]
      refine wpl_store rfl 24 (.tmp 6) (.tmp 27) rfl (N + 1 + 1) 2 (nC ⟨(o.v ||| (1#64 <<< i)), o.m⟩) rfl rfl 24 _ k32 szU (fun j _ => nC_one _ j) ?_
      intro xw38 t39 k40; simp only [Act.put, List.setIfInBounds_toArray, List.set_cons_succ, List.set_cons_zero]
      have k41 := k30.touch t39 (by omega)
      have k42 := k31.touch t39 (by omega)
      have lo43 := t39.below lo33 (by omega)
      have h44 := t39.sz hM34
      clear k32 k30 k31 lo33 hM34 t39
      go_wp2_with fail
      refine post_n rfl (N + 1 + 1) rfl k40 ⟨dU, u1, u2⟩ szU rfl ?_
      exact ⟨rfl, lo43⟩
  · unfold nV bV
    go_enter Try.func40, Try.ntmps40
    go_upto_region 1 with (first
      | (refine wpl_box rfl 24 (.tmp 0) rfl 2 _ rfl (N) hN ?_; intro w1 hN1 hb1 hh1)
      | (refine wpl_box rfl 58 (.tmp 2) rfl 2 _ rfl (N + 1) hN1 ?_; intro w2 hN2 hb2 hh2)
      | (refine wpl_alloc rfl 24 rfl 2 (nC zeroN) zeU (N + 1 + 1) hN2 ?_; intro w3 hN3 hb3 hh3)
      | fail)
    have lo0 : Below N w w3 := ((hb1.trans (hb2.mono (by omega))).trans (hb3.mono (by omega)))
    have k1 := ((hh1.below hb2 (by omega)).below hb3 (by omega))
    have k2 := (hh2.below hb3 (by omega))
    have k3 := hh3
    clear hh1 hb1 hh2 hb2 hh3 hb3 hN1 hN2
    go_upto_region 1 with fail
    obtain ⟨c4, c5⟩ := b_cells k2
    refine wp_region_later1 ((N + 1 + 1 + 1)) ?_
    try simp only [Act.put, List.setIfInBounds_toArray, List.set_cons_succ, List.set_cons_zero]
    go_big_quiet_step (fail)
    refine later_c1 hN3 4 (.tmp 7) rfl rfl undBool rfl c4 (by rfl) ?_; simp only [Act.put, List.setIfInBounds_toArray, List.set_cons_succ, List.set_cons_zero]
    go_big_quiet_step (fail)
    go_big_quiet_step (fail)
    refine later_c1 hN3 4 (.tmp 10) rfl rfl undBool rfl c5 (by rfl) ?_; simp only [Act.put, List.setIfInBounds_toArray, List.set_cons_succ, List.set_cons_zero]
    go_big_quiet_step (fail)
    refine wpQuiet_nil ?_
    rintro xw6 ⟨qxw6, exw6⟩
    have hbxw6 := qxw6.b
    rw [← exw6] at hbxw6
    clear qxw6 exw6
    obtain ⟨M7, hM7⟩ := sz_some xw6
    have lM7 := below_sz hbxw6 hN3 hM7
    have k8 := k1.below hbxw6 (by omega)
    have k9 := k2.below hbxw6 (by omega)
    have k10 := k3.below hbxw6 (by omega)
    have lo11 := lo0.trans (hbxw6.mono (by omega))
    clear k1 k2 c4 c5 k3 lo0 hbxw6
    go_upto_region 3 with fail
    obtain ⟨c12, c13⟩ := b_cells k9
    refine wp_region_later1 (M7) ?_
    try simp only [Act.put, List.setIfInBounds_toArray, List.set_cons_succ, List.set_cons_zero]
    go_big_quiet_step (fail)
    refine later_c1 hM7 4 (.tmp 19) rfl rfl undBool rfl c13 (by rfl) ?_; simp only [Act.put, List.setIfInBounds_toArray, List.set_cons_succ, List.set_cons_zero]
    refine wpQuiet_nil ?_
    rintro xw14 ⟨qxw14, exw14⟩
    have hbxw14 := qxw14.b
    rw [← exw14] at hbxw14
    clear qxw14 exw14
    obtain ⟨M15, hM15⟩ := sz_some xw14
    have lM15 := below_sz hbxw14 hM7 hM15
    have k16 := k8.below hbxw14 (by omega)
    have k17 := k9.below hbxw14 (by omega)
    have k18 := k10.below hbxw14 (by omega)
    have lo19 := lo11.trans (hbxw14.mono (by omega))
    clear k8 k9 c12 c13 k10 lo11 hbxw14
    go_upto_region 5 with fail
    refine wp_region_lit ?_
    try simp only [Act.put, List.setIfInBounds_toArray, List.set_cons_succ, List.set_cons_zero]
    refine wpl_run rfl (Value.agg (cellsOf (nC o) 2)) _ (run_rw 24 (.tmp 3) rfl N rfl 24 2 _ k16 undU szU) ?_; simp only [Act.put, List.setIfInBounds_toArray, List.set_cons_succ, List.set_cons_zero]
    refine wpl_store rfl 24 (.tmp 6) (.tmp 27) rfl (N + 1 + 1) 2 (nC o) rfl rfl 24 _ k18 szU (fun j _ => nC_one _ j) ?_
    intro xw20 t21 k22; simp only [Act.put, List.setIfInBounds_toArray, List.set_cons_succ, List.set_cons_zero]
    have k23 := k16.touch t21 (by omega)
    have k24 := k17.touch t21 (by omega)
    have lo25 := t21.below lo19 (by omega)
    have h26 := t21.sz hM15
    clear k18 k16 k17 lo19 hM15 t21
    go_wp2_with fail
    refine post_n rfl (N + 1 + 1) rfl k22 ⟨dU, u1, u2⟩ szU rfl ?_
    exact ⟨rfl, lo25⟩
  · unfold nV bV
    go_enter Try.func40, Try.ntmps40
    go_upto_region 1 with (first
      | (refine wpl_box rfl 24 (.tmp 0) rfl 2 _ rfl (N) hN ?_; intro w1 hN1 hb1 hh1)
      | (refine wpl_box rfl 58 (.tmp 2) rfl 2 _ rfl (N + 1) hN1 ?_; intro w2 hN2 hb2 hh2)
      | (refine wpl_alloc rfl 24 rfl 2 (nC zeroN) zeU (N + 1 + 1) hN2 ?_; intro w3 hN3 hb3 hh3)
      | fail)
    have lo0 : Below N w w3 := ((hb1.trans (hb2.mono (by omega))).trans (hb3.mono (by omega)))
    have k1 := ((hh1.below hb2 (by omega)).below hb3 (by omega))
    have k2 := (hh2.below hb3 (by omega))
    have k3 := hh3
    clear hh1 hb1 hh2 hb2 hh3 hb3 hN1 hN2
    go_upto_region 1 with fail
    obtain ⟨c4, c5⟩ := b_cells k2
    refine wp_region_later1 ((N + 1 + 1 + 1)) ?_
    try simp only [Act.put, List.setIfInBounds_toArray, List.set_cons_succ, List.set_cons_zero]
    go_big_quiet_step (fail)
    refine later_c1 hN3 4 (.tmp 7) rfl rfl undBool rfl c4 (by rfl) ?_; simp only [Act.put, List.setIfInBounds_toArray, List.set_cons_succ, List.set_cons_zero]
    go_big_quiet_step (fail)
    go_big_quiet_step (fail)
    refine later_c1 hN3 4 (.tmp 10) rfl rfl undBool rfl c5 (by rfl) ?_; simp only [Act.put, List.setIfInBounds_toArray, List.set_cons_succ, List.set_cons_zero]
    go_big_quiet_step (fail)
    refine wpQuiet_nil ?_
    rintro xw6 ⟨qxw6, exw6⟩
    have hbxw6 := qxw6.b
    rw [← exw6] at hbxw6
    clear qxw6 exw6
    obtain ⟨M7, hM7⟩ := sz_some xw6
    have lM7 := below_sz hbxw6 hN3 hM7
    have k8 := k1.below hbxw6 (by omega)
    have k9 := k2.below hbxw6 (by omega)
    have k10 := k3.below hbxw6 (by omega)
    have lo11 := lo0.trans (hbxw6.mono (by omega))
    clear k1 k2 c4 c5 k3 lo0 hbxw6
    go_upto_region 2 with fail
    refine wp_region_any (by kernel_rfl) ?_
    replace k8 : Has xw6.drew N 24 2 (nC o) := k8
    replace k9 : Has xw6.drew (N + 1) 58 2 (bC (true, true)) := k9
    replace k10 : Has xw6.drew (N + 1 + 1) 24 2 (nC zeroN) := k10
    replace hM7 : Sz xw6.drew M7 := hM7
    replace lo11 : Below N w xw6.drew := lo11.drew
    change wpAny _ _ _ _ _ _ _ (World.drew _)
    generalize xw6.drew = xw12 at *
    obtain ⟨c13, c14⟩ := n_cells k8
    refine wpAny_pot (rem := [0, 1, 2, 3, 4, 5]) (FG M7 (fun j => if j = 0 then some (Value.pointer (some ⟨N, 1, none⟩)) else if j = 1 then some (Q o.m) else if j = 2 then some (Value.int .i64 (i : Int)) else if j = 3 then some (Q (1#64 <<< i)) else if j = 4 then some (Q (o.m ||| (1#64 <<< i))) else some (Value.pointer (some ⟨N, 1, none⟩))) (fun j => (0, 0, fun _ => undef))) (TwoN (fun j => if j = 0 then some (Value.pointer (some ⟨N, 1, none⟩)) else if j = 1 then some (Q o.m) else if j = 2 then some (Value.int .i64 (i : Int)) else if j = 3 then some (Q (1#64 <<< i)) else if j = 4 then some (Q (o.m ||| (1#64 <<< i))) else some (Value.pointer (some ⟨N, 1, none⟩)))) (Below M7 xw12) _ _ _ _ (by kernel_rfl) (size_dstG (by kernel_rfl)) (Below.refl _ _) ?_ ?_
    · intro i hi ac wa hI ha hv
      simp only [List.mem_cons, List.not_mem_nil, or_false] at hi
      rcases hi with rfl | rfl | rfl | rfl | rfl | rfl
      · exact potg_run rfl rfl (Value.pointer (some ⟨N, 1, none⟩)) rfl (run_fa 24 (.tmp 3) 1 1 rfl (ha 3 (not_dstG (by kernel_rfl))) faU1) hM7 hI
      · obtain ⟨v0, hv0a, hv0b⟩ := hv 0 (by simp) (by kernel_rfl)
        have ev0 := hv0b.val rfl
        subst ev0
        exact potg_run rfl rfl (Q o.m) rfl (run_c1 22 (.tmp 13) rfl ⟨N, 1, none⟩ (hv0a 13 rfl) und64 rfl (keep_c hI hM7 c14)) hM7 hI
      · exact potg_run rfl rfl (Value.int .i64 (i : Int)) rfl (run_mv (x := (.tmp 1)) rfl _ (ha 1 (not_dstG (by kernel_rfl)))) hM7 hI
      · obtain ⟨v2, hv2a, hv2b⟩ := hv 2 (by simp) (by kernel_rfl)
        have ev2 := hv2b.val rfl
        subst ev2
        exact potg_run rfl rfl (Q (1#64 <<< i)) rfl ((bin_shl _ 1#64 i) _ _ (.const (.int .u64 1)) (.tmp 15) _ wa rfl rfl (hv2a 15 rfl)) hM7 hI
      · obtain ⟨v1, hv1a, hv1b⟩ := hv 1 (by simp) (by kernel_rfl)
        have ev1 := hv1b.val rfl
        subst ev1
        obtain ⟨v3, hv3a, hv3b⟩ := hv 3 (by simp) (by kernel_rfl)
        have ev3 := hv3b.val rfl
        subst ev3
        exact potg_run rfl rfl (Q (o.m ||| (1#64 <<< i))) rfl ((bin_or _ o.m (1#64 <<< i)) _ _ (.tmp 14) (.tmp 16) _ wa rfl (hv1a 14 rfl) (hv3a 16 rfl)) hM7 hI
      · exact potg_run rfl rfl (Value.pointer (some ⟨N, 1, none⟩)) rfl (run_fa 24 (.tmp 3) 1 1 rfl (ha 3 (not_dstG (by kernel_rfl))) faU1) hM7 hI
    · intro vals w5_15_ hb5_15_ hF hG
      have e_15_0 := (hF 0 (by simp)).val rfl
      have e_15_1 := (hF 1 (by simp)).val rfl
      have e_15_2 := (hF 2 (by simp)).val rfl
      have e_15_3 := (hF 3 (by simp)).val rfl
      have e_15_4 := (hF 4 (by simp)).val rfl
      have e_15_5 := (hF 5 (by simp)).val rfl
      clear hF hG
      simp only [List.foldl_cons, List.foldl_nil, dstOf, List.getElem?_toArray, List.getElem?_cons_succ, List.getElem?_cons_zero, Option.bind_some, Act.put, List.setIfInBounds_toArray, List.set_cons_succ, List.set_cons_zero, e_15_0, e_15_1, e_15_2, e_15_3, e_15_4, e_15_5]
      clear e_15_0 e_15_1 e_15_2 e_15_3 e_15_4 e_15_5
      refine wpAny_chain [6] _ _ _ _ (by kernel_rfl) (by decide) ?_
      simp only [List.filterMap_cons, List.filterMap_nil, List.getElem?_toArray, List.getElem?_cons_succ, List.getElem?_cons_zero]
      have k16 := k8.below hb5_15_ (by omega)
      have k17 := k9.below hb5_15_ (by omega)
      have k18 := k10.below hb5_15_ (by omega)
      have lo19 := lo11.trans (hb5_15_.mono (by omega))
      clear k8 c13 c14 k9 k10 lo11 hb5_15_
      refine wpl_set rfl 22 (.tmp 18) (.tmp 17) rfl N 1 rfl _ rfl sz64 rfl rfl 24 2 _ k16 (by omega) ?_
      intro xw20 t21 k22_
      have k22 : Has xw20 N 24 2 (nC ⟨o.v, (o.m ||| (1#64 <<< i))⟩) := k22_.congr (fun j hj => by rcases (show j = 0 ∨ j = 1 by omega) with rfl | rfl <;> rfl)
      have k23 := k17.touch t21 (by omega)
      have k24 := k18.touch t21 (by omega)
      have lo25 := t21.below lo19 (by omega)
      clear k16 k22_ k17 k18 lo19 t21
      obtain ⟨M26, hM26⟩ := sz_some xw20
      have lt_27 := k22.ltN hM26
      have lt_28 := k23.ltN hM26
      have lt_29 := k24.ltN hM26
      go_upto_region 5 with fail
      refine wp_region_lit ?_
      try simp only [Act.put, List.setIfInBounds_toArray, List.set_cons_succ, List.set_cons_zero]
      refine wpl_run rfl (Value.agg (cellsOf (nC ⟨o.v, (o.m ||| (1#64 <<< i))⟩) 2)) _ (run_rw 24 (.tmp 3) rfl N rfl 24 2 _ k22 undU szU) ?_; simp only [Act.put, List.setIfInBounds_toArray, List.set_cons_succ, List.set_cons_zero]
      refine wpl_store rfl 24 (.tmp 6) (.tmp 27) rfl (N + 1 + 1) 2 (nC ⟨o.v, (o.m ||| (1#64 <<< i))⟩) rfl rfl 24 _ k24 szU (fun j _ => nC_one _ j) ?_
      intro xw30 t31 k32; simp only [Act.put, List.setIfInBounds_toArray, List.set_cons_succ, List.set_cons_zero]
      have k33 := k22.touch t31 (by omega)
      have k34 := k23.touch t31 (by omega)
      have lo35 := t31.below lo25 (by omega)
      have h36 := t31.sz hM26
      clear k24 k22 k23 lo25 hM26 t31
      go_wp2_with fail
      refine post_n rfl (N + 1 + 1) rfl k32 ⟨dU, u1, u2⟩ szU rfl ?_
      exact ⟨rfl, lo35⟩
end Go.Proofs.Ytbeikhokkpioeaa
