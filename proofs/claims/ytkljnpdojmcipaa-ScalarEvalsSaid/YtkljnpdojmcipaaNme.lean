/- Contracts of known bits: what both have. -/
import Derived.Test.YtkljnpdojmcipaaNh
import Derived.Laws.ResultCell
namespace Go.Proofs.Ytkljnpdojmcipaa
open Go Go.RowKit
theorem post_nb {fn : Func} {R : Ending → World → Prop} {p u : Tmp} {T : TypeId} {a : Act} {w : World} (hr : fn.results = #[.cell p T, .tmp u]) (b : Nat) (hp : a.tmps.getD p undef = .pointer (some ⟨b, 0, none⟩))
    {r : Nm} (hh : Has w b T 2 (nC r)) (hu : ∃ d, Try.prog.underlying T = some d ∧ d.isRow = true) (hi : (Try.prog.info? T).map (·.size) = some 2) {x : Value} (hx : a.tmps.getD u undef = x)
    (hdef : a.defers = []) (hR : R (.returned (.tuple #[nV r, x])) w) : bodyPost Try.prog fn R .ret a w := by
  obtain ⟨d, h1, h2⟩ := hu
  refine bodyPost_ret (v := .tuple #[nV r, x]) ?_ hdef hR
  have hld := run_loadVar_row (P := Try.prog) w b T T (cellsOf (nC r) 2) (0, 0) d hh h1 (by cases d <;> simp_all) (by rw [hi, size_cellsOf])
  rw [results_cell_tmp hr a.tmps Try.prog w, hp, hx]
  simp [asAddr, hld, nV]
theorem meet_no {a b : Nm} (h : (tMeet a b) = (⟨0#64, 0#64⟩, false)) : meetN a b = zeroN ∧ meetB a b = false := by
  unfold meetN meetB; rw [h]; exact ⟨rfl, rfl⟩
theorem meet_yes {a b : Nm} (h : (tMeet a b) = (⟨a.v ||| b.v, a.m &&& b.m⟩, true)) : meetN a b = ⟨a.v ||| b.v, a.m &&& b.m⟩ ∧ meetB a b = true := by
  unfold meetN meetB; rw [h]; exact ⟨rfl, rfl⟩
set_option maxRecDepth 100000 in
set_option maxHeartbeats 2000000 in
theorem Meet_any (a b : Nm) (w : World) (N : Nat) (hN : Sz w N) : Calls Try.prog 31 #[nV a, nV b] w fun e w' => e = .returned (.tuple #[nV (meetN a b), .bool (meetB a b)]) ∧ Below N w w' := by
  obtain ⟨dT, u1, u2⟩ := undT
  unfold nV
  go_enter Try.func31, Try.ntmps31
  go_upto_region 1 with (first
    | (refine wpl_box rfl 39 (.tmp 0) rfl 2 _ rfl (N) hN ?_; intro w1 hN1 hb1 hh1)
    | (refine wpl_box rfl 39 (.tmp 1) rfl 2 _ rfl (N + 1) hN1 ?_; intro w2 hN2 hb2 hh2)
    | (refine wpl_alloc rfl 39 rfl 2 (nC zeroN) zeT (N + 1 + 1) hN2 ?_; intro w3 hN3 hb3 hh3)
    | fail)
  have lo0 : Below N w w3 := ((hb1.trans (hb2.mono (by omega))).trans (hb3.mono (by omega)))
  have k1 := ((hh1.below hb2 (by omega)).below hb3 (by omega))
  have k2 := (hh2.below hb3 (by omega))
  have k3 := hh3
  clear hh1 hb1 hh2 hb2 hh3 hb3 hN1 hN2
  go_upto_region 1 with fail
  obtain ⟨c4, c5⟩ := n_cells k1
  obtain ⟨c6, c7⟩ := n_cells k2
  refine wp_region_later1 ((N + 1 + 1 + 1)) ?_
  go_big_quiet_step (fail)
  refine later_c1 hN3 22 (.tmp 7) rfl rfl und64 rfl c4 (by rfl) ?_; simp only [Act.put, List.setIfInBounds_toArray, List.set_cons_succ, List.set_cons_zero]
  go_big_quiet_step (fail)
  refine later_c1 hN3 22 (.tmp 9) rfl rfl und64 rfl c6 (by rfl) ?_; simp only [Act.put, List.setIfInBounds_toArray, List.set_cons_succ, List.set_cons_zero]
  refine later_b (x := (.tmp 8)) (y := (.tmp 10)) rfl (bin_xor _ a.v b.v) rfl rfl (by rfl) ?_; simp only [Act.put, List.setIfInBounds_toArray, List.set_cons_succ, List.set_cons_zero]
  go_big_quiet_step (fail)
  refine later_c1 hN3 22 (.tmp 12) rfl rfl und64 rfl c5 (by rfl) ?_; simp only [Act.put, List.setIfInBounds_toArray, List.set_cons_succ, List.set_cons_zero]
  go_big_quiet_step (fail)
  refine later_c1 hN3 22 (.tmp 14) rfl rfl und64 rfl c7 (by rfl) ?_; simp only [Act.put, List.setIfInBounds_toArray, List.set_cons_succ, List.set_cons_zero]
  refine later_b (x := (.tmp 13)) (y := (.tmp 15)) rfl (bin_or _ a.m b.m) rfl rfl (by rfl) ?_; simp only [Act.put, List.setIfInBounds_toArray, List.set_cons_succ, List.set_cons_zero]
  refine later_b (x := (.tmp 11)) (y := (.tmp 16)) rfl (bin_andn _ (a.v ^^^ b.v) (a.m ||| b.m)) rfl rfl (by rfl) ?_; simp only [Act.put, List.setIfInBounds_toArray, List.set_cons_succ, List.set_cons_zero]
  go_big_quiet_step (fail)
  refine wpQuiet_nil ?_
  rintro xw8 ⟨qxw8, exw8⟩
  have hbxw8 := qxw8.b
  rw [← exw8] at hbxw8
  clear qxw8 exw8
  obtain ⟨M9, hM9⟩ := sz_some xw8
  have lM9 := below_sz hbxw8 hN3 hM9
  have k10 := k1.below hbxw8 (by omega)
  have k11 := k2.below hbxw8 (by omega)
  have k12 := k3.below hbxw8 (by omega)
  have lo13 := lo0.trans (hbxw8.mono (by omega))
  clear k1 c4 c5 k2 c6 c7 k3 lo0 hbxw8
  go_upto_region 2 with fail
  cases ra : tRight a
  · have E := hid (meet_no (show tMeet a b = _ by unfold tMeet; rw [ra]; rfl))
    have Ra := hid ra
    clear ra
    refine wp_region_later1 (M9) ?_
    try simp only [Act.put, List.setIfInBounds_toArray, List.set_cons_succ, List.set_cons_zero]
    refine later_row hM9 39 (.tmp 2) rfl (N) rfl 39 2 _ k10 undT szT (by rfl) ?_; simp only [Act.put, List.setIfInBounds_toArray, List.set_cons_succ, List.set_cons_zero]
    go_big_quiet_step ((go_at_call 30; exact later_of hM9 _ (fun K hK hKN => ret_is Ra.out (Right_any a) _ K hK)))
    go_big_quiet_step (fail)
    go_big_quiet_step (fail)
    go_big_quiet_step (fail)
    go_big_quiet_step (fail)
    go_big_quiet_step (fail)
    go_big_quiet_step (fail)
    go_big_quiet_step (fail)
    go_big_quiet_step (fail)
    go_big_quiet_step (fail)
    go_big_quiet_step (fail)
    refine wpQuiet_nil ?_
    rintro xw14 ⟨qxw14, exw14⟩
    have hbxw14 := qxw14.b
    rw [← exw14] at hbxw14
    clear qxw14 exw14
    obtain ⟨M15, hM15⟩ := sz_some xw14
    have lM15 := below_sz hbxw14 hM9 hM15
    have k16 := k10.below hbxw14 (by omega)
    have k17 := k11.below hbxw14 (by omega)
    have k18 := k12.below hbxw14 (by omega)
    have lo19 := lo13.trans (hbxw14.mono (by omega))
    clear k10 k11 k12 lo13 hbxw14
    go_wp2_with (first
      | (refine wpl_build rfl 39 _ rfl (cellsOf (nC zeroN) 2) (by kernel_rfl) ?_)
      | (refine wpl_store rfl 39 (.tmp 4) (.tmp 30) rfl (N + 1 + 1) 2 (nC zeroN) rfl rfl 39 _ k18 szT (fun j _ => nC_one _ j) ?_; intro wq tq hq)
      | fail)
    refine post_nb rfl (N + 1 + 1) rfl hq ⟨dT, u1, u2⟩ szT rfl rfl ?_
    exact ⟨by rw [E.out.1, E.out.2]; rfl, tq.below lo19 (by omega)⟩
  cases rb : tRight b
  · have E := hid (meet_no (show tMeet a b = _ by unfold tMeet; rw [ra, rb]; rfl))
    have Ra := hid ra
    have Rb := hid rb
    clear ra rb
    refine wp_region_later1 (M9) ?_
    try simp only [Act.put, List.setIfInBounds_toArray, List.set_cons_succ, List.set_cons_zero]
    refine later_row hM9 39 (.tmp 2) rfl (N) rfl 39 2 _ k10 undT szT (by rfl) ?_; simp only [Act.put, List.setIfInBounds_toArray, List.set_cons_succ, List.set_cons_zero]
    go_big_quiet_step ((go_at_call 30; exact later_of hM9 _ (fun K hK hKN => ret_is Ra.out (Right_any a) _ K hK)))
    go_big_quiet_step (fail)
    go_big_quiet_step (fail)
    refine later_row hM9 39 (.tmp 3) rfl ((N + 1)) rfl 39 2 _ k11 undT szT (by rfl) ?_; simp only [Act.put, List.setIfInBounds_toArray, List.set_cons_succ, List.set_cons_zero]
    go_big_quiet_step ((go_at_call 30; exact later_of hM9 _ (fun K hK hKN => ret_is Rb.out (Right_any b) _ K hK)))
    go_big_quiet_step (fail)
    go_big_quiet_step (fail)
    go_big_quiet_step (fail)
    go_big_quiet_step (fail)
    go_big_quiet_step (fail)
    go_big_quiet_step (fail)
    refine wpQuiet_nil ?_
    rintro xw14 ⟨qxw14, exw14⟩
    have hbxw14 := qxw14.b
    rw [← exw14] at hbxw14
    clear qxw14 exw14
    obtain ⟨M15, hM15⟩ := sz_some xw14
    have lM15 := below_sz hbxw14 hM9 hM15
    have k16 := k10.below hbxw14 (by omega)
    have k17 := k11.below hbxw14 (by omega)
    have k18 := k12.below hbxw14 (by omega)
    have lo19 := lo13.trans (hbxw14.mono (by omega))
    clear k10 k11 k12 lo13 hbxw14
    go_wp2_with (first
      | (refine wpl_build rfl 39 _ rfl (cellsOf (nC zeroN) 2) (by kernel_rfl) ?_)
      | (refine wpl_store rfl 39 (.tmp 4) (.tmp 30) rfl (N + 1 + 1) 2 (nC zeroN) rfl rfl 39 _ k18 szT (fun j _ => nC_one _ j) ?_; intro wq tq hq)
      | fail)
    refine post_nb rfl (N + 1 + 1) rfl hq ⟨dT, u1, u2⟩ szT rfl rfl ?_
    exact ⟨by rw [E.out.1, E.out.2]; rfl, tq.below lo19 (by omega)⟩
  cases ap : (((a.v ^^^ b.v) &&& ~~~(a.m ||| b.m)) != 0#64)
  · have E := hid (meet_yes (show tMeet a b = _ by unfold tMeet; rw [ra, rb, ap]; rfl))
    have Ra := hid ra
    have Rb := hid rb
    have Ap := hid ap
    clear ra rb ap
    refine wp_region_later1 (M9) ?_
    try simp only [Act.put, List.setIfInBounds_toArray, List.set_cons_succ, List.set_cons_zero]
    refine later_row hM9 39 (.tmp 2) rfl (N) rfl 39 2 _ k10 undT szT (by rfl) ?_; simp only [Act.put, List.setIfInBounds_toArray, List.set_cons_succ, List.set_cons_zero]
    go_big_quiet_step ((go_at_call 30; exact later_of hM9 _ (fun K hK hKN => ret_is Ra.out (Right_any a) _ K hK)))
    go_big_quiet_step (fail)
    go_big_quiet_step (fail)
    refine later_row hM9 39 (.tmp 3) rfl ((N + 1)) rfl 39 2 _ k11 undT szT (by rfl) ?_; simp only [Act.put, List.setIfInBounds_toArray, List.set_cons_succ, List.set_cons_zero]
    go_big_quiet_step ((go_at_call 30; exact later_of hM9 _ (fun K hK hKN => ret_is Rb.out (Right_any b) _ K hK)))
    go_big_quiet_step (fail)
    go_big_quiet_step (fail)
    go_big_quiet_step (fail)
    go_big_quiet_step (fail)
    refine later_b (x := (.tmp 27)) (y := (.const (.int .u64 0))) rfl (BinRun.is Ap.out (bin_neq _ ((a.v ^^^ b.v) &&& ~~~(a.m ||| b.m)) 0#64)) rfl rfl (by rfl) ?_; simp only [Act.put, List.setIfInBounds_toArray, List.set_cons_succ, List.set_cons_zero]
    go_big_quiet_step (fail)
    refine wpQuiet_nil ?_
    rintro xw14 ⟨qxw14, exw14⟩
    have hbxw14 := qxw14.b
    rw [← exw14] at hbxw14
    clear qxw14 exw14
    obtain ⟨M15, hM15⟩ := sz_some xw14
    have lM15 := below_sz hbxw14 hM9 hM15
    have k16 := k10.below hbxw14 (by omega)
    have k17 := k11.below hbxw14 (by omega)
    have k18 := k12.below hbxw14 (by omega)
    have lo19 := lo13.trans (hbxw14.mono (by omega))
    clear k10 k11 k12 lo13 hbxw14
    obtain ⟨c20, c21⟩ := n_cells k16
    obtain ⟨c22, c23⟩ := n_cells k17
    unfold Q at c20 c21 c22 c23
    go_wp2_with (first
      | (refine wpl_b rfl rfl (bin_or _ _ _) rfl rfl ?_)
      | (refine wpl_b rfl rfl (bin_and _ _ _) rfl rfl ?_)
      | (refine wpl_build rfl 39 _ rfl (cellsOf (nC ⟨a.v ||| b.v, a.m &&& b.m⟩) 2) (by kernel_rfl) ?_)
      | (refine wpl_store rfl 39 (.tmp 4) (.tmp 41) rfl (N + 1 + 1) 2 (nC ⟨a.v ||| b.v, a.m &&& b.m⟩) rfl rfl 39 _ k18 szT (fun j _ => nC_one _ j) ?_; intro wq tq hq)
      | fail)
    refine post_nb rfl (N + 1 + 1) rfl hq ⟨dT, u1, u2⟩ szT rfl rfl ?_
    exact ⟨by rw [E.out.1, E.out.2]; rfl, tq.below lo19 (by omega)⟩
  · have E := hid (meet_no (show tMeet a b = _ by unfold tMeet; rw [ra, rb, ap]; rfl))
    have Ra := hid ra
    have Rb := hid rb
    have Ap := hid ap
    clear ra rb ap
    refine wp_region_later1 (M9) ?_
    try simp only [Act.put, List.setIfInBounds_toArray, List.set_cons_succ, List.set_cons_zero]
    refine later_row hM9 39 (.tmp 2) rfl (N) rfl 39 2 _ k10 undT szT (by rfl) ?_; simp only [Act.put, List.setIfInBounds_toArray, List.set_cons_succ, List.set_cons_zero]
    go_big_quiet_step ((go_at_call 30; exact later_of hM9 _ (fun K hK hKN => ret_is Ra.out (Right_any a) _ K hK)))
    go_big_quiet_step (fail)
    go_big_quiet_step (fail)
    refine later_row hM9 39 (.tmp 3) rfl ((N + 1)) rfl 39 2 _ k11 undT szT (by rfl) ?_; simp only [Act.put, List.setIfInBounds_toArray, List.set_cons_succ, List.set_cons_zero]
    go_big_quiet_step ((go_at_call 30; exact later_of hM9 _ (fun K hK hKN => ret_is Rb.out (Right_any b) _ K hK)))
    go_big_quiet_step (fail)
    go_big_quiet_step (fail)
    go_big_quiet_step (fail)
    go_big_quiet_step (fail)
    refine later_b (x := (.tmp 27)) (y := (.const (.int .u64 0))) rfl (BinRun.is Ap.out (bin_neq _ ((a.v ^^^ b.v) &&& ~~~(a.m ||| b.m)) 0#64)) rfl rfl (by rfl) ?_; simp only [Act.put, List.setIfInBounds_toArray, List.set_cons_succ, List.set_cons_zero]
    go_big_quiet_step (fail)
    refine wpQuiet_nil ?_
    rintro xw14 ⟨qxw14, exw14⟩
    have hbxw14 := qxw14.b
    rw [← exw14] at hbxw14
    clear qxw14 exw14
    obtain ⟨M15, hM15⟩ := sz_some xw14
    have lM15 := below_sz hbxw14 hM9 hM15
    have k16 := k10.below hbxw14 (by omega)
    have k17 := k11.below hbxw14 (by omega)
    have k18 := k12.below hbxw14 (by omega)
    have lo19 := lo13.trans (hbxw14.mono (by omega))
    clear k10 k11 k12 lo13 hbxw14
    go_wp2_with (first
      | (refine wpl_build rfl 39 _ rfl (cellsOf (nC zeroN) 2) (by kernel_rfl) ?_)
      | (refine wpl_store rfl 39 (.tmp 4) (.tmp 30) rfl (N + 1 + 1) 2 (nC zeroN) rfl rfl 39 _ k18 szT (fun j _ => nC_one _ j) ?_; intro wq tq hq)
      | fail)
    refine post_nb rfl (N + 1 + 1) rfl hq ⟨dT, u1, u2⟩ szT rfl rfl ?_
    exact ⟨by rw [E.out.1, E.out.2]; rfl, tq.below lo19 (by omega)⟩
end Go.Proofs.Ytkljnpdojmcipaa
