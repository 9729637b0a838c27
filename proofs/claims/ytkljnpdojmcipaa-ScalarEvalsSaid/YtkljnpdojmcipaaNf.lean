/- Contracts of known bits: the lower bytes, within, meet, the product. -/
import Derived.Test.YtkljnpdojmcipaaNd
namespace Go.Proofs.Ytkljnpdojmcipaa
open Go Go.RowKit
/-- How many bits these are. -/
def cutB (z : Int) : Nat := if z = 1 then 8 else if z = 2 then 16 else if z = 4 then 32 else 64
def tCut (x : W) (z : Int) : W := BitVec.ofNat 64 (x.toNat % 2 ^ cutB z)
theorem qn_cut (x : W) (z : Int) : qn (tCut x z) = qn x % 2 ^ cutB z := by
  unfold qn tCut
  rw [BitVec.toNat_ofNat]
  have h1 : x.toNat % 2 ^ cutB z ≤ x.toNat := Nat.mod_le _ _
  have := x.isLt
  rw [Nat.mod_eq_of_lt (by omega)]
  push_cast; rfl
theorem cut_u8 (x : W) : qn (tCut x 1) = qn x % 256 ∧ IntKind.u64.wrap (IntKind.u8.wrap (qn x)) = qn x % 256 := by
  have h1 := qn_lo x
  have e : IntKind.u8.wrap (qn x) = qn x % 256 := by simp [IntKind.wrap, IntKind.signed, IntKind.bits]
  refine ⟨qn_cut x 1, ?_⟩
  rw [e, wrap_u, qn_ofInt]
  omega
theorem cut_u16 (x : W) : qn (tCut x 2) = qn x % 65536 ∧ IntKind.u64.wrap (IntKind.u16.wrap (qn x)) = qn x % 65536 := by
  have h1 := qn_lo x
  have e : IntKind.u16.wrap (qn x) = qn x % 65536 := by simp [IntKind.wrap, IntKind.signed, IntKind.bits]
  refine ⟨qn_cut x 2, ?_⟩
  rw [e, wrap_u, qn_ofInt]
  omega
theorem cut_u32 (x : W) : qn (tCut x 4) = qn x % 4294967296 ∧ IntKind.u64.wrap (IntKind.u32.wrap (qn x)) = qn x % 4294967296 := by
  have h1 := qn_lo x
  have e : IntKind.u32.wrap (qn x) = qn x % 4294967296 := by simp [IntKind.wrap, IntKind.signed, IntKind.bits]
  refine ⟨qn_cut x 4, ?_⟩
  rw [e, wrap_u, qn_ofInt]
  omega
def tLow (a : Nm) (z : Int) : Nm := ⟨tCut a.v z, tCut a.m z⟩

set_option maxRecDepth 100000 in
theorem cut_any (x : W) (z : Int) (w : World) (N : Nat) (hN : Sz w N) : Calls Try.prog 53 #[Q x, .int .i64 z] w fun e w' => e = .returned (Q (tCut x z)) ∧ Below N w w' := by
  have h1 := hid (qn_lo x)
  have h2 := hid (qn_hi x)
  by_cases z1 : z = 1
  · subst z1
    have E := hid (cut_u8 x)
    unfold Q
    go_enter Try.func53, Try.ntmps53
    go_wp2
    go_ret
    refine ⟨?_, Below.refl N w⟩
    first | (rw [E.out.1]; rfl) | (rw [E.out.2]; rfl) | (rw [E.out.1, ← E.out.2]; rfl)
  by_cases z2 : z = 2
  · subst z2
    have E := hid (cut_u16 x)
    unfold Q
    go_enter Try.func53, Try.ntmps53
    go_wp2
    go_ret
    refine ⟨?_, Below.refl N w⟩
    first | (rw [E.out.1]; rfl) | (rw [E.out.2]; rfl) | (rw [E.out.1, ← E.out.2]; rfl)
  by_cases z4 : z = 4
  · subst z4
    have E := hid (cut_u32 x)
    unfold Q
    go_enter Try.func53, Try.ntmps53
    go_wp2
    go_ret
    refine ⟨?_, Below.refl N w⟩
    first | (rw [E.out.1]; rfl) | (rw [E.out.2]; rfl) | (rw [E.out.1, ← E.out.2]; rfl)
  have e : qn (tCut x z) = qn x := by
    have := h1.out; have := h2.out
    rw [qn_cut]; unfold cutB; rw [if_neg z1, if_neg z2, if_neg z4]; omega
  have E := hid e
  clear e
  have d1 : (z == 1) = false := beq_eq_false_iff_ne.2 z1
  have d2 : (z == 2) = false := beq_eq_false_iff_ne.2 z2
  have d4 : (z == 4) = false := beq_eq_false_iff_ne.2 z4
  have Z := hid (And.intro z1 (And.intro z2 z4))
  clear z1 z2 z4
  unfold Q
  go_enter Try.func53, Try.ntmps53
  go_wp2
  go_ret
  refine ⟨?_, Below.refl N w⟩
  rw [E.out]; rfl
set_option maxRecDepth 100000 in
set_option maxHeartbeats 1000000 in
theorem Low_any (a : Nm) (z : Int) (w : World) (N : Nat) (hN : Sz w N) : Calls Try.prog 34 #[nV a, .int .i64 z] w fun e w' => e = .returned (nV (tLow a z)) ∧ Below N w w' := by
  unfold nV
  go_enter Try.func34, Try.ntmps34
  go_upto_region 1 with (first
    | (refine wpl_box rfl 39 (.tmp 0) rfl 2 _ rfl (N) hN ?_; intro w1 hN1 hb1 hh1)
    | (refine wpl_alloc rfl 39 rfl 2 (nC zeroN) zeT (N + 1) hN1 ?_; intro w2 hN2 hb2 hh2)
    | fail)
  have lo : Below N w w2 := hb1.trans (hb2.mono (by omega))
  have k1 := hh1.below hb2 (by omega)
  refine wp_region_any (by kernel_rfl) ?_
  replace k1 : Has w2.drew N 39 2 (nC a) := k1
  replace hh2 : Has w2.drew (N + 1) 39 2 (nC zeroN) := hh2
  replace hN2 : Sz w2.drew (N + 1 + 1) := hN2
  replace lo : Below N w w2.drew := lo.drew
  change wpAny _ _ _ _ _ _ _ (World.drew _)
  generalize w2.drew = w4 at *
  clear hh1 hb1 hb2 hN1
  obtain ⟨f0, g0⟩ := n_cells k1
  refine wpAny_pot (rem := [0, 1, 2, 3, 4, 5, 6, 7, 8]) (FG (N + 1 + 1) (fun j => if j = 0 then some (Value.pointer (some ⟨N, 0, none⟩)) else if j = 1 then some (Q a.v) else if j = 2 then some (Value.int .i64 z) else if j = 3 then some (Q (tCut a.v z)) else if j = 4 then some (Value.pointer (some ⟨N, 1, none⟩)) else if j = 5 then some (Q a.m) else if j = 6 then some (Value.int .i64 z) else if j = 7 then some (Q (tCut a.m z)) else some (Value.agg (cellsOf (nC ⟨(tCut a.v z), (tCut a.m z)⟩) 2))) (fun j => (0, 0, fun _ => undef))) (TwoN (fun j => if j = 0 then some (Value.pointer (some ⟨N, 0, none⟩)) else if j = 1 then some (Q a.v) else if j = 2 then some (Value.int .i64 z) else if j = 3 then some (Q (tCut a.v z)) else if j = 4 then some (Value.pointer (some ⟨N, 1, none⟩)) else if j = 5 then some (Q a.m) else if j = 6 then some (Value.int .i64 z) else if j = 7 then some (Q (tCut a.m z)) else some (Value.agg (cellsOf (nC ⟨(tCut a.v z), (tCut a.m z)⟩) 2)))) (Below (N + 1 + 1) w4) _ _ _ _ (by kernel_rfl) (size_dstG (by kernel_rfl)) (Below.refl _ _) ?_ ?_
  · intro i hi ac wa hI ha hv
    simp only [List.mem_cons, List.not_mem_nil, or_false] at hi
    rcases hi with rfl | rfl | rfl | rfl | rfl | rfl | rfl | rfl | rfl
    · exact potg_run rfl rfl (Value.pointer (some ⟨N, 0, none⟩)) rfl (run_fa 39 (.tmp 2) 0 0 rfl (ha 2 (not_dstG (by kernel_rfl))) faT0) hN2 hI
    · obtain ⟨v0, hv0a, hv0b⟩ := hv 0 (by simp) (by kernel_rfl)
      have ev0 := hv0b.val rfl
      subst ev0
      exact potg_run rfl rfl (Q a.v) rfl (run_c1 22 (.tmp 5) rfl ⟨N, 0, none⟩ (hv0a 5 rfl) und64 rfl (keep_c hI hN2 f0)) hN2 hI
    · exact potg_run rfl rfl (Value.int .i64 z) rfl (run_mv (x := (.tmp 1)) rfl _ (ha 1 (not_dstG (by kernel_rfl)))) hN2 hI
    · obtain ⟨v1, hv1a, hv1b⟩ := hv 1 (by simp) (by kernel_rfl)
      have ev1 := hv1b.val rfl
      subst ev1
      obtain ⟨v2, hv2a, hv2b⟩ := hv 2 (by simp) (by kernel_rfl)
      have ev2 := hv2b.val rfl
      subst ev2
      exact potg_cl rfl rfl 53 _ _ rfl #[(Q a.v), (Value.int .i64 z)] (by simp only [List.map_toArray, List.map_cons, List.map_nil, (show ac.eval (.tmp 6) = (Q a.v) from (hv1a 6 rfl)), (show ac.eval (.tmp 7) = (Value.int .i64 z) from (hv2a 7 rfl))] <;> rfl) (by kernel_rfl) (Q (tCut a.v z)) (fun K hK => cut_any a.v z wa K hK) rfl hN2 hI
    · exact potg_run rfl rfl (Value.pointer (some ⟨N, 1, none⟩)) rfl (run_fa 39 (.tmp 2) 1 1 rfl (ha 2 (not_dstG (by kernel_rfl))) faT1) hN2 hI
    · obtain ⟨v4, hv4a, hv4b⟩ := hv 4 (by simp) (by kernel_rfl)
      have ev4 := hv4b.val rfl
      subst ev4
      exact potg_run rfl rfl (Q a.m) rfl (run_c1 22 (.tmp 9) rfl ⟨N, 1, none⟩ (hv4a 9 rfl) und64 rfl (keep_c hI hN2 g0)) hN2 hI
    · exact potg_run rfl rfl (Value.int .i64 z) rfl (run_mv (x := (.tmp 1)) rfl _ (ha 1 (not_dstG (by kernel_rfl)))) hN2 hI
    · obtain ⟨v5, hv5a, hv5b⟩ := hv 5 (by simp) (by kernel_rfl)
      have ev5 := hv5b.val rfl
      subst ev5
      obtain ⟨v6, hv6a, hv6b⟩ := hv 6 (by simp) (by kernel_rfl)
      have ev6 := hv6b.val rfl
      subst ev6
      exact potg_cl rfl rfl 53 _ _ rfl #[(Q a.m), (Value.int .i64 z)] (by simp only [List.map_toArray, List.map_cons, List.map_nil, (show ac.eval (.tmp 10) = (Q a.m) from (hv5a 10 rfl)), (show ac.eval (.tmp 11) = (Value.int .i64 z) from (hv6a 11 rfl))] <;> rfl) (by kernel_rfl) (Q (tCut a.m z)) (fun K hK => cut_any a.m z wa K hK) rfl hN2 hI
    · obtain ⟨v3, hv3a, hv3b⟩ := hv 3 (by simp) (by kernel_rfl)
      have ev3 := hv3b.val rfl
      subst ev3
      obtain ⟨v7, hv7a, hv7b⟩ := hv 7 (by simp) (by kernel_rfl)
      have ev7 := hv7b.val rfl
      subst ev7
      exact potg_run rfl rfl (Value.agg (cellsOf (nC ⟨(tCut a.v z), (tCut a.m z)⟩) 2)) rfl (run_bd 39 _ rfl _ (by simp only [List.map_toArray, List.map_cons, List.map_nil, (show ac.eval (.tmp 8) = (Q (tCut a.v z)) from (hv3a 8 rfl)), (show ac.eval (.tmp 12) = (Q (tCut a.m z)) from (hv7a 12 rfl))]; kernel_rfl) wa) hN2 hI
  · intro vals w5 hb5 hF hG
    have e0 := (hF 0 (by simp)).val rfl
    have e1 := (hF 1 (by simp)).val rfl
    have e2 := (hF 2 (by simp)).val rfl
    have e3 := (hF 3 (by simp)).val rfl
    have e4 := (hF 4 (by simp)).val rfl
    have e5 := (hF 5 (by simp)).val rfl
    have e6 := (hF 6 (by simp)).val rfl
    have e7 := (hF 7 (by simp)).val rfl
    have e8 := (hF 8 (by simp)).val rfl
    clear hF hG
    simp only [List.foldl_cons, List.foldl_nil, dstOf, List.getElem?_toArray, List.getElem?_cons_succ, List.getElem?_cons_zero, Option.bind_some, Act.put, List.setIfInBounds_toArray, List.set_cons_succ, List.set_cons_zero, e0, e1, e2, e3, e4, e5, e6, e7, e8]
    clear e0 e1 e2 e3 e4 e5 e6 e7 e8
    refine wpAny_chain [9] _ _ _ _ (by kernel_rfl) (by decide) ?_
    simp only [List.filterMap_cons, List.filterMap_nil, List.getElem?_toArray, List.getElem?_cons_succ, List.getElem?_cons_zero]
    refine wpl_store rfl 39 (.tmp 4) (.tmp 13) rfl (N + 1) 2 (nC (tLow a z)) rfl rfl 39 _ (hh2.below hb5 (by omega)) szT (fun j _ => nC_one _ j) ?_
    intro wq tq hq
    go_wp2_with fail
    refine post_n rfl (N + 1) rfl hq undT szT rfl ?_
    exact ⟨rfl, tq.below (lo.trans (hb5.mono (by omega))) (by omega)⟩
set_option maxRecDepth 100000 in
set_option maxHeartbeats 1000000 in
theorem Within_any (a b : Nm) (w : World) (N : Nat) (hN : Sz w N) : Calls Try.prog 35 #[nV a, nV b] w fun e w' => e = .returned (.bool (tWithin a b)) ∧ Below N w w' := by
  unfold nV
  go_enter Try.func35, Try.ntmps35
  go_upto_region 1 with (first
    | (refine wpl_box rfl 39 (.tmp 0) rfl 2 _ rfl (N) hN ?_; intro w1 hN1 hb1 hh1)
    | (refine wpl_box rfl 39 (.tmp 1) rfl 2 _ rfl (N + 1) hN1 ?_; intro w2 hN2 hb2 hh2)
    | fail)
  have lo : Below N w w2 := (hb1.trans (hb2.mono (by omega)))
  have kk0 := (hh1.below hb2 (by omega))
  obtain ⟨f0, g0⟩ := n_cells kk0
  obtain ⟨f1, g1⟩ := n_cells hh2
  clear hh1 hb1 hb2 hN1
  cases er : tRight a
  · have E := hid (show tWithin a b = true by unfold tWithin; rw [er]; rfl)
    have Er := hid er
    clear er
    refine wp_region_later1 (N + 1 + 1) ?_
    refine later_row hN2 39 (.tmp 2) rfl (N) rfl 39 2 _ kk0 undT szT (by rfl) ?_; simp only [Act.put, List.setIfInBounds_toArray, List.set_cons_succ, List.set_cons_zero]
    go_big_quiet_step ((go_at_call 30; exact later_of hN2 _ (fun K hK hKN => ret_is Er.out (Right_any a) _ K hK)))
    go_big_quiet_step (fail)
    go_big_quiet_step (fail)
    go_big_quiet_step (fail)
    go_big_quiet_step (fail)
    go_big_quiet_step (fail)
    go_big_quiet_step (fail)
    go_big_quiet_step (fail)
    go_big_quiet_step (fail)
    go_big_quiet_step (fail)
    go_big_quiet_step (fail)
    go_big_quiet_step (fail)
    go_big_quiet_step (fail)
    go_big_quiet_step (fail)
    go_big_quiet_step (fail)
    go_big_quiet_step (fail)
    go_big_quiet_step (fail)
    refine wpQuiet_nil ?_
    rintro w3 ⟨qw3, ew3⟩
    have hbw3 := qw3.b
    rw [← ew3] at hbw3
    clear qw3 ew3
    go_wp2_with fail
    go_ret
    exact ⟨by rw [E.out]; rfl, lo.trans (hbw3.mono (by omega))⟩
  · have Er := hid er
    cases em : (a.m &&& ~~~b.m == 0#64)
    · have E := hid (show tWithin a b = false by unfold tWithin; rw [er, em]; rfl)
      have Em := hid em
      clear em er
      refine wp_region_later1 (N + 1 + 1) ?_
      refine later_row hN2 39 (.tmp 2) rfl (N) rfl 39 2 _ kk0 undT szT (by rfl) ?_; simp only [Act.put, List.setIfInBounds_toArray, List.set_cons_succ, List.set_cons_zero]
      go_big_quiet_step ((go_at_call 30; exact later_of hN2 _ (fun K hK hKN => ret_is Er.out (Right_any a) _ K hK)))
      go_big_quiet_step (fail)
      go_big_quiet_step (fail)
      go_big_quiet_step (fail)
      refine later_c1 hN2 22 (.tmp 9) rfl rfl und64 rfl g0 (by rfl) ?_; simp only [Act.put, List.setIfInBounds_toArray, List.set_cons_succ, List.set_cons_zero]
      go_big_quiet_step (fail)
      refine later_c1 hN2 22 (.tmp 11) rfl rfl und64 rfl g1 (by rfl) ?_; simp only [Act.put, List.setIfInBounds_toArray, List.set_cons_succ, List.set_cons_zero]
      refine later_b (x := (.tmp 10)) (y := (.tmp 12)) rfl (bin_andn _ a.m b.m) rfl rfl (by rfl) ?_; simp only [Act.put, List.setIfInBounds_toArray, List.set_cons_succ, List.set_cons_zero]
      refine later_b (x := (.tmp 13)) (y := (.const (.int .u64 0))) rfl (BinRun.is Em.out (bin_eql _ (a.m &&& ~~~b.m) 0#64)) rfl rfl (by rfl) ?_; simp only [Act.put, List.setIfInBounds_toArray, List.set_cons_succ, List.set_cons_zero]
      go_big_quiet_step (fail)
      go_big_quiet_step (fail)
      go_big_quiet_step (fail)
      go_big_quiet_step (fail)
      go_big_quiet_step (fail)
      go_big_quiet_step (fail)
      go_big_quiet_step (fail)
      go_big_quiet_step (fail)
      refine wpQuiet_nil ?_
      rintro w3 ⟨qw3, ew3⟩
      have hbw3 := qw3.b
      rw [← ew3] at hbw3
      clear qw3 ew3
      go_wp2_with fail
      go_ret
      exact ⟨by rw [E.out]; rfl, lo.trans (hbw3.mono (by omega))⟩
    · have E := hid (show tWithin a b = tHas b a.v by unfold tWithin; rw [er, em]; rfl)
      have Em := hid em
      clear em er
      refine wp_region_later1 (N + 1 + 1) ?_
      refine later_row hN2 39 (.tmp 2) rfl (N) rfl 39 2 _ kk0 undT szT (by rfl) ?_; simp only [Act.put, List.setIfInBounds_toArray, List.set_cons_succ, List.set_cons_zero]
      go_big_quiet_step ((go_at_call 30; exact later_of hN2 _ (fun K hK hKN => ret_is Er.out (Right_any a) _ K hK)))
      go_big_quiet_step (fail)
      go_big_quiet_step (fail)
      go_big_quiet_step (fail)
      refine later_c1 hN2 22 (.tmp 9) rfl rfl und64 rfl g0 (by rfl) ?_; simp only [Act.put, List.setIfInBounds_toArray, List.set_cons_succ, List.set_cons_zero]
      go_big_quiet_step (fail)
      refine later_c1 hN2 22 (.tmp 11) rfl rfl und64 rfl g1 (by rfl) ?_; simp only [Act.put, List.setIfInBounds_toArray, List.set_cons_succ, List.set_cons_zero]
      refine later_b (x := (.tmp 10)) (y := (.tmp 12)) rfl (bin_andn _ a.m b.m) rfl rfl (by rfl) ?_; simp only [Act.put, List.setIfInBounds_toArray, List.set_cons_succ, List.set_cons_zero]
      refine later_b (x := (.tmp 13)) (y := (.const (.int .u64 0))) rfl (BinRun.is Em.out (bin_eql _ (a.m &&& ~~~b.m) 0#64)) rfl rfl (by rfl) ?_; simp only [Act.put, List.setIfInBounds_toArray, List.set_cons_succ, List.set_cons_zero]
      go_big_quiet_step (fail)
      refine later_row hN2 39 (.tmp 3) rfl (N + 1) rfl 39 2 _ hh2 undT szT (by rfl) ?_; simp only [Act.put, List.setIfInBounds_toArray, List.set_cons_succ, List.set_cons_zero]
      go_big_quiet_step (fail)
      refine later_c1 hN2 22 (.tmp 17) rfl rfl und64 rfl f0 (by rfl) ?_; simp only [Act.put, List.setIfInBounds_toArray, List.set_cons_succ, List.set_cons_zero]
      go_big_quiet_step ((go_at_call 25; exact later_of hN2 _ (fun K hK hKN => Has_any b a.v _ K hK)))
      go_big_quiet_step (fail)
      go_big_quiet_step (fail)
      go_big_quiet_step (fail)
      refine wpQuiet_nil ?_
      rintro w3 ⟨qw3, ew3⟩
      have hbw3 := qw3.b
      rw [← ew3] at hbw3
      clear qw3 ew3
      go_wp2_with fail
      go_ret
      exact ⟨by rw [E.out]; rfl, lo.trans (hbw3.mono (by omega))⟩
end Go.Proofs.Ytkljnpdojmcipaa
