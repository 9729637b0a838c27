/- Contracts of known bits: the lower bytes, within, meet, the product. -/
import Derived.Test.YtbeikhokkpioeabNd
namespace Go.Proofs.Ytbeikhokkpioeab
open Go Go.RowKit
/-- How many bits these are. -/
def cutB (z : Int) : Nat := if z = 1 then 8 else if z = 2 then 16 else if z = 4 then 32 else 64
def tCut (x : W) (z : Int) : W := BitVec.ofNat 64 (x.toNat % 2 ^ cutB z)
theorem qn_cut (x : W) (z : Int) : qn (tCut x z) = qn x % 2 ^ cutB z := by
  unfold qn tCut
  rw [BitVec.toNat_ofNat]
  have h1 : x.toNat % 2 ^ cutB z ≤ x.toNat := Nat.mod_le _ _
  have := x.isLt
  rw [Nat.mod_eq_of_lt (by omega)]
  push_cast; rfl
theorem cut_u8 (x : W) : qn (tCut x 1) = qn x % 256 ∧ IntKind.u64.wrap (IntKind.u8.wrap (qn x)) = qn x % 256 := by
  have h1 := qn_lo x
  have e : IntKind.u8.wrap (qn x) = qn x % 256 := by simp [IntKind.wrap, IntKind.signed, IntKind.bits]
  refine ⟨qn_cut x 1, ?_⟩
  rw [e, wrap_u, qn_ofInt]
  omega
theorem cut_u16 (x : W) : qn (tCut x 2) = qn x % 65536 ∧ IntKind.u64.wrap (IntKind.u16.wrap (qn x)) = qn x % 65536 := by
  have h1 := qn_lo x
  have e : IntKind.u16.wrap (qn x) = qn x % 65536 := by simp [IntKind.wrap, IntKind.signed, IntKind.bits]
  refine ⟨qn_cut x 2, ?_⟩
  rw [e, wrap_u, qn_ofInt]
  omega
theorem cut_u32 (x : W) : qn (tCut x 4) = qn x % 4294967296 ∧ IntKind.u64.wrap (IntKind.u32.wrap (qn x)) = qn x % 4294967296 := by
  have h1 := qn_lo x
  have e : IntKind.u32.wrap (qn x) = qn x % 4294967296 := by simp [IntKind.wrap, IntKind.signed, IntKind.bits]
  refine ⟨qn_cut x 4, ?_⟩
  rw [e, wrap_u, qn_ofInt]
  omega
def tLow (a : Nm) (z : Int) : Nm := ⟨tCut a.v z, tCut a.m z⟩

set_option maxRecDepth 100000 in
set_option maxHeartbeats 1000000 in
theorem Within_any (a b : Nm) (w : World) (N : Nat) (hN : Sz w N) : Calls Try.prog 13 #[nV a, nV b] w fun e w' => e = .returned (.bool (tWithin a b)) ∧ Below N w w' := by
  unfold nV
  go_enter Try.func13, Try.ntmps13
  go_upto_region 1 with (first
    | (refine wpl_box rfl 27 (.tmp 0) rfl 2 _ rfl (N) hN ?_; intro w1 hN1 hb1 hh1)
    | (refine wpl_box rfl 27 (.tmp 1) rfl 2 _ rfl (N + 1) hN1 ?_; intro w2 hN2 hb2 hh2)
    | fail)
  have lo : Below N w w2 := (hb1.trans (hb2.mono (by omega)))
  have kk0 := (hh1.below hb2 (by omega))
  obtain ⟨f0, g0⟩ := n_cells kk0
  obtain ⟨f1, g1⟩ := n_cells hh2
  clear hh1 hb1 hb2 hN1
  cases er : tRight a
  · have E := hid (show tWithin a b = true by unfold tWithin; rw [er]; rfl)
    have Er := hid er
    clear er
    refine wp_region_later1 (N + 1 + 1) ?_
    refine later_row hN2 27 (.tmp 2) rfl (N) rfl 27 2 _ kk0 undT szT (by rfl) ?_; simp only [Act.put, List.setIfInBounds_toArray, List.set_cons_succ, List.set_cons_zero]
    go_big_quiet_step ((go_at_call 19; exact later_of hN2 _ (fun K hK hKN => ret_is Er.out (Right_any a) _ K hK)))
    go_big_quiet_step (fail)
    go_big_quiet_step (fail)
    go_big_quiet_step (fail)
    go_big_quiet_step (fail)
    go_big_quiet_step (fail)
    go_big_quiet_step (fail)
    go_big_quiet_step (fail)
    go_big_quiet_step (fail)
    go_big_quiet_step (fail)
    go_big_quiet_step (fail)
    go_big_quiet_step (fail)
    go_big_quiet_step (fail)
    go_big_quiet_step (fail)
    go_big_quiet_step (fail)
    go_big_quiet_step (fail)
    go_big_quiet_step (fail)
    refine wpQuiet_nil ?_
    rintro w3 ⟨qw3, ew3⟩
    have hbw3 := qw3.b
    rw [← ew3] at hbw3
    clear qw3 ew3
    go_wp2_with fail
    go_ret
    exact ⟨by rw [E.out]; rfl, lo.trans (hbw3.mono (by omega))⟩
  · have Er := hid er
    cases em : (a.m &&& ~~~b.m == 0#64)
    · have E := hid (show tWithin a b = false by unfold tWithin; rw [er, em]; rfl)
      have Em := hid em
      clear em er
      refine wp_region_later1 (N + 1 + 1) ?_
      refine later_row hN2 27 (.tmp 2) rfl (N) rfl 27 2 _ kk0 undT szT (by rfl) ?_; simp only [Act.put, List.setIfInBounds_toArray, List.set_cons_succ, List.set_cons_zero]
      go_big_quiet_step ((go_at_call 19; exact later_of hN2 _ (fun K hK hKN => ret_is Er.out (Right_any a) _ K hK)))
      go_big_quiet_step (fail)
      go_big_quiet_step (fail)
      go_big_quiet_step (fail)
      refine later_c1 hN2 22 (.tmp 9) rfl rfl und64 rfl g0 (by rfl) ?_; simp only [Act.put, List.setIfInBounds_toArray, List.set_cons_succ, List.set_cons_zero]
      go_big_quiet_step (fail)
      refine later_c1 hN2 22 (.tmp 11) rfl rfl und64 rfl g1 (by rfl) ?_; simp only [Act.put, List.setIfInBounds_toArray, List.set_cons_succ, List.set_cons_zero]
      refine later_b (x := (.tmp 10)) (y := (.tmp 12)) rfl (bin_andn _ a.m b.m) rfl rfl (by rfl) ?_; simp only [Act.put, List.setIfInBounds_toArray, List.set_cons_succ, List.set_cons_zero]
      refine later_b (x := (.tmp 13)) (y := (.const (.int .u64 0))) rfl (BinRun.is Em.out (bin_eql _ (a.m &&& ~~~b.m) 0#64)) rfl rfl (by rfl) ?_; simp only [Act.put, List.setIfInBounds_toArray, List.set_cons_succ, List.set_cons_zero]
      go_big_quiet_step (fail)
      go_big_quiet_step (fail)
      go_big_quiet_step (fail)
      go_big_quiet_step (fail)
      go_big_quiet_step (fail)
      go_big_quiet_step (fail)
      go_big_quiet_step (fail)
      go_big_quiet_step (fail)
      refine wpQuiet_nil ?_
      rintro w3 ⟨qw3, ew3⟩
      have hbw3 := qw3.b
      rw [← ew3] at hbw3
      clear qw3 ew3
      go_wp2_with fail
      go_ret
      exact ⟨by rw [E.out]; rfl, lo.trans (hbw3.mono (by omega))⟩
    · have E := hid (show tWithin a b = tHas b a.v by unfold tWithin; rw [er, em]; rfl)
      have Em := hid em
      clear em er
      refine wp_region_later1 (N + 1 + 1) ?_
      refine later_row hN2 27 (.tmp 2) rfl (N) rfl 27 2 _ kk0 undT szT (by rfl) ?_; simp only [Act.put, List.setIfInBounds_toArray, List.set_cons_succ, List.set_cons_zero]
      go_big_quiet_step ((go_at_call 19; exact later_of hN2 _ (fun K hK hKN => ret_is Er.out (Right_any a) _ K hK)))
      go_big_quiet_step (fail)
      go_big_quiet_step (fail)
      go_big_quiet_step (fail)
      refine later_c1 hN2 22 (.tmp 9) rfl rfl und64 rfl g0 (by rfl) ?_; simp only [Act.put, List.setIfInBounds_toArray, List.set_cons_succ, List.set_cons_zero]
      go_big_quiet_step (fail)
      refine later_c1 hN2 22 (.tmp 11) rfl rfl und64 rfl g1 (by rfl) ?_; simp only [Act.put, List.setIfInBounds_toArray, List.set_cons_succ, List.set_cons_zero]
      refine later_b (x := (.tmp 10)) (y := (.tmp 12)) rfl (bin_andn _ a.m b.m) rfl rfl (by rfl) ?_; simp only [Act.put, List.setIfInBounds_toArray, List.set_cons_succ, List.set_cons_zero]
      refine later_b (x := (.tmp 13)) (y := (.const (.int .u64 0))) rfl (BinRun.is Em.out (bin_eql _ (a.m &&& ~~~b.m) 0#64)) rfl rfl (by rfl) ?_; simp only [Act.put, List.setIfInBounds_toArray, List.set_cons_succ, List.set_cons_zero]
      go_big_quiet_step (fail)
      refine later_row hN2 27 (.tmp 3) rfl (N + 1) rfl 27 2 _ hh2 undT szT (by rfl) ?_; simp only [Act.put, List.setIfInBounds_toArray, List.set_cons_succ, List.set_cons_zero]
      go_big_quiet_step (fail)
      refine later_c1 hN2 22 (.tmp 17) rfl rfl und64 rfl f0 (by rfl) ?_; simp only [Act.put, List.setIfInBounds_toArray, List.set_cons_succ, List.set_cons_zero]
      go_big_quiet_step ((go_at_call 18; exact later_of hN2 _ (fun K hK hKN => Has_any b a.v _ K hK)))
      go_big_quiet_step (fail)
      go_big_quiet_step (fail)
      go_big_quiet_step (fail)
      refine wpQuiet_nil ?_
      rintro w3 ⟨qw3, ew3⟩
      have hbw3 := qw3.b
      rw [← ew3] at hbw3
      clear qw3 ew3
      go_wp2_with fail
      go_ret
      exact ⟨by rw [E.out]; rfl, lo.trans (hbw3.mono (by omega))⟩
end Go.Proofs.Ytbeikhokkpioeab
