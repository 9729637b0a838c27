/- RightsLess: the walk. -/
import Derived.Test.YtcbcnhkalchpbaaDoorRi7
import Derived.Test.YtcbcnhkalchpbaaDoorQTail
import Derived.Test.YtcbcnhkalchpbaaDoorAts2
namespace Go.Proofs.YtcbcnhkalchpbaaDoor
open Go Go.RowKit
/-- One bit. -/
def oneB (k : Nat) : BitVec 16 := BitVec.ofNat 16 (2 ^ k)
theorem oneB_val (k : Nat) (hk : k < 16) : ((2 ^ k : Nat) : Int) = u6 (oneB k) := by
  unfold u6 oneB
  have : 2 ^ k < 2 ^ 16 := Nat.pow_lt_pow_right (by omega) hk
  rw [BitVec.toNat_ofNat, Nat.mod_eq_of_lt this]
theorem wrap_oneB (k : Nat) (hk : k < 16) : IntKind.u16.wrap ((2 : Int) ^ k) = u6 (oneB k) := by
  have h : ((2 : Int) ^ k) = ((2 ^ k : Nat) : Int) := by simp
  have : 2 ^ k < 2 ^ 16 := Nat.pow_lt_pow_right (by omega) hk
  have h1 := u6_lo (oneB k)
  have h2 := u6_hi (oneB k)
  rw [h, IntKind.wrap_u16, oneB_val k hk]
  omega
theorem Rt.touch {w w' : World} {d : Nat} (T : Rt w) (t : Touch d w w') (h1 : 0 ≠ d) (h2 : 8 ≠ d) : Rt w' := ⟨Tab.same T.h (t.block _ h1), t.cell T.d h2⟩
theorem less_and (x m : BitVec 16) : (x &&& ~~~m) &&& ~~~x = 0#16 := by
  apply BitVec.eq_of_getLsbD_eq
  intro i hi
  simp only [BitVec.getLsbD_and, BitVec.getLsbD_not, hi, decide_true, Bool.true_and, BitVec.getLsbD_zero]
  cases h1 : x.getLsbD i <;> cases h2 : m.getLsbD i <;> simp
theorem self_and (x : BitVec 16) : x &&& ~~~x = 0#16 := by
  apply BitVec.eq_of_getLsbD_eq
  intro i hi
  simp only [BitVec.getLsbD_and, BitVec.getLsbD_not, hi, decide_true, Bool.true_and, BitVec.getLsbD_zero]
  cases h1 : x.getLsbD i <;> simp
def lessAt (a : Rg) (j : Nat) (m : BitVec 16) : Rg :=
  if j = 0 then ⟨a.c &&& ~~~m, a.p, a.m, a.h, a.v, a.s⟩ else if j = 1 then ⟨a.c, a.p &&& ~~~m, a.m, a.h, a.v, a.s⟩ else if j = 2 then ⟨a.c, a.p, a.m &&& ~~~m, a.h, a.v, a.s⟩ else if j = 3 then ⟨a.c, a.p, a.m, a.h &&& ~~~m, a.v, a.s⟩
  else if j = 4 then ⟨a.c, a.p, a.m, a.h, false, a.s⟩ else ⟨a.c, a.p, a.m, a.h, a.v, true⟩
theorem less_within (a : Rg) (j : Nat) (m : BitVec 16) : rWithin (lessAt a j m) a = true := by
  unfold lessAt rWithin
  repeat' split
  all_goals simp [less_and, self_and]
theorem less_cells (a : Rg) (j : Nat) (hj : j < 6) (m : BitVec 16) (i : Nat) (hi : i < 6) :
    upd (rgC a) j (rgC (lessAt a j m) j) i = rgC (lessAt a j m) i := by
  unfold upd
  by_cases e : i = j
  · rw [if_pos e, e]
  · rw [if_neg e]
    rcases (show j = 0 ∨ j = 1 ∨ j = 2 ∨ j = 3 ∨ j = 4 ∨ j = 5 by omega) with rfl | rfl | rfl | rfl | rfl | rfl <;>
    rcases (show i = 0 ∨ i = 1 ∨ i = 2 ∨ i = 3 ∨ i = 4 ∨ i = 5 by omega) with rfl | rfl | rfl | rfl | rfl | rfl <;> first | rfl | exact absurd rfl e
set_option maxRecDepth 100000 in
set_option maxHeartbeats 8000000 in
theorem law_less (a : Rg) (n : Int) (w : World) (N : Nat) (hN : Sz w N) (hT : Rt w) :
    Calls Tryd.prog 7 #[rgV a, .int .i64 n] w fun e w' => e = .returned (.bool true) ∧ Below N w w' := by
  obtain ⟨k, hk, ek⟩ := rest n 66 (by omega) (by omega)
  rw [show ((66 : Nat) : Int) = 66 from rfl] at ek
  have Ek := hid ek
  clear ek
  obtain ⟨dF, v1, v2⟩ := undRF
  unfold rgV
  go_enter Tryd.func7, Tryd.ntmps7
  go_upto_region 2 with (first
    | (refine wpl_box rfl 24 (.tmp 0) rfl 6 _ rfl N hN ?_; intro w1 hN1 hb1 hh1)
    | (refine wpl_load rfl 24 (.tmp 2) rfl N rfl 24 6 _ hh1 _ v1 v2 szRF ?_)
    | (refine wpl_alloc rfl 24 rfl 6 (rgC rgNone) zeRF (N + 1) hN1 ?_; intro w2 hN2 hb2 hh2)
    | (refine wpl_store rfl 24 (.tmp 5) (.tmp 7) rfl (N + 1) 6 (rgC a) rfl rfl 24 _ hh2 szRF (fun j _ => rgC_one _ j) ?_; intro w3 ht3 hh3)
    | fail)
  have ha : Has w3 N 24 6 (rgC a) := (hh1.below hb2 (by omega)).touch ht3 (by omega)
  have lo : Below N w w3 := ht3.below (hb1.trans (hb2.mono (by omega))) (by omega)
  have T3 := hT.below hN lo
  have hM : Sz w3 (N + 1 + 1) := ht3.sz hN2
  clear hh1 hh2 hb1 hb2 ht3 hN1 hN2
  obtain ⟨f0, f1, f2, f3, f4, f5⟩ := rg_cells hh3
  go_upto_region 4 with fail
  rw [Ek.out]
  clear Ek
  have k0 : (0 : Int) ≤ (k : Int) := by omega
  have k6 : (k : Int) < 66 := by omega

  by_cases c0 : k < 16
  · have q0 : (k : Int) < 16 := by omega
    obtain ⟨m, hm⟩ : ∃ m, m = k - 0 := ⟨_, rfl⟩
    have m16 : m < 16 := by omega
    have em : m = k := by omega
    subst em
    clear hm
    go_upto_region 5 with fail
    have mi0 : (0 : Int) ≤ (m : Int) := by omega
    have mi16 : (m : Int) < 16 := by omega
    refine wp_region_quiet_tail 6 (by kernel_rfl) (by kernel_rfl) ?_
    simp only [List.take_succ_cons, List.take_zero, List.drop_succ_cons, List.drop_zero]
    iterate 6 go_big_quiet_step (fail)
    refine wpQuiet_nil ?_
    rintro w4 ⟨q, e4⟩
    have kb0 : Has w4 (N + 1) 24 6 (rgC a) := by rw [e4]; exact hh3
    have ha : Has w4 N 24 6 (rgC a) := by rw [e4]; exact ha
    have lo : Below N w w4 := by rw [e4]; exact below_drewN lo q
    have T3 : Rt w4 := by rw [e4]; exact ⟨T3.h, T3.d⟩
    have hM : Sz w4 (N + 1 + 1) := by rw [e4]; exact hM
    clear e4 hh3 f0 f1 f2 f3 f4 f5
    rw [wrap_oneB m m16, andNot_u6]
    refine wpl_set rfl 22 (.tmp 21) (.tmp 20) rfl (N + 1) 0 rfl (Wd (a.c &&& ~~~oneB m)) rfl (by kernel_rfl) rfl rfl 24 6 _ kb0 (by omega) ?_
    intro w5 t5 k5
    have kb := k5.congr (fun i hi => less_cells a 0 (by omega) (oneB m) i hi)
    have ha := ha.touch t5 (by omega)
    have lo := t5.below lo (by omega)
    have T3 : Rt w5 := T3.touch t5 (by have := hT.h.ltN hN; omega) (by have := hT.d.ltN hN; omega)
    have hM := t5.sz hM
    clear kb0 k5
    have wi := less_within a 0 (oneB m)
    obtain ⟨b, hb⟩ : ∃ b, b = lessAt a 0 (oneB m) := ⟨_, rfl⟩
    rw [← hb] at kb wi
    clear hb
    have e1 : rWithin a b = a.beq b := by
      rw [Bool.eq_iff_iff, Rg.beq_iff]
      exact ⟨fun h => within_antisymm h wi, fun h => by rw [← h]; exact within_self a⟩
    have e2 : (rCommon a b).beq b = true := (Rg.beq_iff _ _).2 (by rw [common_comm]; exact (within_iff' b a).1 wi)
    have e3 : b.beq a = a.beq b := by rw [Bool.eq_iff_iff, Rg.beq_iff, Rg.beq_iff]; exact eq_comm
    have CA := fun w M hM => Within_any a b w M hM
    have CB := fun w M hM => Within_any b a w M hM
    rw [e1] at CA
    rw [wi] at CB
    have HE1 := fun w' => run_eq_rf a b w'
    have HE2 := fun w' => run_eq_rr (rCommon a b) b w'
    rw [e2] at HE2
    generalize a.beq b = eq at *
    clear e1 e2 e3 wi
    go_upto_region 14 with fail
    refine wp_region_later (N + 1 + 1) (by kernel_rfl) (by kernel_rfl) ?_
    try simp only [Act.put, List.setIfInBounds_toArray, List.set_cons_succ, List.set_cons_zero]
    go_big_quiet_step ((go_at_call 16; exact later_of hM _ (fun K hK hKN => whole_any _ K hK (T3.below hM (Later.b _)))))
    go_big_quiet_step (fail)
    refine later_val (fun q => run_ld 24 (.tmp 5) rfl (N + 1) rfl 24 6 _ (Later.has hM kb q) _ v1 v2 szRF) (by rfl) ?_; simp only [Act.put, List.setIfInBounds_toArray, List.set_cons_succ, List.set_cons_zero]
    go_big_quiet_step ((go_at_call 14; exact later_of hM _ (fun K hK hKN => To_any b _ K hK)))
    refine later_val (fun q => run_ld 24 (.tmp 2) rfl N rfl 24 6 _ (Later.has hM ha q) _ v1 v2 szRF) (by rfl) ?_; simp only [Act.put, List.setIfInBounds_toArray, List.set_cons_succ, List.set_cons_zero]
    go_big_quiet_step ((go_at_call 14; exact later_of hM _ (fun K hK hKN => To_any a _ K hK)))
    go_big_quiet_step ((go_at_call 17; exact later_of hM _ (fun K hK hKN => CB _ K hK)))
    go_big_quiet_step (fail)
    go_big_quiet_step (fail)
    refine later_val (fun q => run_ld 24 (.tmp 2) rfl N rfl 24 6 _ (Later.has hM ha q) _ v1 v2 szRF) (by rfl) ?_; simp only [Act.put, List.setIfInBounds_toArray, List.set_cons_succ, List.set_cons_zero]
    go_big_quiet_step ((go_at_call 14; exact later_of hM _ (fun K hK hKN => To_any a _ K hK)))
    refine later_val (fun q => run_ld 24 (.tmp 5) rfl (N + 1) rfl 24 6 _ (Later.has hM kb q) _ v1 v2 szRF) (by rfl) ?_; simp only [Act.put, List.setIfInBounds_toArray, List.set_cons_succ, List.set_cons_zero]
    go_big_quiet_step ((go_at_call 14; exact later_of hM _ (fun K hK hKN => To_any b _ K hK)))
    go_big_quiet_step ((go_at_call 17; exact later_of hM _ (fun K hK hKN => CA _ K hK)))
    refine later_val (fun q => run_ld 24 (.tmp 2) rfl N rfl 24 6 _ (Later.has hM ha q) _ v1 v2 szRF) (by rfl) ?_; simp only [Act.put, List.setIfInBounds_toArray, List.set_cons_succ, List.set_cons_zero]
    refine later_val (fun q => run_ld 24 (.tmp 5) rfl (N + 1) rfl 24 6 _ (Later.has hM kb q) _ v1 v2 szRF) (by rfl) ?_; simp only [Act.put, List.setIfInBounds_toArray, List.set_cons_succ, List.set_cons_zero]
    refine later_val (fun q => run_eql_op 24 24 (.tmp 70) (.tmp 71) rfl _ _ rfl rfl eq (by kernel_rfl) (HE1 q.w')) (by rfl) ?_; simp only [Act.put, List.setIfInBounds_toArray, List.set_cons_succ, List.set_cons_zero, Bool.not_true, Bool.not_false]
    go_big_quiet_step (fail)
    go_big_quiet_step (fail)
    go_big_quiet_step (fail)
    refine later_val (fun q => run_ld 24 (.tmp 2) rfl N rfl 24 6 _ (Later.has hM ha q) _ v1 v2 szRF) (by rfl) ?_; simp only [Act.put, List.setIfInBounds_toArray, List.set_cons_succ, List.set_cons_zero]
    go_big_quiet_step ((go_at_call 14; exact later_of hM _ (fun K hK hKN => To_any a _ K hK)))
    refine later_val (fun q => run_ld 24 (.tmp 5) rfl (N + 1) rfl 24 6 _ (Later.has hM kb q) _ v1 v2 szRF) (by rfl) ?_; simp only [Act.put, List.setIfInBounds_toArray, List.set_cons_succ, List.set_cons_zero]
    go_big_quiet_step ((go_at_call 14; exact later_of hM _ (fun K hK hKN => To_any b _ K hK)))
    go_big_quiet_step ((go_at_call 15; exact later_of hM _ (fun K hK hKN => Common_any a b _ K hK)))
    refine later_val (fun q => run_ld 24 (.tmp 5) rfl (N + 1) rfl 24 6 _ (Later.has hM kb q) _ v1 v2 szRF) (by rfl) ?_; simp only [Act.put, List.setIfInBounds_toArray, List.set_cons_succ, List.set_cons_zero]
    go_big_quiet_step ((go_at_call 14; exact later_of hM _ (fun K hK hKN => To_any b _ K hK)))
    refine later_val (fun q => run_eql_op 26 26 (.tmp 80) (.tmp 82) rfl _ _ rfl rfl true (by kernel_rfl) (HE2 q.w')) (by rfl) ?_; simp only [Act.put, List.setIfInBounds_toArray, List.set_cons_succ, List.set_cons_zero, Bool.not_true, Bool.not_false]
    go_big_quiet_step (fail)
    go_big_quiet_step (fail)
    refine wpQuiet_nil ?_
    rintro w30 ⟨q30, e30⟩
    have hb30 := q30.b
    rw [← e30] at hb30
    clear e30 q30
    go_wp2_with fail
    go_ret
    exact ⟨by first | rfl | simp, lo.trans (hb30.mono (show N ≤ N + 1 + 1 by omega))⟩
  · have p0 : ¬ (k : Int) < 16 := by omega
    by_cases c1 : k < 32
    · have q1 : (k : Int) < 32 := by omega
      obtain ⟨m, hm⟩ : ∃ m, m = k - 16 := ⟨_, rfl⟩
      have m16 : m < 16 := by omega
      have em : (k : Int) = (m : Int) + 16 := by omega
      have Em := hid em
      clear hm em hk c0 c1
      go_upto_region 7 with fail
      rw [Em.out]
      clear Em k0 k6 q1 p0
      have mi0 : (0 : Int) ≤ (m : Int) := by omega
      have mi16 : (m : Int) < 16 := by omega
      refine wp_region_quiet_tail 7 (by kernel_rfl) (by kernel_rfl) ?_
      simp only [List.take_succ_cons, List.take_zero, List.drop_succ_cons, List.drop_zero]
      iterate 7 go_big_quiet_step (fail)
      refine wpQuiet_nil ?_
      rintro w4 ⟨q, e4⟩
      have kb0 : Has w4 (N + 1) 24 6 (rgC a) := by rw [e4]; exact hh3
      have ha : Has w4 N 24 6 (rgC a) := by rw [e4]; exact ha
      have lo : Below N w w4 := by rw [e4]; exact below_drewN lo q
      have T3 : Rt w4 := by rw [e4]; exact ⟨T3.h, T3.d⟩
      have hM : Sz w4 (N + 1 + 1) := by rw [e4]; exact hM
      clear e4 hh3 f0 f1 f2 f3 f4 f5
      rw [wrap_oneB m m16, andNot_u6]
      refine wpl_set rfl 22 (.tmp 31) (.tmp 30) rfl (N + 1) 1 rfl (Wd (a.p &&& ~~~oneB m)) rfl (by kernel_rfl) rfl rfl 24 6 _ kb0 (by omega) ?_
      intro w5 t5 k5
      have kb := k5.congr (fun i hi => less_cells a 1 (by omega) (oneB m) i hi)
      have ha := ha.touch t5 (by omega)
      have lo := t5.below lo (by omega)
      have T3 : Rt w5 := T3.touch t5 (by have := hT.h.ltN hN; omega) (by have := hT.d.ltN hN; omega)
      have hM := t5.sz hM
      clear kb0 k5
      have wi := less_within a 1 (oneB m)
      obtain ⟨b, hb⟩ : ∃ b, b = lessAt a 1 (oneB m) := ⟨_, rfl⟩
      rw [← hb] at kb wi
      clear hb
      have e1 : rWithin a b = a.beq b := by
        rw [Bool.eq_iff_iff, Rg.beq_iff]
        exact ⟨fun h => within_antisymm h wi, fun h => by rw [← h]; exact within_self a⟩
      have e2 : (rCommon a b).beq b = true := (Rg.beq_iff _ _).2 (by rw [common_comm]; exact (within_iff' b a).1 wi)
      have e3 : b.beq a = a.beq b := by rw [Bool.eq_iff_iff, Rg.beq_iff, Rg.beq_iff]; exact eq_comm
      have CA := fun w M hM => Within_any a b w M hM
      have CB := fun w M hM => Within_any b a w M hM
      rw [e1] at CA
      rw [wi] at CB
      have HE1 := fun w' => run_eq_rf a b w'
      have HE2 := fun w' => run_eq_rr (rCommon a b) b w'
      rw [e2] at HE2
      generalize a.beq b = eq at *
      clear e1 e2 e3 wi
      go_upto_region 14 with fail
      refine wp_region_later (N + 1 + 1) (by kernel_rfl) (by kernel_rfl) ?_
      try simp only [Act.put, List.setIfInBounds_toArray, List.set_cons_succ, List.set_cons_zero]
      go_big_quiet_step ((go_at_call 16; exact later_of hM _ (fun K hK hKN => whole_any _ K hK (T3.below hM (Later.b _)))))
      go_big_quiet_step (fail)
      refine later_val (fun q => run_ld 24 (.tmp 5) rfl (N + 1) rfl 24 6 _ (Later.has hM kb q) _ v1 v2 szRF) (by rfl) ?_; simp only [Act.put, List.setIfInBounds_toArray, List.set_cons_succ, List.set_cons_zero]
      go_big_quiet_step ((go_at_call 14; exact later_of hM _ (fun K hK hKN => To_any b _ K hK)))
      refine later_val (fun q => run_ld 24 (.tmp 2) rfl N rfl 24 6 _ (Later.has hM ha q) _ v1 v2 szRF) (by rfl) ?_; simp only [Act.put, List.setIfInBounds_toArray, List.set_cons_succ, List.set_cons_zero]
      go_big_quiet_step ((go_at_call 14; exact later_of hM _ (fun K hK hKN => To_any a _ K hK)))
      go_big_quiet_step ((go_at_call 17; exact later_of hM _ (fun K hK hKN => CB _ K hK)))
      go_big_quiet_step (fail)
      go_big_quiet_step (fail)
      refine later_val (fun q => run_ld 24 (.tmp 2) rfl N rfl 24 6 _ (Later.has hM ha q) _ v1 v2 szRF) (by rfl) ?_; simp only [Act.put, List.setIfInBounds_toArray, List.set_cons_succ, List.set_cons_zero]
      go_big_quiet_step ((go_at_call 14; exact later_of hM _ (fun K hK hKN => To_any a _ K hK)))
      refine later_val (fun q => run_ld 24 (.tmp 5) rfl (N + 1) rfl 24 6 _ (Later.has hM kb q) _ v1 v2 szRF) (by rfl) ?_; simp only [Act.put, List.setIfInBounds_toArray, List.set_cons_succ, List.set_cons_zero]
      go_big_quiet_step ((go_at_call 14; exact later_of hM _ (fun K hK hKN => To_any b _ K hK)))
      go_big_quiet_step ((go_at_call 17; exact later_of hM _ (fun K hK hKN => CA _ K hK)))
      refine later_val (fun q => run_ld 24 (.tmp 2) rfl N rfl 24 6 _ (Later.has hM ha q) _ v1 v2 szRF) (by rfl) ?_; simp only [Act.put, List.setIfInBounds_toArray, List.set_cons_succ, List.set_cons_zero]
      refine later_val (fun q => run_ld 24 (.tmp 5) rfl (N + 1) rfl 24 6 _ (Later.has hM kb q) _ v1 v2 szRF) (by rfl) ?_; simp only [Act.put, List.setIfInBounds_toArray, List.set_cons_succ, List.set_cons_zero]
      refine later_val (fun q => run_eql_op 24 24 (.tmp 70) (.tmp 71) rfl _ _ rfl rfl eq (by kernel_rfl) (HE1 q.w')) (by rfl) ?_; simp only [Act.put, List.setIfInBounds_toArray, List.set_cons_succ, List.set_cons_zero, Bool.not_true, Bool.not_false]
      go_big_quiet_step (fail)
      go_big_quiet_step (fail)
      go_big_quiet_step (fail)
      refine later_val (fun q => run_ld 24 (.tmp 2) rfl N rfl 24 6 _ (Later.has hM ha q) _ v1 v2 szRF) (by rfl) ?_; simp only [Act.put, List.setIfInBounds_toArray, List.set_cons_succ, List.set_cons_zero]
      go_big_quiet_step ((go_at_call 14; exact later_of hM _ (fun K hK hKN => To_any a _ K hK)))
      refine later_val (fun q => run_ld 24 (.tmp 5) rfl (N + 1) rfl 24 6 _ (Later.has hM kb q) _ v1 v2 szRF) (by rfl) ?_; simp only [Act.put, List.setIfInBounds_toArray, List.set_cons_succ, List.set_cons_zero]
      go_big_quiet_step ((go_at_call 14; exact later_of hM _ (fun K hK hKN => To_any b _ K hK)))
      go_big_quiet_step ((go_at_call 15; exact later_of hM _ (fun K hK hKN => Common_any a b _ K hK)))
      refine later_val (fun q => run_ld 24 (.tmp 5) rfl (N + 1) rfl 24 6 _ (Later.has hM kb q) _ v1 v2 szRF) (by rfl) ?_; simp only [Act.put, List.setIfInBounds_toArray, List.set_cons_succ, List.set_cons_zero]
      go_big_quiet_step ((go_at_call 14; exact later_of hM _ (fun K hK hKN => To_any b _ K hK)))
      refine later_val (fun q => run_eql_op 26 26 (.tmp 80) (.tmp 82) rfl _ _ rfl rfl true (by kernel_rfl) (HE2 q.w')) (by rfl) ?_; simp only [Act.put, List.setIfInBounds_toArray, List.set_cons_succ, List.set_cons_zero, Bool.not_true, Bool.not_false]
      go_big_quiet_step (fail)
      go_big_quiet_step (fail)
      refine wpQuiet_nil ?_
      rintro w30 ⟨q30, e30⟩
      have hb30 := q30.b
      rw [← e30] at hb30
      clear e30 q30
      go_wp2_with fail
      go_ret
      exact ⟨by first | rfl | simp, lo.trans (hb30.mono (show N ≤ N + 1 + 1 by omega))⟩
    · have p1 : ¬ (k : Int) < 32 := by omega
      by_cases c2 : k < 48
      · have q2 : (k : Int) < 48 := by omega
        obtain ⟨m, hm⟩ : ∃ m, m = k - 32 := ⟨_, rfl⟩
        have m16 : m < 16 := by omega
        have em : (k : Int) = (m : Int) + 32 := by omega
        have Em := hid em
        clear hm em hk c0 c1 c2
        go_upto_region 9 with fail
        rw [Em.out]
        clear Em k0 k6 q2 p0 p1
        have mi0 : (0 : Int) ≤ (m : Int) := by omega
        have mi16 : (m : Int) < 16 := by omega
        refine wp_region_quiet_tail 7 (by kernel_rfl) (by kernel_rfl) ?_
        simp only [List.take_succ_cons, List.take_zero, List.drop_succ_cons, List.drop_zero]
        iterate 7 go_big_quiet_step (fail)
        refine wpQuiet_nil ?_
        rintro w4 ⟨q, e4⟩
        have kb0 : Has w4 (N + 1) 24 6 (rgC a) := by rw [e4]; exact hh3
        have ha : Has w4 N 24 6 (rgC a) := by rw [e4]; exact ha
        have lo : Below N w w4 := by rw [e4]; exact below_drewN lo q
        have T3 : Rt w4 := by rw [e4]; exact ⟨T3.h, T3.d⟩
        have hM : Sz w4 (N + 1 + 1) := by rw [e4]; exact hM
        clear e4 hh3 f0 f1 f2 f3 f4 f5
        rw [wrap_oneB m m16, andNot_u6]
        refine wpl_set rfl 22 (.tmp 41) (.tmp 40) rfl (N + 1) 2 rfl (Wd (a.m &&& ~~~oneB m)) rfl (by kernel_rfl) rfl rfl 24 6 _ kb0 (by omega) ?_
        intro w5 t5 k5
        have kb := k5.congr (fun i hi => less_cells a 2 (by omega) (oneB m) i hi)
        have ha := ha.touch t5 (by omega)
        have lo := t5.below lo (by omega)
        have T3 : Rt w5 := T3.touch t5 (by have := hT.h.ltN hN; omega) (by have := hT.d.ltN hN; omega)
        have hM := t5.sz hM
        clear kb0 k5
        have wi := less_within a 2 (oneB m)
        obtain ⟨b, hb⟩ : ∃ b, b = lessAt a 2 (oneB m) := ⟨_, rfl⟩
        rw [← hb] at kb wi
        clear hb
        have e1 : rWithin a b = a.beq b := by
          rw [Bool.eq_iff_iff, Rg.beq_iff]
          exact ⟨fun h => within_antisymm h wi, fun h => by rw [← h]; exact within_self a⟩
        have e2 : (rCommon a b).beq b = true := (Rg.beq_iff _ _).2 (by rw [common_comm]; exact (within_iff' b a).1 wi)
        have e3 : b.beq a = a.beq b := by rw [Bool.eq_iff_iff, Rg.beq_iff, Rg.beq_iff]; exact eq_comm
        have CA := fun w M hM => Within_any a b w M hM
        have CB := fun w M hM => Within_any b a w M hM
        rw [e1] at CA
        rw [wi] at CB
        have HE1 := fun w' => run_eq_rf a b w'
        have HE2 := fun w' => run_eq_rr (rCommon a b) b w'
        rw [e2] at HE2
        generalize a.beq b = eq at *
        clear e1 e2 e3 wi
        go_upto_region 14 with fail
        refine wp_region_later (N + 1 + 1) (by kernel_rfl) (by kernel_rfl) ?_
        try simp only [Act.put, List.setIfInBounds_toArray, List.set_cons_succ, List.set_cons_zero]
        go_big_quiet_step ((go_at_call 16; exact later_of hM _ (fun K hK hKN => whole_any _ K hK (T3.below hM (Later.b _)))))
        go_big_quiet_step (fail)
        refine later_val (fun q => run_ld 24 (.tmp 5) rfl (N + 1) rfl 24 6 _ (Later.has hM kb q) _ v1 v2 szRF) (by rfl) ?_; simp only [Act.put, List.setIfInBounds_toArray, List.set_cons_succ, List.set_cons_zero]
        go_big_quiet_step ((go_at_call 14; exact later_of hM _ (fun K hK hKN => To_any b _ K hK)))
        refine later_val (fun q => run_ld 24 (.tmp 2) rfl N rfl 24 6 _ (Later.has hM ha q) _ v1 v2 szRF) (by rfl) ?_; simp only [Act.put, List.setIfInBounds_toArray, List.set_cons_succ, List.set_cons_zero]
        go_big_quiet_step ((go_at_call 14; exact later_of hM _ (fun K hK hKN => To_any a _ K hK)))
        go_big_quiet_step ((go_at_call 17; exact later_of hM _ (fun K hK hKN => CB _ K hK)))
        go_big_quiet_step (fail)
        go_big_quiet_step (fail)
        refine later_val (fun q => run_ld 24 (.tmp 2) rfl N rfl 24 6 _ (Later.has hM ha q) _ v1 v2 szRF) (by rfl) ?_; simp only [Act.put, List.setIfInBounds_toArray, List.set_cons_succ, List.set_cons_zero]
        go_big_quiet_step ((go_at_call 14; exact later_of hM _ (fun K hK hKN => To_any a _ K hK)))
        refine later_val (fun q => run_ld 24 (.tmp 5) rfl (N + 1) rfl 24 6 _ (Later.has hM kb q) _ v1 v2 szRF) (by rfl) ?_; simp only [Act.put, List.setIfInBounds_toArray, List.set_cons_succ, List.set_cons_zero]
        go_big_quiet_step ((go_at_call 14; exact later_of hM _ (fun K hK hKN => To_any b _ K hK)))
        go_big_quiet_step ((go_at_call 17; exact later_of hM _ (fun K hK hKN => CA _ K hK)))
        refine later_val (fun q => run_ld 24 (.tmp 2) rfl N rfl 24 6 _ (Later.has hM ha q) _ v1 v2 szRF) (by rfl) ?_; simp only [Act.put, List.setIfInBounds_toArray, List.set_cons_succ, List.set_cons_zero]
        refine later_val (fun q => run_ld 24 (.tmp 5) rfl (N + 1) rfl 24 6 _ (Later.has hM kb q) _ v1 v2 szRF) (by rfl) ?_; simp only [Act.put, List.setIfInBounds_toArray, List.set_cons_succ, List.set_cons_zero]
        refine later_val (fun q => run_eql_op 24 24 (.tmp 70) (.tmp 71) rfl _ _ rfl rfl eq (by kernel_rfl) (HE1 q.w')) (by rfl) ?_; simp only [Act.put, List.setIfInBounds_toArray, List.set_cons_succ, List.set_cons_zero, Bool.not_true, Bool.not_false]
        go_big_quiet_step (fail)
        go_big_quiet_step (fail)
        go_big_quiet_step (fail)
        refine later_val (fun q => run_ld 24 (.tmp 2) rfl N rfl 24 6 _ (Later.has hM ha q) _ v1 v2 szRF) (by rfl) ?_; simp only [Act.put, List.setIfInBounds_toArray, List.set_cons_succ, List.set_cons_zero]
        go_big_quiet_step ((go_at_call 14; exact later_of hM _ (fun K hK hKN => To_any a _ K hK)))
        refine later_val (fun q => run_ld 24 (.tmp 5) rfl (N + 1) rfl 24 6 _ (Later.has hM kb q) _ v1 v2 szRF) (by rfl) ?_; simp only [Act.put, List.setIfInBounds_toArray, List.set_cons_succ, List.set_cons_zero]
        go_big_quiet_step ((go_at_call 14; exact later_of hM _ (fun K hK hKN => To_any b _ K hK)))
        go_big_quiet_step ((go_at_call 15; exact later_of hM _ (fun K hK hKN => Common_any a b _ K hK)))
        refine later_val (fun q => run_ld 24 (.tmp 5) rfl (N + 1) rfl 24 6 _ (Later.has hM kb q) _ v1 v2 szRF) (by rfl) ?_; simp only [Act.put, List.setIfInBounds_toArray, List.set_cons_succ, List.set_cons_zero]
        go_big_quiet_step ((go_at_call 14; exact later_of hM _ (fun K hK hKN => To_any b _ K hK)))
        refine later_val (fun q => run_eql_op 26 26 (.tmp 80) (.tmp 82) rfl _ _ rfl rfl true (by kernel_rfl) (HE2 q.w')) (by rfl) ?_; simp only [Act.put, List.setIfInBounds_toArray, List.set_cons_succ, List.set_cons_zero, Bool.not_true, Bool.not_false]
        go_big_quiet_step (fail)
        go_big_quiet_step (fail)
        refine wpQuiet_nil ?_
        rintro w30 ⟨q30, e30⟩
        have hb30 := q30.b
        rw [← e30] at hb30
        clear e30 q30
        go_wp2_with fail
        go_ret
        exact ⟨by first | rfl | simp, lo.trans (hb30.mono (show N ≤ N + 1 + 1 by omega))⟩
      · have p2 : ¬ (k : Int) < 48 := by omega
        by_cases c3 : k < 64
        · have q3 : (k : Int) < 64 := by omega
          obtain ⟨m, hm⟩ : ∃ m, m = k - 48 := ⟨_, rfl⟩
          have m16 : m < 16 := by omega
          have em : (k : Int) = (m : Int) + 48 := by omega
          have Em := hid em
          clear hm em hk c0 c1 c2 c3
          go_upto_region 11 with fail
          rw [Em.out]
          clear Em k0 k6 q3 p0 p1 p2
          have mi0 : (0 : Int) ≤ (m : Int) := by omega
          have mi16 : (m : Int) < 16 := by omega
          refine wp_region_quiet_tail 7 (by kernel_rfl) (by kernel_rfl) ?_
          simp only [List.take_succ_cons, List.take_zero, List.drop_succ_cons, List.drop_zero]
          iterate 7 go_big_quiet_step (fail)
          refine wpQuiet_nil ?_
          rintro w4 ⟨q, e4⟩
          have kb0 : Has w4 (N + 1) 24 6 (rgC a) := by rw [e4]; exact hh3
          have ha : Has w4 N 24 6 (rgC a) := by rw [e4]; exact ha
          have lo : Below N w w4 := by rw [e4]; exact below_drewN lo q
          have T3 : Rt w4 := by rw [e4]; exact ⟨T3.h, T3.d⟩
          have hM : Sz w4 (N + 1 + 1) := by rw [e4]; exact hM
          clear e4 hh3 f0 f1 f2 f3 f4 f5
          rw [wrap_oneB m m16, andNot_u6]
          refine wpl_set rfl 22 (.tmp 51) (.tmp 50) rfl (N + 1) 3 rfl (Wd (a.h &&& ~~~oneB m)) rfl (by kernel_rfl) rfl rfl 24 6 _ kb0 (by omega) ?_
          intro w5 t5 k5
          have kb := k5.congr (fun i hi => less_cells a 3 (by omega) (oneB m) i hi)
          have ha := ha.touch t5 (by omega)
          have lo := t5.below lo (by omega)
          have T3 : Rt w5 := T3.touch t5 (by have := hT.h.ltN hN; omega) (by have := hT.d.ltN hN; omega)
          have hM := t5.sz hM
          clear kb0 k5
          have wi := less_within a 3 (oneB m)
          obtain ⟨b, hb⟩ : ∃ b, b = lessAt a 3 (oneB m) := ⟨_, rfl⟩
          rw [← hb] at kb wi
          clear hb
          have e1 : rWithin a b = a.beq b := by
            rw [Bool.eq_iff_iff, Rg.beq_iff]
            exact ⟨fun h => within_antisymm h wi, fun h => by rw [← h]; exact within_self a⟩
          have e2 : (rCommon a b).beq b = true := (Rg.beq_iff _ _).2 (by rw [common_comm]; exact (within_iff' b a).1 wi)
          have e3 : b.beq a = a.beq b := by rw [Bool.eq_iff_iff, Rg.beq_iff, Rg.beq_iff]; exact eq_comm
          have CA := fun w M hM => Within_any a b w M hM
          have CB := fun w M hM => Within_any b a w M hM
          rw [e1] at CA
          rw [wi] at CB
          have HE1 := fun w' => run_eq_rf a b w'
          have HE2 := fun w' => run_eq_rr (rCommon a b) b w'
          rw [e2] at HE2
          generalize a.beq b = eq at *
          clear e1 e2 e3 wi
          go_upto_region 14 with fail
          refine wp_region_later (N + 1 + 1) (by kernel_rfl) (by kernel_rfl) ?_
          try simp only [Act.put, List.setIfInBounds_toArray, List.set_cons_succ, List.set_cons_zero]
          go_big_quiet_step ((go_at_call 16; exact later_of hM _ (fun K hK hKN => whole_any _ K hK (T3.below hM (Later.b _)))))
          go_big_quiet_step (fail)
          refine later_val (fun q => run_ld 24 (.tmp 5) rfl (N + 1) rfl 24 6 _ (Later.has hM kb q) _ v1 v2 szRF) (by rfl) ?_; simp only [Act.put, List.setIfInBounds_toArray, List.set_cons_succ, List.set_cons_zero]
          go_big_quiet_step ((go_at_call 14; exact later_of hM _ (fun K hK hKN => To_any b _ K hK)))
          refine later_val (fun q => run_ld 24 (.tmp 2) rfl N rfl 24 6 _ (Later.has hM ha q) _ v1 v2 szRF) (by rfl) ?_; simp only [Act.put, List.setIfInBounds_toArray, List.set_cons_succ, List.set_cons_zero]
          go_big_quiet_step ((go_at_call 14; exact later_of hM _ (fun K hK hKN => To_any a _ K hK)))
          go_big_quiet_step ((go_at_call 17; exact later_of hM _ (fun K hK hKN => CB _ K hK)))
          go_big_quiet_step (fail)
          go_big_quiet_step (fail)
          refine later_val (fun q => run_ld 24 (.tmp 2) rfl N rfl 24 6 _ (Later.has hM ha q) _ v1 v2 szRF) (by rfl) ?_; simp only [Act.put, List.setIfInBounds_toArray, List.set_cons_succ, List.set_cons_zero]
          go_big_quiet_step ((go_at_call 14; exact later_of hM _ (fun K hK hKN => To_any a _ K hK)))
          refine later_val (fun q => run_ld 24 (.tmp 5) rfl (N + 1) rfl 24 6 _ (Later.has hM kb q) _ v1 v2 szRF) (by rfl) ?_; simp only [Act.put, List.setIfInBounds_toArray, List.set_cons_succ, List.set_cons_zero]
          go_big_quiet_step ((go_at_call 14; exact later_of hM _ (fun K hK hKN => To_any b _ K hK)))
          go_big_quiet_step ((go_at_call 17; exact later_of hM _ (fun K hK hKN => CA _ K hK)))
          refine later_val (fun q => run_ld 24 (.tmp 2) rfl N rfl 24 6 _ (Later.has hM ha q) _ v1 v2 szRF) (by rfl) ?_; simp only [Act.put, List.setIfInBounds_toArray, List.set_cons_succ, List.set_cons_zero]
          refine later_val (fun q => run_ld 24 (.tmp 5) rfl (N + 1) rfl 24 6 _ (Later.has hM kb q) _ v1 v2 szRF) (by rfl) ?_; simp only [Act.put, List.setIfInBounds_toArray, List.set_cons_succ, List.set_cons_zero]
          refine later_val (fun q => run_eql_op 24 24 (.tmp 70) (.tmp 71) rfl _ _ rfl rfl eq (by kernel_rfl) (HE1 q.w')) (by rfl) ?_; simp only [Act.put, List.setIfInBounds_toArray, List.set_cons_succ, List.set_cons_zero, Bool.not_true, Bool.not_false]
          go_big_quiet_step (fail)
          go_big_quiet_step (fail)
          go_big_quiet_step (fail)
          refine later_val (fun q => run_ld 24 (.tmp 2) rfl N rfl 24 6 _ (Later.has hM ha q) _ v1 v2 szRF) (by rfl) ?_; simp only [Act.put, List.setIfInBounds_toArray, List.set_cons_succ, List.set_cons_zero]
          go_big_quiet_step ((go_at_call 14; exact later_of hM _ (fun K hK hKN => To_any a _ K hK)))
          refine later_val (fun q => run_ld 24 (.tmp 5) rfl (N + 1) rfl 24 6 _ (Later.has hM kb q) _ v1 v2 szRF) (by rfl) ?_; simp only [Act.put, List.setIfInBounds_toArray, List.set_cons_succ, List.set_cons_zero]
          go_big_quiet_step ((go_at_call 14; exact later_of hM _ (fun K hK hKN => To_any b _ K hK)))
          go_big_quiet_step ((go_at_call 15; exact later_of hM _ (fun K hK hKN => Common_any a b _ K hK)))
          refine later_val (fun q => run_ld 24 (.tmp 5) rfl (N + 1) rfl 24 6 _ (Later.has hM kb q) _ v1 v2 szRF) (by rfl) ?_; simp only [Act.put, List.setIfInBounds_toArray, List.set_cons_succ, List.set_cons_zero]
          go_big_quiet_step ((go_at_call 14; exact later_of hM _ (fun K hK hKN => To_any b _ K hK)))
          refine later_val (fun q => run_eql_op 26 26 (.tmp 80) (.tmp 82) rfl _ _ rfl rfl true (by kernel_rfl) (HE2 q.w')) (by rfl) ?_; simp only [Act.put, List.setIfInBounds_toArray, List.set_cons_succ, List.set_cons_zero, Bool.not_true, Bool.not_false]
          go_big_quiet_step (fail)
          go_big_quiet_step (fail)
          refine wpQuiet_nil ?_
          rintro w30 ⟨q30, e30⟩
          have hb30 := q30.b
          rw [← e30] at hb30
          clear e30 q30
          go_wp2_with fail
          go_ret
          exact ⟨by first | rfl | simp, lo.trans (hb30.mono (show N ≤ N + 1 + 1 by omega))⟩
        · have p3 : ¬ (k : Int) < 64 := by omega
          by_cases c4 : k = 64
          · have q4 : ((k : Int) == 64) = true := by rw [beq_iff_eq]; omega
            go_upto_region 14 with (first
              | (refine wpl_set rfl 4 (.tmp 55) (.const (.bool false)) rfl (N + 1) 4 rfl (.bool false) rfl (by kernel_rfl) rfl rfl 24 6 _ hh3 (by omega) ?_; intro w5 t5 k5)
              | fail)
            have kb := k5.congr (fun i hi => less_cells a 4 (by omega) 0#16 i hi)
            have ha := ha.touch t5 (by omega)
            have lo := t5.below lo (by omega)
            have T3 : Rt w5 := T3.touch t5 (by have := hT.h.ltN hN; omega) (by have := hT.d.ltN hN; omega)
            have hM := t5.sz hM
            clear k5 hh3 f0 f1 f2 f3 f4 f5
            have wi := less_within a 4 0#16
            obtain ⟨b, hb⟩ : ∃ b, b = lessAt a 4 0#16 := ⟨_, rfl⟩
            rw [← hb] at kb wi
            clear hb
            have e1 : rWithin a b = a.beq b := by
              rw [Bool.eq_iff_iff, Rg.beq_iff]
              exact ⟨fun h => within_antisymm h wi, fun h => by rw [← h]; exact within_self a⟩
            have e2 : (rCommon a b).beq b = true := (Rg.beq_iff _ _).2 (by rw [common_comm]; exact (within_iff' b a).1 wi)
            have e3 : b.beq a = a.beq b := by rw [Bool.eq_iff_iff, Rg.beq_iff, Rg.beq_iff]; exact eq_comm
            have CA := fun w M hM => Within_any a b w M hM
            have CB := fun w M hM => Within_any b a w M hM
            rw [e1] at CA
            rw [wi] at CB
            have HE1 := fun w' => run_eq_rf a b w'
            have HE2 := fun w' => run_eq_rr (rCommon a b) b w'
            rw [e2] at HE2
            generalize a.beq b = eq at *
            clear e1 e2 e3 wi
            refine wp_region_later (N + 1 + 1) (by kernel_rfl) (by kernel_rfl) ?_
            try simp only [Act.put, List.setIfInBounds_toArray, List.set_cons_succ, List.set_cons_zero]
            go_big_quiet_step ((go_at_call 16; exact later_of hM _ (fun K hK hKN => whole_any _ K hK (T3.below hM (Later.b _)))))
            go_big_quiet_step (fail)
            refine later_val (fun q => run_ld 24 (.tmp 5) rfl (N + 1) rfl 24 6 _ (Later.has hM kb q) _ v1 v2 szRF) (by rfl) ?_; simp only [Act.put, List.setIfInBounds_toArray, List.set_cons_succ, List.set_cons_zero]
            go_big_quiet_step ((go_at_call 14; exact later_of hM _ (fun K hK hKN => To_any b _ K hK)))
            refine later_val (fun q => run_ld 24 (.tmp 2) rfl N rfl 24 6 _ (Later.has hM ha q) _ v1 v2 szRF) (by rfl) ?_; simp only [Act.put, List.setIfInBounds_toArray, List.set_cons_succ, List.set_cons_zero]
            go_big_quiet_step ((go_at_call 14; exact later_of hM _ (fun K hK hKN => To_any a _ K hK)))
            go_big_quiet_step ((go_at_call 17; exact later_of hM _ (fun K hK hKN => CB _ K hK)))
            go_big_quiet_step (fail)
            go_big_quiet_step (fail)
            refine later_val (fun q => run_ld 24 (.tmp 2) rfl N rfl 24 6 _ (Later.has hM ha q) _ v1 v2 szRF) (by rfl) ?_; simp only [Act.put, List.setIfInBounds_toArray, List.set_cons_succ, List.set_cons_zero]
            go_big_quiet_step ((go_at_call 14; exact later_of hM _ (fun K hK hKN => To_any a _ K hK)))
            refine later_val (fun q => run_ld 24 (.tmp 5) rfl (N + 1) rfl 24 6 _ (Later.has hM kb q) _ v1 v2 szRF) (by rfl) ?_; simp only [Act.put, List.setIfInBounds_toArray, List.set_cons_succ, List.set_cons_zero]
            go_big_quiet_step ((go_at_call 14; exact later_of hM _ (fun K hK hKN => To_any b _ K hK)))
            go_big_quiet_step ((go_at_call 17; exact later_of hM _ (fun K hK hKN => CA _ K hK)))
            refine later_val (fun q => run_ld 24 (.tmp 2) rfl N rfl 24 6 _ (Later.has hM ha q) _ v1 v2 szRF) (by rfl) ?_; simp only [Act.put, List.setIfInBounds_toArray, List.set_cons_succ, List.set_cons_zero]
            refine later_val (fun q => run_ld 24 (.tmp 5) rfl (N + 1) rfl 24 6 _ (Later.has hM kb q) _ v1 v2 szRF) (by rfl) ?_; simp only [Act.put, List.setIfInBounds_toArray, List.set_cons_succ, List.set_cons_zero]
            refine later_val (fun q => run_eql_op 24 24 (.tmp 70) (.tmp 71) rfl _ _ rfl rfl eq (by kernel_rfl) (HE1 q.w')) (by rfl) ?_; simp only [Act.put, List.setIfInBounds_toArray, List.set_cons_succ, List.set_cons_zero, Bool.not_true, Bool.not_false]
            go_big_quiet_step (fail)
            go_big_quiet_step (fail)
            go_big_quiet_step (fail)
            refine later_val (fun q => run_ld 24 (.tmp 2) rfl N rfl 24 6 _ (Later.has hM ha q) _ v1 v2 szRF) (by rfl) ?_; simp only [Act.put, List.setIfInBounds_toArray, List.set_cons_succ, List.set_cons_zero]
            go_big_quiet_step ((go_at_call 14; exact later_of hM _ (fun K hK hKN => To_any a _ K hK)))
            refine later_val (fun q => run_ld 24 (.tmp 5) rfl (N + 1) rfl 24 6 _ (Later.has hM kb q) _ v1 v2 szRF) (by rfl) ?_; simp only [Act.put, List.setIfInBounds_toArray, List.set_cons_succ, List.set_cons_zero]
            go_big_quiet_step ((go_at_call 14; exact later_of hM _ (fun K hK hKN => To_any b _ K hK)))
            go_big_quiet_step ((go_at_call 15; exact later_of hM _ (fun K hK hKN => Common_any a b _ K hK)))
            refine later_val (fun q => run_ld 24 (.tmp 5) rfl (N + 1) rfl 24 6 _ (Later.has hM kb q) _ v1 v2 szRF) (by rfl) ?_; simp only [Act.put, List.setIfInBounds_toArray, List.set_cons_succ, List.set_cons_zero]
            go_big_quiet_step ((go_at_call 14; exact later_of hM _ (fun K hK hKN => To_any b _ K hK)))
            refine later_val (fun q => run_eql_op 26 26 (.tmp 80) (.tmp 82) rfl _ _ rfl rfl true (by kernel_rfl) (HE2 q.w')) (by rfl) ?_; simp only [Act.put, List.setIfInBounds_toArray, List.set_cons_succ, List.set_cons_zero, Bool.not_true, Bool.not_false]
            go_big_quiet_step (fail)
            go_big_quiet_step (fail)
            refine wpQuiet_nil ?_
            rintro w30 ⟨q30, e30⟩
            have hb30 := q30.b
            rw [← e30] at hb30
            clear e30 q30
            go_wp2_with fail
            go_ret
            exact ⟨by first | rfl | simp, lo.trans (hb30.mono (show N ≤ N + 1 + 1 by omega))⟩
          · have q4 : ((k : Int) == 64) = false := by rw [beq_eq_false_iff_ne]; omega
            go_upto_region 14 with (first
              | (refine wpl_set rfl 4 (.tmp 12) (.const (.bool true)) rfl (N + 1) 5 rfl (.bool true) rfl (by kernel_rfl) rfl rfl 24 6 _ hh3 (by omega) ?_; intro w5 t5 k5)
              | fail)
            have kb := k5.congr (fun i hi => less_cells a 5 (by omega) 0#16 i hi)
            have ha := ha.touch t5 (by omega)
            have lo := t5.below lo (by omega)
            have T3 : Rt w5 := T3.touch t5 (by have := hT.h.ltN hN; omega) (by have := hT.d.ltN hN; omega)
            have hM := t5.sz hM
            clear k5 hh3 f0 f1 f2 f3 f4 f5
            have wi := less_within a 5 0#16
            obtain ⟨b, hb⟩ : ∃ b, b = lessAt a 5 0#16 := ⟨_, rfl⟩
            rw [← hb] at kb wi
            clear hb
            have e1 : rWithin a b = a.beq b := by
              rw [Bool.eq_iff_iff, Rg.beq_iff]
              exact ⟨fun h => within_antisymm h wi, fun h => by rw [← h]; exact within_self a⟩
            have e2 : (rCommon a b).beq b = true := (Rg.beq_iff _ _).2 (by rw [common_comm]; exact (within_iff' b a).1 wi)
            have e3 : b.beq a = a.beq b := by rw [Bool.eq_iff_iff, Rg.beq_iff, Rg.beq_iff]; exact eq_comm
            have CA := fun w M hM => Within_any a b w M hM
            have CB := fun w M hM => Within_any b a w M hM
            rw [e1] at CA
            rw [wi] at CB
            have HE1 := fun w' => run_eq_rf a b w'
            have HE2 := fun w' => run_eq_rr (rCommon a b) b w'
            rw [e2] at HE2
            generalize a.beq b = eq at *
            clear e1 e2 e3 wi
            refine wp_region_later (N + 1 + 1) (by kernel_rfl) (by kernel_rfl) ?_
            try simp only [Act.put, List.setIfInBounds_toArray, List.set_cons_succ, List.set_cons_zero]
            go_big_quiet_step ((go_at_call 16; exact later_of hM _ (fun K hK hKN => whole_any _ K hK (T3.below hM (Later.b _)))))
            go_big_quiet_step (fail)
            refine later_val (fun q => run_ld 24 (.tmp 5) rfl (N + 1) rfl 24 6 _ (Later.has hM kb q) _ v1 v2 szRF) (by rfl) ?_; simp only [Act.put, List.setIfInBounds_toArray, List.set_cons_succ, List.set_cons_zero]
            go_big_quiet_step ((go_at_call 14; exact later_of hM _ (fun K hK hKN => To_any b _ K hK)))
            refine later_val (fun q => run_ld 24 (.tmp 2) rfl N rfl 24 6 _ (Later.has hM ha q) _ v1 v2 szRF) (by rfl) ?_; simp only [Act.put, List.setIfInBounds_toArray, List.set_cons_succ, List.set_cons_zero]
            go_big_quiet_step ((go_at_call 14; exact later_of hM _ (fun K hK hKN => To_any a _ K hK)))
            go_big_quiet_step ((go_at_call 17; exact later_of hM _ (fun K hK hKN => CB _ K hK)))
            go_big_quiet_step (fail)
            go_big_quiet_step (fail)
            refine later_val (fun q => run_ld 24 (.tmp 2) rfl N rfl 24 6 _ (Later.has hM ha q) _ v1 v2 szRF) (by rfl) ?_; simp only [Act.put, List.setIfInBounds_toArray, List.set_cons_succ, List.set_cons_zero]
            go_big_quiet_step ((go_at_call 14; exact later_of hM _ (fun K hK hKN => To_any a _ K hK)))
            refine later_val (fun q => run_ld 24 (.tmp 5) rfl (N + 1) rfl 24 6 _ (Later.has hM kb q) _ v1 v2 szRF) (by rfl) ?_; simp only [Act.put, List.setIfInBounds_toArray, List.set_cons_succ, List.set_cons_zero]
            go_big_quiet_step ((go_at_call 14; exact later_of hM _ (fun K hK hKN => To_any b _ K hK)))
            go_big_quiet_step ((go_at_call 17; exact later_of hM _ (fun K hK hKN => CA _ K hK)))
            refine later_val (fun q => run_ld 24 (.tmp 2) rfl N rfl 24 6 _ (Later.has hM ha q) _ v1 v2 szRF) (by rfl) ?_; simp only [Act.put, List.setIfInBounds_toArray, List.set_cons_succ, List.set_cons_zero]
            refine later_val (fun q => run_ld 24 (.tmp 5) rfl (N + 1) rfl 24 6 _ (Later.has hM kb q) _ v1 v2 szRF) (by rfl) ?_; simp only [Act.put, List.setIfInBounds_toArray, List.set_cons_succ, List.set_cons_zero]
            refine later_val (fun q => run_eql_op 24 24 (.tmp 70) (.tmp 71) rfl _ _ rfl rfl eq (by kernel_rfl) (HE1 q.w')) (by rfl) ?_; simp only [Act.put, List.setIfInBounds_toArray, List.set_cons_succ, List.set_cons_zero, Bool.not_true, Bool.not_false]
            go_big_quiet_step (fail)
            go_big_quiet_step (fail)
            go_big_quiet_step (fail)
            refine later_val (fun q => run_ld 24 (.tmp 2) rfl N rfl 24 6 _ (Later.has hM ha q) _ v1 v2 szRF) (by rfl) ?_; simp only [Act.put, List.setIfInBounds_toArray, List.set_cons_succ, List.set_cons_zero]
            go_big_quiet_step ((go_at_call 14; exact later_of hM _ (fun K hK hKN => To_any a _ K hK)))
            refine later_val (fun q => run_ld 24 (.tmp 5) rfl (N + 1) rfl 24 6 _ (Later.has hM kb q) _ v1 v2 szRF) (by rfl) ?_; simp only [Act.put, List.setIfInBounds_toArray, List.set_cons_succ, List.set_cons_zero]
            go_big_quiet_step ((go_at_call 14; exact later_of hM _ (fun K hK hKN => To_any b _ K hK)))
            go_big_quiet_step ((go_at_call 15; exact later_of hM _ (fun K hK hKN => Common_any a b _ K hK)))
            refine later_val (fun q => run_ld 24 (.tmp 5) rfl (N + 1) rfl 24 6 _ (Later.has hM kb q) _ v1 v2 szRF) (by rfl) ?_; simp only [Act.put, List.setIfInBounds_toArray, List.set_cons_succ, List.set_cons_zero]
            go_big_quiet_step ((go_at_call 14; exact later_of hM _ (fun K hK hKN => To_any b _ K hK)))
            refine later_val (fun q => run_eql_op 26 26 (.tmp 80) (.tmp 82) rfl _ _ rfl rfl true (by kernel_rfl) (HE2 q.w')) (by rfl) ?_; simp only [Act.put, List.setIfInBounds_toArray, List.set_cons_succ, List.set_cons_zero, Bool.not_true, Bool.not_false]
            go_big_quiet_step (fail)
            go_big_quiet_step (fail)
            refine wpQuiet_nil ?_
            rintro w30 ⟨q30, e30⟩
            have hb30 := q30.b
            rw [← e30] at hb30
            clear e30 q30
            go_wp2_with fail
            go_ret
            exact ⟨by first | rfl | simp, lo.trans (hb30.mono (show N ≤ N + 1 + 1 by omega))⟩
end Go.Proofs.YtcbcnhkalchpbaaDoor
