/- States: Save refused; Save, whole. -/
import Derived.Test.YtaeggclcjpcnoaaAb7
import Derived.Test.YtaeggclcjpcnoaaAb9
namespace Go.Proofs.Ytaeggclcjpcnoaa
open Go Go.RowKit
set_option maxRecDepth 100000 in
set_option maxHeartbeats 4000000 in
theorem Save_size (s : St) (r : Ar) (at_ n : Int) (hsz : sizeF n = false) (w : World) (N : Nat) (hN : Sz w N) :
    Calls Try.prog 45 #[stV s, .int .i64 at_, .int .i64 n, arV r] w fun e w' => e = .returned (.tuple #[stV s, .bool false]) ∧ Below N w w' := by
  unfold stV arV
  go_enter Try.func45, Try.ntmps45
  go_upto_region 2 with (first
    | (refine wpl_box rfl 76 (.tmp 0) rfl 273 _ rfl N hN ?_; intro w1 hN1 hb1 h1)
    | (refine wpl_box rfl 71 (.tmp 3) rfl 11 _ rfl (N + 1) hN1 ?_; intro w2 hN2 hb2 h2; replace h1 := h1.below hb2 (by omega); replace hb2 := hb1.trans (hb2.mono (by omega)); clear hb1 hN1)
    | (refine wpl_alloc rfl 76 rfl 273 (stC zeroS) zeSt (N + 2) hN2 ?_; intro w3 hN3 hb3 h3; replace h1 := h1.below hb3 (by omega); replace h2 := h2.below hb3 (by omega); replace hb3 := hb2.trans (hb3.mono (by omega)); clear hb2 hN2)
    | (go_at_call 75; refine (IsSize_any n _ (N + 3) hN3).mono ?_; rintro e w4 ⟨rfl, hb4⟩; rw [hsz]; obtain ⟨M4, hM4⟩ := sz_some w4; have l4 := below_sz hb4 hN3 hM4; replace h1 := h1.below hb4 (by omega); replace h2 := h2.below hb4 (by omega); replace h3 := h3.below hb4 (by omega); replace hb4 := hb3.trans (hb4.mono (by omega)); clear hb3 hN3)
    | fail)
  go_wp2_with (first
    | (refine wpl_load rfl 76 (.tmp 4) rfl N rfl 76 273 _ h1 _ undSt.choose_spec.1 undSt.choose_spec.2 szSt ?_)
    | (refine wpl_store rfl 76 (.tmp 8) (.tmp 21) rfl (N + 2) 273 (stC s) rfl rfl 76 _ h3 szSt (fun j _ => stC_one _ j) ?_; intro w9 t9 h9; replace hb4 := t9.below hb4 (by omega))
    | fail)
  exact post_cb rfl (N + 2) rfl h9 undSt szSt (x := .bool false) rfl rfl ⟨rfl, hb4⟩
set_option maxRecDepth 100000 in
set_option maxHeartbeats 4000000 in
theorem Save_out (s : St) (r : Ar) (at_ n : Int) (hsz : sizeF n = true) (hin : insideF at_ n = false) (w : World) (N : Nat) (hN : Sz w N) :
    Calls Try.prog 45 #[stV s, .int .i64 at_, .int .i64 n, arV r] w fun e w' => e = .returned (.tuple #[stV s, .bool false]) ∧ Below N w w' := by
  unfold stV arV
  go_enter Try.func45, Try.ntmps45
  go_upto_region 2 with (first
    | (refine wpl_box rfl 76 (.tmp 0) rfl 273 _ rfl N hN ?_; intro w1 hN1 hb1 h1)
    | (refine wpl_box rfl 71 (.tmp 3) rfl 11 _ rfl (N + 1) hN1 ?_; intro w2 hN2 hb2 h2; replace h1 := h1.below hb2 (by omega); replace hb2 := hb1.trans (hb2.mono (by omega)); clear hb1 hN1)
    | (refine wpl_alloc rfl 76 rfl 273 (stC zeroS) zeSt (N + 2) hN2 ?_; intro w3 hN3 hb3 h3; replace h1 := h1.below hb3 (by omega); replace h2 := h2.below hb3 (by omega); replace hb3 := hb2.trans (hb3.mono (by omega)); clear hb2 hN2)
    | (go_at_call 75; refine (IsSize_any n _ (N + 3) hN3).mono ?_; rintro e w4 ⟨rfl, hb4⟩; rw [hsz]; obtain ⟨M4, hM4⟩ := sz_some w4; have l4 := below_sz hb4 hN3 hM4; replace h1 := h1.below hb4 (by omega); replace h2 := h2.below hb4 (by omega); replace h3 := h3.below hb4 (by omega); replace hb4 := hb3.trans (hb4.mono (by omega)); clear hb3 hN3)
    | (go_at_call 76; refine (Inside_any at_ n _ M4 hM4).mono ?_; rintro e w5 ⟨rfl, hb5⟩; rw [hin]; obtain ⟨M5, hM5⟩ := sz_some w5; have l5 := below_sz hb5 hM4 hM5; replace h1 := h1.below hb5 (by omega); replace h2 := h2.below hb5 (by omega); replace h3 := h3.below hb5 (by omega); replace hb5 := hb4.trans (hb5.mono (by omega)); clear hb4 hM4)
    | fail)
  go_wp2_with (first
    | (refine wpl_load rfl 76 (.tmp 4) rfl N rfl 76 273 _ h1 _ undSt.choose_spec.1 undSt.choose_spec.2 szSt ?_)
    | (refine wpl_store rfl 76 (.tmp 8) (.tmp 21) rfl (N + 2) 273 (stC s) rfl rfl 76 _ h3 szSt (fun j _ => stC_one _ j) ?_; intro w9 t9 h9; replace hb5 := t9.below hb5 (by omega))
    | fail)
  exact post_cb rfl (N + 2) rfl h9 undSt szSt (x := .bool false) rfl rfl ⟨rfl, hb5⟩
set_option maxRecDepth 100000 in
set_option maxHeartbeats 4000000 in
theorem Save_none (s : St) (r : Ar) (at_ n : Int) (hr : (r.k == 0) = true) (hsz : sizeF n = true) (hin : insideF at_ n = true) (w : World) (N : Nat) (hN : Sz w N) :
    Calls Try.prog 45 #[stV s, .int .i64 at_, .int .i64 n, arV r] w fun e w' => e = .returned (.tuple #[stV s, .bool false]) ∧ Below N w w' := by
  unfold stV arV
  obtain ⟨kk, ek⟩ : ∃ kk, kk = r.k := ⟨_, rfl⟩
  rw [← ek] at hr
  have Hr := hid ek.symm
  have K0 := hid hr
  clear ek hr
  go_enter Try.func45, Try.ntmps45
  go_upto_region 3 with (first
    | (refine wpl_box rfl 76 (.tmp 0) rfl 273 _ rfl N hN ?_; intro w1 hN1 hb1 h1)
    | (refine wpl_box rfl 71 (.tmp 3) rfl 11 _ rfl (N + 1) hN1 ?_; intro w2 hN2 hb2 h2; replace h1 := h1.below hb2 (by omega); replace hb2 := hb1.trans (hb2.mono (by omega)); clear hb1 hN1)
    | (refine wpl_alloc rfl 76 rfl 273 (stC zeroS) zeSt (N + 2) hN2 ?_; intro w3 hN3 hb3 h3; replace h1 := h1.below hb3 (by omega); replace h2 := h2.below hb3 (by omega); replace hb3 := hb2.trans (hb3.mono (by omega)); clear hb2 hN2)
    | (go_at_call 75; refine (IsSize_any n _ (N + 3) hN3).mono ?_; rintro e w4 ⟨rfl, hb4⟩; rw [hsz]; obtain ⟨M4, hM4⟩ := sz_some w4; have l4 := below_sz hb4 hN3 hM4; replace h1 := h1.below hb4 (by omega); replace h2 := h2.below hb4 (by omega); replace h3 := h3.below hb4 (by omega); replace hb4 := hb3.trans (hb4.mono (by omega)); clear hb3 hN3)
    | (go_at_call 76; refine (Inside_any at_ n _ M4 hM4).mono ?_; rintro e w5 ⟨rfl, hb5⟩; rw [hin]; obtain ⟨M5, hM5⟩ := sz_some w5; have l5 := below_sz hb5 hM4 hM5; replace h1 := h1.below hb5 (by omega); replace h2 := h2.below hb5 (by omega); replace h3 := h3.below hb5 (by omega); replace hb5 := hb4.trans (hb5.mono (by omega)); clear hb4 hM4; have cr : w5.cell? ⟨N + 1, 0, none⟩ = some (.int .i64 kk) := by (have h := h2.cell (j := 0) (by omega); unfold arC at h; rw [Hr.out] at h; exact h))
    | fail)
  refine wp_region_later1 (M5) ?_
  try simp only [pA]
  go_big_quiet_step (fail)
  refine later_c1 hM5 3 (.tmp 22) rfl rfl undInt rfl cr (by rfl) ?_; simp only [pA]
  refine later_val (fun q => run_eqlI (x := (.tmp 23)) (y := (.const (.int .i64 0))) rfl rfl rfl (p := kk) (q := 0) (r := true) K0.out q.w') (by rfl) ?_; simp only [pA]
  iterate 11 (go_big_quiet_step (fail))
  refine wpQuiet_nil (laterE hM5 ?_)
  intro w6 M6 hb6 hM6 lM6
  replace h1 := h1.below hb6 (by omega)
  replace h2 := h2.below hb6 (by omega)
  replace h3 := h3.below hb6 (by omega)
  replace hb6 := hb5.trans (hb6.mono (by omega))
  clear hb5 hM5 cr
  go_wp2_with (first
    | (refine wpl_load rfl 76 (.tmp 4) rfl N rfl 76 273 _ h1 _ undSt.choose_spec.1 undSt.choose_spec.2 szSt ?_)
    | (refine wpl_store rfl 76 (.tmp 8) (.tmp 36) rfl (N + 2) 273 (stC s) rfl rfl 76 _ h3 szSt (fun j _ => stC_one _ j) ?_; intro w9 t9 h9; replace hb6 := t9.below hb6 (by omega))
    | fail)
  exact post_cb rfl (N + 2) rfl h9 undSt szSt (x := .bool false) rfl rfl ⟨rfl, hb6⟩
set_option maxRecDepth 100000 in
set_option maxHeartbeats 4000000 in
theorem Save_nw (s : St) (r : Ar) (at_ n : Int) (hr : (r.k == 0) = false) (hk1 : (r.k == 1) = false) (hwd : wordF at_ n = false) (hsz : sizeF n = true) (hin : insideF at_ n = true) (w : World) (N : Nat) (hN : Sz w N) :
    Calls Try.prog 45 #[stV s, .int .i64 at_, .int .i64 n, arV r] w fun e w' => e = .returned (.tuple #[stV s, .bool false]) ∧ Below N w w' := by
  unfold stV arV
  obtain ⟨kk, ek⟩ : ∃ kk, kk = r.k := ⟨_, rfl⟩
  rw [← ek] at hr hk1
  have Hr := hid ek.symm
  have K0 := hid hr
  have K2 : Hid ((kk != 1) = true) := hid (by simp only [bne, hk1]; rfl)
  clear ek hr hk1
  go_enter Try.func45, Try.ntmps45
  go_upto_region 4 with (first
    | (refine wpl_box rfl 76 (.tmp 0) rfl 273 _ rfl N hN ?_; intro w1 hN1 hb1 h1)
    | (refine wpl_box rfl 71 (.tmp 3) rfl 11 _ rfl (N + 1) hN1 ?_; intro w2 hN2 hb2 h2; replace h1 := h1.below hb2 (by omega); replace hb2 := hb1.trans (hb2.mono (by omega)); clear hb1 hN1)
    | (refine wpl_alloc rfl 76 rfl 273 (stC zeroS) zeSt (N + 2) hN2 ?_; intro w3 hN3 hb3 h3; replace h1 := h1.below hb3 (by omega); replace h2 := h2.below hb3 (by omega); replace hb3 := hb2.trans (hb3.mono (by omega)); clear hb2 hN2)
    | (go_at_call 75; refine (IsSize_any n _ (N + 3) hN3).mono ?_; rintro e w4 ⟨rfl, hb4⟩; rw [hsz]; obtain ⟨M4, hM4⟩ := sz_some w4; have l4 := below_sz hb4 hN3 hM4; replace h1 := h1.below hb4 (by omega); replace h2 := h2.below hb4 (by omega); replace h3 := h3.below hb4 (by omega); replace hb4 := hb3.trans (hb4.mono (by omega)); clear hb3 hN3)
    | (go_at_call 76; refine (Inside_any at_ n _ M4 hM4).mono ?_; rintro e w5 ⟨rfl, hb5⟩; rw [hin]; obtain ⟨M5, hM5⟩ := sz_some w5; have l5 := below_sz hb5 hM4 hM5; replace h1 := h1.below hb5 (by omega); replace h2 := h2.below hb5 (by omega); replace h3 := h3.below hb5 (by omega); replace hb5 := hb4.trans (hb5.mono (by omega)); clear hb4 hM4; have cr : w5.cell? ⟨N + 1, 0, none⟩ = some (.int .i64 kk) := by (have h := h2.cell (j := 0) (by omega); unfold arC at h; rw [Hr.out] at h; exact h))
    | (refine wpl_run rfl (.bool false) _ (run_eqlI (x := (.tmp 23)) (y := (.const (.int .i64 0))) rfl rfl rfl (p := kk) (q := 0) K0.out _) ?_)
    | (refine wpl_want (by rfl) ?_; refine wpl_run rfl (.bool true) _ (run_neqI (x := (.tmp 27)) (y := (.const (.int .i64 1))) rfl rfl rfl (p := kk) (q := 1) K2.out _) ?_)
    | (go_at_call 77; refine (IsWord_any at_ n _ M5 hM5).mono ?_; rintro e w5b ⟨rfl, hb5b⟩; rw [hwd]; obtain ⟨M5b, hM5b⟩ := sz_some w5b; have l5b := below_sz hb5b hM5 hM5b; replace h1 := h1.below hb5b (by omega); replace h2 := h2.below hb5b (by omega); replace h3 := h3.below hb5b (by omega); replace hb5b := hb5.trans (hb5b.mono (by omega)); clear hb5 hM5 cr)
    | fail)
  go_wp2_with (first
    | (refine wpl_load rfl 76 (.tmp 4) rfl N rfl 76 273 _ h1 _ undSt.choose_spec.1 undSt.choose_spec.2 szSt ?_)
    | (refine wpl_store rfl 76 (.tmp 8) (.tmp 36) rfl (N + 2) 273 (stC s) rfl rfl 76 _ h3 szSt (fun j _ => stC_one _ j) ?_; intro w9 t9 h9; replace hb5b := t9.below hb5b (by omega))
    | fail)
  exact post_cb rfl (N + 2) rfl h9 undSt szSt (x := .bool false) rfl rfl ⟨rfl, hb5b⟩
theorem size_pos {n : Int} (h : sizeF n = true) : 0 < n := by
  unfold sizeF at h
  by_cases h1 : n = 1
  · omega
  by_cases h2 : n = 2
  · omega
  by_cases h4 : n = 4
  · omega
  have e1 : (n == 1) = false := by simpa using h1
  have e2 : (n == 2) = false := by simpa using h2
  have e4 : (n == 4) = false := by simpa using h4
  rw [e1, e2, e4] at h
  have : n = 8 := by simpa using h
  omega
/-- Where bytes are that are there. -/
theorem inside_place {a n : Int} (ha : a < 9223372036854775808) (hn : 0 < n) (h : insideF a n = true) : indexF a = ((indexF a).toNat : Int) ∧ (indexF a).toNat + n.toNat ≤ 64 ∧ n = (n.toNat : Int) ∧ ((indexF a).toNat : Int) = a + 64 := by
  unfold insideF at h
  by_cases h1 : -64 ≤ a
  · rw [show decide (-64 ≤ a) = true from decide_eq_true h1] at h
    have h2 : n ≤ wrap64 (-a) := by simpa using h
    unfold wrap64 at h2
    unfold indexF wrap64
    omega
  · rw [show decide (-64 ≤ a) = false from decide_eq_false h1] at h
    cases h
/-- What Save tells. -/
def saveF (s : St) (a n : Int) (r : Ar) : St × Bool :=
  bif sizeF n && insideF a n then
    bif r.k == 0 then (s, false)
    else bif r.k == 1 then (saveL s (indexF a).toNat true n.toNat, true)
    else bif wordF a n then ((saveL s (indexF a).toNat false n.toNat).setK ((indexF a).toNat / 8) r, true)
    else (s, false)
  else (s, false)
theorem Save_any (s : St) (a n : Int) (r : Ar) (ha : a < 9223372036854775808) (w : World) (N : Nat) (hN : Sz w N) :
    Calls Try.prog 45 #[stV s, .int .i64 a, .int .i64 n, arV r] w fun e w' => e = .returned (.tuple #[stV (saveF s a n r).1, .bool (saveF s a n r).2]) ∧ Below N w w' := by
  cases hs : sizeF n
  · have e : saveF s a n r = (s, false) := by unfold saveF; rw [hs]; rfl
    rw [e]; exact Save_size s r a n hs w N hN
  cases hi : insideF a n
  · have e : saveF s a n r = (s, false) := by unfold saveF; rw [hs, hi]; rfl
    rw [e]; exact Save_out s r a n hs hi w N hN
  obtain ⟨p1, p2, p3, p4⟩ := inside_place ha (size_pos hs) hi
  cases h0 : (r.k == 0)
  · cases h1 : (r.k == 1)
    · cases hw : wordF a n
      · have e : saveF s a n r = (s, false) := by unfold saveF; rw [hs, hi, h0, h1, hw]; rfl
        rw [e]; exact Save_nw s r a n h0 h1 hw hs hi w N hN
      · have e : saveF s a n r = ((saveL s (indexF a).toNat false n.toNat).setK ((indexF a).toNat / 8) r, true) := by unfold saveF; rw [hs, hi, h0, h1, hw]; rfl
        have := size_pos hs
        rw [e]; exact Save_val s r a n _ _ p3 h0 h1 hw hs hi p1 p2 (by omega) w N hN
    · have e : saveF s a n r = (saveL s (indexF a).toNat true n.toNat, true) := by unfold saveF; rw [hs, hi, h0, h1]; rfl
      rw [e]; exact Save_num s r a n _ _ p3 (by simpa using h1) hs hi p1 p2 w N hN
  · have e : saveF s a n r = (s, false) := by unfold saveF; rw [hs, hi, h0]; rfl
    rw [e]; exact Save_none s r a n h0 hs hi w N hN
end Go.Proofs.Ytaeggclcjpcnoaa
