/- region: places in a cell, and in the context: Save. -/
import Derived.Test.YtjcjmlmdcjkceaaRcl0
import Derived.Test.YtjcjmlmdcjkceaaRm5
namespace Go.Proofs.Ytjcjmlmdcjkceaa
open Go Go.RowKit
/-- Bytes, some of which are a number's. -/
def byD (D : Nat → W) (f t : Nat) (x : W) (j : Nat) : W := if f ≤ j ∧ j < f + t then (x >>> (8 * (j - f))) &&& 255#64 else D j
theorem byD_zero (D : Nat → W) (f : Nat) (x : W) (j : Nat) : byD D f 0 x j = D j := by unfold byD; rw [if_neg (by omega)]
theorem byD_step (D : Nat → W) (f t : Nat) (x : W) (j : Nat) : upd (fun j => Yv (byD D f t x j)) (0 + (f + t)) (Yv ((x >>> (8 * t)) &&& 255#64)) j = Yv (byD D f (t + 1) x j) := by
  unfold upd
  by_cases e : j = 0 + (f + t)
  · rw [if_pos e]; unfold byD; rw [if_pos (by omega), show j - f = t by omega]
  · rw [if_neg e]
    show Yv (byD D f t x j) = _
    unfold byD
    by_cases h : f ≤ j ∧ j < f + t
    · rw [if_pos h, if_pos (by omega)]
    · rw [if_neg h, if_neg (by omega)]
set_option maxRecDepth 100000 in
set_option maxHeartbeats 16000000 in
theorem SaveC_out (b : Nat) (a v : Vl) (ha : a.tag = 5) (cb : Nat) (hc : a.c = some ⟨cb, 0, none⟩) (d l cap : Nat) (hl1 : l < 1000) (hlc : l ≤ cap) (hv : 1 ≤ v.tag ∧ v.tag ≤ 5) (off : Int) (k : Nat) (hk : sizeOk k) (ho : -9223372036854775808 ≤ off ∧ off < 9223372036854775808) (hin : inB (sn a.n) off 0 l = false) (w : World) (N : Nat) (hN : Sz w N) (q0 : w.cell? ⟨cb, 0, none⟩ = some (.slice (some ⟨d, 0, none⟩) l cap)) :
    Calls Try.prog 11 #[.pointer (some ⟨b, 0, none⟩), vlV a, .int .i64 off, .int .i64 ((k : Nat) : Int), vlV v] w fun e w' => e = .returned (.int .i64 14) ∧ Below N w w' := by
  have HK := hid hk
  have hk8 : k ≤ 8 ∧ 0 < k := by rcases hk with rfl | rfl | rfl | rfl <;> omega
  have HV1 : Hid (decide (v.tag ≤ 0) = false) := hid (decide_eq_false (by omega))
  have HV2 : Hid (decide (5 < v.tag) = false) := hid (decide_eq_false (by omega))
  clear hk hv
  obtain ⟨tag, an, sl, c⟩ := a
  simp only at ha hc
  subst ha
  subst hc
  unfold vlV
  go_enter Try.func11, Try.ntmps11
  go_wp2_with (first
    | (go_at_call 26; refine (IsSize_ok k HK.out _).mono ?_; rintro e w3 ⟨rfl, rfl⟩)
    | (go_at_call 27; refine (Span_out b ⟨5, an, sl, some ⟨cb, 0, none⟩⟩ off ((k : Nat) : Int) _ l cap 0 (fun u => u.cell? ⟨cb, 0, none⟩ = some (.slice (some ⟨d, 0, none⟩) l cap)) (fun _ _ _ hN hb h => keep_c hb hN h) (by omega) (.inl rfl) ho (base_cell b ⟨5, an, sl, some ⟨cb, 0, none⟩⟩ rfl cb rfl _ l cap) hin _ (N + 1 + 1) hN2 q0).mono ?_; rintro e w4 ⟨rfl, hb4⟩; obtain ⟨M4, hM4⟩ := sz_some w4; have l4 := below_sz hb4 hN2 hM4; replace h1 := h1.below hb4 (by omega); replace h2 := h2.below hb4 (by omega); replace c9 := keep_c hb4 hN2 c9; replace q0 := keep_c hb4 hN2 q0; replace hb2 := hb2.trans (hb4.mono (by omega)); clear hN2 hb4)
    | ((with_reducible show wpList _ _ _ (_ :: _) _ _); first
      | (refine wpl_box rfl 26 (.tmp 1) rfl 4 _ rfl N hN ?_; intro w1 hN1 hb1 h1; replace q0 := keep_c hb1 hN q0; try simp only [pA])
      | (refine wpl_box rfl 26 (.tmp 4) rfl 4 _ rfl (N + 1) hN1 ?_; intro w2 hN2 hb2 h2; replace h1 := h1.below hb2 (by omega); replace q0 := keep_c hb2 hN1 q0; have c9 : w2.cell? ⟨N + 1, 0, none⟩ = some (.int .i64 v.tag) := h2.cell (j := 0) (by omega); replace hb2 := hb1.trans (hb2.mono (by omega)); clear hb1; try simp only [pA])
      | (refine wpl_want ?_ ?_; rotate_left; (refine wpl_run rfl (.bool false) _ (run_leqI (x := .tmp 24) (y := .const (.int .i64 0)) rfl rfl rfl (q := 0) HV1.out _) ?_); rotate_left; rfl; try simp only [pA])
      | (refine wpl_want ?_ ?_; rotate_left; (refine wpl_run rfl (.bool false) _ (run_gtrI (x := .tmp 29) (y := .const (.int .i64 5)) rfl rfl rfl (q := 5) HV2.out _) ?_); rotate_left; rfl; try simp only [pA])
      | (refine wpl_load rfl 26 (.tmp 6) rfl N rfl 26 4 _ h1 _ undVl.choose_spec.1 undVl.choose_spec.2 szVl ?_; try simp only [pA]))
    | fail)
  go_ret
  exact ⟨rfl, hb2⟩
set_option maxRecDepth 100000 in
set_option maxHeartbeats 16000000 in
theorem SaveC_far (b : Nat) (a v : Vl) (ha : a.tag = 5) (cb : Nat) (hc : a.c = some ⟨cb, 0, none⟩) (d l cap : Nat) (hl1 : l < 1000) (hlc : l ≤ cap) (hv : 1 ≤ v.tag ∧ v.tag ≤ 5) (off : Int) (k : Nat) (hk : sizeOk k) (f : Nat) (hin : inB (sn a.n) off 0 l = true) (hf : at0 (sn a.n) off 0 = f) (fk : ¬ f + k ≤ l) (w : World) (N : Nat) (hN : Sz w N) (q0 : w.cell? ⟨cb, 0, none⟩ = some (.slice (some ⟨d, 0, none⟩) l cap)) :
    Calls Try.prog 11 #[.pointer (some ⟨b, 0, none⟩), vlV a, .int .i64 off, .int .i64 ((k : Nat) : Int), vlV v] w fun e w' => e = .returned (.int .i64 14) ∧ Below N w w' := by
  have HK := hid hk
  have hk8 : k ≤ 8 ∧ 0 < k := by rcases hk with rfl | rfl | rfl | rfl <;> omega
  have HV1 : Hid (decide (v.tag ≤ 0) = false) := hid (decide_eq_false (by omega))
  have HV2 : Hid (decide (5 < v.tag) = false) := hid (decide_eq_false (by omega))
  have HO : Hid (decide (((k : Nat) : Int) ≤ ((l : Nat) : Int) - ((f : Nat) : Int)) = false) := hid (decide_eq_false (by omega))
  have HF := hid hf
  clear hf
  clear hk hv
  obtain ⟨tag, an, sl, c⟩ := a
  simp only at ha hc
  subst ha
  subst hc
  unfold vlV
  go_enter Try.func11, Try.ntmps11
  go_wp2_with (first
    | (go_at_call 26; refine (IsSize_ok k HK.out _).mono ?_; rintro e w3 ⟨rfl, rfl⟩)
    | (go_at_call 27; refine (Span_in b ⟨5, an, sl, some ⟨cb, 0, none⟩⟩ off ((k : Nat) : Int) _ l cap 0 (fun u => u.cell? ⟨cb, 0, none⟩ = some (.slice (some ⟨d, 0, none⟩) l cap)) (fun _ _ _ hN hb h => keep_c hb hN h) (by omega) (.inl rfl) (base_cell b ⟨5, an, sl, some ⟨cb, 0, none⟩⟩ rfl cb rfl _ l cap) hin _ (N + 1 + 1) hN2 q0).mono ?_; rintro e w4 ⟨rfl, hb4⟩; rw [HF.out, HO.out]; obtain ⟨M4, hM4⟩ := sz_some w4; have l4 := below_sz hb4 hN2 hM4; replace h1 := h1.below hb4 (by omega); replace h2 := h2.below hb4 (by omega); replace c9 := keep_c hb4 hN2 c9; replace q0 := keep_c hb4 hN2 q0; replace hb2 := hb2.trans (hb4.mono (by omega)); clear hN2 hb4)
    | ((with_reducible show wpList _ _ _ (_ :: _) _ _); first
      | (refine wpl_box rfl 26 (.tmp 1) rfl 4 _ rfl N hN ?_; intro w1 hN1 hb1 h1; replace q0 := keep_c hb1 hN q0; try simp only [pA])
      | (refine wpl_box rfl 26 (.tmp 4) rfl 4 _ rfl (N + 1) hN1 ?_; intro w2 hN2 hb2 h2; replace h1 := h1.below hb2 (by omega); replace q0 := keep_c hb2 hN1 q0; have c9 : w2.cell? ⟨N + 1, 0, none⟩ = some (.int .i64 v.tag) := h2.cell (j := 0) (by omega); replace hb2 := hb1.trans (hb2.mono (by omega)); clear hb1; try simp only [pA])
      | (refine wpl_want ?_ ?_; rotate_left; (refine wpl_run rfl (.bool false) _ (run_leqI (x := .tmp 24) (y := .const (.int .i64 0)) rfl rfl rfl (q := 0) HV1.out _) ?_); rotate_left; rfl; try simp only [pA])
      | (refine wpl_want ?_ ?_; rotate_left; (refine wpl_run rfl (.bool false) _ (run_gtrI (x := .tmp 29) (y := .const (.int .i64 5)) rfl rfl rfl (q := 5) HV2.out _) ?_); rotate_left; rfl; try simp only [pA])
      | (refine wpl_load rfl 26 (.tmp 6) rfl N rfl 26 4 _ h1 _ undVl.choose_spec.1 undVl.choose_spec.2 szVl ?_; try simp only [pA]))
    | fail)
  go_ret
  exact ⟨rfl, hb2⟩
set_option maxRecDepth 100000 in
set_option maxHeartbeats 16000000 in
theorem SaveC_ro (b : Nat) (a v : Vl) (ha : a.tag = 5) (cb : Nat) (hc : a.c = some ⟨cb, 0, none⟩) (d l cap : Nat) (hl1 : l < 1000) (hlc : l ≤ cap) (hv : 1 ≤ v.tag ∧ v.tag ≤ 5) (off : Int) (k : Nat) (hk : sizeOk k) (f : Nat) (hin : inB (sn a.n) off 0 l = true) (hf : at0 (sn a.n) off 0 = f) (fk : f + k ≤ l) (J : World → Prop) (hJ : ∀ w w' N, Sz w N → Below N w w' → J w → J w') (hw : ∀ w N, Sz w N → J w → Calls Try.prog 32 #[.pointer (some ⟨b, 0, none⟩), vlV a] w fun e w' => e = .returned (.bool false) ∧ Below N w w') (w : World) (N : Nat) (hN : Sz w N) (q0 : w.cell? ⟨cb, 0, none⟩ = some (.slice (some ⟨d, 0, none⟩) l cap)) (jw : J w) :
    Calls Try.prog 11 #[.pointer (some ⟨b, 0, none⟩), vlV a, .int .i64 off, .int .i64 ((k : Nat) : Int), vlV v] w fun e w' => e = .returned (.int .i64 14) ∧ Below N w w' := by
  have HK := hid hk
  have hk8 : k ≤ 8 ∧ 0 < k := by rcases hk with rfl | rfl | rfl | rfl <;> omega
  have HV1 : Hid (decide (v.tag ≤ 0) = false) := hid (decide_eq_false (by omega))
  have HV2 : Hid (decide (5 < v.tag) = false) := hid (decide_eq_false (by omega))
  have HO : Hid (decide (((k : Nat) : Int) ≤ ((l : Nat) : Int) - ((f : Nat) : Int)) = true) := hid (decide_eq_true (by omega))
  have HF := hid hf
  clear hf
  clear hk hv
  obtain ⟨tag, an, sl, c⟩ := a
  simp only at ha hc
  subst ha
  subst hc
  unfold vlV at hw ⊢
  go_enter Try.func11, Try.ntmps11
  go_wp2_with (first
    | (go_at_call 26; refine (IsSize_ok k HK.out _).mono ?_; rintro e w3 ⟨rfl, rfl⟩)
    | (go_at_call 27; refine (Span_in b ⟨5, an, sl, some ⟨cb, 0, none⟩⟩ off ((k : Nat) : Int) _ l cap 0 (fun u => u.cell? ⟨cb, 0, none⟩ = some (.slice (some ⟨d, 0, none⟩) l cap)) (fun _ _ _ hN hb h => keep_c hb hN h) (by omega) (.inl rfl) (base_cell b ⟨5, an, sl, some ⟨cb, 0, none⟩⟩ rfl cb rfl _ l cap) hin _ (N + 1 + 1) hN2 q0).mono ?_; rintro e w4 ⟨rfl, hb4⟩; rw [HF.out, HO.out]; obtain ⟨M4, hM4⟩ := sz_some w4; have l4 := below_sz hb4 hN2 hM4; replace h1 := h1.below hb4 (by omega); replace h2 := h2.below hb4 (by omega); replace c9 := keep_c hb4 hN2 c9; replace q0 := keep_c hb4 hN2 q0; replace jw := hJ _ _ _ hN2 hb4 jw; replace hb2 := hb2.trans (hb4.mono (by omega)); clear hN2 hb4)
    | (go_at_call 32; refine (hw _ M4 hM4 jw).mono ?_; rintro e w5 ⟨rfl, hb5⟩; obtain ⟨M5, hM5⟩ := sz_some w5; have l5 := below_sz hb5 hM4 hM5; replace h1 := h1.below hb5 (by omega); replace h2 := h2.below hb5 (by omega); replace c9 := keep_c hb5 hM4 c9; replace q0 := keep_c hb5 hM4 q0; replace jw := hJ _ _ _ hM4 hb5 jw; replace hb2 := hb2.trans (hb5.mono (by omega)); clear hM4 hb5; have c0 : w5.cell? ⟨N, 0, none⟩ = some (.int .i64 5) := h1.cell (j := 0) (by omega))
    | ((with_reducible show wpList _ _ _ (_ :: _) _ _); first
      | (refine wpl_box rfl 26 (.tmp 1) rfl 4 _ rfl N hN ?_; intro w1 hN1 hb1 h1; replace q0 := keep_c hb1 hN q0; replace jw := hJ _ _ _ hN hb1 jw; try simp only [pA])
      | (refine wpl_box rfl 26 (.tmp 4) rfl 4 _ rfl (N + 1) hN1 ?_; intro w2 hN2 hb2 h2; replace h1 := h1.below hb2 (by omega); replace q0 := keep_c hb2 hN1 q0; replace jw := hJ _ _ _ hN1 hb2 jw; have c9 : w2.cell? ⟨N + 1, 0, none⟩ = some (.int .i64 v.tag) := h2.cell (j := 0) (by omega); replace hb2 := hb1.trans (hb2.mono (by omega)); clear hb1; try simp only [pA])
      | (refine wpl_want ?_ ?_; rotate_left; (refine wpl_run rfl (.bool false) _ (run_leqI (x := .tmp 24) (y := .const (.int .i64 0)) rfl rfl rfl (q := 0) HV1.out _) ?_); rotate_left; rfl; try simp only [pA])
      | (refine wpl_want ?_ ?_; rotate_left; (refine wpl_run rfl (.bool false) _ (run_gtrI (x := .tmp 29) (y := .const (.int .i64 5)) rfl rfl rfl (q := 5) HV2.out _) ?_); rotate_left; rfl; try simp only [pA])
      | (refine wpl_load rfl 26 (.tmp 6) rfl N rfl 26 4 _ h1 _ undVl.choose_spec.1 undVl.choose_spec.2 szVl ?_; try simp only [pA])
      | (refine wpl_want ?_ ?_; rotate_left; (refine wpl_load rfl 26 (.tmp 6) rfl N rfl 26 4 _ h1 _ undVl.choose_spec.1 undVl.choose_spec.2 szVl ?_); rotate_left; rfl; try simp only [pA]))
    | fail)
  go_ret
  exact ⟨rfl, hb2⟩
set_option maxRecDepth 100000 in
set_option maxHeartbeats 16000000 in
theorem SaveC_keep (b : Nat) (a v : Vl) (ha : a.tag = 5) (cb : Nat) (hc : a.c = some ⟨cb, 0, none⟩) (d l cap : Nat) (hl1 : l < 1000) (hlc : l ≤ cap) (hv : 1 ≤ v.tag ∧ v.tag ≤ 5) (off : Int) (k : Nat) (hk : sizeOk k) (f : Nat) (hin : inB (sn a.n) off 0 l = true) (hf : at0 (sn a.n) off 0 = f) (fk : f + k ≤ l) (ht : ¬ v.tag = 1) (J : World → Prop) (hJ : ∀ w w' N, Sz w N → Below N w w' → J w → J w') (hw : ∀ w N, Sz w N → J w → Calls Try.prog 32 #[.pointer (some ⟨b, 0, none⟩), vlV a] w fun e w' => e = .returned (.bool true) ∧ Below N w w') (w : World) (N : Nat) (hN : Sz w N) (q0 : w.cell? ⟨cb, 0, none⟩ = some (.slice (some ⟨d, 0, none⟩) l cap)) (jw : J w) :
    Calls Try.prog 11 #[.pointer (some ⟨b, 0, none⟩), vlV a, .int .i64 off, .int .i64 ((k : Nat) : Int), vlV v] w fun e w' => e = .returned (.int .i64 14) ∧ Below N w w' := by
  have HK := hid hk
  have hk8 : k ≤ 8 ∧ 0 < k := by rcases hk with rfl | rfl | rfl | rfl <;> omega
  have HV1 : Hid (decide (v.tag ≤ 0) = false) := hid (decide_eq_false (by omega))
  have HV2 : Hid (decide (5 < v.tag) = false) := hid (decide_eq_false (by omega))
  have HO : Hid (decide (((k : Nat) : Int) ≤ ((l : Nat) : Int) - ((f : Nat) : Int)) = true) := hid (decide_eq_true (by omega))
  have HF := hid hf
  clear hf
  have HT : Hid ((v.tag != 1) = true) := hid (bne_iff_ne.2 ht)
  clear ht
  clear hk hv
  obtain ⟨tag, an, sl, c⟩ := a
  simp only at ha hc
  subst ha
  subst hc
  unfold vlV at hw ⊢
  go_enter Try.func11, Try.ntmps11
  go_wp2_with (first
    | (go_at_call 26; refine (IsSize_ok k HK.out _).mono ?_; rintro e w3 ⟨rfl, rfl⟩)
    | (go_at_call 27; refine (Span_in b ⟨5, an, sl, some ⟨cb, 0, none⟩⟩ off ((k : Nat) : Int) _ l cap 0 (fun u => u.cell? ⟨cb, 0, none⟩ = some (.slice (some ⟨d, 0, none⟩) l cap)) (fun _ _ _ hN hb h => keep_c hb hN h) (by omega) (.inl rfl) (base_cell b ⟨5, an, sl, some ⟨cb, 0, none⟩⟩ rfl cb rfl _ l cap) hin _ (N + 1 + 1) hN2 q0).mono ?_; rintro e w4 ⟨rfl, hb4⟩; rw [HF.out, HO.out]; obtain ⟨M4, hM4⟩ := sz_some w4; have l4 := below_sz hb4 hN2 hM4; replace h1 := h1.below hb4 (by omega); replace h2 := h2.below hb4 (by omega); replace c9 := keep_c hb4 hN2 c9; replace q0 := keep_c hb4 hN2 q0; replace jw := hJ _ _ _ hN2 hb4 jw; replace hb2 := hb2.trans (hb4.mono (by omega)); clear hN2 hb4)
    | (go_at_call 32; refine (hw _ M4 hM4 jw).mono ?_; rintro e w5 ⟨rfl, hb5⟩; obtain ⟨M5, hM5⟩ := sz_some w5; have l5 := below_sz hb5 hM4 hM5; replace h1 := h1.below hb5 (by omega); replace h2 := h2.below hb5 (by omega); replace c9 := keep_c hb5 hM4 c9; replace q0 := keep_c hb5 hM4 q0; replace jw := hJ _ _ _ hM4 hb5 jw; replace hb2 := hb2.trans (hb5.mono (by omega)); clear hM4 hb5; have c0 : w5.cell? ⟨N, 0, none⟩ = some (.int .i64 5) := h1.cell (j := 0) (by omega))
    | (go_at_call 33; refine (Keep_no b ⟨5, an, sl, some ⟨cb, 0, none⟩⟩ v f k (.inl (by show ¬ (5 : Int) = 3; decide)) _ M5 hM5).mono ?_; rintro e w6 ⟨rfl, hb6⟩; replace hb2 := hb2.trans (hb6.mono (by omega)))
    | ((with_reducible show wpList _ _ _ (_ :: _) _ _); first
      | (refine wpl_box rfl 26 (.tmp 1) rfl 4 _ rfl N hN ?_; intro w1 hN1 hb1 h1; replace q0 := keep_c hb1 hN q0; replace jw := hJ _ _ _ hN hb1 jw; try simp only [pA])
      | (refine wpl_box rfl 26 (.tmp 4) rfl 4 _ rfl (N + 1) hN1 ?_; intro w2 hN2 hb2 h2; replace h1 := h1.below hb2 (by omega); replace q0 := keep_c hb2 hN1 q0; replace jw := hJ _ _ _ hN1 hb2 jw; have c9 : w2.cell? ⟨N + 1, 0, none⟩ = some (.int .i64 v.tag) := h2.cell (j := 0) (by omega); replace hb2 := hb1.trans (hb2.mono (by omega)); clear hb1; try simp only [pA])
      | (refine wpl_want ?_ ?_; rotate_left; (refine wpl_run rfl (.bool false) _ (run_leqI (x := .tmp 24) (y := .const (.int .i64 0)) rfl rfl rfl (q := 0) HV1.out _) ?_); rotate_left; rfl; try simp only [pA])
      | (refine wpl_want ?_ ?_; rotate_left; (refine wpl_run rfl (.bool false) _ (run_gtrI (x := .tmp 29) (y := .const (.int .i64 5)) rfl rfl rfl (q := 5) HV2.out _) ?_); rotate_left; rfl; try simp only [pA])
      | (refine wpl_load rfl 26 (.tmp 6) rfl N rfl 26 4 _ h1 _ undVl.choose_spec.1 undVl.choose_spec.2 szVl ?_; try simp only [pA])
      | (refine wpl_want ?_ ?_; rotate_left; (refine wpl_load rfl 26 (.tmp 6) rfl N rfl 26 4 _ h1 _ undVl.choose_spec.1 undVl.choose_spec.2 szVl ?_); rotate_left; rfl; try simp only [pA])
      | (refine wpl_run rfl (.bool true) _ (run_neqI (x := .tmp 50) (y := .const (.int .i64 1)) rfl rfl rfl (q := 1) HT.out _) ?_; try simp only [pA])
      | (refine wpl_load rfl 26 (.tmp 9) rfl (N + 1) rfl 26 4 _ h2 _ undVl.choose_spec.1 undVl.choose_spec.2 szVl ?_; try simp only [pA]))
    | fail)
  go_ret
  exact ⟨rfl, hb2⟩
set_option maxRecDepth 100000 in
set_option maxHeartbeats 16000000 in
theorem SaveC_num (b : Nat) (a v : Vl) (ha : a.tag = 5) (cb : Nat) (hc : a.c = some ⟨cb, 0, none⟩) (d l cap : Nat) (hl1 : l < 1000) (hlc : l ≤ cap) (hv : 1 ≤ v.tag ∧ v.tag ≤ 5) (off : Int) (k : Nat) (hk : sizeOk k) (f : Nat) (hin : inB (sn a.n) off 0 l = true) (hf : at0 (sn a.n) off 0 = f) (fk : f + k ≤ l) (ht : v.tag = 1) (D : Nat → W) (J : World → Prop) (hJ : ∀ w w' N, Sz w N → Below N w w' → J w → J w') (hw : ∀ w N, Sz w N → J w → Calls Try.prog 32 #[.pointer (some ⟨b, 0, none⟩), vlV a] w fun e w' => e = .returned (.bool true) ∧ Below N w w') (w : World) (N : Nat) (hN : Sz w N) (q0 : w.cell? ⟨cb, 0, none⟩ = some (.slice (some ⟨d, 0, none⟩) l cap)) (jw : J w) (hd : Has w d 5 l (fun j => Yv (D j))) :
    Calls Try.prog 11 #[.pointer (some ⟨b, 0, none⟩), vlV a, .int .i64 off, .int .i64 ((k : Nat) : Int), vlV v] w fun e w' => e = .returned (.int .i64 0) ∧ Grew (some d) w w' ∧ Has w' d 5 l (fun j => Yv (byD D f k v.n j)) := by
  have HK := hid hk
  have hk8 : k ≤ 8 ∧ 0 < k := by rcases hk with rfl | rfl | rfl | rfl <;> omega
  have HV1 : Hid (decide (v.tag ≤ 0) = false) := hid (decide_eq_false (by omega))
  have HV2 : Hid (decide (5 < v.tag) = false) := hid (decide_eq_false (by omega))
  have HO : Hid (decide (((k : Nat) : Int) ≤ ((l : Nat) : Int) - ((f : Nat) : Int)) = true) := hid (decide_eq_true (by omega))
  have HF := hid hf
  clear hf
  have HT : Hid ((v.tag != 1) = false) := hid (bne_eq_false_iff_eq.2 ht)
  clear ht
  have hdl := hd.ltN hN
  clear hk hv
  obtain ⟨tag, an, sl, c⟩ := a
  simp only at ha hc
  subst ha
  subst hc
  unfold vlV at hw ⊢
  go_enter Try.func11, Try.ntmps11
  go_upto_region 9 with (first
    | (go_at_call 26; refine (IsSize_ok k HK.out _).mono ?_; rintro e w3 ⟨rfl, rfl⟩)
    | (go_at_call 27; refine (Span_in b ⟨5, an, sl, some ⟨cb, 0, none⟩⟩ off ((k : Nat) : Int) _ l cap 0 (fun u => u.cell? ⟨cb, 0, none⟩ = some (.slice (some ⟨d, 0, none⟩) l cap)) (fun _ _ _ hN hb h => keep_c hb hN h) (by omega) (.inl rfl) (base_cell b ⟨5, an, sl, some ⟨cb, 0, none⟩⟩ rfl cb rfl _ l cap) hin _ (N + 1 + 1) hN2 q0).mono ?_; rintro e w4 ⟨rfl, hb4⟩; rw [HF.out, HO.out]; obtain ⟨M4, hM4⟩ := sz_some w4; have l4 := below_sz hb4 hN2 hM4; replace h1 := h1.below hb4 (by omega); replace h2 := h2.below hb4 (by omega); replace c9 := keep_c hb4 hN2 c9; replace q0 := keep_c hb4 hN2 q0; replace jw := hJ _ _ _ hN2 hb4 jw; replace hd := hd.below hb4 (by omega); replace hb2 := hb2.trans (hb4.mono (by omega)); clear hN2 hb4)
    | (go_at_call 32; refine (hw _ M4 hM4 jw).mono ?_; rintro e w5 ⟨rfl, hb5⟩; obtain ⟨M5, hM5⟩ := sz_some w5; have l5 := below_sz hb5 hM4 hM5; replace h1 := h1.below hb5 (by omega); replace h2 := h2.below hb5 (by omega); replace c9 := keep_c hb5 hM4 c9; replace q0 := keep_c hb5 hM4 q0; replace jw := hJ _ _ _ hM4 hb5 jw; replace hd := hd.below hb5 (by omega); replace hb2 := hb2.trans (hb5.mono (by omega)); clear hM4 hb5; have c0 : w5.cell? ⟨N, 0, none⟩ = some (.int .i64 5) := h1.cell (j := 0) (by omega))
    | ((with_reducible show wpList _ _ _ (_ :: _) _ _); first
      | (refine wpl_box rfl 26 (.tmp 1) rfl 4 _ rfl N hN ?_; intro w1 hN1 hb1 h1; replace q0 := keep_c hb1 hN q0; replace jw := hJ _ _ _ hN hb1 jw; replace hd := hd.below hb1 (by omega); try simp only [pA])
      | (refine wpl_box rfl 26 (.tmp 4) rfl 4 _ rfl (N + 1) hN1 ?_; intro w2 hN2 hb2 h2; replace h1 := h1.below hb2 (by omega); replace q0 := keep_c hb2 hN1 q0; replace jw := hJ _ _ _ hN1 hb2 jw; replace hd := hd.below hb2 (by omega); have c9 : w2.cell? ⟨N + 1, 0, none⟩ = some (.int .i64 v.tag) := h2.cell (j := 0) (by omega); replace hb2 := hb1.trans (hb2.mono (by omega)); clear hb1; try simp only [pA])
      | (refine wpl_want ?_ ?_; rotate_left; (refine wpl_run rfl (.bool false) _ (run_leqI (x := .tmp 24) (y := .const (.int .i64 0)) rfl rfl rfl (q := 0) HV1.out _) ?_); rotate_left; rfl; try simp only [pA])
      | (refine wpl_want ?_ ?_; rotate_left; (refine wpl_run rfl (.bool false) _ (run_gtrI (x := .tmp 29) (y := .const (.int .i64 5)) rfl rfl rfl (q := 5) HV2.out _) ?_); rotate_left; rfl; try simp only [pA])
      | (refine wpl_load rfl 26 (.tmp 6) rfl N rfl 26 4 _ h1 _ undVl.choose_spec.1 undVl.choose_spec.2 szVl ?_; try simp only [pA])
      | (refine wpl_want ?_ ?_; rotate_left; (refine wpl_load rfl 26 (.tmp 6) rfl N rfl 26 4 _ h1 _ undVl.choose_spec.1 undVl.choose_spec.2 szVl ?_); rotate_left; rfl; try simp only [pA])
      | (refine wpl_run rfl (.bool false) _ (run_neqI (x := .tmp 50) (y := .const (.int .i64 1)) rfl rfl rfl (q := 1) HT.out _) ?_; try simp only [pA]))
    | fail)
  go_wp2_with fail
  have c8 : w5.cell? ⟨N + 1, 1, none⟩ = some (Q v.n) := h2.cell (j := 1) (by omega)
  have g6 := below_grew (b := some d) hb2 hN
  clear h1 h2 c9 c0 jw q0
  go_loopw [14, 66] (fun x14 x66 wr => ∃ t : Nat, t ≤ k ∧ x66 = .int .i64 ((t : Nat) : Int) ∧ Grew (some d) w wr ∧ wr.cell? ⟨N + 1, 1, none⟩ = some (Q v.n) ∧ Has wr d 5 l (fun j => Yv (byD D f t v.n j))) (fun _ x66 _ => k - (intOf x66).toNat)
  case atStart => exact ⟨0, by omega, rfl, g6, c8, hd.congr (fun j _ => by rw [byD_zero])⟩
  case round =>
    clear hd g6 c8
    obtain ⟨t, ht, rfl, G, c8, hh⟩ := hrel
    by_cases hlt : t < k
    · have t1 : decide ((t : Int) < (k : Int)) = true := by simp; omega
      go_wp2_with (first
        | ((with_reducible show wpList _ _ _ (_ :: _) _ _); first
          | (refine wpl_run rfl (.int .i64 ((f + t : Nat) : Int)) _ (run_addN (x := .tmp 70) (y := .tmp 71) rfl rfl rfl (by omega) _) ?_; try simp only [pA])
          | (refine wpl_run rfl (.int .i64 ((8 * t : Nat) : Int)) _ (run_mul8 (x := .const (.int .i64 8)) (y := .tmp 75) rfl rfl rfl (by omega) _) ?_; try simp only [pA])
          | (refine wpl_b rfl rfl (bin_shr _ _ _) rfl rfl ?_; try simp only [pA])
          | (refine wpl_run rfl (Yv ((v.n >>> (8 * t)) &&& 255#64)) _ (run_uy (x := .tmp 77) rfl und64 undY rfl _) ?_; try simp only [pA])
          | (refine wpl_run rfl (.pointer (some ⟨d, 0 + (f + t), none⟩)) _ (run_ixL 32 5 undSY szY1 (.tmp 69) (.tmp 72) rfl rfl rfl (k := f + t) (by omega) _) ?_; try simp only [pA])
          | (refine wpl_set rfl 5 (.tmp 79) (.tmp 78) rfl d (0 + (f + t)) rfl (Yv ((v.n >>> (8 * t)) &&& 255#64)) rfl szY1 rfl rfl 5 l _ hh (by omega) ?_; intro w7 t7 h7; replace h7 := h7.congr (g := fun j => Yv (byD D f (t + 1) v.n j)) (fun j _ => byD_step D f t v.n j); replace c8 := t7.cell c8 (by simp only; omega); clear hh; try simp only [pA]))
        | fail)
      exact ⟨⟨t + 1, by omega, by go_num, grew_touch G t7, c8, h7⟩, by simp [intOf]; omega⟩
    · obtain rfl : t = k := by omega
      go_wp2_with fail
      go_ret
      exact ⟨rfl, G, hh⟩
set_option maxRecDepth 100000 in
set_option maxHeartbeats 16000000 in
theorem SaveX_out (b : Nat) (a v : Vl) (ha : a.tag = 2) (hv : 1 ≤ v.tag ∧ v.tag ≤ 5) (off : Int) (k : Nat) (hk : sizeOk k) (ho : -9223372036854775808 ≤ off ∧ off < 9223372036854775808) (hin : inB (sn a.n) off 0 32 = false) (w : World) (N : Nat) (hN : Sz w N) :
    Calls Try.prog 11 #[.pointer (some ⟨b, 0, none⟩), vlV a, .int .i64 off, .int .i64 ((k : Nat) : Int), vlV v] w fun e w' => e = .returned (.int .i64 14) ∧ Below N w w' := by
  have HK := hid hk
  have hk8 : k ≤ 8 ∧ 0 < k := by rcases hk with rfl | rfl | rfl | rfl <;> omega
  have HV1 : Hid (decide (v.tag ≤ 0) = false) := hid (decide_eq_false (by omega))
  have HV2 : Hid (decide (5 < v.tag) = false) := hid (decide_eq_false (by omega))
  clear hk hv
  obtain ⟨tag, an, sl, c⟩ := a
  simp only at ha
  subst ha
  unfold vlV
  go_enter Try.func11, Try.ntmps11
  go_wp2_with (first
    | (go_at_call 26; refine (IsSize_ok k HK.out _).mono ?_; rintro e w3 ⟨rfl, rfl⟩)
    | (go_at_call 27; refine (Span_out b ⟨2, an, sl, c⟩ off ((k : Nat) : Int) _ 32 32 0 (fun _ => True) (fun _ _ _ _ _ _ => trivial) (by omega) (.inl rfl) ho (base_ctx b ⟨2, an, sl, c⟩ rfl) hin _ (N + 1 + 1) hN2 trivial).mono ?_; rintro e w4 ⟨rfl, hb4⟩; obtain ⟨M4, hM4⟩ := sz_some w4; have l4 := below_sz hb4 hN2 hM4; replace h1 := h1.below hb4 (by omega); replace h2 := h2.below hb4 (by omega); replace c9 := keep_c hb4 hN2 c9; replace hb2 := hb2.trans (hb4.mono (by omega)); clear hN2 hb4)
    | ((with_reducible show wpList _ _ _ (_ :: _) _ _); first
      | (refine wpl_box rfl 26 (.tmp 1) rfl 4 _ rfl N hN ?_; intro w1 hN1 hb1 h1; try simp only [pA])
      | (refine wpl_box rfl 26 (.tmp 4) rfl 4 _ rfl (N + 1) hN1 ?_; intro w2 hN2 hb2 h2; replace h1 := h1.below hb2 (by omega); have c9 : w2.cell? ⟨N + 1, 0, none⟩ = some (.int .i64 v.tag) := h2.cell (j := 0) (by omega); replace hb2 := hb1.trans (hb2.mono (by omega)); clear hb1; try simp only [pA])
      | (refine wpl_want ?_ ?_; rotate_left; (refine wpl_run rfl (.bool false) _ (run_leqI (x := .tmp 24) (y := .const (.int .i64 0)) rfl rfl rfl (q := 0) HV1.out _) ?_); rotate_left; rfl; try simp only [pA])
      | (refine wpl_want ?_ ?_; rotate_left; (refine wpl_run rfl (.bool false) _ (run_gtrI (x := .tmp 29) (y := .const (.int .i64 5)) rfl rfl rfl (q := 5) HV2.out _) ?_); rotate_left; rfl; try simp only [pA])
      | (refine wpl_load rfl 26 (.tmp 6) rfl N rfl 26 4 _ h1 _ undVl.choose_spec.1 undVl.choose_spec.2 szVl ?_; try simp only [pA]))
    | fail)
  go_ret
  exact ⟨rfl, hb2⟩
set_option maxRecDepth 100000 in
set_option maxHeartbeats 16000000 in
theorem SaveX_far (b : Nat) (a v : Vl) (ha : a.tag = 2) (hv : 1 ≤ v.tag ∧ v.tag ≤ 5) (off : Int) (k : Nat) (hk : sizeOk k) (f : Nat) (hin : inB (sn a.n) off 0 32 = true) (hf : at0 (sn a.n) off 0 = f) (fk : ¬ f + k ≤ 32) (w : World) (N : Nat) (hN : Sz w N) :
    Calls Try.prog 11 #[.pointer (some ⟨b, 0, none⟩), vlV a, .int .i64 off, .int .i64 ((k : Nat) : Int), vlV v] w fun e w' => e = .returned (.int .i64 14) ∧ Below N w w' := by
  have HK := hid hk
  have hk8 : k ≤ 8 ∧ 0 < k := by rcases hk with rfl | rfl | rfl | rfl <;> omega
  have HV1 : Hid (decide (v.tag ≤ 0) = false) := hid (decide_eq_false (by omega))
  have HV2 : Hid (decide (5 < v.tag) = false) := hid (decide_eq_false (by omega))
  have HO : Hid (decide (((k : Nat) : Int) ≤ ((32 : Nat) : Int) - ((f : Nat) : Int)) = false) := hid (decide_eq_false (by omega))
  have HF := hid hf
  clear hf
  clear hk hv
  obtain ⟨tag, an, sl, c⟩ := a
  simp only at ha
  subst ha
  unfold vlV
  go_enter Try.func11, Try.ntmps11
  go_wp2_with (first
    | (go_at_call 26; refine (IsSize_ok k HK.out _).mono ?_; rintro e w3 ⟨rfl, rfl⟩)
    | (go_at_call 27; refine (Span_in b ⟨2, an, sl, c⟩ off ((k : Nat) : Int) _ 32 32 0 (fun _ => True) (fun _ _ _ _ _ _ => trivial) (by omega) (.inl rfl) (base_ctx b ⟨2, an, sl, c⟩ rfl) hin _ (N + 1 + 1) hN2 trivial).mono ?_; rintro e w4 ⟨rfl, hb4⟩; rw [HF.out, HO.out]; obtain ⟨M4, hM4⟩ := sz_some w4; have l4 := below_sz hb4 hN2 hM4; replace h1 := h1.below hb4 (by omega); replace h2 := h2.below hb4 (by omega); replace c9 := keep_c hb4 hN2 c9; replace hb2 := hb2.trans (hb4.mono (by omega)); clear hN2 hb4)
    | ((with_reducible show wpList _ _ _ (_ :: _) _ _); first
      | (refine wpl_box rfl 26 (.tmp 1) rfl 4 _ rfl N hN ?_; intro w1 hN1 hb1 h1; try simp only [pA])
      | (refine wpl_box rfl 26 (.tmp 4) rfl 4 _ rfl (N + 1) hN1 ?_; intro w2 hN2 hb2 h2; replace h1 := h1.below hb2 (by omega); have c9 : w2.cell? ⟨N + 1, 0, none⟩ = some (.int .i64 v.tag) := h2.cell (j := 0) (by omega); replace hb2 := hb1.trans (hb2.mono (by omega)); clear hb1; try simp only [pA])
      | (refine wpl_want ?_ ?_; rotate_left; (refine wpl_run rfl (.bool false) _ (run_leqI (x := .tmp 24) (y := .const (.int .i64 0)) rfl rfl rfl (q := 0) HV1.out _) ?_); rotate_left; rfl; try simp only [pA])
      | (refine wpl_want ?_ ?_; rotate_left; (refine wpl_run rfl (.bool false) _ (run_gtrI (x := .tmp 29) (y := .const (.int .i64 5)) rfl rfl rfl (q := 5) HV2.out _) ?_); rotate_left; rfl; try simp only [pA])
      | (refine wpl_load rfl 26 (.tmp 6) rfl N rfl 26 4 _ h1 _ undVl.choose_spec.1 undVl.choose_spec.2 szVl ?_; try simp only [pA]))
    | fail)
  go_ret
  exact ⟨rfl, hb2⟩
set_option maxRecDepth 100000 in
set_option maxHeartbeats 16000000 in
theorem SaveX_ro (b : Nat) (a v : Vl) (ha : a.tag = 2) (hv : 1 ≤ v.tag ∧ v.tag ≤ 5) (off : Int) (k : Nat) (hk : sizeOk k) (f : Nat) (hin : inB (sn a.n) off 0 32 = true) (hf : at0 (sn a.n) off 0 = f) (fk : f + k ≤ 32) (w : World) (N : Nat) (hN : Sz w N) :
    Calls Try.prog 11 #[.pointer (some ⟨b, 0, none⟩), vlV a, .int .i64 off, .int .i64 ((k : Nat) : Int), vlV v] w fun e w' => e = .returned (.int .i64 14) ∧ Below N w w' := by
  have HK := hid hk
  have hk8 : k ≤ 8 ∧ 0 < k := by rcases hk with rfl | rfl | rfl | rfl <;> omega
  have HV1 : Hid (decide (v.tag ≤ 0) = false) := hid (decide_eq_false (by omega))
  have HV2 : Hid (decide (5 < v.tag) = false) := hid (decide_eq_false (by omega))
  have HO : Hid (decide (((k : Nat) : Int) ≤ ((32 : Nat) : Int) - ((f : Nat) : Int)) = true) := hid (decide_eq_true (by omega))
  have HF := hid hf
  clear hf
  clear hk hv
  obtain ⟨tag, an, sl, c⟩ := a
  simp only at ha
  subst ha
  unfold vlV
  go_enter Try.func11, Try.ntmps11
  go_wp2_with (first
    | (go_at_call 26; refine (IsSize_ok k HK.out _).mono ?_; rintro e w3 ⟨rfl, rfl⟩)
    | (go_at_call 27; refine (Span_in b ⟨2, an, sl, c⟩ off ((k : Nat) : Int) _ 32 32 0 (fun _ => True) (fun _ _ _ _ _ _ => trivial) (by omega) (.inl rfl) (base_ctx b ⟨2, an, sl, c⟩ rfl) hin _ (N + 1 + 1) hN2 trivial).mono ?_; rintro e w4 ⟨rfl, hb4⟩; rw [HF.out, HO.out]; obtain ⟨M4, hM4⟩ := sz_some w4; have l4 := below_sz hb4 hN2 hM4; replace h1 := h1.below hb4 (by omega); replace h2 := h2.below hb4 (by omega); replace c9 := keep_c hb4 hN2 c9; replace hb2 := hb2.trans (hb4.mono (by omega)); clear hN2 hb4)
    | (go_at_call 32; refine (Writable_ctx b ⟨2, an, sl, c⟩ rfl _ M4 hM4).mono ?_; rintro e w5 ⟨rfl, hb5⟩; obtain ⟨M5, hM5⟩ := sz_some w5; have l5 := below_sz hb5 hM4 hM5; replace h1 := h1.below hb5 (by omega); replace h2 := h2.below hb5 (by omega); replace c9 := keep_c hb5 hM4 c9; replace hb2 := hb2.trans (hb5.mono (by omega)); clear hM4 hb5; have c0 : w5.cell? ⟨N, 0, none⟩ = some (.int .i64 2) := h1.cell (j := 0) (by omega))
    | ((with_reducible show wpList _ _ _ (_ :: _) _ _); first
      | (refine wpl_box rfl 26 (.tmp 1) rfl 4 _ rfl N hN ?_; intro w1 hN1 hb1 h1; try simp only [pA])
      | (refine wpl_box rfl 26 (.tmp 4) rfl 4 _ rfl (N + 1) hN1 ?_; intro w2 hN2 hb2 h2; replace h1 := h1.below hb2 (by omega); have c9 : w2.cell? ⟨N + 1, 0, none⟩ = some (.int .i64 v.tag) := h2.cell (j := 0) (by omega); replace hb2 := hb1.trans (hb2.mono (by omega)); clear hb1; try simp only [pA])
      | (refine wpl_want ?_ ?_; rotate_left; (refine wpl_run rfl (.bool false) _ (run_leqI (x := .tmp 24) (y := .const (.int .i64 0)) rfl rfl rfl (q := 0) HV1.out _) ?_); rotate_left; rfl; try simp only [pA])
      | (refine wpl_want ?_ ?_; rotate_left; (refine wpl_run rfl (.bool false) _ (run_gtrI (x := .tmp 29) (y := .const (.int .i64 5)) rfl rfl rfl (q := 5) HV2.out _) ?_); rotate_left; rfl; try simp only [pA])
      | (refine wpl_load rfl 26 (.tmp 6) rfl N rfl 26 4 _ h1 _ undVl.choose_spec.1 undVl.choose_spec.2 szVl ?_; try simp only [pA])
      | (refine wpl_want ?_ ?_; rotate_left; (refine wpl_load rfl 26 (.tmp 6) rfl N rfl 26 4 _ h1 _ undVl.choose_spec.1 undVl.choose_spec.2 szVl ?_); rotate_left; rfl; try simp only [pA]))
    | fail)
  go_ret
  exact ⟨rfl, hb2⟩
end Go.Proofs.Ytjcjmlmdcjkceaa
