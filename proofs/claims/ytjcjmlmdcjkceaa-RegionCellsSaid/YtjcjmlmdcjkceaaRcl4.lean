/- region: Fill where nothing may be written. -/
import Derived.Test.YtjcjmlmdcjkceaaRcl3
namespace Go.Proofs.Ytjcjmlmdcjkceaa
open Go Go.RowKit
set_option maxRecDepth 100000 in
set_option maxHeartbeats 16000000 in
theorem FillC_out (b : Nat) (a : Vl) (ha : a.tag = 5) (cb : Nat) (hc : a.c = some ⟨cb, 0, none⟩) (d l cap : Nat) (hl1 : l < 1000) (hlc : l ≤ cap) (pb : Option Addr) (n c0 : Nat) (hn : n < 1000) (hin : inB (sn a.n) 0 0 l = false) (w : World) (N : Nat) (hN : Sz w N) (q0 : w.cell? ⟨cb, 0, none⟩ = some (.slice (some ⟨d, 0, none⟩) l cap)) :
    Calls Try.prog 12 #[.pointer (some ⟨b, 0, none⟩), vlV a, .slice pb n c0] w fun e w' => e = .returned (.int .i64 14) ∧ Below N w w' := by
  obtain ⟨tag, an, sl, c⟩ := a
  simp only at ha hc
  subst ha
  subst hc
  unfold vlV
  go_enter Try.func12, Try.ntmps12
  go_wp2_with (first
    | (go_at_call 27; refine (Span_out b ⟨5, an, sl, some ⟨cb, 0, none⟩⟩ 0 ((n : Nat) : Int) _ l cap 0 (fun u => u.cell? ⟨cb, 0, none⟩ = some (.slice (some ⟨d, 0, none⟩) l cap)) (fun _ _ _ hN hb h => keep_c hb hN h) (by omega) (.inl rfl) (by omega) (base_cell b ⟨5, an, sl, some ⟨cb, 0, none⟩⟩ rfl cb rfl _ l cap) hin _ (N + 1) hN1 q0).mono ?_; rintro e w4 ⟨rfl, hb4⟩; obtain ⟨M4, hM4⟩ := sz_some w4; have l4 := below_sz hb4 hN1 hM4; replace h1 := h1.below hb4 (by omega); replace q0 := keep_c hb4 hN1 q0; replace hb1 := hb1.trans (hb4.mono (by omega)); clear hN1 hb4)
    | ((with_reducible show wpList _ _ _ (_ :: _) _ _); first
      | (refine wpl_box rfl 26 (.tmp 1) rfl 4 _ rfl N hN ?_; intro w1 hN1 hb1 h1; replace q0 := keep_c hb1 hN q0; try simp only [pA])
      | (refine wpl_run rfl (.int .i64 ((n : Nat) : Int)) _ (run_lenS (x := .tmp 15) (T := 32) undSY rfl rfl _) ?_; try simp only [pA])
      | (refine wpl_load rfl 26 (.tmp 4) rfl N rfl 26 4 _ h1 _ undVl.choose_spec.1 undVl.choose_spec.2 szVl ?_; try simp only [pA]))
    | fail)
  go_ret
  exact ⟨rfl, hb1⟩
set_option maxRecDepth 100000 in
set_option maxHeartbeats 16000000 in
theorem FillC_far (b : Nat) (a : Vl) (ha : a.tag = 5) (cb : Nat) (hc : a.c = some ⟨cb, 0, none⟩) (d l cap : Nat) (hl1 : l < 1000) (hlc : l ≤ cap) (pb : Option Addr) (n c0 : Nat) (hn : n < 1000) (f : Nat) (hin : inB (sn a.n) 0 0 l = true) (hf : at0 (sn a.n) 0 0 = f) (fk : ¬ f + n ≤ l) (w : World) (N : Nat) (hN : Sz w N) (q0 : w.cell? ⟨cb, 0, none⟩ = some (.slice (some ⟨d, 0, none⟩) l cap)) :
    Calls Try.prog 12 #[.pointer (some ⟨b, 0, none⟩), vlV a, .slice pb n c0] w fun e w' => e = .returned (.int .i64 14) ∧ Below N w w' := by
  have HO : Hid (decide (((n : Nat) : Int) ≤ ((l : Nat) : Int) - ((f : Nat) : Int)) = false) := hid (decide_eq_false (by omega))
  have HF := hid hf
  clear hf
  obtain ⟨tag, an, sl, c⟩ := a
  simp only at ha hc
  subst ha
  subst hc
  unfold vlV
  go_enter Try.func12, Try.ntmps12
  go_wp2_with (first
    | (go_at_call 27; refine (Span_in b ⟨5, an, sl, some ⟨cb, 0, none⟩⟩ 0 ((n : Nat) : Int) _ l cap 0 (fun u => u.cell? ⟨cb, 0, none⟩ = some (.slice (some ⟨d, 0, none⟩) l cap)) (fun _ _ _ hN hb h => keep_c hb hN h) (by omega) (.inl rfl) (base_cell b ⟨5, an, sl, some ⟨cb, 0, none⟩⟩ rfl cb rfl _ l cap) hin _ (N + 1) hN1 q0).mono ?_; rintro e w4 ⟨rfl, hb4⟩; rw [HF.out, HO.out]; obtain ⟨M4, hM4⟩ := sz_some w4; have l4 := below_sz hb4 hN1 hM4; replace h1 := h1.below hb4 (by omega); replace q0 := keep_c hb4 hN1 q0; replace hb1 := hb1.trans (hb4.mono (by omega)); clear hN1 hb4)
    | ((with_reducible show wpList _ _ _ (_ :: _) _ _); first
      | (refine wpl_box rfl 26 (.tmp 1) rfl 4 _ rfl N hN ?_; intro w1 hN1 hb1 h1; replace q0 := keep_c hb1 hN q0; try simp only [pA])
      | (refine wpl_run rfl (.int .i64 ((n : Nat) : Int)) _ (run_lenS (x := .tmp 15) (T := 32) undSY rfl rfl _) ?_; try simp only [pA])
      | (refine wpl_load rfl 26 (.tmp 4) rfl N rfl 26 4 _ h1 _ undVl.choose_spec.1 undVl.choose_spec.2 szVl ?_; try simp only [pA]))
    | fail)
  go_ret
  exact ⟨rfl, hb1⟩
set_option maxRecDepth 100000 in
set_option maxHeartbeats 16000000 in
theorem FillC_ro (b : Nat) (a : Vl) (ha : a.tag = 5) (cb : Nat) (hc : a.c = some ⟨cb, 0, none⟩) (d l cap : Nat) (hl1 : l < 1000) (hlc : l ≤ cap) (pb : Option Addr) (n c0 : Nat) (hn : n < 1000) (f : Nat) (hin : inB (sn a.n) 0 0 l = true) (hf : at0 (sn a.n) 0 0 = f) (fk : f + n ≤ l) (J : World → Prop) (hJ : ∀ w w' N, Sz w N → Below N w w' → J w → J w') (hw : ∀ w N, Sz w N → J w → Calls Try.prog 32 #[.pointer (some ⟨b, 0, none⟩), vlV a] w fun e w' => e = .returned (.bool false) ∧ Below N w w') (w : World) (N : Nat) (hN : Sz w N) (q0 : w.cell? ⟨cb, 0, none⟩ = some (.slice (some ⟨d, 0, none⟩) l cap)) (jw : J w) :
    Calls Try.prog 12 #[.pointer (some ⟨b, 0, none⟩), vlV a, .slice pb n c0] w fun e w' => e = .returned (.int .i64 14) ∧ Below N w w' := by
  have HO : Hid (decide (((n : Nat) : Int) ≤ ((l : Nat) : Int) - ((f : Nat) : Int)) = true) := hid (decide_eq_true (by omega))
  have HF := hid hf
  clear hf
  obtain ⟨tag, an, sl, c⟩ := a
  simp only at ha hc
  subst ha
  subst hc
  unfold vlV at hw ⊢
  go_enter Try.func12, Try.ntmps12
  go_wp2_with (first
    | (go_at_call 27; refine (Span_in b ⟨5, an, sl, some ⟨cb, 0, none⟩⟩ 0 ((n : Nat) : Int) _ l cap 0 (fun u => u.cell? ⟨cb, 0, none⟩ = some (.slice (some ⟨d, 0, none⟩) l cap)) (fun _ _ _ hN hb h => keep_c hb hN h) (by omega) (.inl rfl) (base_cell b ⟨5, an, sl, some ⟨cb, 0, none⟩⟩ rfl cb rfl _ l cap) hin _ (N + 1) hN1 q0).mono ?_; rintro e w4 ⟨rfl, hb4⟩; rw [HF.out, HO.out]; obtain ⟨M4, hM4⟩ := sz_some w4; have l4 := below_sz hb4 hN1 hM4; replace h1 := h1.below hb4 (by omega); replace q0 := keep_c hb4 hN1 q0; replace jw := hJ _ _ _ hN1 hb4 jw; replace hb1 := hb1.trans (hb4.mono (by omega)); clear hN1 hb4)
    | (go_at_call 32; refine (hw _ M4 hM4 jw).mono ?_; rintro e w5 ⟨rfl, hb5⟩; replace hb1 := hb1.trans (hb5.mono (by omega)))
    | ((with_reducible show wpList _ _ _ (_ :: _) _ _); first
      | (refine wpl_box rfl 26 (.tmp 1) rfl 4 _ rfl N hN ?_; intro w1 hN1 hb1 h1; replace q0 := keep_c hb1 hN q0; replace jw := hJ _ _ _ hN hb1 jw; try simp only [pA])
      | (refine wpl_run rfl (.int .i64 ((n : Nat) : Int)) _ (run_lenS (x := .tmp 15) (T := 32) undSY rfl rfl _) ?_; try simp only [pA])
      | (refine wpl_load rfl 26 (.tmp 4) rfl N rfl 26 4 _ h1 _ undVl.choose_spec.1 undVl.choose_spec.2 szVl ?_; try simp only [pA])
      | (refine wpl_want ?_ ?_; rotate_left; (refine wpl_load rfl 26 (.tmp 4) rfl N rfl 26 4 _ h1 _ undVl.choose_spec.1 undVl.choose_spec.2 szVl ?_); rotate_left; rfl; try simp only [pA]))
    | fail)
  go_ret
  exact ⟨rfl, hb1⟩
set_option maxRecDepth 100000 in
set_option maxHeartbeats 16000000 in
theorem FillX_out (b : Nat) (a : Vl) (ha : a.tag = 2) (pb : Option Addr) (n c0 : Nat) (hn : n < 1000) (hin : inB (sn a.n) 0 0 32 = false) (w : World) (N : Nat) (hN : Sz w N) :
    Calls Try.prog 12 #[.pointer (some ⟨b, 0, none⟩), vlV a, .slice pb n c0] w fun e w' => e = .returned (.int .i64 14) ∧ Below N w w' := by
  obtain ⟨tag, an, sl, c⟩ := a
  simp only at ha
  subst ha
  unfold vlV
  go_enter Try.func12, Try.ntmps12
  go_wp2_with (first
    | (go_at_call 27; refine (Span_out b ⟨2, an, sl, c⟩ 0 ((n : Nat) : Int) _ 32 32 0 (fun _ => True) (fun _ _ _ _ _ _ => trivial) (by omega) (.inl rfl) (by omega) (base_ctx b ⟨2, an, sl, c⟩ rfl) hin _ (N + 1) hN1 trivial).mono ?_; rintro e w4 ⟨rfl, hb4⟩; obtain ⟨M4, hM4⟩ := sz_some w4; have l4 := below_sz hb4 hN1 hM4; replace h1 := h1.below hb4 (by omega); replace hb1 := hb1.trans (hb4.mono (by omega)); clear hN1 hb4)
    | ((with_reducible show wpList _ _ _ (_ :: _) _ _); first
      | (refine wpl_box rfl 26 (.tmp 1) rfl 4 _ rfl N hN ?_; intro w1 hN1 hb1 h1; try simp only [pA])
      | (refine wpl_run rfl (.int .i64 ((n : Nat) : Int)) _ (run_lenS (x := .tmp 15) (T := 32) undSY rfl rfl _) ?_; try simp only [pA])
      | (refine wpl_load rfl 26 (.tmp 4) rfl N rfl 26 4 _ h1 _ undVl.choose_spec.1 undVl.choose_spec.2 szVl ?_; try simp only [pA]))
    | fail)
  go_ret
  exact ⟨rfl, hb1⟩
set_option maxRecDepth 100000 in
set_option maxHeartbeats 16000000 in
theorem FillX_far (b : Nat) (a : Vl) (ha : a.tag = 2) (pb : Option Addr) (n c0 : Nat) (hn : n < 1000) (f : Nat) (hin : inB (sn a.n) 0 0 32 = true) (hf : at0 (sn a.n) 0 0 = f) (fk : ¬ f + n ≤ 32) (w : World) (N : Nat) (hN : Sz w N) :
    Calls Try.prog 12 #[.pointer (some ⟨b, 0, none⟩), vlV a, .slice pb n c0] w fun e w' => e = .returned (.int .i64 14) ∧ Below N w w' := by
  have HO : Hid (decide (((n : Nat) : Int) ≤ ((32 : Nat) : Int) - ((f : Nat) : Int)) = false) := hid (decide_eq_false (by omega))
  have HF := hid hf
  clear hf
  obtain ⟨tag, an, sl, c⟩ := a
  simp only at ha
  subst ha
  unfold vlV
  go_enter Try.func12, Try.ntmps12
  go_wp2_with (first
    | (go_at_call 27; refine (Span_in b ⟨2, an, sl, c⟩ 0 ((n : Nat) : Int) _ 32 32 0 (fun _ => True) (fun _ _ _ _ _ _ => trivial) (by omega) (.inl rfl) (base_ctx b ⟨2, an, sl, c⟩ rfl) hin _ (N + 1) hN1 trivial).mono ?_; rintro e w4 ⟨rfl, hb4⟩; rw [HF.out, HO.out]; obtain ⟨M4, hM4⟩ := sz_some w4; have l4 := below_sz hb4 hN1 hM4; replace h1 := h1.below hb4 (by omega); replace hb1 := hb1.trans (hb4.mono (by omega)); clear hN1 hb4)
    | ((with_reducible show wpList _ _ _ (_ :: _) _ _); first
      | (refine wpl_box rfl 26 (.tmp 1) rfl 4 _ rfl N hN ?_; intro w1 hN1 hb1 h1; try simp only [pA])
      | (refine wpl_run rfl (.int .i64 ((n : Nat) : Int)) _ (run_lenS (x := .tmp 15) (T := 32) undSY rfl rfl _) ?_; try simp only [pA])
      | (refine wpl_load rfl 26 (.tmp 4) rfl N rfl 26 4 _ h1 _ undVl.choose_spec.1 undVl.choose_spec.2 szVl ?_; try simp only [pA]))
    | fail)
  go_ret
  exact ⟨rfl, hb1⟩
set_option maxRecDepth 100000 in
set_option maxHeartbeats 16000000 in
theorem FillX_ro (b : Nat) (a : Vl) (ha : a.tag = 2) (pb : Option Addr) (n c0 : Nat) (hn : n < 1000) (f : Nat) (hin : inB (sn a.n) 0 0 32 = true) (hf : at0 (sn a.n) 0 0 = f) (fk : f + n ≤ 32) (w : World) (N : Nat) (hN : Sz w N) :
    Calls Try.prog 12 #[.pointer (some ⟨b, 0, none⟩), vlV a, .slice pb n c0] w fun e w' => e = .returned (.int .i64 14) ∧ Below N w w' := by
  have HO : Hid (decide (((n : Nat) : Int) ≤ ((32 : Nat) : Int) - ((f : Nat) : Int)) = true) := hid (decide_eq_true (by omega))
  have HF := hid hf
  clear hf
  obtain ⟨tag, an, sl, c⟩ := a
  simp only at ha
  subst ha
  unfold vlV
  go_enter Try.func12, Try.ntmps12
  go_wp2_with (first
    | (go_at_call 27; refine (Span_in b ⟨2, an, sl, c⟩ 0 ((n : Nat) : Int) _ 32 32 0 (fun _ => True) (fun _ _ _ _ _ _ => trivial) (by omega) (.inl rfl) (base_ctx b ⟨2, an, sl, c⟩ rfl) hin _ (N + 1) hN1 trivial).mono ?_; rintro e w4 ⟨rfl, hb4⟩; rw [HF.out, HO.out]; obtain ⟨M4, hM4⟩ := sz_some w4; have l4 := below_sz hb4 hN1 hM4; replace h1 := h1.below hb4 (by omega); replace hb1 := hb1.trans (hb4.mono (by omega)); clear hN1 hb4)
    | (go_at_call 32; refine (Writable_ctx b ⟨2, an, sl, c⟩ rfl _ M4 hM4).mono ?_; rintro e w5 ⟨rfl, hb5⟩; replace hb1 := hb1.trans (hb5.mono (by omega)))
    | ((with_reducible show wpList _ _ _ (_ :: _) _ _); first
      | (refine wpl_box rfl 26 (.tmp 1) rfl 4 _ rfl N hN ?_; intro w1 hN1 hb1 h1; try simp only [pA])
      | (refine wpl_run rfl (.int .i64 ((n : Nat) : Int)) _ (run_lenS (x := .tmp 15) (T := 32) undSY rfl rfl _) ?_; try simp only [pA])
      | (refine wpl_load rfl 26 (.tmp 4) rfl N rfl 26 4 _ h1 _ undVl.choose_spec.1 undVl.choose_spec.2 szVl ?_; try simp only [pA])
      | (refine wpl_want ?_ ?_; rotate_left; (refine wpl_load rfl 26 (.tmp 4) rfl N rfl 26 4 _ h1 _ undVl.choose_spec.1 undVl.choose_spec.2 szVl ?_); rotate_left; rfl; try simp only [pA]))
    | fail)
  go_ret
  exact ⟨rfl, hb1⟩
theorem LoadC_no (b : Nat) (a : Vl) (ha : a.tag = 5) (cb : Nat) (hc : a.c = some ⟨cb, 0, none⟩) (d l cap : Nat) (hl1 : l < 1000) (hlc : l ≤ cap) (off : Int) (k : Nat) (hk : sizeOk k) (ho : -9223372036854775808 ≤ off ∧ off < 9223372036854775808) (h : ¬ (inB (sn a.n) off 0 l = true ∧ at0 (sn a.n) off 0 + k ≤ l)) (w : World) (N : Nat) (hN : Sz w N) (q0 : w.cell? ⟨cb, 0, none⟩ = some (.slice (some ⟨d, 0, none⟩) l cap)) :
    Calls Try.prog 8 #[.pointer (some ⟨b, 0, none⟩), vlV a, .int .i64 off, .int .i64 ((k : Nat) : Int)] w fun e w' => e = .returned (.tuple #[vlV zeroV, .int .i64 14]) ∧ Below N w w' := by
  cases hin : inB (sn a.n) off 0 l
  · exact LoadC_out b a ha cb hc d l cap hl1 hlc off k hk ho hin w N hN q0
  · exact LoadC_far b a ha cb hc d l cap hl1 hlc off k hk _ hin rfl (fun h2 => h ⟨hin, h2⟩) w N hN q0
theorem LoadX_no (b : Nat) (a : Vl) (ha : a.tag = 2) (off : Int) (k : Nat) (hk : sizeOk k) (ho : -9223372036854775808 ≤ off ∧ off < 9223372036854775808) (h : ¬ (inB (sn a.n) off 0 32 = true ∧ at0 (sn a.n) off 0 + k ≤ 32)) (w : World) (N : Nat) (hN : Sz w N) :
    Calls Try.prog 8 #[.pointer (some ⟨b, 0, none⟩), vlV a, .int .i64 off, .int .i64 ((k : Nat) : Int)] w fun e w' => e = .returned (.tuple #[vlV zeroV, .int .i64 14]) ∧ Below N w w' := by
  cases hin : inB (sn a.n) off 0 32
  · exact LoadX_out b a ha off k hk ho hin w N hN
  · exact LoadX_far b a ha off k hk _ hin rfl (fun h2 => h ⟨hin, h2⟩) w N hN
theorem SaveC_no (b : Nat) (a v : Vl) (ha : a.tag = 5) (cb : Nat) (hc : a.c = some ⟨cb, 0, none⟩) (d l cap : Nat) (hl1 : l < 1000) (hlc : l ≤ cap) (hv : 1 ≤ v.tag ∧ v.tag ≤ 5) (off : Int) (k : Nat) (hk : sizeOk k) (ho : -9223372036854775808 ≤ off ∧ off < 9223372036854775808) (h : ¬ (inB (sn a.n) off 0 l = true ∧ at0 (sn a.n) off 0 + k ≤ l)) (w : World) (N : Nat) (hN : Sz w N) (q0 : w.cell? ⟨cb, 0, none⟩ = some (.slice (some ⟨d, 0, none⟩) l cap)) :
    Calls Try.prog 11 #[.pointer (some ⟨b, 0, none⟩), vlV a, .int .i64 off, .int .i64 ((k : Nat) : Int), vlV v] w fun e w' => e = .returned (.int .i64 14) ∧ Below N w w' := by
  cases hin : inB (sn a.n) off 0 l
  · exact SaveC_out b a v ha cb hc d l cap hl1 hlc hv off k hk ho hin w N hN q0
  · exact SaveC_far b a v ha cb hc d l cap hl1 hlc hv off k hk _ hin rfl (fun h2 => h ⟨hin, h2⟩) w N hN q0
theorem SaveC_shut (b : Nat) (a v : Vl) (ha : a.tag = 5) (cb : Nat) (hc : a.c = some ⟨cb, 0, none⟩) (d l cap : Nat) (hl1 : l < 1000) (hlc : l ≤ cap) (hv : 1 ≤ v.tag ∧ v.tag ≤ 5) (off : Int) (k : Nat) (hk : sizeOk k) (ho : -9223372036854775808 ≤ off ∧ off < 9223372036854775808) (J : World → Prop) (hJ : ∀ w w' N, Sz w N → Below N w w' → J w → J w') (hw : ∀ w N, Sz w N → J w → Calls Try.prog 32 #[.pointer (some ⟨b, 0, none⟩), vlV a] w fun e w' => e = .returned (.bool false) ∧ Below N w w') (w : World) (N : Nat) (hN : Sz w N) (q0 : w.cell? ⟨cb, 0, none⟩ = some (.slice (some ⟨d, 0, none⟩) l cap)) (jw : J w) :
    Calls Try.prog 11 #[.pointer (some ⟨b, 0, none⟩), vlV a, .int .i64 off, .int .i64 ((k : Nat) : Int), vlV v] w fun e w' => e = .returned (.int .i64 14) ∧ Below N w w' := by
  by_cases h : inB (sn a.n) off 0 l = true ∧ at0 (sn a.n) off 0 + k ≤ l
  · exact SaveC_ro b a v ha cb hc d l cap hl1 hlc hv off k hk _ h.1 rfl h.2 J hJ hw w N hN q0 jw
  · exact SaveC_no b a v ha cb hc d l cap hl1 hlc hv off k hk ho h w N hN q0
theorem SaveX_shut (b : Nat) (a v : Vl) (ha : a.tag = 2) (hv : 1 ≤ v.tag ∧ v.tag ≤ 5) (off : Int) (k : Nat) (hk : sizeOk k) (ho : -9223372036854775808 ≤ off ∧ off < 9223372036854775808) (w : World) (N : Nat) (hN : Sz w N) :
    Calls Try.prog 11 #[.pointer (some ⟨b, 0, none⟩), vlV a, .int .i64 off, .int .i64 ((k : Nat) : Int), vlV v] w fun e w' => e = .returned (.int .i64 14) ∧ Below N w w' := by
  cases hin : inB (sn a.n) off 0 32
  · exact SaveX_out b a v ha hv off k hk ho hin w N hN
  · by_cases h2 : at0 (sn a.n) off 0 + k ≤ 32
    · exact SaveX_ro b a v ha hv off k hk _ hin rfl h2 w N hN
    · exact SaveX_far b a v ha hv off k hk _ hin rfl h2 w N hN
theorem FillC_shut (b : Nat) (a : Vl) (ha : a.tag = 5) (cb : Nat) (hc : a.c = some ⟨cb, 0, none⟩) (d l cap : Nat) (hl1 : l < 1000) (hlc : l ≤ cap) (pb : Option Addr) (n c0 : Nat) (hn : n < 1000) (J : World → Prop) (hJ : ∀ w w' N, Sz w N → Below N w w' → J w → J w') (hw : ∀ w N, Sz w N → J w → Calls Try.prog 32 #[.pointer (some ⟨b, 0, none⟩), vlV a] w fun e w' => e = .returned (.bool false) ∧ Below N w w') (w : World) (N : Nat) (hN : Sz w N) (q0 : w.cell? ⟨cb, 0, none⟩ = some (.slice (some ⟨d, 0, none⟩) l cap)) (jw : J w) :
    Calls Try.prog 12 #[.pointer (some ⟨b, 0, none⟩), vlV a, .slice pb n c0] w fun e w' => e = .returned (.int .i64 14) ∧ Below N w w' := by
  cases hin : inB (sn a.n) 0 0 l
  · exact FillC_out b a ha cb hc d l cap hl1 hlc pb n c0 hn hin w N hN q0
  · by_cases h2 : at0 (sn a.n) 0 0 + n ≤ l
    · exact FillC_ro b a ha cb hc d l cap hl1 hlc pb n c0 hn _ hin rfl h2 J hJ hw w N hN q0 jw
    · exact FillC_far b a ha cb hc d l cap hl1 hlc pb n c0 hn _ hin rfl h2 w N hN q0
theorem FillX_shut (b : Nat) (a : Vl) (ha : a.tag = 2) (pb : Option Addr) (n c0 : Nat) (hn : n < 1000) (w : World) (N : Nat) (hN : Sz w N) :
    Calls Try.prog 12 #[.pointer (some ⟨b, 0, none⟩), vlV a, .slice pb n c0] w fun e w' => e = .returned (.int .i64 14) ∧ Below N w w' := by
  cases hin : inB (sn a.n) 0 0 32
  · exact FillX_out b a ha pb n c0 hn hin w N hN
  · by_cases h2 : at0 (sn a.n) 0 0 + n ≤ 32
    · exact FillX_ro b a ha pb n c0 hn _ hin rfl h2 w N hN
    · exact FillX_far b a ha pb n c0 hn _ hin rfl h2 w N hN
end Go.Proofs.Ytjcjmlmdcjkceaa
