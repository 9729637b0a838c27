/- A program's memory: what is saved to the stack. -/
import Derived.Test.YtjcjmlmdcjkceaaRm4
namespace Go.Proofs.Ytjcjmlmdcjkceaa
open Go Go.RowKit
/-- A number's bytes. -/
def byM (m : Me) (f t : Nat) (x : W) : Me := ⟨m.X, fun j => if f ≤ j ∧ j < f + t then (x >>> (8 * (j - f))) &&& 255#64 else m.B j, m.Wr, m.K, m.mp⟩
theorem byM_zero (m : Me) (f : Nat) (x : W) : byM m f 0 x = m := by
  unfold byM
  have h1 : (fun j => if f ≤ j ∧ j < f + 0 then (x >>> (8 * (j - f))) &&& 255#64 else m.B j) = m.B := by funext j; rw [if_neg (by omega)]
  rw [h1]
theorem byM_step (m : Me) (f t : Nat) (x : W) : (byM m f t x).setB (f + t) ((x >>> (8 * t)) &&& 255#64) = byM m f (t + 1) x := by
  unfold byM Me.setB
  simp only [Me.mk.injEq, true_and, and_true]
  funext j
  by_cases e : j = f + t
  · rw [if_pos e, if_pos (by omega), e, Nat.add_sub_cancel_left]
  · rw [if_neg e]
    by_cases h : f ≤ j ∧ j < f + t
    · rw [if_pos h, if_pos (by omega)]
    · rw [if_neg h, if_neg (by omega)]
set_option maxRecDepth 100000 in
set_option maxHeartbeats 8000000 in
theorem Save_out (b : Nat) (a v : Vl) (ha : a.tag = 3) (hv : 1 ≤ v.tag ∧ v.tag ≤ 5) (m : Me) (off : Int) (k : Nat) (hk : sizeOk k) (ho : -9223372036854775808 ≤ off ∧ off < 9223372036854775808) (hin : inB (sn a.n) off (-64) 64 = false) (w : World) (N : Nat) (hN : Sz w N) (hh : Has w b 83 193 (meC m)) : Calls Try.prog 11 #[.pointer (some ⟨b, 0, none⟩), vlV a, .int .i64 off, .int .i64 ((k : Nat) : Int), vlV v] w fun e w' => e = .returned (.int .i64 14) ∧ Grew (some b) w w' ∧ Has w' b 83 193 (meC (m)) := by
  have HK := hid hk
  have HV1 : Hid (decide (v.tag ≤ 0) = false) := hid (decide_eq_false (by omega))
  have HV2 : Hid (decide (5 < v.tag) = false) := hid (decide_eq_false (by omega))
  have hbl := hh.ltN hN
  clear hk hv
  obtain ⟨tag, an, sl, c⟩ := a
  simp only at ha
  subst ha
  unfold vlV
  go_enter Try.func11, Try.ntmps11
  go_wp2_with (first
    | (refine wpl_box rfl 26 (.tmp 1) rfl 4 _ rfl N hN ?_; intro w1 hN1 hb1 h1; replace hh := hh.below hb1 (by omega))
    | (refine wpl_box rfl 26 (.tmp 4) rfl 4 _ rfl (N + 1) hN1 ?_; intro w2 hN2 hb2 h2; replace h1 := h1.below hb2 (by omega); replace hh := hh.below hb2 (by omega); have c9 : w2.cell? ⟨N + 1, 0, none⟩ = some (.int .i64 v.tag) := h2.cell (j := 0) (by omega); replace hb2 := hb1.trans (hb2.mono (by omega)); clear hb1 hN1)
    | (go_at_call 26; refine (IsSize_ok k HK.out _).mono ?_; rintro e w3 ⟨rfl, rfl⟩)
    | (refine wpl_want (by rfl) ?_; refine wpl_run rfl (.bool false) _ (run_leqI (x := .tmp 24) (y := .const (.int .i64 0)) rfl rfl rfl (q := 0) HV1.out _) ?_)
    | (refine wpl_want (by rfl) ?_; refine wpl_run rfl (.bool false) _ (run_gtrI (x := .tmp 29) (y := .const (.int .i64 5)) rfl rfl rfl (q := 5) HV2.out _) ?_)
    | (refine wpl_load rfl 26 (.tmp 6) rfl N rfl 26 4 _ h1 _ undVl.choose_spec.1 undVl.choose_spec.2 szVl ?_)
    | (go_at_call 27; refine (Span_out b ⟨3, an, sl, c⟩ off ((k : Nat) : Int) _ 64 64 (-64) (fun _ => True) (fun _ _ _ _ _ _ => trivial) (by omega) (.inr rfl) ho (base_stack b _ rfl) hin _ (N + 1 + 1) hN2 trivial).mono ?_; rintro e w4 ⟨rfl, hb4⟩; replace hh := hh.below hb4 (by omega); replace hb2 := hb2.trans (hb4.mono (by omega)); clear h1 h2 c9 hN2 hb4)
    | fail)
  go_ret
  exact ⟨rfl, below_grew hb2 hN, hh⟩
set_option maxRecDepth 100000 in
set_option maxHeartbeats 8000000 in
theorem Save_far (b : Nat) (a v : Vl) (ha : a.tag = 3) (hv : 1 ≤ v.tag ∧ v.tag ≤ 5) (m : Me) (off : Int) (k : Nat) (hk : sizeOk k) (f : Nat) (hin : inB (sn a.n) off (-64) 64 = true) (hf : at0 (sn a.n) off (-64) = f) (hfk : ¬ f + k ≤ 64) (w : World) (N : Nat) (hN : Sz w N) (hh : Has w b 83 193 (meC m)) : Calls Try.prog 11 #[.pointer (some ⟨b, 0, none⟩), vlV a, .int .i64 off, .int .i64 ((k : Nat) : Int), vlV v] w fun e w' => e = .returned (.int .i64 14) ∧ Grew (some b) w w' ∧ Has w' b 83 193 (meC (m)) := by
  have HK := hid hk
  have HV1 : Hid (decide (v.tag ≤ 0) = false) := hid (decide_eq_false (by omega))
  have HV2 : Hid (decide (5 < v.tag) = false) := hid (decide_eq_false (by omega))
  have hbl := hh.ltN hN
  have eo2 : decide (((k : Nat) : Int) ≤ ((64 : Nat) : Int) - ((f : Nat) : Int)) = decide (f + k ≤ 64) := by rw [decide_eq_decide]; omega
  have hk8 : k ≤ 8 ∧ 0 < k := by rcases hk with rfl | rfl | rfl | rfl <;> omega
  have hf64 : f ≤ 64 := by rw [← hf]; exact (span_in (len := 64) (by omega) (.inr rfl) hin).2.2
  have HF := hid hf
  have f1 : (0 : Int) ≤ (f : Int) := by omega
  have f2 : (f : Int) ≤ 64 := by omega
  have HO := hid (eo2.trans (decide_eq_false hfk))
  clear eo2 hf hk hv
  obtain ⟨tag, an, sl, c⟩ := a
  simp only at ha
  subst ha
  unfold vlV
  go_enter Try.func11, Try.ntmps11
  go_wp2_with (first
    | (refine wpl_box rfl 26 (.tmp 1) rfl 4 _ rfl N hN ?_; intro w1 hN1 hb1 h1; replace hh := hh.below hb1 (by omega))
    | (refine wpl_box rfl 26 (.tmp 4) rfl 4 _ rfl (N + 1) hN1 ?_; intro w2 hN2 hb2 h2; replace h1 := h1.below hb2 (by omega); replace hh := hh.below hb2 (by omega); have c9 : w2.cell? ⟨N + 1, 0, none⟩ = some (.int .i64 v.tag) := h2.cell (j := 0) (by omega); replace hb2 := hb1.trans (hb2.mono (by omega)); clear hb1 hN1)
    | (go_at_call 26; refine (IsSize_ok k HK.out _).mono ?_; rintro e w3 ⟨rfl, rfl⟩)
    | (refine wpl_want (by rfl) ?_; refine wpl_run rfl (.bool false) _ (run_leqI (x := .tmp 24) (y := .const (.int .i64 0)) rfl rfl rfl (q := 0) HV1.out _) ?_)
    | (refine wpl_want (by rfl) ?_; refine wpl_run rfl (.bool false) _ (run_gtrI (x := .tmp 29) (y := .const (.int .i64 5)) rfl rfl rfl (q := 5) HV2.out _) ?_)
    | (refine wpl_load rfl 26 (.tmp 6) rfl N rfl 26 4 _ h1 _ undVl.choose_spec.1 undVl.choose_spec.2 szVl ?_)
    | (go_at_call 27; refine (Span_in b ⟨3, an, sl, c⟩ off ((k : Nat) : Int) _ 64 64 (-64) (fun _ => True) (fun _ _ _ _ _ _ => trivial) (by omega) (.inr rfl) (base_stack b _ rfl) hin _ (N + 1 + 1) hN2 trivial).mono ?_; rintro e w4 ⟨rfl, hb4⟩; rw [HF.out, HO.out]; obtain ⟨M4, hM4⟩ := sz_some w4; have l4 := below_sz hb4 hN2 hM4; replace h1 := h1.below hb4 (by omega); replace h2 := h2.below hb4 (by omega); replace hh := hh.below hb4 (by omega); replace c9 := keep_c hb4 hN2 c9; replace hb2 := hb2.trans (hb4.mono (by omega)); clear hN2 hb4)
    | fail)
  go_ret
  exact ⟨rfl, below_grew hb2 hN, hh⟩
set_option maxRecDepth 100000 in
set_option maxHeartbeats 8000000 in
theorem Save_no (b : Nat) (a v : Vl) (ha : a.tag = 3) (hv : 1 ≤ v.tag ∧ v.tag ≤ 5) (m : Me) (off : Int) (k : Nat) (hk : sizeOk k) (f : Nat) (hin : inB (sn a.n) off (-64) 64 = true) (hf : at0 (sn a.n) off (-64) = f) (hfk : f + k ≤ 64) (ht : ¬ v.tag = 1) (hw : wordB f k = false) (w : World) (N : Nat) (hN : Sz w N) (hh : Has w b 83 193 (meC m)) : Calls Try.prog 11 #[.pointer (some ⟨b, 0, none⟩), vlV a, .int .i64 off, .int .i64 ((k : Nat) : Int), vlV v] w fun e w' => e = .returned (.int .i64 14) ∧ Grew (some b) w w' ∧ Has w' b 83 193 (meC (m)) := by
  have HK := hid hk
  have HV1 : Hid (decide (v.tag ≤ 0) = false) := hid (decide_eq_false (by omega))
  have HV2 : Hid (decide (5 < v.tag) = false) := hid (decide_eq_false (by omega))
  have hbl := hh.ltN hN
  have eo2 : decide (((k : Nat) : Int) ≤ ((64 : Nat) : Int) - ((f : Nat) : Int)) = decide (f + k ≤ 64) := by rw [decide_eq_decide]; omega
  have hk8 : k ≤ 8 ∧ 0 < k := by rcases hk with rfl | rfl | rfl | rfl <;> omega
  have hf64 : f ≤ 64 := by rw [← hf]; exact (span_in (len := 64) (by omega) (.inr rfl) hin).2.2
  have HF := hid hf
  have f1 : (0 : Int) ≤ (f : Int) := by omega
  have f2 : (f : Int) ≤ 64 := by omega
  have HO := hid (eo2.trans (decide_eq_true hfk))
  have HT : Hid ((v.tag != 1) = true) := hid (by rw [bne_iff_ne]; exact ht)
  have HW := hid hw
  clear eo2 hf hk hv hw
  obtain ⟨tag, an, sl, c⟩ := a
  simp only at ha
  subst ha
  unfold vlV
  go_enter Try.func11, Try.ntmps11
  go_wp2_with (first
    | (refine wpl_box rfl 26 (.tmp 1) rfl 4 _ rfl N hN ?_; intro w1 hN1 hb1 h1; replace hh := hh.below hb1 (by omega))
    | (refine wpl_box rfl 26 (.tmp 4) rfl 4 _ rfl (N + 1) hN1 ?_; intro w2 hN2 hb2 h2; replace h1 := h1.below hb2 (by omega); replace hh := hh.below hb2 (by omega); have c9 : w2.cell? ⟨N + 1, 0, none⟩ = some (.int .i64 v.tag) := h2.cell (j := 0) (by omega); replace hb2 := hb1.trans (hb2.mono (by omega)); clear hb1 hN1)
    | (go_at_call 26; refine (IsSize_ok k HK.out _).mono ?_; rintro e w3 ⟨rfl, rfl⟩)
    | (refine wpl_want (by rfl) ?_; refine wpl_run rfl (.bool false) _ (run_leqI (x := .tmp 24) (y := .const (.int .i64 0)) rfl rfl rfl (q := 0) HV1.out _) ?_)
    | (refine wpl_want (by rfl) ?_; refine wpl_run rfl (.bool false) _ (run_gtrI (x := .tmp 29) (y := .const (.int .i64 5)) rfl rfl rfl (q := 5) HV2.out _) ?_)
    | (refine wpl_load rfl 26 (.tmp 6) rfl N rfl 26 4 _ h1 _ undVl.choose_spec.1 undVl.choose_spec.2 szVl ?_)
    | (go_at_call 27; refine (Span_in b ⟨3, an, sl, c⟩ off ((k : Nat) : Int) _ 64 64 (-64) (fun _ => True) (fun _ _ _ _ _ _ => trivial) (by omega) (.inr rfl) (base_stack b _ rfl) hin _ (N + 1 + 1) hN2 trivial).mono ?_; rintro e w4 ⟨rfl, hb4⟩; rw [HF.out, HO.out]; obtain ⟨M4, hM4⟩ := sz_some w4; have l4 := below_sz hb4 hN2 hM4; replace h1 := h1.below hb4 (by omega); replace h2 := h2.below hb4 (by omega); replace hh := hh.below hb4 (by omega); replace c9 := keep_c hb4 hN2 c9; replace hb2 := hb2.trans (hb4.mono (by omega)); clear hN2 hb4)
    | (refine wpl_want (by rfl) ?_; refine wpl_load rfl 26 (.tmp 6) rfl N rfl 26 4 _ h1 _ undVl.choose_spec.1 undVl.choose_spec.2 szVl ?_)
    | (go_at_call 32; refine (Writable_stack b ⟨3, an, sl, c⟩ rfl _ M4 hM4).mono ?_; rintro e w5 ⟨rfl, hb5⟩; obtain ⟨M5, hM5⟩ := sz_some w5; have l5 := below_sz hb5 hM4 hM5; replace h1 := h1.below hb5 (by omega); replace h2 := h2.below hb5 (by omega); replace hh := hh.below hb5 (by omega); replace c9 := keep_c hb5 hM4 c9; replace hb2 := hb2.trans (hb5.mono (by omega)); clear hM4 hb5)
    | (refine wpl_run rfl (.bool true) _ (run_neqI (x := .tmp 50) (y := .const (.int .i64 1)) rfl rfl rfl (q := 1) HT.out _) ?_)
    | (refine wpl_load rfl 26 (.tmp 9) rfl (N + 1) rfl 26 4 _ h2 _ undVl.choose_spec.1 undVl.choose_spec.2 szVl ?_)
    | (go_at_call 33; refine (Keep_no b ⟨3, an, sl, c⟩ v f k (.inr HW.out) _ M5 hM5).mono ?_; rintro e w6 ⟨rfl, hb6⟩; replace hh := hh.below hb6 (by omega); replace hb2 := hb2.trans (hb6.mono (by omega)))
    | fail)
  go_ret
  exact ⟨rfl, below_grew hb2 hN, hh⟩
set_option maxRecDepth 100000 in
set_option maxHeartbeats 8000000 in
theorem Save_val (b : Nat) (a v : Vl) (ha : a.tag = 3) (hv : 1 ≤ v.tag ∧ v.tag ≤ 5) (m : Me) (off : Int) (k : Nat) (hk : sizeOk k) (f : Nat) (hin : inB (sn a.n) off (-64) 64 = true) (hf : at0 (sn a.n) off (-64) = f) (hfk : f + k ≤ 64) (ht : ¬ v.tag = 1) (hw : wordB f k = true) (w : World) (N : Nat) (hN : Sz w N) (hh : Has w b 83 193 (meC m)) : Calls Try.prog 11 #[.pointer (some ⟨b, 0, none⟩), vlV a, .int .i64 off, .int .i64 ((k : Nat) : Int), vlV v] w fun e w' => e = .returned (.int .i64 0) ∧ Grew (some b) w w' ∧ Has w' b 83 193 (meC (kpM m f v)) := by
  have HK := hid hk
  have HV1 : Hid (decide (v.tag ≤ 0) = false) := hid (decide_eq_false (by omega))
  have HV2 : Hid (decide (5 < v.tag) = false) := hid (decide_eq_false (by omega))
  have hbl := hh.ltN hN
  have eo2 : decide (((k : Nat) : Int) ≤ ((64 : Nat) : Int) - ((f : Nat) : Int)) = decide (f + k ≤ 64) := by rw [decide_eq_decide]; omega
  have hk8 : k ≤ 8 ∧ 0 < k := by rcases hk with rfl | rfl | rfl | rfl <;> omega
  have hf64 : f ≤ 64 := by rw [← hf]; exact (span_in (len := 64) (by omega) (.inr rfl) hin).2.2
  have HF := hid hf
  have f1 : (0 : Int) ≤ (f : Int) := by omega
  have f2 : (f : Int) ≤ 64 := by omega
  have HO := hid (eo2.trans (decide_eq_true hfk))
  have HT : Hid ((v.tag != 1) = true) := hid (by rw [bne_iff_ne]; exact ht)
  have HW := hid hw
  clear eo2 hf hk hv hw
  obtain ⟨tag, an, sl, c⟩ := a
  simp only at ha
  subst ha
  unfold vlV
  go_enter Try.func11, Try.ntmps11
  go_wp2_with (first
    | (refine wpl_box rfl 26 (.tmp 1) rfl 4 _ rfl N hN ?_; intro w1 hN1 hb1 h1; replace hh := hh.below hb1 (by omega))
    | (refine wpl_box rfl 26 (.tmp 4) rfl 4 _ rfl (N + 1) hN1 ?_; intro w2 hN2 hb2 h2; replace h1 := h1.below hb2 (by omega); replace hh := hh.below hb2 (by omega); have c9 : w2.cell? ⟨N + 1, 0, none⟩ = some (.int .i64 v.tag) := h2.cell (j := 0) (by omega); replace hb2 := hb1.trans (hb2.mono (by omega)); clear hb1 hN1)
    | (go_at_call 26; refine (IsSize_ok k HK.out _).mono ?_; rintro e w3 ⟨rfl, rfl⟩)
    | (refine wpl_want (by rfl) ?_; refine wpl_run rfl (.bool false) _ (run_leqI (x := .tmp 24) (y := .const (.int .i64 0)) rfl rfl rfl (q := 0) HV1.out _) ?_)
    | (refine wpl_want (by rfl) ?_; refine wpl_run rfl (.bool false) _ (run_gtrI (x := .tmp 29) (y := .const (.int .i64 5)) rfl rfl rfl (q := 5) HV2.out _) ?_)
    | (refine wpl_load rfl 26 (.tmp 6) rfl N rfl 26 4 _ h1 _ undVl.choose_spec.1 undVl.choose_spec.2 szVl ?_)
    | (go_at_call 27; refine (Span_in b ⟨3, an, sl, c⟩ off ((k : Nat) : Int) _ 64 64 (-64) (fun _ => True) (fun _ _ _ _ _ _ => trivial) (by omega) (.inr rfl) (base_stack b _ rfl) hin _ (N + 1 + 1) hN2 trivial).mono ?_; rintro e w4 ⟨rfl, hb4⟩; rw [HF.out, HO.out]; obtain ⟨M4, hM4⟩ := sz_some w4; have l4 := below_sz hb4 hN2 hM4; replace h1 := h1.below hb4 (by omega); replace h2 := h2.below hb4 (by omega); replace hh := hh.below hb4 (by omega); replace c9 := keep_c hb4 hN2 c9; replace hb2 := hb2.trans (hb4.mono (by omega)); clear hN2 hb4)
    | (refine wpl_want (by rfl) ?_; refine wpl_load rfl 26 (.tmp 6) rfl N rfl 26 4 _ h1 _ undVl.choose_spec.1 undVl.choose_spec.2 szVl ?_)
    | (go_at_call 32; refine (Writable_stack b ⟨3, an, sl, c⟩ rfl _ M4 hM4).mono ?_; rintro e w5 ⟨rfl, hb5⟩; obtain ⟨M5, hM5⟩ := sz_some w5; have l5 := below_sz hb5 hM4 hM5; replace h1 := h1.below hb5 (by omega); replace h2 := h2.below hb5 (by omega); replace hh := hh.below hb5 (by omega); replace c9 := keep_c hb5 hM4 c9; replace hb2 := hb2.trans (hb5.mono (by omega)); clear hM4 hb5)
    | (refine wpl_run rfl (.bool true) _ (run_neqI (x := .tmp 50) (y := .const (.int .i64 1)) rfl rfl rfl (q := 1) HT.out _) ?_)
    | (refine wpl_load rfl 26 (.tmp 9) rfl (N + 1) rfl 26 4 _ h2 _ undVl.choose_spec.1 undVl.choose_spec.2 szVl ?_)
    | (go_at_call 33; refine (Keep_yes b ⟨3, an, sl, c⟩ v m f k rfl HW.out hfk _ M5 hM5 hh).mono ?_; rintro e w6 ⟨rfl, g6, h6⟩)
    | fail)
  go_ret
  exact ⟨rfl, (below_grew hb2 hN).trans g6, h6⟩
set_option maxRecDepth 100000 in
set_option maxHeartbeats 8000000 in
theorem Save_num (b : Nat) (a v : Vl) (ha : a.tag = 3) (hv : 1 ≤ v.tag ∧ v.tag ≤ 5) (m : Me) (off : Int) (k : Nat) (hk : sizeOk k) (f : Nat) (hin : inB (sn a.n) off (-64) 64 = true) (hf : at0 (sn a.n) off (-64) = f) (hfk : f + k ≤ 64) (ht : v.tag = 1) (w : World) (N : Nat) (hN : Sz w N) (hh : Has w b 83 193 (meC m)) : Calls Try.prog 11 #[.pointer (some ⟨b, 0, none⟩), vlV a, .int .i64 off, .int .i64 ((k : Nat) : Int), vlV v] w fun e w' => e = .returned (.int .i64 0) ∧ Grew (some b) w w' ∧ Has w' b 83 193 (meC (byM (wrM m f k) f k v.n)) := by
  have HK := hid hk
  have HV1 : Hid (decide (v.tag ≤ 0) = false) := hid (decide_eq_false (by omega))
  have HV2 : Hid (decide (5 < v.tag) = false) := hid (decide_eq_false (by omega))
  have hbl := hh.ltN hN
  have eo2 : decide (((k : Nat) : Int) ≤ ((64 : Nat) : Int) - ((f : Nat) : Int)) = decide (f + k ≤ 64) := by rw [decide_eq_decide]; omega
  have hk8 : k ≤ 8 ∧ 0 < k := by rcases hk with rfl | rfl | rfl | rfl <;> omega
  have hf64 : f ≤ 64 := by rw [← hf]; exact (span_in (len := 64) (by omega) (.inr rfl) hin).2.2
  have HF := hid hf
  have f1 : (0 : Int) ≤ (f : Int) := by omega
  have f2 : (f : Int) ≤ 64 := by omega
  have HO := hid (eo2.trans (decide_eq_true hfk))
  have HT : Hid ((v.tag != 1) = false) := hid (bne_eq_false_iff_eq.2 ht)
  clear eo2 hf hk hv ht
  obtain ⟨tag, an, sl, c⟩ := a
  simp only at ha
  subst ha
  unfold vlV
  go_enter Try.func11, Try.ntmps11
  go_upto_region 9 with (first
    | (refine wpl_box rfl 26 (.tmp 1) rfl 4 _ rfl N hN ?_; intro w1 hN1 hb1 h1; replace hh := hh.below hb1 (by omega))
    | (refine wpl_box rfl 26 (.tmp 4) rfl 4 _ rfl (N + 1) hN1 ?_; intro w2 hN2 hb2 h2; replace h1 := h1.below hb2 (by omega); replace hh := hh.below hb2 (by omega); have c9 : w2.cell? ⟨N + 1, 0, none⟩ = some (.int .i64 v.tag) := h2.cell (j := 0) (by omega); replace hb2 := hb1.trans (hb2.mono (by omega)); clear hb1 hN1)
    | (go_at_call 26; refine (IsSize_ok k HK.out _).mono ?_; rintro e w3 ⟨rfl, rfl⟩)
    | (refine wpl_want (by rfl) ?_; refine wpl_run rfl (.bool false) _ (run_leqI (x := .tmp 24) (y := .const (.int .i64 0)) rfl rfl rfl (q := 0) HV1.out _) ?_)
    | (refine wpl_want (by rfl) ?_; refine wpl_run rfl (.bool false) _ (run_gtrI (x := .tmp 29) (y := .const (.int .i64 5)) rfl rfl rfl (q := 5) HV2.out _) ?_)
    | (refine wpl_load rfl 26 (.tmp 6) rfl N rfl 26 4 _ h1 _ undVl.choose_spec.1 undVl.choose_spec.2 szVl ?_)
    | (go_at_call 27; refine (Span_in b ⟨3, an, sl, c⟩ off ((k : Nat) : Int) _ 64 64 (-64) (fun _ => True) (fun _ _ _ _ _ _ => trivial) (by omega) (.inr rfl) (base_stack b _ rfl) hin _ (N + 1 + 1) hN2 trivial).mono ?_; rintro e w4 ⟨rfl, hb4⟩; rw [HF.out, HO.out]; obtain ⟨M4, hM4⟩ := sz_some w4; have l4 := below_sz hb4 hN2 hM4; replace h1 := h1.below hb4 (by omega); replace h2 := h2.below hb4 (by omega); replace hh := hh.below hb4 (by omega); replace c9 := keep_c hb4 hN2 c9; replace hb2 := hb2.trans (hb4.mono (by omega)); clear hN2 hb4)
    | (refine wpl_want (by rfl) ?_; refine wpl_load rfl 26 (.tmp 6) rfl N rfl 26 4 _ h1 _ undVl.choose_spec.1 undVl.choose_spec.2 szVl ?_)
    | (go_at_call 32; refine (Writable_stack b ⟨3, an, sl, c⟩ rfl _ M4 hM4).mono ?_; rintro e w5 ⟨rfl, hb5⟩; obtain ⟨M5, hM5⟩ := sz_some w5; have l5 := below_sz hb5 hM4 hM5; replace h1 := h1.below hb5 (by omega); replace h2 := h2.below hb5 (by omega); replace hh := hh.below hb5 (by omega); replace c9 := keep_c hb5 hM4 c9; replace hb2 := hb2.trans (hb5.mono (by omega)); clear hM4 hb5; have c0 : w5.cell? ⟨N, 0, none⟩ = some (.int .i64 3) := h1.cell (j := 0) (by omega))
    | (refine wpl_run rfl (.bool false) _ (run_neqI (x := .tmp 50) (y := .const (.int .i64 1)) rfl rfl rfl (q := 1) HT.out _) ?_)
    | fail)
  go_wp2_with (first
    | (go_at_call 34; refine (Write_any b m f k hfk _ hh).mono ?_; rintro e w6 ⟨rfl, -, T6, h6⟩; replace h1 := h1.touch T6 (by omega); replace h2 := h2.touch T6 (by omega); replace c9 := T6.cell c9 (by simp only; omega); have g6 := (below_grew (b := some b) hb2 hN).trans (touch_grew T6); clear T6 hb2 hh)
    | fail)
  have c8 : w6.cell? ⟨N + 1, 1, none⟩ = some (Q v.n) := h2.cell (j := 1) (by omega)
  clear h1 h2 c9
  go_loopw [14, 66] (fun x14 x66 wr => ∃ t : Nat, t ≤ k ∧ x66 = .int .i64 ((t : Nat) : Int) ∧ Grew (some b) w wr ∧ wr.cell? ⟨N + 1, 1, none⟩ = some (Q v.n) ∧ Has wr b 83 193 (meC (byM (wrM m f k) f t v.n))) (fun _ x66 _ => k - (intOf x66).toNat)
  case atStart => exact ⟨0, by omega, rfl, g6, c8, by rw [byM_zero]; exact h6⟩
  case round =>
    clear h6 g6 c8
    obtain ⟨t, ht, rfl, G, c8, hh⟩ := hrel
    by_cases hlt : t < k
    · have t1 : decide ((t : Int) < (k : Int)) = true := by simp; omega
      go_wp2_with (first
        | (refine wpl_run rfl (.int .i64 ((f + t : Nat) : Int)) _ (run_addN (x := .tmp 70) (y := .tmp 71) rfl rfl rfl (by omega) _) ?_)
        | (refine wpl_run rfl (.int .i64 ((8 * t : Nat) : Int)) _ (run_mul8 (x := .const (.int .i64 8)) (y := .tmp 75) rfl rfl rfl (by omega) _) ?_)
        | (refine wpl_b rfl rfl (bin_shr _ _ _) rfl rfl ?_)
        | (refine wpl_run rfl (Yv ((v.n >>> (8 * t)) &&& 255#64)) _ (run_uy (x := .tmp 77) rfl und64 undY rfl _) ?_)
        | (refine wpl_run rfl (.pointer (some ⟨b, 32 + (f + t), none⟩)) _ (run_ixL 32 5 undSY szY1 (.tmp 69) (.tmp 72) rfl rfl rfl (k := f + t) (by omega) _) ?_)
        | (refine wpl_set rfl 5 (.tmp 79) (.tmp 78) rfl b (32 + (f + t)) rfl (Yv ((v.n >>> (8 * t)) &&& 255#64)) rfl szY1 rfl rfl 83 193 _ hh (by omega) ?_; intro w7 t7 h7; replace h7 := h7.congr (g := meC (byM (wrM m f k) f (t + 1) v.n)) (fun j _ => by rw [← byM_step]; exact upd_B _ (by omega) _ j); replace c8 := t7.cell c8 (by simp only; omega); clear hh)
        | fail)
      exact ⟨⟨t + 1, by omega, by go_num, grew_touch G t7, c8, h7⟩, by simp [intOf]; omega⟩
    · obtain rfl : t = k := by omega
      go_wp2_with fail
      go_ret
      exact ⟨rfl, G, hh⟩
/-- What is saved to the stack. -/
def svS (m : Me) (A off : Int) (k : Nat) (v : Vl) : Me × Int :=
  if inB A off (-64) 64 = true ∧ at0 A off (-64) + k ≤ 64 then
    (if v.tag = 1 then (byM (wrM m (at0 A off (-64)) k) (at0 A off (-64)) k v.n, 0) else if wordB (at0 A off (-64)) k = true then (kpM m (at0 A off (-64)) v, 0) else (m, 14))
  else (m, 14)
theorem Save_stack (b : Nat) (a v : Vl) (ha : a.tag = 3) (hv : 1 ≤ v.tag ∧ v.tag ≤ 5) (m : Me) (off : Int) (k : Nat) (hk : sizeOk k) (ho : -9223372036854775808 ≤ off ∧ off < 9223372036854775808) (w : World) (N : Nat) (hN : Sz w N) (hh : Has w b 83 193 (meC m)) :
    Calls Try.prog 11 #[.pointer (some ⟨b, 0, none⟩), vlV a, .int .i64 off, .int .i64 ((k : Nat) : Int), vlV v] w fun e w' => e = .returned (.int .i64 (svS m (sn a.n) off k v).2) ∧ Grew (some b) w w' ∧ Has w' b 83 193 (meC (svS m (sn a.n) off k v).1) := by
  unfold svS
  cases hin : inB (sn a.n) off (-64) 64
  · rw [if_neg (by simp)]; exact Save_out b a v ha hv m off k hk ho hin w N hN hh
  · by_cases hfk : at0 (sn a.n) off (-64) + k ≤ 64
    · rw [if_pos ⟨rfl, hfk⟩]
      by_cases ht : v.tag = 1
      · rw [if_pos ht]; exact Save_num b a v ha hv m off k hk _ hin rfl hfk ht w N hN hh
      · rw [if_neg ht]
        cases hw : wordB (at0 (sn a.n) off (-64)) k
        · rw [if_neg (by simp)]; exact Save_no b a v ha hv m off k hk _ hin rfl hfk ht hw w N hN hh
        · rw [if_pos rfl]; exact Save_val b a v ha hv m off k hk _ hin rfl hfk ht hw w N hN hh
    · rw [if_neg (fun h => hfk h.2)]; exact Save_far b a v ha hv m off k hk _ hin rfl hfk w N hN hh
end Go.Proofs.Ytjcjmlmdcjkceaa
