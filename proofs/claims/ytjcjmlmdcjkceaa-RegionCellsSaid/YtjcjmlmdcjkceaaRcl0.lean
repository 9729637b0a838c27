/- region: places in a cell, and what is beyond them in the context: Load. -/
import Derived.Test.YtjcjmlmdcjkceaaRm6
namespace Go.Proofs.Ytjcjmlmdcjkceaa
open Go Go.RowKit
theorem base_cell (b : Nat) (v : Vl) (hv : v.tag = 5) (cb : Nat) (hc : v.c = some ⟨cb, 0, none⟩) (p : Option Addr) (l cap : Nat) : BaseOf b v p l cap 0 (fun u => u.cell? ⟨cb, 0, none⟩ = some (.slice p l cap)) := fun w N hN h => BytesOf_cell b v hv cb hc p l cap w N hN h
theorem ats_D {w : World} {d l cap f k : Nat} {D : Nat → W} (hA : Ats w (some ⟨d, 0, none⟩) l (fun j => Yv (D j))) (hlc : l ≤ cap) (fk : f + k ≤ l) : Ats w (some ⟨d, soff 0 f cap, none⟩) k (fun j => Yv (D (f + j))) := fun h0 =>
  ⟨d, soff 0 f cap, rfl, fun j hj => by unfold soff; rw [if_neg (by omega), Nat.add_assoc]; exact at_L hA (by omega)⟩
set_option maxRecDepth 100000 in
set_option maxHeartbeats 16000000 in
theorem LoadC_out (b : Nat) (v : Vl) (hv : v.tag = 5) (cb : Nat) (hc : v.c = some ⟨cb, 0, none⟩) (d l cap : Nat) (hl1 : l < 1000) (hlc : l ≤ cap) (off : Int) (k : Nat) (hk : sizeOk k) (ho : -9223372036854775808 ≤ off ∧ off < 9223372036854775808) (hin : inB (sn v.n) off 0 l = false) (w : World) (N : Nat) (hN : Sz w N) (q0 : w.cell? ⟨cb, 0, none⟩ = some (.slice (some ⟨d, 0, none⟩) l cap)) :
    Calls Try.prog 8 #[.pointer (some ⟨b, 0, none⟩), vlV v, .int .i64 off, .int .i64 ((k : Nat) : Int)] w fun e w' => e = .returned (.tuple #[vlV zeroV, .int .i64 14]) ∧ Below N w w' := by
  have hk8 : k ≤ 8 ∧ 0 < k := by rcases hk with rfl | rfl | rfl | rfl <;> omega
  have HK := hid hk
  obtain ⟨tag, vn, sl, c⟩ := v
  simp only at hv hc
  subst hv
  subst hc
  unfold vlV
  go_enter Try.func8, Try.ntmps8
  go_wp2_with (first
    | (go_at_call 26; refine (IsSize_ok k HK.out _).mono ?_; rintro e w3 ⟨rfl, rfl⟩)
    | (go_at_call 27; refine (Span_out b ⟨5, vn, sl, some ⟨cb, 0, none⟩⟩ off ((k : Nat) : Int) _ l cap 0 (fun u => u.cell? ⟨cb, 0, none⟩ = some (.slice (some ⟨d, 0, none⟩) l cap)) (fun _ _ _ hN hb h => keep_c hb hN h) (by omega) (.inl rfl) ho (base_cell b ⟨5, vn, sl, some ⟨cb, 0, none⟩⟩ rfl cb rfl _ l cap) hin _ (N + 1 + 1) hN2 q0).mono ?_; rintro e w4 ⟨rfl, hb4⟩; replace h2 := h2.below hb4 (by omega); replace hb2 := hb2.trans (hb4.mono (by omega)); clear hb4)
    | ((with_reducible show wpList _ _ _ (_ :: _) _ _); first
      | (refine wpl_box rfl 26 (.tmp 1) rfl 4 _ rfl N hN ?_; intro w1 hN1 hb1 h1; replace q0 := keep_c hb1 hN q0; try simp only [pA])
      | (refine wpl_alloc rfl 26 rfl 4 (vlC zeroV) zeVl (N + 1) hN1 ?_; intro w2 hN2 hb2 h2; replace h1 := h1.below hb2 (by omega); replace q0 := keep_c hb2 hN1 q0; replace hb2 := hb1.trans (hb2.mono (by omega)); clear hb1; try simp only [pA])
      | (refine wpl_load rfl 26 (.tmp 5) rfl N rfl 26 4 _ h1 _ undVl.choose_spec.1 undVl.choose_spec.2 szVl ?_; try simp only [pA])
      | (refine wpl_run rfl (.agg (cellsOf (vlC zeroV) 4)) _ (run_bd 26 #[] rfl (cellsOf (vlC zeroV) 4) (by kernel_rfl) _) ?_; try simp only [pA])
      | (refine wpl_store rfl 26 (.tmp 8) (.tmp 33) rfl (N + 1) 4 (vlC zeroV) rfl rfl 26 _ h2 szVl (fun j _ => vlC_one _ j) ?_; intro w5 t5 h5; replace hb2 := t5.below hb2 (by omega); try simp only [pA]))
    | fail)
  exact post_cb (x := .int .i64 14) rfl (N + 1) rfl h5 undVl szVl rfl rfl ⟨rfl, hb2⟩
set_option maxRecDepth 100000 in
set_option maxHeartbeats 16000000 in
theorem LoadC_far (b : Nat) (v : Vl) (hv : v.tag = 5) (cb : Nat) (hc : v.c = some ⟨cb, 0, none⟩) (d l cap : Nat) (hl1 : l < 1000) (hlc : l ≤ cap) (off : Int) (k : Nat) (hk : sizeOk k) (f : Nat) (hin : inB (sn v.n) off 0 l = true) (hf : at0 (sn v.n) off 0 = f) (fk : ¬ f + k ≤ l) (w : World) (N : Nat) (hN : Sz w N) (q0 : w.cell? ⟨cb, 0, none⟩ = some (.slice (some ⟨d, 0, none⟩) l cap)) :
    Calls Try.prog 8 #[.pointer (some ⟨b, 0, none⟩), vlV v, .int .i64 off, .int .i64 ((k : Nat) : Int)] w fun e w' => e = .returned (.tuple #[vlV zeroV, .int .i64 14]) ∧ Below N w w' := by
  have HO : Hid (decide (((k : Nat) : Int) ≤ ((l : Nat) : Int) - ((f : Nat) : Int)) = false) := hid (decide_eq_false (by omega))
  have HF := hid hf
  clear hf
  have hk8 : k ≤ 8 ∧ 0 < k := by rcases hk with rfl | rfl | rfl | rfl <;> omega
  have HK := hid hk
  obtain ⟨tag, vn, sl, c⟩ := v
  simp only at hv hc
  subst hv
  subst hc
  unfold vlV
  go_enter Try.func8, Try.ntmps8
  go_wp2_with (first
    | (go_at_call 26; refine (IsSize_ok k HK.out _).mono ?_; rintro e w3 ⟨rfl, rfl⟩)
    | (go_at_call 27; refine (Span_in b ⟨5, vn, sl, some ⟨cb, 0, none⟩⟩ off ((k : Nat) : Int) _ l cap 0 (fun u => u.cell? ⟨cb, 0, none⟩ = some (.slice (some ⟨d, 0, none⟩) l cap)) (fun _ _ _ hN hb h => keep_c hb hN h) (by omega) (.inl rfl) (base_cell b ⟨5, vn, sl, some ⟨cb, 0, none⟩⟩ rfl cb rfl _ l cap) hin _ (N + 1 + 1) hN2 q0).mono ?_; rintro e w4 ⟨rfl, hb4⟩; rw [HF.out, HO.out]; replace h2 := h2.below hb4 (by omega); replace hb2 := hb2.trans (hb4.mono (by omega)); clear hb4)
    | ((with_reducible show wpList _ _ _ (_ :: _) _ _); first
      | (refine wpl_box rfl 26 (.tmp 1) rfl 4 _ rfl N hN ?_; intro w1 hN1 hb1 h1; replace q0 := keep_c hb1 hN q0; try simp only [pA])
      | (refine wpl_alloc rfl 26 rfl 4 (vlC zeroV) zeVl (N + 1) hN1 ?_; intro w2 hN2 hb2 h2; replace h1 := h1.below hb2 (by omega); replace q0 := keep_c hb2 hN1 q0; replace hb2 := hb1.trans (hb2.mono (by omega)); clear hb1; try simp only [pA])
      | (refine wpl_load rfl 26 (.tmp 5) rfl N rfl 26 4 _ h1 _ undVl.choose_spec.1 undVl.choose_spec.2 szVl ?_; try simp only [pA])
      | (refine wpl_run rfl (.agg (cellsOf (vlC zeroV) 4)) _ (run_bd 26 #[] rfl (cellsOf (vlC zeroV) 4) (by kernel_rfl) _) ?_; try simp only [pA])
      | (refine wpl_store rfl 26 (.tmp 8) (.tmp 33) rfl (N + 1) 4 (vlC zeroV) rfl rfl 26 _ h2 szVl (fun j _ => vlC_one _ j) ?_; intro w5 t5 h5; replace hb2 := t5.below hb2 (by omega); try simp only [pA]))
    | fail)
  exact post_cb (x := .int .i64 14) rfl (N + 1) rfl h5 undVl szVl rfl rfl ⟨rfl, hb2⟩
set_option maxRecDepth 100000 in
set_option maxHeartbeats 16000000 in
theorem LoadC_in (b : Nat) (v : Vl) (hv : v.tag = 5) (cb : Nat) (hc : v.c = some ⟨cb, 0, none⟩) (d l cap : Nat) (hl1 : l < 1000) (hlc : l ≤ cap) (off : Int) (k : Nat) (hk : sizeOk k) (f : Nat) (hin : inB (sn v.n) off 0 l = true) (hf : at0 (sn v.n) off 0 = f) (fk : f + k ≤ l) (D : Nat → W) (w : World) (N : Nat) (hN : Sz w N) (q0 : w.cell? ⟨cb, 0, none⟩ = some (.slice (some ⟨d, 0, none⟩) l cap)) (hA : Ats w (some ⟨d, 0, none⟩) l (fun j => Yv (D j))) :
    Calls Try.prog 8 #[.pointer (some ⟨b, 0, none⟩), vlV v, .int .i64 off, .int .i64 ((k : Nat) : Int)] w fun e w' => e = .returned (.tuple #[vlV ⟨1, numF (fun j => D (f + j)) k, 0, none⟩, .int .i64 0]) ∧ Below N w w' := by
  have HO : Hid (decide (((k : Nat) : Int) ≤ ((l : Nat) : Int) - ((f : Nat) : Int)) = true) := hid (decide_eq_true (by omega))
  have HF := hid hf
  clear hf
  have hk8 : k ≤ 8 ∧ 0 < k := by rcases hk with rfl | rfl | rfl | rfl <;> omega
  have HK := hid hk
  obtain ⟨tag, vn, sl, c⟩ := v
  simp only at hv hc
  subst hv
  subst hc
  unfold vlV
  go_enter Try.func8, Try.ntmps8
  go_upto_region 4 with (first
    | (go_at_call 26; refine (IsSize_ok k HK.out _).mono ?_; rintro e w3 ⟨rfl, rfl⟩)
    | (go_at_call 27; refine (Span_in b ⟨5, vn, sl, some ⟨cb, 0, none⟩⟩ off ((k : Nat) : Int) _ l cap 0 (fun u => u.cell? ⟨cb, 0, none⟩ = some (.slice (some ⟨d, 0, none⟩) l cap)) (fun _ _ _ hN hb h => keep_c hb hN h) (by omega) (.inl rfl) (base_cell b ⟨5, vn, sl, some ⟨cb, 0, none⟩⟩ rfl cb rfl _ l cap) hin _ (N + 1 + 1) hN2 q0).mono ?_; rintro e w4 ⟨rfl, hb4⟩; rw [HF.out, HO.out]; obtain ⟨M4, hM4⟩ := sz_some w4; have l4 := below_sz hb4 hN2 hM4; replace h1 := h1.below hb4 (by omega); replace h2 := h2.below hb4 (by omega); replace hA := hA.below hN2 hb4; replace hb2 := hb2.trans (hb4.mono (by omega)); clear hN2 hb4)
    | ((with_reducible show wpList _ _ _ (_ :: _) _ _); first
      | (refine wpl_box rfl 26 (.tmp 1) rfl 4 _ rfl N hN ?_; intro w1 hN1 hb1 h1; replace q0 := keep_c hb1 hN q0; replace hA := hA.below hN hb1; try simp only [pA])
      | (refine wpl_alloc rfl 26 rfl 4 (vlC zeroV) zeVl (N + 1) hN1 ?_; intro w2 hN2 hb2 h2; replace h1 := h1.below hb2 (by omega); replace q0 := keep_c hb2 hN1 q0; replace hA := hA.below hN1 hb2; replace hb2 := hb1.trans (hb2.mono (by omega)); clear hb1; try simp only [pA])
      | (refine wpl_load rfl 26 (.tmp 5) rfl N rfl 26 4 _ h1 _ undVl.choose_spec.1 undVl.choose_spec.2 szVl ?_; try simp only [pA]))
    | fail)
  have c0 : w4.cell? ⟨N, 0, none⟩ = some (.int .i64 5) := h1.cell (j := 0) (by omega)
  go_wp2_with (first
    | (go_at_call 29; refine (Readable_other b ⟨5, vn, sl, some ⟨cb, 0, none⟩⟩ (.inr rfl) _ _ _ M4 hM4).mono ?_; rintro e w7 ⟨rfl, hb7⟩; replace h2 := h2.below hb7 (by omega); replace hA := hA.below hM4 hb7; replace hb2 := hb2.trans (hb7.mono (by omega)); clear h1 hb7)
    | (go_at_call 30; refine (Number_any (some ⟨d, soff 0 f cap, none⟩) k (cap - f) (fun j => D (f + j)) (by omega) _ (ats_D hA (by omega) fk)).mono ?_; rintro e w9 ⟨rfl, rfl⟩)
    | ((with_reducible show wpList _ _ _ (_ :: _) _ _); first
      | (refine wpl_load rfl 26 (.tmp 5) rfl N rfl 26 4 _ h1 _ undVl.choose_spec.1 undVl.choose_spec.2 szVl ?_; try simp only [pA])
      | (refine wpl_run rfl (.int .i64 ((f + k : Nat) : Int)) _ (run_addN (x := .tmp 62) (y := .tmp 63) rfl rfl rfl (by omega) _) ?_; try simp only [pA])
      | (refine wpl_run rfl (.slice (some ⟨d, soff 0 f cap, none⟩) k (cap - f)) _ (run_slSn 32 5 (.tmp 60) (.tmp 61) (.tmp 64) rfl rfl rfl rfl undSY szY1 (by omega) _) ?_; try simp only [pA])
      | (refine wpl_run rfl (.agg (cellsOf (vlC ⟨1, numF (fun j => D (f + j)) k, 0, none⟩) 4)) _ (run_bd 26 #[(0, .const (.int .i64 1)), (1, .tmp 66)] rfl (cellsOf (vlC ⟨1, numF (fun j => D (f + j)) k, 0, none⟩) 4) (by kernel_rfl) _) ?_; try simp only [pA])
      | (refine wpl_store rfl 26 (.tmp 8) (.tmp 67) rfl (N + 1) 4 (vlC ⟨1, numF (fun j => D (f + j)) k, 0, none⟩) rfl rfl 26 _ h2 szVl (fun j _ => vlC_one _ j) ?_; intro w8 t8 h8; replace hb2 := t8.below hb2 (by omega); try simp only [pA]))
    | fail)
  exact post_cb (x := .int .i64 0) rfl (N + 1) rfl h8 undVl szVl rfl rfl ⟨rfl, hb2⟩
set_option maxRecDepth 100000 in
set_option maxHeartbeats 16000000 in
theorem LoadX_out (b : Nat) (v : Vl) (hv : v.tag = 2) (off : Int) (k : Nat) (hk : sizeOk k) (ho : -9223372036854775808 ≤ off ∧ off < 9223372036854775808) (hin : inB (sn v.n) off 0 32 = false) (w : World) (N : Nat) (hN : Sz w N) :
    Calls Try.prog 8 #[.pointer (some ⟨b, 0, none⟩), vlV v, .int .i64 off, .int .i64 ((k : Nat) : Int)] w fun e w' => e = .returned (.tuple #[vlV zeroV, .int .i64 14]) ∧ Below N w w' := by
  have hk8 : k ≤ 8 ∧ 0 < k := by rcases hk with rfl | rfl | rfl | rfl <;> omega
  have HK := hid hk
  obtain ⟨tag, vn, sl, c⟩ := v
  simp only at hv
  subst hv
  unfold vlV
  go_enter Try.func8, Try.ntmps8
  go_wp2_with (first
    | (go_at_call 26; refine (IsSize_ok k HK.out _).mono ?_; rintro e w3 ⟨rfl, rfl⟩)
    | (go_at_call 27; refine (Span_out b ⟨2, vn, sl, c⟩ off ((k : Nat) : Int) _ 32 32 0 (fun _ => True) (fun _ _ _ _ _ _ => trivial) (by omega) (.inl rfl) ho (base_ctx b ⟨2, vn, sl, c⟩ rfl) hin _ (N + 1 + 1) hN2 trivial).mono ?_; rintro e w4 ⟨rfl, hb4⟩; replace h2 := h2.below hb4 (by omega); replace hb2 := hb2.trans (hb4.mono (by omega)); clear hb4)
    | ((with_reducible show wpList _ _ _ (_ :: _) _ _); first
      | (refine wpl_box rfl 26 (.tmp 1) rfl 4 _ rfl N hN ?_; intro w1 hN1 hb1 h1; try simp only [pA])
      | (refine wpl_alloc rfl 26 rfl 4 (vlC zeroV) zeVl (N + 1) hN1 ?_; intro w2 hN2 hb2 h2; replace h1 := h1.below hb2 (by omega); replace hb2 := hb1.trans (hb2.mono (by omega)); clear hb1; try simp only [pA])
      | (refine wpl_load rfl 26 (.tmp 5) rfl N rfl 26 4 _ h1 _ undVl.choose_spec.1 undVl.choose_spec.2 szVl ?_; try simp only [pA])
      | (refine wpl_run rfl (.agg (cellsOf (vlC zeroV) 4)) _ (run_bd 26 #[] rfl (cellsOf (vlC zeroV) 4) (by kernel_rfl) _) ?_; try simp only [pA])
      | (refine wpl_store rfl 26 (.tmp 8) (.tmp 33) rfl (N + 1) 4 (vlC zeroV) rfl rfl 26 _ h2 szVl (fun j _ => vlC_one _ j) ?_; intro w5 t5 h5; replace hb2 := t5.below hb2 (by omega); try simp only [pA]))
    | fail)
  exact post_cb (x := .int .i64 14) rfl (N + 1) rfl h5 undVl szVl rfl rfl ⟨rfl, hb2⟩
set_option maxRecDepth 100000 in
set_option maxHeartbeats 16000000 in
theorem LoadX_far (b : Nat) (v : Vl) (hv : v.tag = 2) (off : Int) (k : Nat) (hk : sizeOk k) (f : Nat) (hin : inB (sn v.n) off 0 32 = true) (hf : at0 (sn v.n) off 0 = f) (fk : ¬ f + k ≤ 32) (w : World) (N : Nat) (hN : Sz w N) :
    Calls Try.prog 8 #[.pointer (some ⟨b, 0, none⟩), vlV v, .int .i64 off, .int .i64 ((k : Nat) : Int)] w fun e w' => e = .returned (.tuple #[vlV zeroV, .int .i64 14]) ∧ Below N w w' := by
  have HO : Hid (decide (((k : Nat) : Int) ≤ ((32 : Nat) : Int) - ((f : Nat) : Int)) = false) := hid (decide_eq_false (by omega))
  have HF := hid hf
  clear hf
  have hk8 : k ≤ 8 ∧ 0 < k := by rcases hk with rfl | rfl | rfl | rfl <;> omega
  have HK := hid hk
  obtain ⟨tag, vn, sl, c⟩ := v
  simp only at hv
  subst hv
  unfold vlV
  go_enter Try.func8, Try.ntmps8
  go_wp2_with (first
    | (go_at_call 26; refine (IsSize_ok k HK.out _).mono ?_; rintro e w3 ⟨rfl, rfl⟩)
    | (go_at_call 27; refine (Span_in b ⟨2, vn, sl, c⟩ off ((k : Nat) : Int) _ 32 32 0 (fun _ => True) (fun _ _ _ _ _ _ => trivial) (by omega) (.inl rfl) (base_ctx b ⟨2, vn, sl, c⟩ rfl) hin _ (N + 1 + 1) hN2 trivial).mono ?_; rintro e w4 ⟨rfl, hb4⟩; rw [HF.out, HO.out]; replace h2 := h2.below hb4 (by omega); replace hb2 := hb2.trans (hb4.mono (by omega)); clear hb4)
    | ((with_reducible show wpList _ _ _ (_ :: _) _ _); first
      | (refine wpl_box rfl 26 (.tmp 1) rfl 4 _ rfl N hN ?_; intro w1 hN1 hb1 h1; try simp only [pA])
      | (refine wpl_alloc rfl 26 rfl 4 (vlC zeroV) zeVl (N + 1) hN1 ?_; intro w2 hN2 hb2 h2; replace h1 := h1.below hb2 (by omega); replace hb2 := hb1.trans (hb2.mono (by omega)); clear hb1; try simp only [pA])
      | (refine wpl_load rfl 26 (.tmp 5) rfl N rfl 26 4 _ h1 _ undVl.choose_spec.1 undVl.choose_spec.2 szVl ?_; try simp only [pA])
      | (refine wpl_run rfl (.agg (cellsOf (vlC zeroV) 4)) _ (run_bd 26 #[] rfl (cellsOf (vlC zeroV) 4) (by kernel_rfl) _) ?_; try simp only [pA])
      | (refine wpl_store rfl 26 (.tmp 8) (.tmp 33) rfl (N + 1) 4 (vlC zeroV) rfl rfl 26 _ h2 szVl (fun j _ => vlC_one _ j) ?_; intro w5 t5 h5; replace hb2 := t5.below hb2 (by omega); try simp only [pA]))
    | fail)
  exact post_cb (x := .int .i64 14) rfl (N + 1) rfl h5 undVl szVl rfl rfl ⟨rfl, hb2⟩
end Go.Proofs.Ytjcjmlmdcjkceaa
