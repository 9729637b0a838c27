/- A program's memory: it is made; what is loaded of the stack. -/
import Derived.Test.YtjcjmlmdcjkceaaRm3
import Derived.Laws.Cover3
namespace Go.Proofs.Ytjcjmlmdcjkceaa
open Go Go.RowKit
def xC (X : Nat → W) (j : Nat) : Value := Yv (X j)
def newM (X : Nat → W) : Me := ⟨X, fun _ => 0#64, fun _ => false, fun _ => zeroV, .slice none 0 0⟩
theorem undXr : ∃ d, Try.prog.underlying 41 = some d ∧ d.isRow = true := row_ofN (by kernel_rfl)
theorem szX : (Try.prog.info? 41).map (·.size) = some 32 := by kernel_rfl
theorem run_eqNil {P : Program} {a : Act} {o : Oper} {T ty e : TypeId} {x y : Operand} (ho : o.op = .binOp .eql T x y ty) (hT : P.underlying T = some (.slice e)) {p : Option Addr} {l c : Nat} (hx : a.eval x = .slice p l c) (hy : a.eval y = .slice none 0 0) (w : World) : (execOp a.eval o).run P w = .ok (.value (.bool p.isNone)) w := by
  have := run_equal_slice_nil (P := P) (w := w) T e p l c hT
  unfold execOp
  simp only [ho, hx, hy, Sem.run_bind]
  have e : (eqGuard .eql T x y (.slice p l c) (.slice none 0 0)).run P w = .ok () w := by unfold eqGuard; rfl
  simp only [e, Result.andThen_ok, binOp, Sem.run_bind, this, Sem.run_pure]
set_option maxRecDepth 100000 in
theorem CloneM_nil (w : World) : Calls Try.prog 35 #[.slice none 0 0] w fun e w' => e = .returned (.slice none 0 0) ∧ w' = w := by
  go_enter Try.func35, Try.ntmps35
  go_wp2_with (first | (refine wpl_run rfl (.bool true) _ (run_eqNil (p := none) (l := 0) (c := 0) (x := .tmp 3) (y := .const (.slice none 0 0)) rfl (show Try.prog.underlying 67 = some (.slice 38) by kernel_rfl) rfl rfl _) ?_) | fail)
  go_ret
  exact ⟨rfl, rfl⟩
set_option maxRecDepth 100000 in
set_option maxHeartbeats 2000000 in
theorem New_nil (X : Nat → W) (w : World) (N : Nat) (hN : Sz w N) : Calls Try.prog 14 #[.agg (cellsOf (xC X) 32), .slice none 0 0] w fun e w' => ∃ b, e = .returned (.pointer (some ⟨b, 0, none⟩)) ∧ N ≤ b ∧ Below N w w' ∧ Has w' b 83 193 (meC (newM X)) := by
  go_enter Try.func14, Try.ntmps14
  go_upto_region 1 with (first
    | (refine wpl_box rfl 41 (.tmp 0) rfl 32 _ rfl N hN ?_; intro w1 hN1 hb1 h1)
    | fail)
  refine wp_region_later_tail (N + 1) 4 (by kernel_rfl) (by kernel_rfl) ?_
  simp only [List.take_succ_cons, List.take_zero, List.drop_succ_cons, List.drop_zero]
  try simp only [pA]
  refine later_row hN1 41 (.tmp 2) rfl N rfl 41 32 _ h1 undXr szX (by rfl) ?_; simp only [pA]
  go_big_quiet_step (fail)
  go_big_quiet_step ((go_at_call 35; exact later_of_same _ (CloneM_nil _)))
  refine later_val (fun x => run_bd 83 _ rfl (cellsOf (meC (newM X)) 193) (by kernel_rfl) _) (by rfl) ?_; simp only [pA]
  refine wpQuiet_nil (laterE hN1 ?_)
  intro x2 M2 hx2 hM2 lM2
  replace hb1 := hb1.trans (hx2.mono (by omega))
  go_wp2_with (first
    | (refine wpl_box rfl 83 (.tmp 8) rfl 193 _ rfl M2 hM2 ?_; intro w3 hN3 hb3 h3)
    | fail)
  go_ret
  exact ⟨M2, rfl, by omega, hb1.trans (hb3.mono (by omega)), h3⟩
def ldF (m : Me) (bi bo bw bt ba : Bool) (f k : Nat) : Vl × Int :=
  if (!bi || !bo) = true then (zeroV, 14) else if (bw && bt) = true then (m.K (f / 8), 0) else if ba = true then (⟨1, numF (fun j => m.B (f + j)) k, 0, none⟩, 0) else (zeroV, 14)
/-- What is loaded of the stack. -/
def ldS (m : Me) (A off : Int) (k : Nat) : Vl × Int :=
  ldF m (inB A off (-64) 64) (decide (at0 A off (-64) + k ≤ 64)) (wordB (at0 A off (-64)) k) ((m.K (at0 A off (-64) / 8)).tag != 0) (allT (fun j => m.Wr (at0 A off (-64) + j)) k) (at0 A off (-64)) k
theorem base_stack (b : Nat) (v : Vl) (hv : v.tag = 3) : BaseOf b v (some ⟨b, 32, none⟩) 64 64 (-64) (fun _ => True) := fun w N hN _ => BytesOf_stack b v hv w N hN
theorem ats_B {w : World} {b T : Nat} {m : Me} (hh : Has w b T 193 (meC m)) (f n : Nat) (h : f + n ≤ 64) : Ats w (some ⟨b, soff 32 f 64, none⟩) n (fun j => Yv (m.B (f + j))) := fun h0 =>
  ⟨b, soff 32 f 64, rfl, fun j hj => by unfold soff; rw [if_neg (by omega), Nat.add_assoc]; exact (hh.cell (j := 32 + (f + j)) (by omega)).trans (congrArg some (meC_B m (by omega)))⟩
set_option maxRecDepth 100000 in
set_option maxHeartbeats 8000000 in
theorem Load_out (b : Nat) (v : Vl) (hv : v.tag = 3) (m : Me) (off : Int) (k : Nat) (hk : sizeOk k) (ho : -9223372036854775808 ≤ off ∧ off < 9223372036854775808) (hin : inB (sn v.n) off (-64) 64 = false) (w : World) (N : Nat) (hN : Sz w N) :
    Calls Try.prog 8 #[.pointer (some ⟨b, 0, none⟩), vlV v, .int .i64 off, .int .i64 ((k : Nat) : Int)] w fun e w' => e = .returned (.tuple #[vlV zeroV, .int .i64 14]) ∧ Below N w w' := by
  unfold vlV
  go_enter Try.func8, Try.ntmps8
  go_wp2_with (first
    | (refine wpl_box rfl 26 (.tmp 1) rfl 4 _ rfl N hN ?_; intro w1 hN1 hb1 h1)
    | (refine wpl_alloc rfl 26 rfl 4 (vlC zeroV) zeVl (N + 1) hN1 ?_; intro w2 hN2 hb2 h2; replace h1 := h1.below hb2 (by omega); replace hb2 := hb1.trans (hb2.mono (by omega)); clear hb1 hN1)
    | (go_at_call 26; refine (IsSize_ok k hk _).mono ?_; rintro e w3 ⟨rfl, rfl⟩)
    | (refine wpl_load rfl 26 (.tmp 5) rfl N rfl 26 4 _ h1 _ undVl.choose_spec.1 undVl.choose_spec.2 szVl ?_)
    | (go_at_call 27; refine (Span_out b v off ((k : Nat) : Int) _ 64 64 (-64) (fun _ => True) (fun _ _ _ _ _ _ => trivial) (by omega) (.inr rfl) ho (base_stack b v hv) hin _ (N + 1 + 1) hN2 trivial).mono ?_; rintro e w4 ⟨rfl, hb4⟩; replace h2 := h2.below hb4 (by omega); replace hb2 := hb2.trans (hb4.mono (by omega)); clear h1 hN2 hb4)
    | (refine wpl_run rfl (.agg (cellsOf (vlC zeroV) 4)) _ (run_bd 26 #[] rfl (cellsOf (vlC zeroV) 4) (by kernel_rfl) _) ?_)
    | (refine wpl_store rfl 26 (.tmp 8) (.tmp 33) rfl (N + 1) 4 (vlC zeroV) rfl rfl 26 _ h2 szVl (fun j _ => vlC_one _ j) ?_; intro w5 t5 h5; replace hb2 := t5.below hb2 (by omega))
    | fail)
  exact post_cb (x := .int .i64 14) rfl (N + 1) rfl h5 undVl szVl rfl rfl ⟨rfl, hb2⟩
set_option maxRecDepth 100000 in
set_option maxHeartbeats 16000000 in
theorem Load_in (b : Nat) (v : Vl) (hv : v.tag = 3) (m : Me) (off : Int) (k f : Nat) (hk : sizeOk k) (hin : inB (sn v.n) off (-64) 64 = true) (hf : at0 (sn v.n) off (-64) = f) (w : World) (N : Nat) (hN : Sz w N) (hh : Has w b 83 193 (meC m)) :
    Calls Try.prog 8 #[.pointer (some ⟨b, 0, none⟩), vlV v, .int .i64 off, .int .i64 ((k : Nat) : Int)] w fun e w' => e = .returned (.tuple #[vlV (ldF m true (decide (f + k ≤ 64)) (wordB f k) ((m.K (f / 8)).tag != 0) (allT (fun j => m.Wr (f + j)) k) f k).1, .int .i64 (ldF m true (decide (f + k ≤ 64)) (wordB f k) ((m.K (f / 8)).tag != 0) (allT (fun j => m.Wr (f + j)) k) f k).2]) ∧ Below N w w' := by
  obtain ⟨bo, eo⟩ : ∃ x, decide (f + k ≤ 64) = x := ⟨_, rfl⟩
  have eo2 : decide (((k : Nat) : Int) ≤ ((64 : Nat) : Int) - ((f : Nat) : Int)) = bo := by rw [← eo, decide_eq_decide]; omega
  obtain ⟨bw, ew⟩ : ∃ x, wordB f k = x := ⟨_, rfl⟩
  obtain ⟨bt, et⟩ : ∃ x, ((m.K (f / 8)).tag != 0) = x := ⟨_, rfl⟩
  obtain ⟨ba, ea⟩ : ∃ x, allT (fun j => m.Wr (f + j)) k = x := ⟨_, rfl⟩
  rw [eo, ew, et, ea]
  have hfk : bo = true → f + k ≤ 64 := fun h => of_decide_eq_true (eo.trans h)
  have hk8 : k ≤ 8 ∧ 0 < k := by rcases hk with rfl | rfl | rfl | rfl <;> omega
  have hf64 : f ≤ 64 := by rw [← hf]; exact (span_in (len := 64) (by omega) (.inr rfl) hin).2.2
  have tg := hid hv
  have HO := hid eo2
  have HW := hid ew
  have HT := hid et
  have HA := hid ea
  have HF := hid hf
  have HFK := hid hfk
  have HK := hid hk
  have hbl := hh.ltN hN
  have f1 : (0 : Int) ≤ (f : Int) := by omega
  have f2 : (f : Int) ≤ 64 := by omega
  clear eo eo2 ew et ea hf hfk hk
  clear tg
  obtain ⟨tag, vn, sl, c⟩ := v
  simp only at hv
  subst hv
  unfold vlV
  go_enter Try.func8, Try.ntmps8
  go_upto_region 4 with (first
    | (refine wpl_box rfl 26 (.tmp 1) rfl 4 _ rfl N hN ?_; intro w1 hN1 hb1 h1; replace hh := hh.below hb1 (by omega))
    | (refine wpl_alloc rfl 26 rfl 4 (vlC zeroV) zeVl (N + 1) hN1 ?_; intro w2 hN2 hb2 h2; replace h1 := h1.below hb2 (by omega); replace hh := hh.below hb2 (by omega); replace hb2 := hb1.trans (hb2.mono (by omega)); clear hb1 hN1)
    | (go_at_call 26; refine (IsSize_ok k HK.out _).mono ?_; rintro e w3 ⟨rfl, rfl⟩)
    | (refine wpl_load rfl 26 (.tmp 5) rfl N rfl 26 4 _ h1 _ undVl.choose_spec.1 undVl.choose_spec.2 szVl ?_)
    | (go_at_call 27; refine (Span_in b ⟨3, vn, sl, c⟩ off ((k : Nat) : Int) _ 64 64 (-64) (fun _ => True) (fun _ _ _ _ _ _ => trivial) (by omega) (.inr rfl) (base_stack b _ rfl) hin _ (N + 1 + 1) hN2 trivial).mono ?_; rintro e w4 ⟨rfl, hb4⟩; rw [HF.out, HO.out]; obtain ⟨M4, hM4⟩ := sz_some w4; have l4 := below_sz hb4 hN2 hM4; replace h1 := h1.below hb4 (by omega); replace h2 := h2.below hb4 (by omega); replace hh := hh.below hb4 (by omega); replace hb2 := hb2.trans (hb4.mono (by omega)); clear hN2 hb4)
    | fail)
  have c0 : w4.cell? ⟨N, 0, none⟩ = some (.int .i64 3) := h1.cell (j := 0) (by omega)
  cases bo
  · go_wp2_with (first
      | (refine wpl_run rfl (.agg (cellsOf (vlC zeroV) 4)) _ (run_bd 26 #[] rfl (cellsOf (vlC zeroV) 4) (by kernel_rfl) _) ?_)
      | (refine wpl_store rfl 26 (.tmp 8) (.tmp 33) rfl (N + 1) 4 (vlC zeroV) rfl rfl 26 _ h2 szVl (fun j _ => vlC_one _ j) ?_; intro w5 t5 h5; replace hb2 := t5.below hb2 (by omega))
      | fail)
    exact post_cb (x := .int .i64 14) rfl (N + 1) rfl h5 undVl szVl rfl rfl ⟨rfl, hb2⟩
  · have fk := HFK.out rfl
    have f3 : (f : Int) / 8 < 8 := by omega
    have f4 : (0 : Int) ≤ (f : Int) / 8 := by omega
    have f8 : f / 8 < 8 := by omega
    go_upto_if 41 with (first
      | (go_at_call 28; refine (IsWord_any f k _).mono ?_; rintro e w5 ⟨rfl, rfl⟩; rw [HW.out])
      | fail)
    cases bw
    · go_wp2_with (first
        | (refine wpl_load rfl 26 (.tmp 5) rfl N rfl 26 4 _ h1 _ undVl.choose_spec.1 undVl.choose_spec.2 szVl ?_)
        | (go_at_call 29; refine (Readable_stack b ⟨3, vn, sl, c⟩ rfl m f k fk _ (M4) hM4 hh).mono ?_; rintro e w7 ⟨rfl, hb7⟩; rw [HA.out]; replace h2 := h2.below hb7 (by omega); replace hh := hh.below hb7 (by omega); replace hb2 := hb2.trans (hb7.mono (by omega)); clear h1 hb7; cases ba)
        | (refine wpl_run rfl (.agg (cellsOf (vlC zeroV) 4)) _ (run_bd 26 #[] rfl (cellsOf (vlC zeroV) 4) (by kernel_rfl) _) ?_)
        | (refine wpl_store rfl 26 (.tmp 8) (.tmp 59) rfl (N + 1) 4 (vlC zeroV) rfl rfl 26 _ h2 szVl (fun j _ => vlC_one _ j) ?_; intro w8 t8 h8; replace hb2 := t8.below hb2 (by omega))
        | (refine wpl_run rfl (.int .i64 ((f + k : Nat) : Int)) _ (run_addN (x := .tmp 62) (y := .tmp 63) rfl rfl rfl (by omega) _) ?_)
        | (refine wpl_run rfl (.slice (some ⟨b, soff 32 f 64, none⟩) k (64 - f)) _ (run_slSn 32 5 (.tmp 60) (.tmp 61) (.tmp 64) rfl rfl rfl rfl undSY szY1 fk _) ?_)
        | (go_at_call 30; refine (Number_any (some ⟨b, soff 32 f 64, none⟩) k (64 - f) (fun j => m.B (f + j)) (by omega) _ (ats_B hh f k fk)).mono ?_; rintro e w9 ⟨rfl, rfl⟩)
        | (refine wpl_run rfl (.agg (cellsOf (vlC ⟨1, numF (fun j => m.B (f + j)) k, 0, none⟩) 4)) _ (run_bd 26 #[(0, .const (.int .i64 1)), (1, .tmp 66)] rfl (cellsOf (vlC ⟨1, numF (fun j => m.B (f + j)) k, 0, none⟩) 4) (by kernel_rfl) _) ?_)
        | (refine wpl_store rfl 26 (.tmp 8) (.tmp 67) rfl (N + 1) 4 (vlC ⟨1, numF (fun j => m.B (f + j)) k, 0, none⟩) rfl rfl 26 _ h2 szVl (fun j _ => vlC_one _ j) ?_; intro w8 t8 h8; replace hb2 := t8.below hb2 (by omega))
        | fail)
      · exact post_cb (x := .int .i64 14) rfl (N + 1) rfl h8 undVl szVl rfl rfl ⟨rfl, hb2⟩
      · exact post_cb (x := .int .i64 0) rfl (N + 1) rfl h8 undVl szVl rfl rfl ⟨rfl, hb2⟩
    · go_upto_if 51 with (first
        | (refine wpl_run rfl (.pointer (some ⟨b, 160 + f / 8 * 4, none⟩)) _ (run_iaK (x := .tmp 46) (y := .tmp 44) rfl (b := b) (off := 160) (k := f / 8) rfl rfl undK szVl f8) ?_)
        | (refine wpl_run rfl (.agg (cellsOf (vlC (m.K (f / 8))) 4)) _ (run_rwP 26 (.tmp 47) rfl b (160 + f / 8 * 4) rfl 83 193 (meC m) hh 4 (by omega) (vlC (m.K (f / 8))) (fun j hj => by rw [show 160 + f / 8 * 4 + j = 160 + (4 * (f / 8) + j) by omega]; exact meC_K m f8 hj) undVl szVl) ?_)
        | (refine wpl_alloc rfl 26 rfl 4 (vlC zeroV) zeVl M4 hM4 ?_; intro w5 hM5 hb5 h5; replace h1 := h1.below hb5 (by omega); replace h2 := h2.below hb5 (by omega); replace hh := hh.below hb5 (by omega); replace hb2 := hb2.trans (hb5.mono (by omega)); clear hM4 hb5)
        | (refine wpl_store rfl 26 (.tmp 13) (.tmp 48) rfl M4 4 (vlC (m.K (f / 8))) rfl rfl 26 _ h5 szVl (fun j _ => vlC_one _ j) ?_; intro w6 t6 h6; replace h1 := h1.touch t6 (by omega); replace h2 := h2.touch t6 (by omega); replace hh := hh.touch t6 (by omega); replace hb2 := t6.below hb2 (by omega); replace hM5 := t6.sz hM5; clear h5 t6; have c6 : w6.cell? ⟨M4, 0, none⟩ = some (.int .i64 (m.K (f / 8)).tag) := h6.cell (j := 0) (by omega))
        | (refine wpl_run rfl (.bool bt) _ (run_neqI (x := .tmp 50) (y := .const (.int .i64 0)) rfl rfl rfl (q := 0) HT.out _) ?_)
        | fail)
      cases bt
      · go_wp2_with (first
          | (refine wpl_load rfl 26 (.tmp 5) rfl N rfl 26 4 _ h1 _ undVl.choose_spec.1 undVl.choose_spec.2 szVl ?_)
          | (go_at_call 29; refine (Readable_stack b ⟨3, vn, sl, c⟩ rfl m f k fk _ (M4 + 1) hM5 hh).mono ?_; rintro e w7 ⟨rfl, hb7⟩; rw [HA.out]; replace h2 := h2.below hb7 (by omega); replace hh := hh.below hb7 (by omega); replace hb2 := hb2.trans (hb7.mono (by omega)); clear h1 hb7; cases ba)
          | (refine wpl_run rfl (.agg (cellsOf (vlC zeroV) 4)) _ (run_bd 26 #[] rfl (cellsOf (vlC zeroV) 4) (by kernel_rfl) _) ?_)
          | (refine wpl_store rfl 26 (.tmp 8) (.tmp 59) rfl (N + 1) 4 (vlC zeroV) rfl rfl 26 _ h2 szVl (fun j _ => vlC_one _ j) ?_; intro w8 t8 h8; replace hb2 := t8.below hb2 (by omega))
          | (refine wpl_run rfl (.int .i64 ((f + k : Nat) : Int)) _ (run_addN (x := .tmp 62) (y := .tmp 63) rfl rfl rfl (by omega) _) ?_)
          | (refine wpl_run rfl (.slice (some ⟨b, soff 32 f 64, none⟩) k (64 - f)) _ (run_slSn 32 5 (.tmp 60) (.tmp 61) (.tmp 64) rfl rfl rfl rfl undSY szY1 fk _) ?_)
          | (go_at_call 30; refine (Number_any (some ⟨b, soff 32 f 64, none⟩) k (64 - f) (fun j => m.B (f + j)) (by omega) _ (ats_B hh f k fk)).mono ?_; rintro e w9 ⟨rfl, rfl⟩)
          | (refine wpl_run rfl (.agg (cellsOf (vlC ⟨1, numF (fun j => m.B (f + j)) k, 0, none⟩) 4)) _ (run_bd 26 #[(0, .const (.int .i64 1)), (1, .tmp 66)] rfl (cellsOf (vlC ⟨1, numF (fun j => m.B (f + j)) k, 0, none⟩) 4) (by kernel_rfl) _) ?_)
          | (refine wpl_store rfl 26 (.tmp 8) (.tmp 67) rfl (N + 1) 4 (vlC ⟨1, numF (fun j => m.B (f + j)) k, 0, none⟩) rfl rfl 26 _ h2 szVl (fun j _ => vlC_one _ j) ?_; intro w8 t8 h8; replace hb2 := t8.below hb2 (by omega))
          | fail)
        · exact post_cb (x := .int .i64 14) rfl (N + 1) rfl h8 undVl szVl rfl rfl ⟨rfl, hb2⟩
        · exact post_cb (x := .int .i64 0) rfl (N + 1) rfl h8 undVl szVl rfl rfl ⟨rfl, hb2⟩
      · go_wp2_with (first
          | (refine wpl_load rfl 26 (.tmp 13) rfl M4 rfl 26 4 _ h6 _ undVl.choose_spec.1 undVl.choose_spec.2 szVl ?_)
          | (refine wpl_store rfl 26 (.tmp 8) (.tmp 52) rfl (N + 1) 4 (vlC (m.K (f / 8))) rfl rfl 26 _ h2 szVl (fun j _ => vlC_one _ j) ?_; intro w8 t8 h8; replace hb2 := t8.below hb2 (by omega))
          | fail)
        exact post_cb (x := .int .i64 0) rfl (N + 1) rfl h8 undVl szVl rfl rfl ⟨rfl, hb2⟩
theorem Load_stack (b : Nat) (v : Vl) (hv : v.tag = 3) (m : Me) (off : Int) (k : Nat) (hk : sizeOk k) (ho : -9223372036854775808 ≤ off ∧ off < 9223372036854775808) (w : World) (N : Nat) (hN : Sz w N) (hh : Has w b 83 193 (meC m)) :
    Calls Try.prog 8 #[.pointer (some ⟨b, 0, none⟩), vlV v, .int .i64 off, .int .i64 ((k : Nat) : Int)] w fun e w' => e = .returned (.tuple #[vlV (ldS m (sn v.n) off k).1, .int .i64 (ldS m (sn v.n) off k).2]) ∧ Below N w w' := by
  unfold ldS
  cases h : inB (sn v.n) off (-64) 64
  · exact Load_out b v hv m off k hk ho h w N hN
  · exact Load_in b v hv m off k _ hk h rfl w N hN hh
end Go.Proofs.Ytjcjmlmdcjkceaa
