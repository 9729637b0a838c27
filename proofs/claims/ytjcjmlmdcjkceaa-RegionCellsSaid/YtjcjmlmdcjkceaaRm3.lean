/- A program's memory: what may be read and written; bytes are written, values are kept. -/
import Derived.Test.YtjcjmlmdcjkceaaRm2
namespace Go.Proofs.Ytjcjmlmdcjkceaa
open Go Go.RowKit
theorem run_iaS {P : Program} {a : Act} {o : Oper} {T : TypeId} {x y : Operand} (ho : o.op = .indexAddr T x y) {b off k n e : Nat} (hx : a.eval x = .pointer (some ⟨b, off, none⟩)) (hy : a.eval y = .int .i64 (k : Int)) (hu : P.underlying T = some (.array n e)) (hs : (P.info? e).map (·.size) = some 1) (hk : k < n) (w : World) : (execOp a.eval o).run P w = .ok (.value (.pointer (some ⟨b, off + k, none⟩))) w := by
  have := run_iaK (w := w) ho hx hy hu hs hk
  rwa [Nat.mul_one] at this
theorem touch_grew {b : Nat} {w w' : World} (h : Touch b w w') : Grew (some b) w w' := ⟨h.os, h.tape, h.output, Nat.le_of_eq h.size.symm, fun k _ hne => h.block k (fun e => hne (by rw [e]))⟩
set_option maxRecDepth 100000 in
theorem Readable_other (b : Nat) (v : Vl) (hv : v.tag = 2 ∨ v.tag = 5) (f n : Int) (w : World) (N : Nat) (hN : Sz w N) : Calls Try.prog 29 #[.pointer (some ⟨b, 0, none⟩), vlV v, .int .i64 f, .int .i64 n] w fun e w' => e = .returned (.bool true) ∧ Below N w w' := by
  obtain ⟨tag, vn, sl, c⟩ := v
  simp only at hv
  unfold vlV
  rcases hv with rfl | rfl <;>
  · go_enter Try.func29, Try.ntmps29
    go_wp2_with (first
      | (refine wpl_box rfl 26 (.tmp 1) rfl 4 _ rfl N hN ?_; intro w1 hN1 hb1 h1; have c0 := h1.cell (j := 0) (by omega); unfold vlC at c0)
      | fail)
    go_ret
    exact ⟨rfl, hb1⟩
theorem ats_W {w : World} {b T : Nat} {m : Me} (hh : Has w b T 193 (meC m)) (f n : Nat) (h : f + n ≤ 64) : Ats w (some ⟨b, soff 96 f 64, none⟩) n (fun j => .bool (m.Wr (f + j))) := fun h0 =>
  ⟨b, soff 96 f 64, rfl, fun j hj => by unfold soff; rw [if_neg (by omega), Nat.add_assoc]; exact (hh.cell (j := 96 + (f + j)) (by omega)).trans (congrArg some (meC_W m (by omega)))⟩
theorem run_slAn {P : Program} {a : Act} {o : Oper} (t e : TypeId) (x y z : Operand) (ho : o.op = .slice t x (some y) (some z) none) {b off k l n : Nat} (hx : a.eval x = .pointer (some ⟨b, off, none⟩)) (hy : a.eval y = .int .i64 (l : Int)) (hz : a.eval z = .int .i64 ((l + n : Nat) : Int)) (hu : P.underlying t = some (.array k e)) (hi : (P.info? e).map (·.size) = some 1) (hh : l + n ≤ k) (w : World) :
    (execOp a.eval o).run P w = .ok (.value (.slice (some ⟨b, soff off l k, none⟩) n (k - l))) w := by
  have := run_slA t e x y z ho hx hy hz hu hi (by omega) hh w
  rwa [Nat.add_sub_cancel_left] at this
theorem run_slSn {P : Program} {a : Act} {o : Oper} (t e : TypeId) (x y z : Operand) (ho : o.op = .slice t x (some y) (some z) none) {b off c cap l n : Nat} (hx : a.eval x = .slice (some ⟨b, off, none⟩) c cap) (hy : a.eval y = .int .i64 (l : Int)) (hz : a.eval z = .int .i64 ((l + n : Nat) : Int)) (hu : P.underlying t = some (.slice e)) (hi : (P.info? e).map (·.size) = some 1) (hh : l + n ≤ cap) (w : World) :
    (execOp a.eval o).run P w = .ok (.value (.slice (some ⟨b, soff off l cap, none⟩) n (cap - l))) w := by
  have := run_slS t e x y z ho hx hy hz hu hi (by omega) hh w
  rwa [Nat.add_sub_cancel_left] at this
set_option maxRecDepth 100000 in
set_option maxHeartbeats 2000000 in
theorem Readable_stack (b : Nat) (v : Vl) (hv : v.tag = 3) (m : Me) (f n : Nat) (hfn : f + n ≤ 64) (w : World) (N : Nat) (hN : Sz w N) (hh : Has w b 83 193 (meC m)) : Calls Try.prog 29 #[.pointer (some ⟨b, 0, none⟩), vlV v, .int .i64 ((f : Nat) : Int), .int .i64 ((n : Nat) : Int)] w fun e w' => e = .returned (.bool (allT (fun j => m.Wr (f + j)) n)) ∧ Below N w w' := by
  obtain ⟨tag, vn, sl, c⟩ := v
  simp only at hv
  subst hv
  unfold vlV
  obtain ⟨z, ez⟩ : ∃ z, allT (fun j => m.Wr (f + j)) n = z := ⟨_, rfl⟩
  rw [ez]
  have EZ := hid ez
  clear ez
  have hbl := hh.ltN hN
  go_enter Try.func29, Try.ntmps29
  go_wp2_with (first
    | (refine wpl_box rfl 26 (.tmp 1) rfl 4 _ rfl N hN ?_; intro w1 hN1 hb1 h1; have c0 : w1.cell? ⟨N, 0, none⟩ = some (.int .i64 3) := h1.cell (j := 0) (by omega); replace hh := hh.below hb1 hbl)
    | (refine wpl_want (by rfl) ?_; refine wpl_run rfl (.int .i64 ((f + n : Nat) : Int)) _ (run_addN (x := .tmp 17) (y := .tmp 18) rfl rfl rfl (by omega) _) ?_)
    | (refine wpl_want (by rfl) ?_; refine wpl_run rfl (.slice (some ⟨b, soff 96 f 64, none⟩) n (64 - f)) _ (run_slAn 81 4 (.tmp 15) (.tmp 16) (.tmp 19) rfl rfl rfl rfl undWr szB1 hfn _) ?_)
    | (go_at_call 49; refine (Contains_any (some ⟨b, soff 96 f 64, none⟩) n (64 - f) (fun j => m.Wr (f + j)) (by omega) _ (ats_W hh f n hfn)).mono ?_; rintro e w2 ⟨rfl, rfl⟩; rw [EZ.out])
    | fail)
  go_ret
  exact ⟨rfl, hb1⟩
/-- Bytes are a number's; what was kept there is gone. -/
def wrM (m : Me) (f t : Nat) : Me := ⟨m.X, m.B, fun j => if f ≤ j ∧ j < f + t then true else m.Wr j, fun j => if 0 < t ∧ f < 8 * j + 8 ∧ 8 * j < f + t then zeroV else m.K j, m.mp⟩
theorem wrM_zero (m : Me) (f : Nat) : wrM m f 0 = m := by
  unfold wrM
  have h1 : (fun j => if f ≤ j ∧ j < f + 0 then true else m.Wr j) = m.Wr := by funext j; rw [if_neg (by omega)]
  have h2 : (fun j => if 0 < 0 ∧ f < 8 * j + 8 ∧ 8 * j < f + 0 then zeroV else m.K j) = m.K := by funext j; rw [if_neg (by omega)]
  rw [h1, h2]
theorem wrM_step (m : Me) (f t : Nat) : ((wrM m f t).setK ((f + t) / 8) zeroV).setW (f + t) true = wrM m f (t + 1) := by
  unfold wrM Me.setK Me.setW
  simp only [Me.mk.injEq, true_and, and_true]
  constructor
  · funext j
    by_cases e : j = f + t
    · rw [if_pos e, if_pos (by omega)]
    · rw [if_neg e]
      by_cases h : f ≤ j ∧ j < f + t
      · rw [if_pos h, if_pos (by omega)]
      · rw [if_neg h, if_neg (by omega)]
  · funext j
    by_cases e : j = (f + t) / 8
    · rw [if_pos e, if_pos (by omega)]
    · rw [if_neg e]
      by_cases h : 0 < t ∧ f < 8 * j + 8 ∧ 8 * j < f + t
      · rw [if_pos h, if_pos (by omega)]
      · rw [if_neg h, if_neg (by omega)]
set_option maxRecDepth 100000 in
set_option maxHeartbeats 2000000 in
theorem Write_any (b : Nat) (m : Me) (f n : Nat) (hfn : f + n ≤ 64) (w : World) (hh : Has w b 83 193 (meC m)) : Calls Try.prog 34 #[.pointer (some ⟨b, 0, none⟩), .int .i64 ((f : Nat) : Int), .int .i64 ((n : Nat) : Int)] w fun e w' => e = .returned (.tuple #[]) ∧ Grew (some b) w w' ∧ Touch b w w' ∧ Has w' b 83 193 (meC (wrM m f n)) := by
  go_enter Try.func34, Try.ntmps34
  go_wp2_with fail
  go_loopw [6] (fun x6 wr => ∃ t : Nat, t ≤ n ∧ x6 = .int .i64 ((f + t : Nat) : Int) ∧ Touch b w wr ∧ Has wr b 83 193 (meC (wrM m f t))) (fun x6 _ => f + n - (intOf x6).toNat)
  case atStart => exact ⟨0, by omega, rfl, ⟨rfl, rfl, rfl, rfl, fun _ _ => rfl⟩, by rw [wrM_zero]; exact hh⟩
  case round =>
    clear hh
    obtain ⟨t, ht, rfl, T, hh⟩ := hrel
    obtain ⟨q, hq⟩ : ∃ q, q = f + t := ⟨_, rfl⟩
    have HQ := hid hq
    rw [← hq]
    have q64 : q ≤ 64 := by omega
    have e1 : decide (((q : Nat) : Int) < ((f + n : Nat) : Int)) = decide (t < n) := by rw [decide_eq_decide]; omega
    have E1 := hid e1
    clear e1 hq
    by_cases hlt : t < n
    · have q1 : q < 64 := by have := HQ.out; omega
      have j1 : (0 : Int) ≤ (q : Int) := by omega
      have j2 : (q : Int) < 64 := by omega
      have j3 : (q : Int) / 8 < 8 := by omega
      have j4 : (0 : Int) ≤ (q : Int) / 8 := by omega
      go_wp2_with (first
        | (refine wpl_run rfl (.int .i64 ((f + n : Nat) : Int)) _ (run_addN (x := .tmp 9) (y := .tmp 10) rfl rfl rfl (by omega) _) ?_)
        | (refine wpl_run rfl (.bool true) _ (run_lssI (x := .tmp 8) (y := .tmp 11) rfl rfl rfl (E1.out.trans (decide_eq_true hlt)) _) ?_)
        | (refine wpl_run rfl (.agg (cellsOf (vlC zeroV) 4)) _ (run_bd 26 _ rfl (cellsOf (vlC zeroV) 4) (by kernel_rfl) _) ?_)
        | (refine wpl_run rfl (.pointer (some ⟨b, 160 + q / 8 * 4, none⟩)) _ (run_iaK (x := .tmp 20) (y := .tmp 17) rfl (b := b) (off := 160) (k := q / 8) rfl rfl undK szVl (by omega)) ?_)
        | (refine wpl_store_part rfl 26 (.tmp 21) (.tmp 18) rfl b (160 + q / 8 * 4) rfl 4 (vlC zeroV) rfl 83 193 _ hh (by omega) szVl (fun j _ => vlC_one _ j) ?_; intro w3 t3 h3; replace h3 := h3.congr (g := meC ((wrM m f t).setK (q / 8) zeroV)) (fun j _ => by rw [Nat.mul_comm (q / 8) 4]; exact mlay_K _ (by omega) _ j); clear hh)
        | (refine wpl_set rfl 4 (.tmp 26) (.const (.bool true)) rfl b (96 + q) rfl (.bool true) rfl szB1 rfl rfl 83 193 _ h3 (by omega) ?_; intro w4 t4 h4; replace h4 := h4.congr (g := meC (((wrM m f t).setK (q / 8) zeroV).setW q true)) (fun j _ => mupd_W _ (by omega) _ j); clear h3)
        | fail)
      have T2 : Touch b w w4 := ⟨t4.os.trans (t3.os.trans T.os), t4.tape.trans (t3.tape.trans T.tape), t4.output.trans (t3.output.trans T.output), t4.size.trans (t3.size.trans T.size), fun k hk => (t4.block k hk).trans ((t3.block k hk).trans (T.block k hk))⟩
      clear t3 t4 T
      rw [HQ.out, wrM_step] at h4
      have hqv := HQ.out
      exact ⟨⟨t + 1, by omega, by rw [HQ.out]; go_num, T2, h4⟩, by simp [intOf]; omega⟩
    · go_wp2_with (first
        | (refine wpl_run rfl (.int .i64 ((f + n : Nat) : Int)) _ (run_addN (x := .tmp 9) (y := .tmp 10) rfl rfl rfl (by omega) _) ?_)
        | (refine wpl_run rfl (.bool false) _ (run_lssI (x := .tmp 8) (y := .tmp 11) rfl rfl rfl (E1.out.trans (decide_eq_false hlt)) _) ?_)
        | fail)
      obtain rfl : t = n := by omega
      exact bodyPost_end (results_none rfl _ _ _) rfl ⟨rfl, touch_grew T, T, hh⟩
/-- A place or a map stands in a word. -/
def kpW (m : Me) (f t : Nat) : Me := ⟨m.X, m.B, fun j => if f ≤ j ∧ j < f + t then false else m.Wr j, m.K, m.mp⟩
def kpM (m : Me) (f : Nat) (v : Vl) : Me := kpW (m.setK (f / 8) v) f 8
theorem kpW_zero (m : Me) (f : Nat) : kpW m f 0 = m := by
  unfold kpW
  have h1 : (fun j => if f ≤ j ∧ j < f + 0 then false else m.Wr j) = m.Wr := by funext j; rw [if_neg (by omega)]
  rw [h1]
theorem kpW_step (m : Me) (f t : Nat) : (kpW m f t).setW (f + t) false = kpW m f (t + 1) := by
  unfold kpW Me.setW
  simp only [Me.mk.injEq, true_and, and_true]
  funext j
  by_cases e : j = f + t
  · rw [if_pos e, if_pos (by omega)]
  · rw [if_neg e]
    by_cases h : f ≤ j ∧ j < f + t
    · rw [if_pos h, if_pos (by omega)]
    · rw [if_neg h, if_neg (by omega)]
set_option maxRecDepth 100000 in
theorem Keep_no (b : Nat) (a v : Vl) (f n : Nat) (h : ¬ a.tag = 3 ∨ wordB f n = false) (w : World) (N : Nat) (hN : Sz w N) : Calls Try.prog 33 #[.pointer (some ⟨b, 0, none⟩), vlV a, .int .i64 ((f : Nat) : Int), .int .i64 ((n : Nat) : Int), vlV v] w fun e w' => e = .returned (.int .i64 14) ∧ Below N w w' := by
  unfold vlV
  obtain ⟨z, ez⟩ : ∃ z, (a.tag != 3) = z := ⟨_, rfl⟩
  obtain ⟨y, ey⟩ : ∃ y, wordB f n = y := ⟨_, rfl⟩
  have h2 : z = false → y = true → False := by
    rintro rfl rfl
    rcases h with h | h
    · exact h (bne_eq_false_iff_eq.1 ez)
    · rw [ey] at h; cases h
  have H2 := hid h2
  have EZ := hid ez
  have EY := hid ey
  clear ez ey h h2
  go_enter Try.func33, Try.ntmps33
  go_wp2_with (first
    | (refine wpl_box rfl 26 (.tmp 1) rfl 4 _ rfl N hN ?_; intro w1 hN1 hb1 h1; have c0 : w1.cell? ⟨N, 0, none⟩ = some (.int .i64 a.tag) := h1.cell (j := 0) (by omega))
    | (refine wpl_box rfl 26 (.tmp 4) rfl 4 _ rfl (N + 1) hN1 ?_; intro w2 hN2 hb2 h2; replace c0 := keep_c hb2 hN1 c0; replace hb2 := hb1.trans (hb2.mono (by omega)); clear hb1 h1)
    | (refine wpl_run rfl (.bool z) _ (run_neqI (x := .tmp 13) (y := .const (.int .i64 3)) rfl rfl rfl (q := 3) EZ.out _) ?_; cases z)
    | (go_at_call 28; refine (IsWord_any f n _).mono ?_; rintro e w3 ⟨rfl, rfl⟩; rw [EY.out]; cases y)
    | fail)
  all_goals (first | exact (H2.out (by trivial) (by trivial)).elim | (go_ret; exact ⟨rfl, hb2⟩))
set_option maxRecDepth 100000 in
set_option maxHeartbeats 2000000 in
theorem Keep_yes (b : Nat) (a v : Vl) (m : Me) (f n : Nat) (ha : a.tag = 3) (hw : wordB f n = true) (hf : f + n ≤ 64) (w : World) (N : Nat) (hN : Sz w N) (hh : Has w b 83 193 (meC m)) : Calls Try.prog 33 #[.pointer (some ⟨b, 0, none⟩), vlV a, .int .i64 ((f : Nat) : Int), .int .i64 ((n : Nat) : Int), vlV v] w fun e w' => e = .returned (.int .i64 0) ∧ Grew (some b) w w' ∧ Has w' b 83 193 (meC (kpM m f v)) := by
  unfold vlV
  obtain ⟨tag, an, sl, c⟩ := a
  simp only at ha
  subst ha
  have hbl := hh.ltN hN
  have hw8 : n = 8 ∧ f % 8 = 0 := by
    unfold wordB at hw; rw [Bool.and_eq_true, beq_iff_eq, beq_iff_eq] at hw; exact hw
  have f56 : f ≤ 56 := by omega
  have j1 : (0 : Int) ≤ (f : Int) := by omega
  have j2 : (f : Int) < 64 := by omega
  have j3 : (f : Int) / 8 < 8 := by omega
  have j4 : (0 : Int) ≤ (f : Int) / 8 := by omega
  have HW := hid hw
  clear hw hw8 hf
  go_enter Try.func33, Try.ntmps33
  go_upto_region 3 with (first
    | (refine wpl_box rfl 26 (.tmp 1) rfl 4 _ rfl N hN ?_; intro w1 hN1 hb1 h1; have c0 : w1.cell? ⟨N, 0, none⟩ = some (.int .i64 3) := h1.cell (j := 0) (by omega); replace hh := hh.below hb1 hbl)
    | (refine wpl_box rfl 26 (.tmp 4) rfl 4 _ rfl (N + 1) hN1 ?_; intro w2 hN2 hb2 h2; replace c0 := keep_c hb2 hN1 c0; replace hh := hh.below hb2 (by omega); replace hb2 := hb1.trans (hb2.mono (by omega)); clear hb1 h1)
    | (go_at_call 28; refine (IsWord_any f n _).mono ?_; rintro e w3 ⟨rfl, rfl⟩; rw [HW.out])
    | fail)
  refine wp_region_later_tail (N + 1 + 1) 7 (by kernel_rfl) (by kernel_rfl) ?_
  simp only [List.take_succ_cons, List.take_zero, List.drop_succ_cons, List.drop_zero]
  try simp only [pA]
  iterate 3 go_big_quiet_step (fail)
  refine later_row hN2 26 (.tmp 9) rfl (N + 1) rfl 26 4 _ h2 undVl szVl (by rfl) ?_; simp only [pA]
  iterate 2 go_big_quiet_step (fail)
  refine later_val (fun x => run_iaK (x := .tmp 26) (y := .tmp 23) rfl (b := b) (off := 160) (k := f / 8) rfl rfl undK szVl (by omega)) (by rfl) ?_; simp only [pA]
  refine wpQuiet_nil (laterE hN2 ?_)
  intro x5 M5 hx5 hM5 lM5
  replace hh := hh.below hx5 (by omega)
  have g5 : Grew (some b) w x5 := below_grew (hb2.trans (hx5.mono (by omega))) hN
  clear hx5 hb2 h2 c0
  go_wp2_with (first
    | (refine wpl_store_part rfl 26 (.tmp 27) (.tmp 24) rfl b (160 + f / 8 * 4) rfl 4 (vlC v) rfl 83 193 _ hh (by omega) szVl (fun j _ => vlC_one _ j) ?_; intro w6 t6 h6; replace h6 := h6.congr (g := meC (m.setK (f / 8) v)) (fun j _ => by rw [Nat.mul_comm (f / 8) 4]; exact mlay_K _ (by omega) _ j); replace g5 := grew_touch g5 t6; clear hh t6)
    | fail)
  go_loopw [11, 28] (fun x11 x28 wr => ∃ t : Nat, t ≤ 8 ∧ x28 = .int .i64 ((t : Nat) : Int) ∧ Grew (some b) w wr ∧ Has wr b 83 193 (meC (kpW (m.setK (f / 8) v) f t))) (fun _ x28 _ => 8 - (intOf x28).toNat)
  case atStart => exact ⟨0, by omega, rfl, g5, by rw [kpW_zero]; exact h6⟩
  case round =>
    clear h6 g5
    obtain ⟨t, ht, rfl, G, hh⟩ := hrel
    by_cases hlt : t < 8
    · have t1 : decide ((t : Int) < 8) = true := by simp; omega
      have i1 : (0 : Int) ≤ (t : Int) := by omega
      have i2 : (t : Int) < 8 := by omega
      go_wp2_with (first
        | (refine wpl_run rfl (.int .i64 ((f + t : Nat) : Int)) _ (run_addN (x := .tmp 32) (y := .tmp 33) rfl rfl rfl (by omega) _) ?_)
        | (refine wpl_run rfl (.pointer (some ⟨b, 96 + (f + t), none⟩)) _ (run_iaS (x := .tmp 36) (y := .tmp 34) rfl (b := b) (off := 96) (k := f + t) rfl rfl undWr szB1 (by omega) _) ?_)
        | (refine wpl_set rfl 4 (.tmp 37) (.const (.bool false)) rfl b (96 + (f + t)) rfl (.bool false) rfl szB1 rfl rfl 83 193 _ hh (by omega) ?_; intro w7 t7 h7; replace h7 := h7.congr (g := meC (kpW (m.setK (f / 8) v) f (t + 1))) (fun j _ => by rw [← kpW_step]; exact mupd_W _ (by omega) _ j); clear hh)
        | fail)
      exact ⟨⟨t + 1, by omega, by go_num, grew_touch G t7, h7⟩, by simp [intOf]; omega⟩
    · obtain rfl : t = 8 := by omega
      go_wp2_with fail
      go_ret
      exact ⟨rfl, G, hh⟩
set_option maxRecDepth 100000 in
theorem Writable_stack (b : Nat) (v : Vl) (hv : v.tag = 3) (w : World) (N : Nat) (hN : Sz w N) : Calls Try.prog 32 #[.pointer (some ⟨b, 0, none⟩), vlV v] w fun e w' => e = .returned (.bool true) ∧ Below N w w' := by
  obtain ⟨tag, vn, sl, c⟩ := v
  simp only at hv
  subst hv
  unfold vlV
  go_enter Try.func32, Try.ntmps32
  go_wp2_with (first
    | (refine wpl_box rfl 26 (.tmp 1) rfl 4 _ rfl N hN ?_; intro w1 hN1 hb1 h1; have c0 : w1.cell? ⟨N, 0, none⟩ = some (.int .i64 3) := h1.cell (j := 0) (by omega))
    | fail)
  go_ret
  exact ⟨rfl, hb1⟩
set_option maxRecDepth 100000 in
theorem Writable_ctx (b : Nat) (v : Vl) (hv : v.tag = 2) (w : World) (N : Nat) (hN : Sz w N) : Calls Try.prog 32 #[.pointer (some ⟨b, 0, none⟩), vlV v] w fun e w' => e = .returned (.bool false) ∧ Below N w w' := by
  obtain ⟨tag, vn, sl, c⟩ := v
  simp only at hv
  subst hv
  unfold vlV
  go_enter Try.func32, Try.ntmps32
  go_wp2_with (first
    | (refine wpl_box rfl 26 (.tmp 1) rfl 4 _ rfl N hN ?_; intro w1 hN1 hb1 h1; have c0 : w1.cell? ⟨N, 0, none⟩ = some (.int .i64 2) := h1.cell (j := 0) (by omega))
    | fail)
  go_ret
  exact ⟨rfl, hb1⟩
end Go.Proofs.Ytjcjmlmdcjkceaa
