/- RegionStacks: the document's stack: what is saved. -/
import Derived.Test.YtjcjmlmdcjkceaaRs2
namespace Go.Proofs.Ytjcjmlmdcjkceaa
open Go Go.RowKit
/-- The first t bytes of what is saved are written. -/
def puS (c : Rk) (f t : Nat) (x : W) (wt : Int) : Rk := ⟨fun j => if f ≤ j ∧ j < f + t then wt else c.t j, fun j => if f ≤ j ∧ j < f + t then (x >>> (8 * (j - f))) &&& 255#64 else c.n j, c.k⟩
theorem puS_zero (c : Rk) (f : Nat) (x : W) (wt : Int) : puS c f 0 x wt = c := rk_ext (fun j => if_neg (by omega)) (fun j => if_neg (by omega)) (fun _ => rfl)
theorem puS_step (c : Rk) (f t : Nat) (x : W) (wt : Int) : (puS c f t x wt).setB (f + t) wt ((x >>> (8 * t)) &&& 255#64) = puS c f (t + 1) x wt := by
  refine rk_ext (fun j => ?_) (fun j => ?_) (fun _ => rfl)
  · show (if j = f + t then wt else if f ≤ j ∧ j < f + t then wt else c.t j) = if f ≤ j ∧ j < f + (t + 1) then wt else c.t j
    by_cases e : j = f + t
    · rw [if_pos e, if_pos (by omega)]
    · rw [if_neg e]
      by_cases h : f ≤ j ∧ j < f + t
      · rw [if_pos h, if_pos (by omega)]
      · rw [if_neg h, if_neg (by omega)]
  · show (if j = f + t then (x >>> (8 * t)) &&& 255#64 else if f ≤ j ∧ j < f + t then (x >>> (8 * (j - f))) &&& 255#64 else c.n j) = if f ≤ j ∧ j < f + (t + 1) then (x >>> (8 * (j - f))) &&& 255#64 else c.n j
    by_cases e : j = f + t
    · rw [if_pos e, if_pos (by omega), e, Nat.add_sub_cancel_left]
    · rw [if_neg e]
      by_cases h : f ≤ j ∧ j < f + t
      · rw [if_pos h, if_pos (by omega)]
      · rw [if_neg h, if_neg (by omega)]
theorem setB_setB (c : Rk) (i : Nat) (t t2 : Int) (n n2 : W) : (c.setB i t n).setB i t2 n2 = c.setB i t2 n2 := by
  refine rk_ext (fun j => ?_) (fun j => ?_) (fun _ => rfl)
  · show (if j = i then t2 else if j = i then t else c.t j) = if j = i then t2 else c.t j
    split <;> rfl
  · show (if j = i then n2 else if j = i then n else c.n j) = if j = i then n2 else c.n j
    split <;> rfl
set_option maxRecDepth 100000 in
theorem RSave_neg (b : Nat) (at_ n v : Int) (x : W) (h : at_ < 0) (w : World) : Calls Try.prog 17 #[.pointer (some ⟨b, 0, none⟩), .int .i64 at_, .int .i64 n, Q x, .int .i64 v] w fun e w' => e = .returned (.bool false) ∧ w' = w := by
  go_enter Try.func17, Try.ntmps17
  go_wp2_with fail
  go_ret
  exact ⟨rfl, rfl⟩
set_option maxRecDepth 100000 in
theorem RSave_no (b f n v : Nat) (x : W) (hv : 0 < v) (h : wordB f n = false) (w : World) : Calls Try.prog 17 #[.pointer (some ⟨b, 0, none⟩), .int .i64 ((f : Nat) : Int), .int .i64 ((n : Nat) : Int), Q x, .int .i64 ((v : Nat) : Int)] w fun e w' => e = .returned (.bool false) ∧ w' = w := by
  have h1 : ¬ (f : Int) < 0 := by omega
  have h2 : (0 : Int) < (v : Int) := by omega
  obtain ⟨z, ez⟩ : ∃ z, (((n : Nat) : Int) != 8) = z := ⟨_, rfl⟩
  obtain ⟨y, ey⟩ : ∃ y, (((f : Nat) : Int).tmod 8 != 0) = y := ⟨_, rfl⟩
  have h3 : z = false → y = false → False := by
    rintro rfl rfl
    rw [tmod8] at ey
    have a1 := bne_eq_false_iff_eq.1 ez
    have a2 := bne_eq_false_iff_eq.1 ey
    unfold wordB at h
    rw [show n = 8 by omega, show f % 8 = 0 by omega] at h; cases h
  have H3 := hid h3
  have EZ := hid ez
  have EY := hid ey
  clear ez ey h h3
  go_enter Try.func17, Try.ntmps17
  go_wp2_with (first
    | (refine wpl_want (by rfl) ?_; refine wpl_run rfl (.bool z) _ (run_neqI (x := .tmp 18) (y := .const (.int .i64 8)) rfl rfl rfl (q := 8) EZ.out _) ?_; cases z)
    | (refine wpl_want (by rfl) ?_; refine wpl_run rfl (.int .i64 (((f : Nat) : Int).tmod 8)) _ (run_remI8 (x := .tmp 21) (y := .const (.int .i64 8)) rfl rfl rfl _) ?_)
    | (refine wpl_want (by rfl) ?_; refine wpl_run rfl (.bool y) _ (run_neqI (x := .tmp 22) (y := .const (.int .i64 0)) rfl rfl rfl (q := 0) EY.out _) ?_; cases y)
    | fail)
  all_goals (first | exact (H3.out (by trivial) (by trivial)).elim | (go_ret; exact ⟨rfl, rfl⟩))
def whatF (v : Nat) : Int := if 0 < v then 2 else 1
/-- What the document's stack is behind a Save. -/
def svR (s : Rk) (f k : Nat) (x : W) (v : Nat) : Rk := ⟨(puS (clS s f k) f k x (whatF v)).t, (puS (clS s f k) f k x (whatF v)).n, fun q => if 0 < v ∧ q = f / 8 then v else (clS s f k).k q⟩
set_option maxRecDepth 100000 in
set_option maxHeartbeats 8000000 in
theorem RSave_num (b : Nat) (s : Rk) (f n : Nat) (x : W) (hfn : f + n ≤ 64) (hn0 : 0 < n) (hn : n < 1000) (w : World) (N : Nat) (hN : Sz w N) (hh : Has w b 48 136 (rkC s)) : Calls Try.prog 17 #[.pointer (some ⟨b, 0, none⟩), .int .i64 ((f : Nat) : Int), .int .i64 ((n : Nat) : Int), Q x, .int .i64 0] w fun e w' => e = .returned (.bool true) ∧ Grew (some b) w w' ∧ Has w' b 48 136 (rkC (svR s f n x 0)) := by
  have h1 : ¬ (f : Int) < 0 := by omega
  have j1 : (0 : Int) ≤ (f : Int) := by omega
  have j2 : (f : Int) < 64 := by omega
  have j3 : (f : Int) / 8 < 8 := by omega
  have j4 : (0 : Int) ≤ (f : Int) / 8 := by omega
  go_enter Try.func17, Try.ntmps17
  go_wp2_with (first
    | (go_at_call 36; refine (Clear_any b s f n hfn _ hh).mono ?_; rintro e w2 ⟨rfl, T2, h2⟩; have hN2 := T2.sz hN; clear hh)
    | fail)
  go_loopw [11] (fun x11 wr => ∃ i : Nat, i ≤ n ∧ x11 = .int .i64 ((i : Nat) : Int) ∧ Grew (some b) w wr ∧ Has wr b 48 136 (rkC (puS (clS s f n) f i x 1))) (fun x11 _ => n - (intOf x11).toNat)
  case atStart => exact ⟨0, by omega, rfl, touch_grew T2, by rw [puS_zero]; exact h2⟩
  case round =>
    clear h2 T2 hN2
    obtain ⟨i, hi, rfl, G, hh⟩ := hrel
    obtain ⟨M, hM⟩ := sz_some wr
    have lbM := hh.ltN hM
    by_cases hlt : i < n
    · have t1 : decide (((i : Nat) : Int) < ((n : Nat) : Int)) = true := by simp; omega
      have i1 : (0 : Int) ≤ (i : Int) := by omega
      go_upto_region 7 with fail
      refine wp_region_later_tail M 13 (by kernel_rfl) (by kernel_rfl) ?_
      simp only [List.take_succ_cons, List.take_zero, List.drop_succ_cons, List.drop_zero]
      try simp only [pA]
      iterate 3 go_big_quiet_step (fail)
      refine later_val (fun q => run_addN (x := .tmp 37) (y := .tmp 38) (p := f) (q := i) rfl rfl rfl (by omega) _) (by rfl) ?_; simp only [pA]
      iterate 2 go_big_quiet_step (fail)
      refine later_val (fun q => run_mul8 (x := .const (.int .i64 8)) (y := .tmp 41) (q := i) rfl rfl rfl (by omega) _) (by rfl) ?_; simp only [pA]
      refine later_b rfl (bin_shr _ x (8 * i)) rfl rfl (by rfl) ?_; simp only [pA]
      refine later_val (v := Yv ((x >>> (8 * i)) &&& 255#64)) (fun q => run_uy (x := .tmp 43) rfl und64 undY rfl _) (by rfl) ?_; simp only [pA]
      refine later_val (fun q => run_bd 44 #[(0, .const (.int .i64 1)), (1, .tmp 44)] rfl (cellsOf (bC 1 ((x >>> (8 * i)) &&& 255#64)) 2) (by kernel_rfl) _) (by rfl) ?_; simp only [pA]
      iterate 2 go_big_quiet_step (fail)
      refine later_val (fun q => run_iaK (x := .tmp 47) (y := .tmp 39) rfl (b := b) (off := 0) (k := f + i) rfl rfl undRB szBy (by omega)) (by rfl) ?_; simp only [pA]
      refine wpQuiet_nil (laterE hM ?_)
      intro x5 M5 hx5 hM5 lM5
      replace hh := hh.below hx5 (by omega)
      replace G := grew_below G hx5 hM
      clear hx5 hM
      go_wp2_with (first
        | (refine wpl_store_part rfl 44 (.tmp 48) (.tmp 45) rfl b (0 + (f + i) * 2) rfl 2 (bC 1 ((x >>> (8 * i)) &&& 255#64)) rfl 48 136 _ hh (by omega) szBy (fun j _ => bC_one _ _ j) ?_; intro w6 t6 h6; replace h6 := h6.congr (fun j _ => lay_rB _ (f + i) (by omega) _ _ j); replace G := grew_touch G t6; clear hh t6)
        | fail)
      refine ⟨⟨i + 1, by omega, by go_num, G, ?_⟩, by simp [intOf]; omega⟩
      rw [← puS_step]
      exact h6
    · have t1 : decide (((i : Nat) : Int) < ((n : Nat) : Int)) = false := by simp; omega
      obtain rfl : i = n := by omega
      go_wp2_with fail
      go_ret
      refine ⟨rfl, G, ?_⟩
      have e : puS (clS s f i) f i x 1 = svR s f i x 0 := by
        refine rk_ext (fun j => rfl) (fun j => rfl) (fun q => ?_)
        show _ = if 0 < 0 ∧ q = f / 8 then 0 else _
        rw [if_neg (fun h => absurd h.1 (by omega))]; rfl
      rw [← e]; exact hh
set_option maxRecDepth 100000 in
set_option maxHeartbeats 8000000 in
theorem RSave_val (b : Nat) (s : Rk) (f v : Nat) (x : W) (hv : 0 < v) (hw : f % 8 = 0) (hfn : f + 8 ≤ 64) (w : World) (N : Nat) (hN : Sz w N) (hh : Has w b 48 136 (rkC s)) : Calls Try.prog 17 #[.pointer (some ⟨b, 0, none⟩), .int .i64 ((f : Nat) : Int), .int .i64 8, Q x, .int .i64 ((v : Nat) : Int)] w fun e w' => e = .returned (.bool true) ∧ Grew (some b) w w' ∧ Has w' b 48 136 (rkC (svR s f 8 x v)) := by
  have h1 : ¬ (f : Int) < 0 := by omega
  have j1 : (0 : Int) ≤ (f : Int) := by omega
  have j2 : (f : Int) < 64 := by omega
  have j3 : (f : Int) / 8 < 8 := by omega
  have j4 : (0 : Int) ≤ (f : Int) / 8 := by omega
  have v1 : (0 : Int) < (v : Int) := by omega
  have tv : decide ((0 : Int) < ((v : Nat) : Int)) = true := decide_eq_true v1
  have TV := hid tv
  have ey : (((f : Nat) : Int).tmod 8 != 0) = false := by rw [tmod8, hw]; rfl
  have EY := hid ey
  have HV := hid hv
  clear tv ey hw hv
  go_enter Try.func17, Try.ntmps17
  go_wp2_with (first
    | (refine wpl_want (by rfl) ?_; refine wpl_run rfl (.bool true) _ (run_gtrI (x := .tmp 15) (y := .const (.int .i64 0)) rfl rfl rfl (q := 0) TV.out _) ?_)
    | (refine wpl_want (by rfl) ?_; refine wpl_run rfl (.int .i64 (((f : Nat) : Int).tmod 8)) _ (run_remI8 (x := .tmp 21) (y := .const (.int .i64 8)) rfl rfl rfl _) ?_)
    | (refine wpl_want (by rfl) ?_; refine wpl_run rfl (.bool false) _ (run_neqI (x := .tmp 22) (y := .const (.int .i64 0)) rfl rfl rfl (q := 0) EY.out _) ?_)
    | (go_at_call 36; refine (Clear_any b s f 8 hfn _ hh).mono ?_; rintro e w2 ⟨rfl, T2, h2⟩; have hN2 := T2.sz hN; clear hh)
    | fail)
  go_loopw [11] (fun x11 wr => ∃ i : Nat, i ≤ 8 ∧ x11 = .int .i64 ((i : Nat) : Int) ∧ Grew (some b) w wr ∧ Has wr b 48 136 (rkC (puS (clS s f 8) f i x 2))) (fun x11 _ => 8 - (intOf x11).toNat)
  case atStart => exact ⟨0, by omega, rfl, touch_grew T2, by rw [puS_zero]; exact h2⟩
  case round =>
    clear h2 T2 hN2
    obtain ⟨i, hi, rfl, G, hh⟩ := hrel
    obtain ⟨M, hM⟩ := sz_some wr
    have lbM := hh.ltN hM
    by_cases hlt : i < 8
    · have t1 : decide (((i : Nat) : Int) < 8) = true := by simp; omega
      have i1 : (0 : Int) ≤ (i : Int) := by omega
      go_upto_region 7 with fail
      refine wp_region_later_tail M 13 (by kernel_rfl) (by kernel_rfl) ?_
      simp only [List.take_succ_cons, List.take_zero, List.drop_succ_cons, List.drop_zero]
      try simp only [pA]
      iterate 3 go_big_quiet_step (fail)
      refine later_val (fun q => run_addN (x := .tmp 37) (y := .tmp 38) (p := f) (q := i) rfl rfl rfl (by omega) _) (by rfl) ?_; simp only [pA]
      iterate 2 go_big_quiet_step (fail)
      refine later_val (fun q => run_mul8 (x := .const (.int .i64 8)) (y := .tmp 41) (q := i) rfl rfl rfl (by omega) _) (by rfl) ?_; simp only [pA]
      refine later_b rfl (bin_shr _ x (8 * i)) rfl rfl (by rfl) ?_; simp only [pA]
      refine later_val (v := Yv ((x >>> (8 * i)) &&& 255#64)) (fun q => run_uy (x := .tmp 43) rfl und64 undY rfl _) (by rfl) ?_; simp only [pA]
      refine later_val (fun q => run_bd 44 #[(0, .const (.int .i64 1)), (1, .tmp 44)] rfl (cellsOf (bC 1 ((x >>> (8 * i)) &&& 255#64)) 2) (by kernel_rfl) _) (by rfl) ?_; simp only [pA]
      iterate 2 go_big_quiet_step (fail)
      refine later_val (fun q => run_iaK (x := .tmp 47) (y := .tmp 39) rfl (b := b) (off := 0) (k := f + i) rfl rfl undRB szBy (by omega)) (by rfl) ?_; simp only [pA]
      refine wpQuiet_nil (laterE hM ?_)
      intro x5 M5 hx5 hM5 lM5
      replace hh := hh.below hx5 (by omega)
      replace G := grew_below G hx5 hM
      clear hx5 hM
      go_wp2_with (first
        | (refine wpl_store_part rfl 44 (.tmp 48) (.tmp 45) rfl b (0 + (f + i) * 2) rfl 2 (bC 1 ((x >>> (8 * i)) &&& 255#64)) rfl 48 136 _ hh (by omega) szBy (fun j _ => bC_one _ _ j) ?_; intro w6 t6 h6; replace h6 := h6.congr (fun j _ => lay_rB _ (f + i) (by omega) _ _ j); replace G := grew_touch G t6; clear hh t6)
        | (refine wpl_run rfl (.bool true) _ (run_gtrI (x := .tmp 49) (y := .const (.int .i64 0)) rfl rfl rfl (q := 0) TV.out _) ?_)
        | (refine wpl_run rfl (.int .i64 ((f + i : Nat) : Int)) _ (run_addN (x := .tmp 52) (y := .tmp 53) (p := f) (q := i) rfl rfl rfl (by omega) _) ?_)
        | (refine wpl_run rfl (.pointer (some ⟨b, (f + i) * 2, none⟩)) _ (by rw [← Nat.zero_add ((f + i) * 2)]; exact run_iaK (x := .tmp 56) (y := .tmp 54) rfl (b := b) (off := 0) (k := f + i) rfl rfl undRB szBy (by omega)) ?_)
        | (refine wpl_set rfl 3 (.tmp 58) (.const (.int .i64 2)) rfl b ((f + i) * 2) rfl (.int .i64 2) rfl szI1 rfl rfl 48 136 _ h6 (by omega) ?_; intro w7 t7 h7; replace h7 := h7.congr (fun j _ => upd_rT _ (f + i) (by omega) 2 j); rw [setB_setB] at h7; replace G := grew_touch G t7; clear h6 t7; have h6 := h7; clear h7)
        | fail)
      refine ⟨⟨i + 1, by omega, by go_num, G, ?_⟩, by simp [intOf]; omega⟩
      rw [← puS_step]
      have e : (((puS (clS s f 8) f i x 2).setB (f + i) 1 ((x >>> (8 * i)) &&& 255#64)).n (f + i)) = (x >>> (8 * i)) &&& 255#64 := if_pos rfl
      rw [e] at h6
      exact h6
    · have t1 : decide (((i : Nat) : Int) < 8) = false := by simp; omega
      obtain rfl : i = 8 := by omega
      go_wp2_with (first
        | (refine wpl_run rfl (.bool true) _ (run_gtrI (x := .tmp 59) (y := .const (.int .i64 0)) rfl rfl rfl (q := 0) TV.out _) ?_)
        | (refine wpl_set rfl 3 (.tmp 67) (.tmp 64) rfl b (128 + f / 8) rfl (.int .i64 ((v : Nat) : Int)) rfl szI1 rfl rfl 48 136 _ hh (by omega) ?_; intro w7 t7 h7; replace h7 := h7.congr (fun j _ => upd_rK _ (f / 8) v j); replace G := grew_touch G t7; clear hh t7)
        | fail)
      go_ret
      refine ⟨rfl, G, ?_⟩
      have e : (puS (clS s f 8) f 8 x 2).setK (f / 8) v = svR s f 8 x v := by
        have ew : whatF v = 2 := if_pos HV.out
        refine rk_ext (fun j => ?_) (fun j => ?_) (fun q => ?_)
        · show (puS (clS s f 8) f 8 x 2).t j = (puS (clS s f 8) f 8 x (whatF v)).t j; rw [ew]
        · rfl
        · show (if q = f / 8 then v else _) = if 0 < v ∧ q = f / 8 then v else _
          by_cases e : q = f / 8
          · rw [if_pos e, if_pos ⟨HV.out, e⟩]; 
          · rw [if_neg e, if_neg (fun h => e h.2)]; rfl
      rw [← e]; exact h7
end Go.Proofs.Ytjcjmlmdcjkceaa
