/- The document's stack: Save. -/
import Derived.Test.YtcdhngceiochoaaAwm
namespace Go.Proofs.Ytcdhngceiochoaa
open Go Go.RowKit
def skC (W : Nat → Bool) (K : Nat → Nat) (j : Nat) : Value := if j < 64 then .bool (W j) else .int .i64 ((K (j - 64) : Nat) : Int)
theorem skC_W (W : Nat → Bool) (K : Nat → Nat) {i : Nat} (h : i < 64) : skC W K i = .bool (W i) := by unfold skC; rw [if_pos h]
theorem skC_K (W : Nat → Bool) (K : Nat → Nat) (i : Nat) : skC W K (64 + i) = .int .i64 ((K i : Nat) : Int) := by unfold skC; rw [if_neg (by omega), Nat.add_sub_cancel_left]
theorem upd_skW (W : Nat → Bool) (K : Nat → Nat) {i : Nat} (h : i < 64) (v : Bool) (j : Nat) : upd (skC W K) i (.bool v) j = skC (fun x => if x = i then v else W x) K j := by
  unfold upd skC
  by_cases e : j = i
  · subst e; rw [if_pos rfl, if_pos h]; simp
  · rw [if_neg e]
    by_cases h1 : j < 64
    · rw [if_pos h1, if_pos h1]; simp only; rw [if_neg e]
    · rw [if_neg h1, if_neg h1]
theorem upd_skK (W : Nat → Bool) (K : Nat → Nat) (i n : Nat) (j : Nat) : upd (skC W K) (64 + i) (.int .i64 ((n : Nat) : Int)) j = skC W (fun x => if x = i then n else K x) j := by
  unfold upd skC
  by_cases e : j = 64 + i
  · subst e; rw [if_pos rfl, if_neg (by omega)]; simp
  · rw [if_neg e]
    by_cases h1 : j < 64
    · rw [if_pos h1, if_pos h1]
    · rw [if_neg h1, if_neg h1]; simp only; rw [if_neg (by omega)]
/-- What is left behind the first loop. -/
def k1 (K : Nat → Nat) (p m : Nat) (k : Nat) : Nat := if Hit p m k then 0 else K k
def w1 (W : Nat → Bool) (K : Nat → Nat) (p m : Nat) (j : Nat) : Bool := if Hit p m (j / 8) ∧ ¬ K (j / 8) = 0 then false else W j
def w2 (W : Nat → Bool) (K : Nat → Nat) (p n : Nat) (v : Bool) (m : Nat) (j : Nat) : Bool := if p ≤ j ∧ j < p + m then v else w1 W K p n j
theorem k1_zero (K : Nat → Nat) (p k : Nat) : k1 K p 0 k = K k := if_neg (by unfold Hit; omega)
theorem w1_zero (W : Nat → Bool) (K : Nat → Nat) (p j : Nat) : w1 W K p 0 j = W j := if_neg (by unfold Hit; omega)
theorem k1_same (K : Nat → Nat) (p m : Nat) (h : k1 K p m ((p + m) / 8) = 0) (k : Nat) : k1 K p (m + 1) k = k1 K p m k := by
  by_cases e : k = (p + m) / 8
  · subst e; rw [h]; exact if_pos (hit_last p m)
  · unfold k1
    by_cases hh : Hit p m k
    · rw [if_pos hh, if_pos ((hit_succ e).2 hh)]
    · rw [if_neg hh, if_neg (fun x => hh ((hit_succ e).1 x))]
theorem w1_same (W : Nat → Bool) (K : Nat → Nat) (p m : Nat) (h : k1 K p m ((p + m) / 8) = 0) (j : Nat) : w1 W K p (m + 1) j = w1 W K p m j := by
  unfold w1
  by_cases e : j / 8 = (p + m) / 8
  · rw [e]
    unfold k1 at h
    by_cases hh : Hit p m ((p + m) / 8)
    · by_cases hk : K ((p + m) / 8) = 0
      · rw [if_neg (fun x => x.2 hk), if_neg (fun x => x.2 hk)]
      · rw [if_pos ⟨hit_last p m, hk⟩, if_pos ⟨hh, hk⟩]
    · rw [if_neg hh] at h
      rw [if_neg (fun x => x.2 h), if_neg (fun x => x.2 h)]
  · by_cases hh : Hit p m (j / 8) ∧ ¬ K (j / 8) = 0
    · rw [if_pos hh, if_pos ⟨(hit_succ e).2 hh.1, hh.2⟩]
    · rw [if_neg hh, if_neg (fun x => hh ⟨(hit_succ e).1 x.1, x.2⟩)]
theorem k1_turn (K : Nat → Nat) (p m : Nat) (k : Nat) : (if k = (p + m) / 8 then 0 else k1 K p m k) = k1 K p (m + 1) k := by
  by_cases e : k = (p + m) / 8
  · rw [if_pos e, e]; exact (if_pos (hit_last p m)).symm
  · rw [if_neg e]; unfold k1
    by_cases hh : Hit p m k
    · rw [if_pos hh, if_pos ((hit_succ e).2 hh)]
    · rw [if_neg hh, if_neg (fun x => hh ((hit_succ e).1 x))]
theorem w1_turn (W : Nat → Bool) (K : Nat → Nat) (p m : Nat) (h : ¬ k1 K p m ((p + m) / 8) = 0) (j : Nat) : (if 8 * ((p + m) / 8) ≤ j ∧ j < 8 * ((p + m) / 8) + 8 then false else w1 W K p m j) = w1 W K p (m + 1) j := by
  unfold w1
  have hh : ¬ Hit p m ((p + m) / 8) := fun x => h (if_pos x)
  have hk : ¬ K ((p + m) / 8) = 0 := fun x => h (by unfold k1; rw [if_neg hh]; exact x)
  by_cases e : j / 8 = (p + m) / 8
  · rw [if_pos (by omega), e, if_pos ⟨hit_last p m, hk⟩]
  · rw [if_neg (by omega)]
    by_cases h2 : Hit p m (j / 8) ∧ ¬ K (j / 8) = 0
    · rw [if_pos h2, if_pos ⟨(hit_succ e).2 h2.1, h2.2⟩]
    · rw [if_neg h2, if_neg (fun x => h2 ⟨(hit_succ e).1 x.1, x.2⟩)]
theorem skC_congr {W W2 : Nat → Bool} {K K2 : Nat → Nat} (hW : ∀ j, j < 64 → W j = W2 j) (hK : ∀ k, K k = K2 k) (j : Nat) : skC W K j = skC W2 K2 j := by
  unfold skC
  by_cases h : j < 64
  · rw [if_pos h, if_pos h, hW j h]
  · rw [if_neg h, if_neg h, hK]
theorem in_step (f : Nat → Bool) (c x j : Nat) : (if j = c * 8 + x then false else if 8 * c ≤ j ∧ j < 8 * c + x then false else f j) = if 8 * c ≤ j ∧ j < 8 * c + (x + 1) then false else f j := by
  by_cases e : j = c * 8 + x
  · rw [if_pos e, if_pos (by omega)]
  · rw [if_neg e]
    by_cases e2 : 8 * c ≤ j ∧ j < 8 * c + x
    · rw [if_pos e2, if_pos (by omega)]
    · rw [if_neg e2, if_neg (by omega)]
theorem w2_step (W : Nat → Bool) (K : Nat → Nat) (p n : Nat) (v : Bool) {q : Nat} (h : p ≤ q) (j : Nat) : (if j = q then v else w2 W K p n v (q - p) j) = w2 W K p n v (q + 1 - p) j := by
  unfold w2
  by_cases e : j = q
  · rw [if_pos e, if_pos (by omega)]
  · rw [if_neg e]
    by_cases e2 : p ≤ j ∧ j < p + (q - p)
    · rw [if_pos e2, if_pos (by omega)]
    · rw [if_neg e2, if_neg (by omega)]
theorem w2_zero (W : Nat → Bool) (K : Nat → Nat) (p n : Nat) (v : Bool) (j : Nat) : w2 W K p n v 0 j = w1 W K p n j := if_neg (by omega)
theorem w1_turn' (W : Nat → Bool) (K : Nat → Nat) {p q : Nat} (hq : p ≤ q) (h : ¬ k1 K p (q - p) (q / 8) = 0) (j : Nat) : (if 8 * (q / 8) ≤ j ∧ j < 8 * (q / 8) + 8 then false else w1 W K p (q - p) j) = w1 W K p (q + 1 - p) j := by
  have e : p + (q - p) = q := by omega
  rw [show q + 1 - p = (q - p) + 1 by omega, ← w1_turn W K p (q - p) (by rw [e]; exact h), e]
theorem k1_turn' (K : Nat → Nat) {p q : Nat} (hq : p ≤ q) (k : Nat) : (if k = q / 8 then 0 else k1 K p (q - p) k) = k1 K p (q + 1 - p) k := by
  have e : p + (q - p) = q := by omega
  rw [show q + 1 - p = (q - p) + 1 by omega, ← k1_turn K p (q - p), e]
theorem w1_same' (W : Nat → Bool) (K : Nat → Nat) {p q : Nat} (hq : p ≤ q) (h : k1 K p (q - p) (q / 8) = 0) (j : Nat) : w1 W K p (q - p) j = w1 W K p (q + 1 - p) j := by
  have e : p + (q - p) = q := by omega
  rw [show q + 1 - p = (q - p) + 1 by omega, w1_same W K p (q - p) (by rw [e]; exact h)]
theorem k1_same' (K : Nat → Nat) {p q : Nat} (hq : p ≤ q) (h : k1 K p (q - p) (q / 8) = 0) (k : Nat) : k1 K p (q - p) k = k1 K p (q + 1 - p) k := by
  have e : p + (q - p) = q := by omega
  rw [show q + 1 - p = (q - p) + 1 by omega, k1_same K p (q - p) (by rw [e]; exact h)]
theorem below_grew {b : Option Nat} {w w' : World} {N : Nat} (h : Below N w w') (hN : Sz w N) : Grew b w w' := ⟨h.os, h.tape, h.output, h.size, fun k hk _ => h.block k (by have e : w.heap.size = N := hN; omega)⟩
theorem touch_grew {b : Nat} {w w' : World} (h : Touch b w w') : Grew (some b) w w' := ⟨h.os, h.tape, h.output, Nat.le_of_eq h.size.symm, fun k _ hne => h.block k (fun e => hne (by rw [e]))⟩
theorem grew_touch {b : Nat} {w w1 w2 : World} (g : Grew (some b) w w1) (h : Touch b w1 w2) : Grew (some b) w w2 := g.trans (touch_grew h)
theorem undSk : ∃ d, Try.prog.underlying 81 = some d ∧ d.isRow = true := row_ofN (by kernel_rfl)
theorem szSk : (Try.prog.info? 81).map (·.size) = some 72 := by kernel_rfl
set_option maxRecDepth 100000 in
set_option maxHeartbeats 4000000 in
theorem RSave_neg (b : Nat) (at_ n v : Int) (hA : Hid ((decide (at_ < 0)) = true)) (w : World) (N : Nat) (hN : Sz w N) :
    Calls Try.prog 46 #[.pointer (some ⟨b, 0, none⟩), .int .i64 at_, .int .i64 n, .int .i64 v] w fun e w' => e = .returned (.bool false) ∧ Below N w w' := by
  go_enter Try.func46, Try.ntmps46
  have lo0 : Below N w w := Below.refl N w
  go_upto_region 1 with fail
  refine wp_region_later1 (N) ?_
  try simp only [pA]
  go_big_quiet_step (fail)
  refine later_val (fun q => run_lssI (x := (.tmp 12)) (y := (.const (.int .i64 0))) rfl rfl rfl (p := at_) (q := 0) (r := true) hA.out q.w') (by rfl) ?_; simp only [pA]
  go_big_quiet_step (fail)
  go_big_quiet_step (fail)
  go_big_quiet_step (fail)
  go_big_quiet_step (fail)
  go_big_quiet_step (fail)
  go_big_quiet_step (fail)
  go_big_quiet_step (fail)
  go_big_quiet_step (fail)
  go_big_quiet_step (fail)
  go_big_quiet_step (fail)
  go_big_quiet_step (fail)
  go_big_quiet_step (fail)
  go_big_quiet_step (fail)
  go_big_quiet_step (fail)
  go_big_quiet_step (fail)
  go_big_quiet_step (fail)
  go_big_quiet_step (fail)
  go_big_quiet_step (fail)
  go_big_quiet_step (fail)
  refine wpQuiet_nil ?_
  rintro xw1 ⟨qxw1, exw1⟩
  have hbxw1 := qxw1.b
  rw [← exw1] at hbxw1
  clear qxw1 exw1
  obtain ⟨M2, hM2⟩ := sz_some xw1
  have lM2 := below_sz hbxw1 hN hM2
  have lo3 := lo0.trans (hbxw1.mono (by omega))
  clear lo0 hbxw1
  go_wp2_with fail
  go_ret
  exact ⟨rfl, lo3⟩
set_option maxRecDepth 100000 in
set_option maxHeartbeats 4000000 in
theorem RSave_out (b : Nat) (at_ n v : Int) (hA : Hid ((decide (at_ < 0)) = false)) (hB : Hid ((decide (64 < (wrap64 (at_ + n)))) = true)) (w : World) (N : Nat) (hN : Sz w N) :
    Calls Try.prog 46 #[.pointer (some ⟨b, 0, none⟩), .int .i64 at_, .int .i64 n, .int .i64 v] w fun e w' => e = .returned (.bool false) ∧ Below N w w' := by
  go_enter Try.func46, Try.ntmps46
  have lo0 : Below N w w := Below.refl N w
  go_upto_region 1 with fail
  refine wp_region_later1 (N) ?_
  try simp only [pA]
  go_big_quiet_step (fail)
  refine later_val (fun q => run_lssI (x := (.tmp 12)) (y := (.const (.int .i64 0))) rfl rfl rfl (p := at_) (q := 0) (r := false) hA.out q.w') (by rfl) ?_; simp only [pA]
  go_big_quiet_step (fail)
  go_big_quiet_step (fail)
  go_big_quiet_step (fail)
  refine later_val (fun q => run_addI (x := (.tmp 15)) (y := (.tmp 16)) rfl rfl rfl (p := at_) (q := n) q.w') (by rfl) ?_; simp only [pA]
  refine later_val (fun q => run_gtrI (x := (.tmp 17)) (y := (.const (.int .i64 64))) rfl rfl rfl (p := (wrap64 (at_ + n))) (q := 64) (r := true) hB.out q.w') (by rfl) ?_; simp only [pA]
  go_big_quiet_step (fail)
  go_big_quiet_step (fail)
  go_big_quiet_step (fail)
  go_big_quiet_step (fail)
  go_big_quiet_step (fail)
  go_big_quiet_step (fail)
  go_big_quiet_step (fail)
  go_big_quiet_step (fail)
  go_big_quiet_step (fail)
  go_big_quiet_step (fail)
  go_big_quiet_step (fail)
  go_big_quiet_step (fail)
  go_big_quiet_step (fail)
  go_big_quiet_step (fail)
  refine wpQuiet_nil ?_
  rintro xw1 ⟨qxw1, exw1⟩
  have hbxw1 := qxw1.b
  rw [← exw1] at hbxw1
  clear qxw1 exw1
  obtain ⟨M2, hM2⟩ := sz_some xw1
  have lM2 := below_sz hbxw1 hN hM2
  have lo3 := lo0.trans (hbxw1.mono (by omega))
  clear lo0 hbxw1
  go_wp2_with fail
  go_ret
  exact ⟨rfl, lo3⟩
set_option maxRecDepth 100000 in
set_option maxHeartbeats 4000000 in
theorem RSave_no8 (b : Nat) (at_ n v : Int) (hA : Hid ((decide (at_ < 0)) = false)) (hB : Hid ((decide (64 < (wrap64 (at_ + n)))) = false)) (hV : Hid ((decide (0 < v)) = true)) (hn : Hid ((n != 8) = true)) (w : World) (N : Nat) (hN : Sz w N) :
    Calls Try.prog 46 #[.pointer (some ⟨b, 0, none⟩), .int .i64 at_, .int .i64 n, .int .i64 v] w fun e w' => e = .returned (.bool false) ∧ Below N w w' := by
  go_enter Try.func46, Try.ntmps46
  have lo0 : Below N w w := Below.refl N w
  go_upto_region 1 with fail
  refine wp_region_later1 (N) ?_
  try simp only [pA]
  go_big_quiet_step (fail)
  refine later_val (fun q => run_lssI (x := (.tmp 12)) (y := (.const (.int .i64 0))) rfl rfl rfl (p := at_) (q := 0) (r := false) hA.out q.w') (by rfl) ?_; simp only [pA]
  go_big_quiet_step (fail)
  go_big_quiet_step (fail)
  go_big_quiet_step (fail)
  refine later_val (fun q => run_addI (x := (.tmp 15)) (y := (.tmp 16)) rfl rfl rfl (p := at_) (q := n) q.w') (by rfl) ?_; simp only [pA]
  refine later_val (fun q => run_gtrI (x := (.tmp 17)) (y := (.const (.int .i64 64))) rfl rfl rfl (p := (wrap64 (at_ + n))) (q := 64) (r := false) hB.out q.w') (by rfl) ?_; simp only [pA]
  go_big_quiet_step (fail)
  go_big_quiet_step (fail)
  go_big_quiet_step (fail)
  refine later_val (fun q => run_gtrI (x := (.tmp 21)) (y := (.const (.int .i64 0))) rfl rfl rfl (p := v) (q := 0) (r := true) hV.out q.w') (by rfl) ?_; simp only [pA]
  go_big_quiet_step (fail)
  go_big_quiet_step (fail)
  refine later_val (fun q => run_neqI (x := (.tmp 24)) (y := (.const (.int .i64 8))) rfl rfl rfl (p := n) (q := 8) (r := true) hn.out q.w') (by rfl) ?_; simp only [pA]
  go_big_quiet_step (fail)
  go_big_quiet_step (fail)
  go_big_quiet_step (fail)
  go_big_quiet_step (fail)
  go_big_quiet_step (fail)
  go_big_quiet_step (fail)
  go_big_quiet_step (fail)
  refine wpQuiet_nil ?_
  rintro xw1 ⟨qxw1, exw1⟩
  have hbxw1 := qxw1.b
  rw [← exw1] at hbxw1
  clear qxw1 exw1
  obtain ⟨M2, hM2⟩ := sz_some xw1
  have lM2 := below_sz hbxw1 hN hM2
  have lo3 := lo0.trans (hbxw1.mono (by omega))
  clear lo0 hbxw1
  go_wp2_with fail
  go_ret
  exact ⟨rfl, lo3⟩
set_option maxRecDepth 100000 in
set_option maxHeartbeats 4000000 in
theorem RSave_odd (b : Nat) (at_ n v : Int) (hA : Hid ((decide (at_ < 0)) = false)) (hB : Hid ((decide (64 < (wrap64 (at_ + n)))) = false)) (hV : Hid ((decide (0 < v)) = true)) (hn : Hid ((n != 8) = false)) (hR : Hid (((at_.tmod 8) != 0) = true)) (w : World) (N : Nat) (hN : Sz w N) :
    Calls Try.prog 46 #[.pointer (some ⟨b, 0, none⟩), .int .i64 at_, .int .i64 n, .int .i64 v] w fun e w' => e = .returned (.bool false) ∧ Below N w w' := by
  go_enter Try.func46, Try.ntmps46
  have lo0 : Below N w w := Below.refl N w
  go_upto_region 1 with fail
  refine wp_region_later1 (N) ?_
  try simp only [pA]
  go_big_quiet_step (fail)
  refine later_val (fun q => run_lssI (x := (.tmp 12)) (y := (.const (.int .i64 0))) rfl rfl rfl (p := at_) (q := 0) (r := false) hA.out q.w') (by rfl) ?_; simp only [pA]
  go_big_quiet_step (fail)
  go_big_quiet_step (fail)
  go_big_quiet_step (fail)
  refine later_val (fun q => run_addI (x := (.tmp 15)) (y := (.tmp 16)) rfl rfl rfl (p := at_) (q := n) q.w') (by rfl) ?_; simp only [pA]
  refine later_val (fun q => run_gtrI (x := (.tmp 17)) (y := (.const (.int .i64 64))) rfl rfl rfl (p := (wrap64 (at_ + n))) (q := 64) (r := false) hB.out q.w') (by rfl) ?_; simp only [pA]
  go_big_quiet_step (fail)
  go_big_quiet_step (fail)
  go_big_quiet_step (fail)
  refine later_val (fun q => run_gtrI (x := (.tmp 21)) (y := (.const (.int .i64 0))) rfl rfl rfl (p := v) (q := 0) (r := true) hV.out q.w') (by rfl) ?_; simp only [pA]
  go_big_quiet_step (fail)
  go_big_quiet_step (fail)
  refine later_val (fun q => run_neqI (x := (.tmp 24)) (y := (.const (.int .i64 8))) rfl rfl rfl (p := n) (q := 8) (r := false) hn.out q.w') (by rfl) ?_; simp only [pA]
  go_big_quiet_step (fail)
  go_big_quiet_step (fail)
  refine later_val (fun q => run_remI8 (x := (.tmp 27)) (y := (.const (.int .i64 8))) rfl rfl rfl (p := at_) q.w') (by rfl) ?_; simp only [pA]
  refine later_val (fun q => run_neqI (x := (.tmp 28)) (y := (.const (.int .i64 0))) rfl rfl rfl (p := (at_.tmod 8)) (q := 0) (r := true) hR.out q.w') (by rfl) ?_; simp only [pA]
  go_big_quiet_step (fail)
  go_big_quiet_step (fail)
  go_big_quiet_step (fail)
  refine wpQuiet_nil ?_
  rintro xw1 ⟨qxw1, exw1⟩
  have hbxw1 := qxw1.b
  rw [← exw1] at hbxw1
  clear qxw1 exw1
  obtain ⟨M2, hM2⟩ := sz_some xw1
  have lM2 := below_sz hbxw1 hN hM2
  have lo3 := lo0.trans (hbxw1.mono (by omega))
  clear lo0 hbxw1
  go_wp2_with fail
  go_ret
  exact ⟨rfl, lo3⟩
set_option maxRecDepth 100000 in
set_option maxHeartbeats 8000000 in
theorem RSave_n (b : Nat) (W : Nat → Bool) (K : Nat → Nat) (p n : Nat) (hp0 : 0 < n) (hpn : p + n ≤ 64) (w : World) (N : Nat) (hN : Sz w N) (hh : Has w b 81 72 (skC W K)) :
    Calls Try.prog 46 #[.pointer (some ⟨b, 0, none⟩), .int .i64 ((p : Nat) : Int), .int .i64 ((n : Nat) : Int), .int .i64 0] w fun e w' => e = .returned (.bool true) ∧ Grew (some b) w w' ∧ Has w' b 81 72 (skC (w2 W K p n true n) (k1 K p n)) := by
  have hlt : b < N := hh.ltN hN
  have hA : Hid ((decide (((p : Nat) : Int) < 0)) = false) := hid (decide_eq_false (by omega))
  have hB : Hid ((decide (64 < (wrap64 (((p : Nat) : Int) + ((n : Nat) : Int))))) = false) := hid (by rw [wrap_id (by omega) (by omega)]; exact decide_eq_false (by omega))
  go_enter Try.func46, Try.ntmps46
  have lo0 : Below N w w := Below.refl N w
  go_upto_region 1 with fail
  refine wp_region_later1 (N) ?_
  try simp only [pA]
  go_big_quiet_step (fail)
  refine later_val (fun q => run_lssI (x := (.tmp 12)) (y := (.const (.int .i64 0))) rfl rfl rfl (p := ((p : Nat) : Int)) (q := 0) (r := false) hA.out q.w') (by rfl) ?_; simp only [pA]
  go_big_quiet_step (fail)
  go_big_quiet_step (fail)
  go_big_quiet_step (fail)
  refine later_val (fun q => run_addI (x := (.tmp 15)) (y := (.tmp 16)) rfl rfl rfl (p := ((p : Nat) : Int)) (q := ((n : Nat) : Int)) q.w') (by rfl) ?_; simp only [pA]
  refine later_val (fun q => run_gtrI (x := (.tmp 17)) (y := (.const (.int .i64 64))) rfl rfl rfl (p := (wrap64 (((p : Nat) : Int) + ((n : Nat) : Int)))) (q := 64) (r := false) hB.out q.w') (by rfl) ?_; simp only [pA]
  go_big_quiet_step (fail)
  go_big_quiet_step (fail)
  go_big_quiet_step (fail)
  go_big_quiet_step (fail)
  go_big_quiet_step (fail)
  go_big_quiet_step (fail)
  go_big_quiet_step (fail)
  go_big_quiet_step (fail)
  go_big_quiet_step (fail)
  go_big_quiet_step (fail)
  go_big_quiet_step (fail)
  go_big_quiet_step (fail)
  go_big_quiet_step (fail)
  go_big_quiet_step (fail)
  refine wpQuiet_nil ?_
  rintro xw1 ⟨qxw1, exw1⟩
  have hbxw1 := qxw1.b
  rw [← exw1] at hbxw1
  clear qxw1 exw1
  obtain ⟨M2, hM2⟩ := sz_some xw1
  have lM2 := below_sz hbxw1 hN hM2
  have lo3 := lo0.trans (hbxw1.mono (by omega))
  have hh1 := hh.below hbxw1 hlt
  clear hh lo0 hbxw1
  have g1 : Grew (some b) w xw1 := below_grew lo3 hN
  clear lo3
  have p0 : (0 : Int) ≤ (p : Int) := by omega
  have n0 : (0 : Int) ≤ (n : Int) := by omega
  have pn0 : (p : Int) + (n : Int) ≤ 64 := by omega
  go_wp2_with fail
  go_loopw [9, 10] (fun i x10 wr => ∃ q : Nat, p ≤ q ∧ q ≤ p + n ∧ i = .int .i64 q ∧ Grew (some b) w wr ∧ Has wr b 81 72 (skC (w1 W K p (q - p)) (k1 K p (q - p)))) (fun i _ _ => 64 - (intOf i).toNat)
  case atStart => exact ⟨p, by omega, by omega, rfl, g1, hh1.congr (fun j _ => by rw [Nat.sub_self]; unfold skC; split <;> simp only [w1_zero, k1_zero])⟩
  case round =>
    clear hh1 g1
    obtain ⟨q, hq0, hq1, rfl, g2, h2⟩ := hrel
    by_cases hlt2 : q < p + n
    · have t1 : decide ((q : Int) < (p : Int) + (n : Int)) = true := by simp; omega
      have j1 : (0 : Int) ≤ (q : Int) := by omega
      have j2 : (q : Int) < 64 := by omega
      have j3 : (q : Int) / 8 < 8 := by omega
      have j4 : (0 : Int) ≤ (q : Int) / 8 := by omega
      have cK := h2.cell (j := 64 + q / 8) (by omega)
      rw [skC_K] at cK
      by_cases hz : k1 K p (q - p) (q / 8) = 0
      · rw [hz] at cK
        replace cK : wr.cell? ⟨b, 64 + q / 8, none⟩ = some (.int .i64 0) := cK
        have HZ := hid hz
        clear hz
        go_wp2_with fail
        exact ⟨⟨q + 1, by omega, by omega, by go_num, g2, h2.congr (fun j _ => skC_congr (fun j _ => w1_same' W K hq0 HZ.out j) (fun k => k1_same' K hq0 HZ.out k) j)⟩, by simp [intOf]; omega⟩
      · obtain ⟨kk, ek⟩ : ∃ kk, k1 K p (q - p) (q / 8) = kk := ⟨_, rfl⟩
        rw [ek] at cK hz
        have t2 : decide (0 < ((kk : Nat) : Int)) = true := by simp; omega
        have HZ : Hid (¬ k1 K p (q - p) (q / 8) = 0) := hid (by rw [ek]; exact hz)
        clear ek hz
        go_upto_region 8 with (first
          | (refine wpl_run rfl (.bool true) _ (run_gtrI (x := (.tmp 47)) (y := (.const (.int .i64 0))) rfl rfl rfl (p := ((kk : Nat) : Int)) (q := 0) t2 _) ?_)
          | (refine wpl_set rfl 3 (.tmp 54) (.const (.int .i64 0)) rfl b (64 + q / 8) rfl (.int .i64 0) rfl szI1 rfl rfl 81 72 _ h2 (by omega) ?_; intro w3 t3 h3; have g3 := grew_touch g2 t3; clear h2 g2 t3 cK; replace h3 := h3.congr (g := skC (w1 W K p (q - p)) (fun k => if k = q / 8 then 0 else k1 K p (q - p) k)) (fun j _ => upd_skK _ _ (q / 8) 0 j))
          | fail)
        go_wp2_with fail
        go_loopw [10] (fun i wr => ∃ x : Nat, x ≤ 8 ∧ i = .int .i64 x ∧ Grew (some b) w wr ∧ Has wr b 81 72 (skC (fun j => if 8 * (q / 8) ≤ j ∧ j < 8 * (q / 8) + x then false else w1 W K p (q - p) j) (fun k => if k = q / 8 then 0 else k1 K p (q - p) k))) (fun i _ => 8 - (intOf i).toNat)
        case atStart => exact ⟨0, by omega, rfl, g3, h3.congr (fun j _ => skC_congr (fun j _ => (if_neg (by omega)).symm) (fun _ => rfl) j)⟩
        case round =>
          clear h3 g3
          obtain ⟨x, hx, rfl, g4, h4⟩ := hrel
          by_cases hlt3 : x < 8
          · have t4 : decide ((x : Int) < 8) = true := by simp; omega
            have x1 : (0 : Int) ≤ (x : Int) := by omega
            have x2 : (x : Int) < 8 := by omega
            go_wp2_with (first
              | (refine wpl_set rfl 4 (.tmp 67) (.const (.bool false)) rfl b (q / 8 * 8 + x) rfl (.bool false) rfl szB1 rfl rfl 81 72 _ h4 (by omega) ?_; intro w5 t5 h5; have g5 := grew_touch g4 t5)
              | fail)
            exact ⟨⟨x + 1, by omega, by go_num, g5, h5.congr (fun j _ => by rw [upd_skW _ _ (by omega)]; exact skC_congr (fun j _ => in_step _ (q / 8) x j) (fun _ => rfl) j)⟩, by simp [intOf]; omega⟩
          · obtain rfl : x = 8 := by omega
            go_wp2_with fail
            exact ⟨⟨q + 1, by omega, by omega, by go_num, g4, h4.congr (fun j _ => skC_congr (fun j _ => w1_turn' W K hq0 HZ.out j) (fun k => k1_turn' K hq0 k) j)⟩, by simp [intOf]; omega⟩
    · have hqe : q = p + n := by omega
      have t1 : decide ((q : Int) < (p : Int) + (n : Int)) = false := by simp; omega
      rw [show q - p = n by omega] at h2
      clear hqe hlt2 hq0 hq1
      go_wp2_with fail
      go_loopw [11] (fun i wr => ∃ q : Nat, p ≤ q ∧ q ≤ p + n ∧ i = .int .i64 q ∧ Grew (some b) w wr ∧ Has wr b 81 72 (skC (w2 W K p n true (q - p)) (k1 K p n))) (fun i _ => 64 - (intOf i).toNat)
      case atStart => exact ⟨p, by omega, by omega, rfl, g2, h2.congr (fun j _ => by rw [Nat.sub_self]; exact skC_congr (fun j _ => (w2_zero W K p n true j).symm) (fun _ => rfl) j)⟩
      case round =>
        clear h2 g2
        obtain ⟨q, hq0, hq1, rfl, g2, h2⟩ := hrel
        by_cases hlt2 : q < p + n
        · have t1 : decide ((q : Int) < (p : Int) + (n : Int)) = true := by simp; omega
          have j1 : (0 : Int) ≤ (q : Int) := by omega
          have j2 : (q : Int) < 64 := by omega
          go_wp2_with (first
            | (refine wpl_run rfl (.bool true) _ (run_eqlI (x := (.tmp 78)) (y := (.const (.int .i64 0))) rfl rfl rfl (p := 0) (q := 0) rfl _) ?_)
            | (refine wpl_set rfl 4 (.tmp 82) (.tmp 79) rfl b q rfl (.bool true) rfl szB1 rfl rfl 81 72 _ h2 (by omega) ?_; intro w5 t5 h5; have g5 := grew_touch g2 t5)
            | fail)
          exact ⟨⟨q + 1, by omega, by omega, by go_num, g5, h5.congr (fun j _ => by rw [upd_skW _ _ (by omega)]; exact skC_congr (fun j _ => w2_step W K p n true hq0 j) (fun _ => rfl) j)⟩, by simp [intOf]; omega⟩
        · have t1 : decide ((q : Int) < (p : Int) + (n : Int)) = false := by simp; omega
          rw [show q - p = n by omega] at h2
          go_wp2_with fail
          go_ret
          exact ⟨rfl, g2, h2⟩
set_option maxRecDepth 100000 in
set_option maxHeartbeats 8000000 in
theorem RSave_v (b : Nat) (W : Nat → Bool) (K : Nat → Nat) (p n v : Nat) (hp0 : 0 < n) (hpn : p + n ≤ 64) (hv : 0 < v) (h8 : n = 8) (hp8 : p % 8 = 0) (w : World) (N : Nat) (hN : Sz w N) (hh : Has w b 81 72 (skC W K)) :
    Calls Try.prog 46 #[.pointer (some ⟨b, 0, none⟩), .int .i64 ((p : Nat) : Int), .int .i64 ((n : Nat) : Int), .int .i64 ((v : Nat) : Int)] w fun e w' => e = .returned (.bool true) ∧ Grew (some b) w w' ∧ Has w' b 81 72 (skC (w2 W K p n false n) (fun k => if k = p / 8 then v else k1 K p n k)) := by
  have hlt : b < N := hh.ltN hN
  have hA : Hid ((decide (((p : Nat) : Int) < 0)) = false) := hid (decide_eq_false (by omega))
  have hB : Hid ((decide (64 < (wrap64 (((p : Nat) : Int) + ((n : Nat) : Int))))) = false) := hid (by rw [wrap_id (by omega) (by omega)]; exact decide_eq_false (by omega))
  have hV : Hid ((decide (0 < ((v : Nat) : Int))) = true) := hid (decide_eq_true (by omega))
  have hn8 : Hid ((((n : Nat) : Int) != 8) = false) := hid (by rw [bne_eq_false_iff_eq]; omega)
  have hR : Hid ((((p : Nat) : Int).tmod 8 != 0) = false) := hid (by rw [bne_eq_false_iff_eq]; exact Int.tmod_eq_zero_of_dvd (Int.dvd_of_emod_eq_zero (by omega)))
  have H8 := hid h8
  have HP8 := hid hp8
  clear h8 hp8
  go_enter Try.func46, Try.ntmps46
  have lo0 : Below N w w := Below.refl N w
  go_upto_region 1 with fail
  refine wp_region_later1 (N) ?_
  try simp only [pA]
  go_big_quiet_step (fail)
  refine later_val (fun q => run_lssI (x := (.tmp 12)) (y := (.const (.int .i64 0))) rfl rfl rfl (p := ((p : Nat) : Int)) (q := 0) (r := false) hA.out q.w') (by rfl) ?_; simp only [pA]
  go_big_quiet_step (fail)
  go_big_quiet_step (fail)
  go_big_quiet_step (fail)
  refine later_val (fun q => run_addI (x := (.tmp 15)) (y := (.tmp 16)) rfl rfl rfl (p := ((p : Nat) : Int)) (q := ((n : Nat) : Int)) q.w') (by rfl) ?_; simp only [pA]
  refine later_val (fun q => run_gtrI (x := (.tmp 17)) (y := (.const (.int .i64 64))) rfl rfl rfl (p := (wrap64 (((p : Nat) : Int) + ((n : Nat) : Int)))) (q := 64) (r := false) hB.out q.w') (by rfl) ?_; simp only [pA]
  go_big_quiet_step (fail)
  go_big_quiet_step (fail)
  go_big_quiet_step (fail)
  refine later_val (fun q => run_gtrI (x := (.tmp 21)) (y := (.const (.int .i64 0))) rfl rfl rfl (p := ((v : Nat) : Int)) (q := 0) (r := true) hV.out q.w') (by rfl) ?_; simp only [pA]
  go_big_quiet_step (fail)
  go_big_quiet_step (fail)
  refine later_val (fun q => run_neqI (x := (.tmp 24)) (y := (.const (.int .i64 8))) rfl rfl rfl (p := ((n : Nat) : Int)) (q := 8) (r := false) hn8.out q.w') (by rfl) ?_; simp only [pA]
  go_big_quiet_step (fail)
  go_big_quiet_step (fail)
  refine later_val (fun q => run_remI8 (x := (.tmp 27)) (y := (.const (.int .i64 8))) rfl rfl rfl (p := ((p : Nat) : Int)) q.w') (by rfl) ?_; simp only [pA]
  refine later_val (fun q => run_neqI (x := (.tmp 28)) (y := (.const (.int .i64 0))) rfl rfl rfl (p := (((p : Nat) : Int).tmod 8)) (q := 0) (r := false) hR.out q.w') (by rfl) ?_; simp only [pA]
  go_big_quiet_step (fail)
  go_big_quiet_step (fail)
  go_big_quiet_step (fail)
  refine wpQuiet_nil ?_
  rintro xw1 ⟨qxw1, exw1⟩
  have hbxw1 := qxw1.b
  rw [← exw1] at hbxw1
  clear qxw1 exw1
  obtain ⟨M2, hM2⟩ := sz_some xw1
  have lM2 := below_sz hbxw1 hN hM2
  have lo3 := lo0.trans (hbxw1.mono (by omega))
  have hh1 := hh.below hbxw1 hlt
  clear hh lo0 hbxw1
  generalize (((p : Nat) : Int).tmod 8) = tmv
  have g1 : Grew (some b) w xw1 := below_grew lo3 hN
  clear lo3
  have p0 : (0 : Int) ≤ (p : Int) := by omega
  have n0 : (0 : Int) ≤ (n : Int) := by omega
  have pn0 : (p : Int) + (n : Int) ≤ 64 := by omega
  go_wp2_with fail
  go_loopw [9, 10] (fun i x10 wr => ∃ q : Nat, p ≤ q ∧ q ≤ p + n ∧ i = .int .i64 q ∧ Grew (some b) w wr ∧ Has wr b 81 72 (skC (w1 W K p (q - p)) (k1 K p (q - p)))) (fun i _ _ => 64 - (intOf i).toNat)
  case atStart => exact ⟨p, by omega, by omega, rfl, g1, hh1.congr (fun j _ => by rw [Nat.sub_self]; unfold skC; split <;> simp only [w1_zero, k1_zero])⟩
  case round =>
    clear hh1 g1
    obtain ⟨q, hq0, hq1, rfl, g2, h2⟩ := hrel
    by_cases hlt2 : q < p + n
    · have t1 : decide ((q : Int) < (p : Int) + (n : Int)) = true := by simp; omega
      have j1 : (0 : Int) ≤ (q : Int) := by omega
      have j2 : (q : Int) < 64 := by omega
      have j3 : (q : Int) / 8 < 8 := by omega
      have j4 : (0 : Int) ≤ (q : Int) / 8 := by omega
      have cK := h2.cell (j := 64 + q / 8) (by omega)
      rw [skC_K] at cK
      by_cases hz : k1 K p (q - p) (q / 8) = 0
      · rw [hz] at cK
        replace cK : wr.cell? ⟨b, 64 + q / 8, none⟩ = some (.int .i64 0) := cK
        have HZ := hid hz
        clear hz
        go_wp2_with fail
        exact ⟨⟨q + 1, by omega, by omega, by go_num, g2, h2.congr (fun j _ => skC_congr (fun j _ => w1_same' W K hq0 HZ.out j) (fun k => k1_same' K hq0 HZ.out k) j)⟩, by simp [intOf]; omega⟩
      · obtain ⟨kk, ek⟩ : ∃ kk, k1 K p (q - p) (q / 8) = kk := ⟨_, rfl⟩
        rw [ek] at cK hz
        have t2 : decide (0 < ((kk : Nat) : Int)) = true := by simp; omega
        have HZ : Hid (¬ k1 K p (q - p) (q / 8) = 0) := hid (by rw [ek]; exact hz)
        clear ek hz
        go_upto_region 8 with (first
          | (refine wpl_run rfl (.bool true) _ (run_gtrI (x := (.tmp 47)) (y := (.const (.int .i64 0))) rfl rfl rfl (p := ((kk : Nat) : Int)) (q := 0) t2 _) ?_)
          | (refine wpl_set rfl 3 (.tmp 54) (.const (.int .i64 0)) rfl b (64 + q / 8) rfl (.int .i64 0) rfl szI1 rfl rfl 81 72 _ h2 (by omega) ?_; intro w3 t3 h3; have g3 := grew_touch g2 t3; clear h2 g2 t3 cK; replace h3 := h3.congr (g := skC (w1 W K p (q - p)) (fun k => if k = q / 8 then 0 else k1 K p (q - p) k)) (fun j _ => upd_skK _ _ (q / 8) 0 j))
          | fail)
        go_wp2_with fail
        go_loopw [10] (fun i wr => ∃ x : Nat, x ≤ 8 ∧ i = .int .i64 x ∧ Grew (some b) w wr ∧ Has wr b 81 72 (skC (fun j => if 8 * (q / 8) ≤ j ∧ j < 8 * (q / 8) + x then false else w1 W K p (q - p) j) (fun k => if k = q / 8 then 0 else k1 K p (q - p) k))) (fun i _ => 8 - (intOf i).toNat)
        case atStart => exact ⟨0, by omega, rfl, g3, h3.congr (fun j _ => skC_congr (fun j _ => (if_neg (by omega)).symm) (fun _ => rfl) j)⟩
        case round =>
          clear h3 g3
          obtain ⟨x, hx, rfl, g4, h4⟩ := hrel
          by_cases hlt3 : x < 8
          · have t4 : decide ((x : Int) < 8) = true := by simp; omega
            have x1 : (0 : Int) ≤ (x : Int) := by omega
            have x2 : (x : Int) < 8 := by omega
            go_wp2_with (first
              | (refine wpl_set rfl 4 (.tmp 67) (.const (.bool false)) rfl b (q / 8 * 8 + x) rfl (.bool false) rfl szB1 rfl rfl 81 72 _ h4 (by omega) ?_; intro w5 t5 h5; have g5 := grew_touch g4 t5)
              | fail)
            exact ⟨⟨x + 1, by omega, by go_num, g5, h5.congr (fun j _ => by rw [upd_skW _ _ (by omega)]; exact skC_congr (fun j _ => in_step _ (q / 8) x j) (fun _ => rfl) j)⟩, by simp [intOf]; omega⟩
          · obtain rfl : x = 8 := by omega
            go_wp2_with fail
            exact ⟨⟨q + 1, by omega, by omega, by go_num, g4, h4.congr (fun j _ => skC_congr (fun j _ => w1_turn' W K hq0 HZ.out j) (fun k => k1_turn' K hq0 k) j)⟩, by simp [intOf]; omega⟩
    · have hqe : q = p + n := by omega
      have t1 : decide ((q : Int) < (p : Int) + (n : Int)) = false := by simp; omega
      rw [show q - p = n by omega] at h2
      clear hqe hlt2 hq0 hq1
      go_wp2_with fail
      go_loopw [11] (fun i wr => ∃ q : Nat, p ≤ q ∧ q ≤ p + n ∧ i = .int .i64 q ∧ Grew (some b) w wr ∧ Has wr b 81 72 (skC (w2 W K p n false (q - p)) (k1 K p n))) (fun i _ => 64 - (intOf i).toNat)
      case atStart => exact ⟨p, by omega, by omega, rfl, g2, h2.congr (fun j _ => by rw [Nat.sub_self]; exact skC_congr (fun j _ => (w2_zero W K p n false j).symm) (fun _ => rfl) j)⟩
      case round =>
        clear h2 g2
        obtain ⟨q, hq0, hq1, rfl, g2, h2⟩ := hrel
        by_cases hlt2 : q < p + n
        · have t1 : decide ((q : Int) < (p : Int) + (n : Int)) = true := by simp; omega
          have j1 : (0 : Int) ≤ (q : Int) := by omega
          have j2 : (q : Int) < 64 := by omega
          go_wp2_with (first
            | (refine wpl_run rfl (.bool false) _ (run_eqlI (x := (.tmp 78)) (y := (.const (.int .i64 0))) rfl rfl rfl (p := ((v : Nat) : Int)) (q := 0) (beq_false_of_ne (by omega)) _) ?_)
            | (refine wpl_set rfl 4 (.tmp 82) (.tmp 79) rfl b q rfl (.bool false) rfl szB1 rfl rfl 81 72 _ h2 (by omega) ?_; intro w5 t5 h5; have g5 := grew_touch g2 t5)
            | fail)
          exact ⟨⟨q + 1, by omega, by omega, by go_num, g5, h5.congr (fun j _ => by rw [upd_skW _ _ (by omega)]; exact skC_congr (fun j _ => w2_step W K p n false hq0 j) (fun _ => rfl) j)⟩, by simp [intOf]; omega⟩
        · have t1 : decide ((q : Int) < (p : Int) + (n : Int)) = false := by simp; omega
          rw [show q - p = n by omega] at h2
          have j3 : (p : Int) / 8 < 8 := by omega
          have j4 : (0 : Int) ≤ (p : Int) / 8 := by omega
          have tv : decide (0 < ((v : Nat) : Int)) = true := by simp; omega
          go_wp2_with (first
            | (refine wpl_run rfl (.bool true) _ (run_gtrI (x := (.tmp 83)) (y := (.const (.int .i64 0))) rfl rfl rfl (p := ((v : Nat) : Int)) (q := 0) tv _) ?_)
            | (refine wpl_set rfl 3 (.tmp 91) (.tmp 88) rfl b (64 + p / 8) rfl (.int .i64 ((v : Nat) : Int)) rfl szI1 rfl rfl 81 72 _ h2 (by omega) ?_; intro w7 t7 h7; have g7 := grew_touch g2 t7; replace h7 := h7.congr (fun j _ => upd_skK _ _ (p / 8) v j))
            | fail)
          go_ret
          exact ⟨rfl, g7, h7⟩
end Go.Proofs.Ytcdhngceiochoaa
