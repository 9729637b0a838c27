/- RegionStacks: the document's stack: what is written over is gone. -/
import Derived.Test.YtjcjmlmdcjkceaaRs1
namespace Go.Proofs.Ytjcjmlmdcjkceaa
open Go Go.RowKit
theorem touch_refl (b : Nat) (w : World) : Touch b w w := ⟨rfl, rfl, rfl, rfl, fun _ _ => rfl⟩
theorem touch_trans {b : Nat} {w1 w2 w3 : World} (a : Touch b w1 w2) (c : Touch b w2 w3) : Touch b w1 w3 := ⟨c.os.trans a.os, c.tape.trans a.tape, c.output.trans a.output, c.size.trans a.size, fun k hk => (c.block k hk).trans (a.block k hk)⟩
set_option maxRecDepth 100000 in
set_option maxHeartbeats 4000000 in
theorem Clear_any (b : Nat) (s : Rk) (f n : Nat) (hfn : f + n ≤ 64) (w : World) (hh : Has w b 48 136 (rkC s)) : Calls Try.prog 36 #[.pointer (some ⟨b, 0, none⟩), .int .i64 ((f : Nat) : Int), .int .i64 ((n : Nat) : Int)] w fun e w' => e = .returned (.tuple #[]) ∧ Touch b w w' ∧ Has w' b 48 136 (rkC (clS s f n)) := by
  go_enter Try.func36, Try.ntmps36
  go_wp2_with fail
  go_loopw [6, 7] (fun x6 x7 wr => ∃ t : Nat, t ≤ n ∧ x6 = .int .i64 ((f + t : Nat) : Int) ∧ Touch b w wr ∧ Has wr b 48 136 (rkC (clS s f t))) (fun x6 _ _ => f + n - (intOf x6).toNat)
  case atStart => exact ⟨0, by omega, rfl, touch_refl b w, by rw [clS_zero]; exact hh⟩
  case round =>
    clear hh
    obtain ⟨t, ht, rfl, T, hh⟩ := hrel
    obtain ⟨q, hq⟩ : ∃ q, q = f + t := ⟨_, rfl⟩
    have HQ := hid hq
    rw [← hq]
    have e1 : decide (((q : Nat) : Int) < ((f + n : Nat) : Int)) = decide (t < n) := by rw [decide_eq_decide]; omega
    have E1 := hid e1
    clear e1 hq
    by_cases hlt : t < n
    · have q1 : q < 64 := by have := HQ.out; omega
      have j1 : (0 : Int) ≤ (q : Int) := by omega
      have j2 : (q : Int) < 64 := by omega
      have j3 : (q : Int) / 8 < 8 := by omega
      have j4 : (0 : Int) ≤ (q : Int) / 8 := by omega
      obtain ⟨s1, es⟩ : ∃ s1, clS s f t = s1 := ⟨_, rfl⟩
      rw [es] at hh
      have ES := hid es
      clear es
      have cK := hh.cell (j := 128 + q / 8) (by omega)
      rw [rkC_k] at cK
      by_cases hz : s1.k (q / 8) = 0
      · rw [hz] at cK
        replace cK : wr.cell? ⟨b, 128 + q / 8, none⟩ = some (.int .i64 0) := cK
        have HZ := hid hz
        clear hz
        go_wp2_with (first
          | (refine wpl_run rfl (.int .i64 ((f + n : Nat) : Int)) _ (run_addN (x := .tmp 10) (y := .tmp 11) rfl rfl rfl (by omega) _) ?_)
          | (refine wpl_run rfl (.bool true) _ (run_lssI (x := .tmp 9) (y := .tmp 12) rfl rfl rfl (E1.out.trans (decide_eq_true hlt)) _) ?_)
          | fail)
        have hqv := HQ.out
        refine ⟨⟨t + 1, by omega, by rw [hqv]; go_num, T, ?_⟩, by simp [intOf]; omega⟩
        rw [clS_same s f t (by rw [← hqv, ES.out]; exact HZ.out), ES.out]; exact hh
      · obtain ⟨kk, ek⟩ : ∃ kk, s1.k (q / 8) = kk := ⟨_, rfl⟩
        rw [ek] at cK
        have hz2 : ¬ kk = 0 := by rw [← ek]; exact hz
        have t2 : (((kk : Nat) : Int) == 0) = false := beq_false_of_ne (by omega)
        have HZ := hid hz
        have T2 := hid t2
        clear ek hz hz2 t2
        go_upto_region 5 with (first
          | (refine wpl_run rfl (.int .i64 ((f + n : Nat) : Int)) _ (run_addN (x := .tmp 10) (y := .tmp 11) rfl rfl rfl (by omega) _) ?_)
          | (refine wpl_run rfl (.bool true) _ (run_lssI (x := .tmp 9) (y := .tmp 12) rfl rfl rfl (E1.out.trans (decide_eq_true hlt)) _) ?_)
          | (refine wpl_run rfl (.bool false) _ (run_eqlI (x := .tmp 22) (y := .const (.int .i64 0)) rfl rfl rfl (p := ((kk : Nat) : Int)) (q := 0) T2.out _) ?_)
          | (refine wpl_set rfl 3 (.tmp 29) (.const (.int .i64 0)) rfl b (128 + q / 8) rfl (.int .i64 0) rfl szI1 rfl rfl 48 136 _ hh (by omega) ?_; intro w3 t3 h3; replace h3 := h3.congr (g := rkC (s1.setK (q / 8) 0)) (fun j _ => upd_rK s1 (q / 8) 0 j); replace T := touch_trans T t3; clear hh t3 cK)
          | fail)
        go_wp2_with fail
        go_loopw [7] (fun x7 wr => ∃ x : Nat, x ≤ 8 ∧ x7 = .int .i64 ((x : Nat) : Int) ∧ Touch b w wr ∧ Has wr b 48 136 (rkC (clW (s1.setK (q / 8) 0) (q / 8) x))) (fun x7 _ => 8 - (intOf x7).toNat)
        case atStart => exact ⟨0, by omega, rfl, T, by rw [clW_zero]; exact h3⟩
        case round =>
          clear h3 T
          obtain ⟨x, hx, rfl, T, hh⟩ := hrel
          by_cases hlt3 : x < 8
          · have t4 : decide ((x : Int) < 8) = true := by simp; omega
            have x1 : (0 : Int) ≤ (x : Int) := by omega
            have x2 : (x : Int) < 8 := by omega
            go_wp2_with (first
              | (refine wpl_run rfl (.int .i64 ((8 * (q / 8) + x : Nat) : Int)) _ (addN (x := .tmp 37) (y := .tmp 38) rfl rfl rfl (by rw [wrap_z _ (by omega) (by omega)]; omega) _) ?_)
              | (refine wpl_run rfl (.agg (cellsOf (bC 0 0#64) 2)) _ (run_bd 44 #[] rfl (cellsOf (bC 0 0#64) 2) (by kernel_rfl) _) ?_)
              | (refine wpl_run rfl (.pointer (some ⟨b, 0 + (8 * (q / 8) + x) * 2, none⟩)) _ (run_iaK (x := .tmp 42) (y := .tmp 39) rfl (b := b) (off := 0) (k := 8 * (q / 8) + x) rfl rfl undRB szBy (by omega)) ?_)
              | (refine wpl_store_part rfl 44 (.tmp 43) (.tmp 40) rfl b (0 + (8 * (q / 8) + x) * 2) rfl 2 (bC 0 0#64) rfl 48 136 _ hh (by omega) szBy (fun j _ => bC_one _ _ j) ?_; intro w5 t5 h5; replace h5 := h5.congr (g := rkC (clW (s1.setK (q / 8) 0) (q / 8) (x + 1))) (fun j _ => by rw [← clW_step]; exact lay_rB _ _ (by omega) _ _ j); clear hh)
              | fail)
            exact ⟨⟨x + 1, by omega, by go_num, touch_trans T t5, h5⟩, by simp [intOf]; omega⟩
          · obtain rfl : x = 8 := by omega
            go_wp2_with fail
            have hqv := HQ.out
            refine ⟨⟨t + 1, by omega, by rw [hqv]; go_num, T, ?_⟩, by simp [intOf]; omega⟩
            rw [clS_turn s f t (by rw [← hqv, ES.out]; exact HZ.out), ← hqv, ES.out]; exact hh
    · go_wp2_with (first
        | (refine wpl_run rfl (.int .i64 ((f + n : Nat) : Int)) _ (run_addN (x := .tmp 10) (y := .tmp 11) rfl rfl rfl (by omega) _) ?_)
        | (refine wpl_run rfl (.bool false) _ (run_lssI (x := .tmp 9) (y := .tmp 12) rfl rfl rfl (E1.out.trans (decide_eq_false hlt)) _) ?_)
        | fail)
      obtain rfl : t = n := by omega
      exact bodyPost_end (results_none rfl _ _ _) rfl ⟨rfl, T, hh⟩
end Go.Proofs.Ytjcjmlmdcjkceaa
