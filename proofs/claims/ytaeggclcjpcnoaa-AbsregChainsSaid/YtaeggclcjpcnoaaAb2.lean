/- States: the bytes of a word set; a word forgotten. -/
import Derived.Test.YtaeggclcjpcnoaaAb1
import Derived.Deep.LoopGhost
namespace Go.Proofs.Ytaeggclcjpcnoaa
open Go Go.RowKit
theorem Touch.trans {b : Nat} {w w1 w2 : World} (t1 : Touch b w w1) (t2 : Touch b w1 w2) : Touch b w w2 :=
  ⟨t2.os.trans t1.os, t2.tape.trans t1.tape, t2.output.trans t1.output, t2.size.trans t1.size, fun k hk => (t2.block k hk).trans (t1.block k hk)⟩
/-- The first bytes of a word are set. -/
def St.setN (s : St) (k n : Nat) (v : Bool) : St := ⟨s.R, fun j => if 8 * k ≤ j ∧ j < 8 * k + n then v else s.W j, s.K⟩
theorem setN_zero (s : St) (k : Nat) (v : Bool) (j : Nat) : stC (s.setN k 0 v) j = stC s j := by
  unfold stC St.setN
  simp only
  by_cases h1 : j < 121
  · rw [if_pos h1, if_pos h1]
  · rw [if_neg h1, if_neg h1]
    by_cases h2 : j < 185
    · rw [if_pos h2, if_pos h2, if_neg (by omega)]
    · rw [if_neg h2, if_neg h2]
theorem setN_succ (s : St) (k n : Nat) (v : Bool) (j : Nat) : stC ((s.setN k n v).setW (8 * k + n) v) j = stC (s.setN k (n + 1) v) j := by
  unfold stC St.setN St.setW
  simp only
  by_cases h1 : j < 121
  · rw [if_pos h1, if_pos h1]
  · rw [if_neg h1, if_neg h1]
    by_cases h2 : j < 185
    · rw [if_pos h2, if_pos h2]
      by_cases e : j - 121 = 8 * k + n
      · rw [if_pos e, if_pos (by omega)]
      · rw [if_neg e]
        by_cases h3 : 8 * k ≤ j - 121 ∧ j - 121 < 8 * k + n
        · rw [if_pos h3, if_pos (by omega)]
        · rw [if_neg h3, if_neg (by omega)]
    · rw [if_neg h2, if_neg h2]
set_option maxRecDepth 100000 in
theorem SetBytes_any (b k : Nat) (hk : k < 8) (v : Bool) (s : St) (w : World) (hh : Has w b 76 273 (stC s)) :
    Calls Try.prog 84 #[.pointer (some ⟨b, 0, none⟩), .int .i64 (k : Int), .bool v] w fun e w' => e = .returned (.tuple #[]) ∧ Touch b w w' ∧ Has w' b 76 273 (stC (s.setN k 8 v)) := by
  have k0 : (0 : Int) ≤ (k : Int) := by omega
  have k1 : (k : Int) < 8 := by omega
  go_enter Try.func84, Try.ntmps84
  go_wp2_with fail
  go_loopw [7] (fun i wr => ∃ n : Nat, n ≤ 8 ∧ i = .int .i64 n ∧ (n = 0 → wr = w) ∧ (0 < n → Touch b w wr) ∧ Has wr b 76 273 (stC (s.setN k n v))) (fun i _ => 8 - (intOf i).toNat)
  case atStart => exact ⟨0, by omega, rfl, fun _ => rfl, fun h => absurd h (by omega), hh.congr (fun j _ => (setN_zero s k v j).symm)⟩
  case round =>
    clear hh
    obtain ⟨n, hn, rfl, e0, t0, hh⟩ := hrel
    have E0 := hid e0
    have T0 := hid t0
    clear e0 t0
    by_cases hlt : n < 8
    · have t1 : decide ((n : Int) < 8) = true := by simp; omega
      have j1 : (0 : Int) ≤ (n : Int) := by omega
      have j2 : (n : Int) < 8 := by omega
      have j3 : k * 8 + n < 64 := by omega
      go_wp2_with (first
        | (refine wpl_set rfl 4 (.tmp 18) (.tmp 15) rfl b (121 + (k * 8 + n)) rfl (.bool v) rfl szB1 rfl rfl 76 273 _ hh (by omega) ?_; intro w1 ht1 h1)
        | fail)
      have E0' := E0.out
      have T0' := T0.out
      refine ⟨⟨n + 1, by omega, by go_num, fun h => absurd h (by omega), fun _ => ?_, h1.congr (fun j _ => ?_)⟩, by simp [intOf]; omega⟩
      · by_cases hz : n = 0
        · rw [E0' hz] at ht1; exact ht1
        · exact (T0' (by omega)).trans ht1
      · rw [upd_W _ j3, Nat.mul_comm k 8]; exact setN_succ s k n v j
    · obtain rfl : n = 8 := by omega
      go_wp2_with fail
      go_end0
      exact ⟨rfl, T0.out (by omega), hh⟩
set_option maxRecDepth 100000 in
/-- A word in which nothing is kept stays as it is. -/
theorem Forget_no (b k : Nat) (hk : k < 8) (s : St) (hs : (s.K k).k = 0) (w : World) (hh : Has w b 76 273 (stC s)) :
    Calls Try.prog 79 #[.pointer (some ⟨b, 0, none⟩), .int .i64 (k : Int)] w fun e w' => e = .returned (.tuple #[]) ∧ w' = w := by
  have k0 : (0 : Int) ≤ (k : Int) := by omega
  have k1 : (k : Int) < 8 := by omega
  have c1 : w.cell? ⟨b, 185 + k * 11, none⟩ = some (.int .i64 0) := by
    have h := hh.cell (j := 185 + (11 * k + 0)) (by omega)
    rw [stC_K s k (by omega)] at h
    rw [Nat.mul_comm k 11]
    unfold arC at h
    rw [hs] at h
    exact h
  go_enter Try.func79, Try.ntmps79
  go_wp2_with fail
  go_end0
  exact ⟨rfl, rfl⟩
/-- What is kept in a word is forgotten. -/
def St.drop (s : St) (k : Nat) : St := bif (s.K k).k == 0 then s else (s.setK k zeroA).setN k 8 false
set_option maxRecDepth 100000 in
theorem Forget_yes (b k : Nat) (hk : k < 8) (s : St) (hs : ((s.K k).k != 0) = true) (w : World) (hh : Has w b 76 273 (stC s)) :
    Calls Try.prog 79 #[.pointer (some ⟨b, 0, none⟩), .int .i64 (k : Int)] w fun e w' => e = .returned (.tuple #[]) ∧ Touch b w w' ∧ Has w' b 76 273 (stC ((s.setK k zeroA).setN k 8 false)) := by
  have k0 : (0 : Int) ≤ (k : Int) := by omega
  have k1 : (k : Int) < 8 := by omega
  have c1 : w.cell? ⟨b, 185 + k * 11, none⟩ = some (.int .i64 (s.K k).k) := by
    have h := hh.cell (j := 185 + (11 * k + 0)) (by omega)
    rw [stC_K s k (by omega)] at h
    rw [Nat.mul_comm k 11]
    exact h
  go_enter Try.func79, Try.ntmps79
  go_wp2_with (first
    | (refine wpl_run rfl (.agg (cellsOf (arC zeroA) 11)) _ (run_bd 71 _ rfl (cellsOf (arC zeroA) 11) (by kernel_rfl) _) ?_)
    | (refine wpl_store_part rfl 71 (.tmp 17) (.tmp 14) rfl b (185 + k * 11) rfl 11 (arC zeroA) rfl 76 273 _ hh (by omega) szAr (fun j _ => arC_one _ j) ?_; intro w1 t1 h1; clear c1; have h1' := h1.congr (g := stC (s.setK k zeroA)) (fun j _ => by rw [Nat.mul_comm k 11]; exact lay_K s hk zeroA j); clear h1 hh)
    | (go_at_call 84; refine (SetBytes_any b k hk false _ _ h1').mono ?_; rintro e w2 ⟨rfl, t2, h2⟩)
    | fail)
  go_end0
  exact ⟨rfl, t1.trans t2, h2⟩
end Go.Proofs.Ytaeggclcjpcnoaa
