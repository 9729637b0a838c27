/- RegionStacks: the document's stack: what is loaded; places, sizes, values. -/
import Derived.Test.YtjcjmlmdcjkceaaRs3
namespace Go.Proofs.Ytjcjmlmdcjkceaa
open Go Go.RowKit
set_option maxRecDepth 100000 in
set_option maxHeartbeats 4000000 in
theorem Place_any (n off : Int) (k : Nat) (ho : -1000000 < off ∧ off < 1000000) (hk : k < 1000000) (w : World) : Calls Try.prog 16 #[.int .i64 n, .int .i64 off, .int .i64 ((k : Nat) : Int)] w fun e w' => e = .returned (.int .i64 (plF n off k)) ∧ w' = w := by
  obtain ⟨z, ez⟩ : ∃ z, plF n off k = z := ⟨_, rfl⟩
  rw [ez]
  unfold plF at ez
  have o1 : ¬ off < -1000000000000 := by omega
  have o2 : ¬ (1000000000000 : Int) < off := by omega
  by_cases h1 : n < -1000000000000
  · rw [if_pos (by omega)] at ez
    subst ez
    go_enter Try.func16, Try.ntmps16
    go_wp2_with fail
    go_ret
    exact ⟨rfl, rfl⟩
  by_cases h2 : (1000000000000 : Int) < n
  · rw [if_pos (by omega)] at ez
    subst ez
    go_enter Try.func16, Try.ntmps16
    go_wp2_with fail
    go_ret
    exact ⟨rfl, rfl⟩
  rw [if_neg (by omega)] at ez
  obtain ⟨s, es⟩ : ∃ s, s = n + off + 64 := ⟨_, rfl⟩
  rw [← es] at ez
  have e1 : wrap64 (n + off) = n + off := wrap_id (by omega) (by omega)
  have e2 : wrap64 (n + off + 64) = s := by rw [wrap_id (by omega) (by omega)]; exact es.symm
  have e3 : wrap64 (s + (k : Int)) = s + (k : Int) := wrap_id (by omega) (by omega)
  obtain ⟨c1, ec1⟩ : ∃ c, decide (s < 0) = c := ⟨_, rfl⟩
  obtain ⟨c2, ec2⟩ : ∃ c, decide (64 < s + (k : Int)) = c := ⟨_, rfl⟩
  have hz : z = if c1 = true ∨ c2 = true then -1 else s := by
    rw [← ez, ← ec1, ← ec2]
    by_cases h : s < 0 ∨ 64 < s + (k : Int)
    · rw [if_pos h, if_pos (by simpa using h)]
    · rw [if_neg h, if_neg (by simpa using h)]
  have E1 := hid e1
  have E2 := hid e2
  have E3 := hid e3
  have EC1 := hid ec1
  have EC2 := hid ec2
  have HZ := hid hz
  have H1 : ¬ n < -1000000000000 := h1
  clear e1 e2 e3 ec1 ec2 hz ez es
  go_enter Try.func16, Try.ntmps16
  go_wp2_with (first
    | (refine wpl_run rfl (.int .i64 (n + off)) _ (addN (x := .tmp 22) (y := .tmp 23) rfl rfl rfl E1.out _) ?_)
    | (refine wpl_run rfl (.int .i64 s) _ (addN (x := .tmp 24) (y := .const (.int .i64 64)) rfl rfl rfl E2.out _) ?_)
    | (refine wpl_run rfl (.bool c1) _ (run_lssI (x := .tmp 26) (y := .const (.int .i64 0)) rfl rfl rfl (q := 0) EC1.out _) ?_; cases c1)
    | (refine wpl_want (by rfl) ?_; refine wpl_run rfl (.int .i64 (s + (k : Int))) _ (addN (x := .tmp 29) (y := .tmp 30) rfl rfl rfl E3.out _) ?_)
    | (refine wpl_want (by rfl) ?_; refine wpl_run rfl (.bool c2) _ (run_gtrI (x := .tmp 31) (y := .const (.int .i64 64)) rfl rfl rfl (q := 64) EC2.out _) ?_; cases c2)
    | fail)
  all_goals (obtain rfl := HZ.out; go_ret; exact ⟨rfl, rfl⟩)
/-- A number, by its bytes from the highest on. -/
def accF (D : Nat → W) (k : Nat) : Nat → W
  | 0 => 0#64
  | d + 1 => (accF D k d <<< 8) ||| D (k - 1 - d)
def small (D : Nat → W) (k : Nat) : Prop := ∀ j, j < k → ∀ i, 8 ≤ i → (D j).getLsbD i = false
theorem numF_bits (D : Nat → W) (i : Nat) (hi : i < 64) : ∀ (n : Nat), small D n → (numF D n).getLsbD i = (decide (i < 8 * n) && (D (i / 8)).getLsbD (i % 8)) := by
  intro n
  induction n with
  | zero => intro _; simp [numF]
  | succ n ih =>
    intro hD
    show (numF D n ||| (D n <<< (8 * n))).getLsbD i = _
    rw [BitVec.getLsbD_or, ih (fun j hj => hD j (by omega)), BitVec.getLsbD_shiftLeft]
    by_cases h1 : i < 8 * n
    · simp [h1, show i < 8 * (n + 1) by omega]
    · by_cases h3 : i < 8 * (n + 1)
      · have e1 : i / 8 = n := by omega
        have e2 : i - 8 * n = i % 8 := by omega
        simp [h1, h3, hi, e1, e2]
      · rw [hD n (by omega) (i - 8 * n) (by omega)]
        simp [h1, h3]
theorem accF_bits (D : Nat → W) (k : Nat) (hD : small D k) : ∀ (d : Nat), d ≤ k → ∀ (i : Nat), i < 64 → (accF D k d).getLsbD i = (decide (i < 8 * d) && (D (k - d + i / 8)).getLsbD (i % 8)) := by
  intro d
  induction d with
  | zero => intro _ i _; simp [accF]
  | succ d ih =>
    intro hd i hi
    show ((accF D k d <<< 8) ||| D (k - 1 - d)).getLsbD i = _
    rw [BitVec.getLsbD_or, BitVec.getLsbD_shiftLeft]
    by_cases h1 : i < 8
    · have e1 : k - (d + 1) + i / 8 = k - 1 - d := by omega
      have e2 : i % 8 = i := by omega
      simp [h1, e1, e2, show i < 8 * (d + 1) by omega]
    · rw [ih (by omega) (i - 8) (by omega), hD (k - 1 - d) (by omega) i (by omega)]
      have e1 : k - d + (i - 8) / 8 = k - (d + 1) + i / 8 := by omega
      have e2 : (i - 8) % 8 = i % 8 := by omega
      rw [e1, e2]
      by_cases h2 : i < 8 * (d + 1)
      · simp [h1, h2, hi, show i - 8 < 8 * d by omega]
      · simp [h1, h2, hi, show ¬ i - 8 < 8 * d by omega]
theorem acc_num (D : Nat → W) (k : Nat) (hD : small D k) : accF D k k = numF D k := by
  apply BitVec.eq_of_getLsbD_eq
  intro i hi
  rw [accF_bits D k hD k (Nat.le_refl k) i hi, numF_bits D i hi k hD, Nat.sub_self, Nat.zero_add]
/-- What is loaded of the document's stack. -/
def ldR (s : Rk) (f k : Nat) : W × Nat × Bool :=
  if wordB f k = true ∧ 0 < s.k (f / 8) then (0#64, s.k (f / 8), true)
  else if allT (fun j => s.t (f + j) == 1) k = true then (accF (fun j => s.n (f + j)) k k, 0, true) else (0#64, 0, false)
set_option maxRecDepth 100000 in
theorem RLoad_neg (b : Nat) (at_ n : Int) (h : at_ < 0) (w : World) : Calls Try.prog 19 #[.pointer (some ⟨b, 0, none⟩), .int .i64 at_, .int .i64 n] w fun e w' => e = .returned (.tuple #[Q 0#64, .int .i64 0, .bool false]) ∧ w' = w := by
  go_enter Try.func19, Try.ntmps19
  go_wp2_with fail
  exact bodyPost_ret (results_tmp3 rfl _ _ _) rfl ⟨rfl, rfl⟩
end Go.Proofs.Ytjcjmlmdcjkceaa
