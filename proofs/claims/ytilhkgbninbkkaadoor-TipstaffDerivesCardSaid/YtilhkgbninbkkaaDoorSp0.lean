/- Plain: namespaces within each other, by that within which each is. Nothing of the program. -/
import Derived.Test.YtilhkgbninbkkaaDoorOb0
namespace Go.Proofs.YtilhkgbninbkkaaDoor
/-- From one outward, k steps at most. -/
def chn (f : Nat → Nat) : Nat → Nat → List Nat
  | 0, n => [n]
  | k + 1, n => if n = 0 then [n] else n :: chn f k (f n)
/-- From one to the first one. -/
def ups (f : Nat → Nat) (n : Nat) : List Nat := chn f n n
/-- Each but the first one is within one ahead of it. -/
def Dec (f : Nat → Nat) (c : Nat) : Prop := ∀ j, 0 < j → j < c → f j < j
theorem chn_fuel {f : Nat → Nat} {c : Nat} (h : Dec f c) : ∀ (n k l : Nat), n < c → n ≤ k → n ≤ l → chn f k n = chn f l n := by
  intro n
  induction n using Nat.strongRecOn with
  | ind n ih =>
    intro k l hc hk hl
    by_cases h0 : n = 0
    · subst h0
      cases k <;> cases l <;> simp [chn]
    · obtain ⟨k, rfl⟩ : ∃ k', k = k' + 1 := ⟨k - 1, by omega⟩
      obtain ⟨l, rfl⟩ : ∃ l', l = l' + 1 := ⟨l - 1, by omega⟩
      simp only [chn, if_neg h0]
      have hd := h n (by omega) hc
      rw [ih (f n) hd k l (by omega) (by omega) (by omega)]
theorem ups_zero (f : Nat → Nat) : ups f 0 = [0] := rfl
theorem ups_step {f : Nat → Nat} {c n : Nat} (h : Dec f c) (hn : n < c) (h0 : n ≠ 0) : ups f n = n :: ups f (f n) := by
  obtain ⟨m, rfl⟩ : ∃ m, n = m + 1 := ⟨n - 1, by omega⟩
  have hd := h (m + 1) (by omega) hn
  show (if m + 1 = 0 then [m + 1] else (m + 1) :: chn f m (f (m + 1))) = _
  rw [if_neg h0]
  unfold ups
  rw [chn_fuel h (f (m + 1)) m (f (m + 1)) (by omega) (by omega) (Nat.le_refl _)]
theorem ups_pos (f : Nat → Nat) (n : Nat) : 0 < (ups f n).length := by
  unfold ups
  cases n with
  | zero => simp [chn]
  | succ m => simp [chn]
theorem ups_len {f : Nat → Nat} {c : Nat} (h : Dec f c) : ∀ n, n < c → (ups f n).length ≤ n + 1 := by
  intro n
  induction n using Nat.strongRecOn with
  | ind n ih =>
    intro hn
    by_cases h0 : n = 0
    · subst h0; simp [ups_zero]
    · have hd := h n (by omega) hn
      rw [ups_step h hn h0]
      have := ih (f n) hd (by omega)
      simp only [List.length_cons]; omega
theorem mem_self (f : Nat → Nat) (n : Nat) : n ∈ ups f n := by
  unfold ups
  cases n with
  | zero => simp [chn]
  | succ m => simp [chn]
theorem ups_drop {f : Nat → Nat} {c : Nat} (h : Dec f c) : ∀ n, n < c → ∀ i, i < (ups f n).length → ∃ x, x ≤ n ∧ (ups f n)[i]? = some x ∧ (ups f n).drop i = ups f x := by
  intro n
  induction n using Nat.strongRecOn with
  | ind n ih =>
    intro hn i hi
    cases i with
    | zero =>
      refine ⟨n, Nat.le_refl _, ?_, by simp⟩
      by_cases h0 : n = 0
      · subst h0; rfl
      · rw [ups_step h hn h0]; rfl
    | succ i =>
      by_cases h0 : n = 0
      · subst h0; simp [ups_zero] at hi
      · have hd := h n (by omega) hn
        rw [ups_step h hn h0] at hi ⊢
        obtain ⟨x, hx, h1, h2⟩ := ih (f n) hd (by omega) i (by simpa using hi)
        exact ⟨x, by omega, by simpa using h1, by simpa using h2⟩
/-- The way there: from the first one to n. -/
def way (f : Nat → Nat) (n j : Nat) : Nat := (ups f n).getD ((ups f n).length - 1 - j) 0
/-- Is x one of n's way? -/
def within (f : Nat → Nat) (n x : Nat) : Bool := (ups f n).contains x
/-- One more. -/
def addU (f : Nat → Nat) (c up : Nat) : Nat → Nat := fun j => if j = c then up else f j
theorem dec_add {f : Nat → Nat} {c up : Nat} (h : Dec f c) (hu : up < c) : Dec (addU f c up) (c + 1) := fun j h1 h2 => by
  unfold addU
  by_cases e : j = c
  · rw [if_pos e]; omega
  · rw [if_neg e]; exact h j h1 (by omega)
end Go.Proofs.YtilhkgbninbkkaaDoor
