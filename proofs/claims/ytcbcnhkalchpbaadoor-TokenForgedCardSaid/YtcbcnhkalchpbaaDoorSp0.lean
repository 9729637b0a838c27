/- Plain: namespaces within each other, by that within which each is. Nothing of the program. -/
import Derived.Test.YtcbcnhkalchpbaaDoorOb0
namespace Go.Proofs.YtcbcnhkalchpbaaDoor
/-- From one outward, k steps at most. -/
def chn (f : Nat → Nat) : Nat → Nat → List Nat
  | 0, n => [n]
  | k + 1, n => if n = 0 then [n] else n :: chn f k (f n)
/-- From one to the first one. -/
def ups (f : Nat → Nat) (n : Nat) : List Nat := chn f n n
/-- Each but the first one is within one ahead of it. -/
def Dec (f : Nat → Nat) (c : Nat) : Prop := ∀ j, 0 < j → j < c → f j < j
theorem chn_fuel {f : Nat → Nat} {c : Nat} (h : Dec f c) : ∀ (n k l : Nat), n < c → n ≤ k → n ≤ l → chn f k n = chn f l n := by
  intro n
  induction n using Nat.strongRecOn with
  | ind n ih =>
    intro k l hc hk hl
    by_cases h0 : n = 0
    · subst h0
      cases k <;> cases l <;> simp [chn]
    · obtain ⟨k, rfl⟩ : ∃ k', k = k' + 1 := ⟨k - 1, by omega⟩
      obtain ⟨l, rfl⟩ : ∃ l', l = l' + 1 := ⟨l - 1, by omega⟩
      simp only [chn, if_neg h0]
      have hd := h n (by omega) hc
      rw [ih (f n) hd k l (by omega) (by omega) (by omega)]
theorem ups_zero (f : Nat → Nat) : ups f 0 = [0] := rfl
theorem ups_step {f : Nat → Nat} {c n : Nat} (h : Dec f c) (hn : n < c) (h0 : n ≠ 0) : ups f n = n :: ups f (f n) := by
  obtain ⟨m, rfl⟩ : ∃ m, n = m + 1 := ⟨n - 1, by omega⟩
  have hd := h (m + 1) (by omega) hn
  show (if m + 1 = 0 then [m + 1] else (m + 1) :: chn f m (f (m + 1))) = _
  rw [if_neg h0]
  unfold ups
  rw [chn_fuel h (f (m + 1)) m (f (m + 1)) (by omega) (by omega) (Nat.le_refl _)]
theorem ups_congr {f g : Nat → Nat} {c : Nat} (h : Dec f c) (e : ∀ j, j < c → f j = g j) : ∀ n, n < c → ups f n = ups g n := by
  intro n
  induction n using Nat.strongRecOn with
  | ind n ih =>
    intro hn
    by_cases h0 : n = 0
    · subst h0; rfl
    · have hd := h n (by omega) hn
      rw [ups_step h hn h0, ups_step (c := c) (fun j h1 h2 => by rw [← e j h2]; exact h j h1 h2) hn h0, ← e n hn, ih (f n) hd (by omega)]
theorem ups_pos (f : Nat → Nat) (n : Nat) : 0 < (ups f n).length := by
  unfold ups
  cases n with
  | zero => simp [chn]
  | succ m => simp [chn]
theorem ups_len {f : Nat → Nat} {c : Nat} (h : Dec f c) : ∀ n, n < c → (ups f n).length ≤ n + 1 := by
  intro n
  induction n using Nat.strongRecOn with
  | ind n ih =>
    intro hn
    by_cases h0 : n = 0
    · subst h0; simp [ups_zero]
    · have hd := h n (by omega) hn
      rw [ups_step h hn h0]
      have := ih (f n) hd (by omega)
      simp only [List.length_cons]; omega
/-- All of them are there, and none is behind n. -/
theorem ups_le {f : Nat → Nat} {c : Nat} (h : Dec f c) : ∀ n, n < c → ∀ x ∈ ups f n, x ≤ n := by
  intro n
  induction n using Nat.strongRecOn with
  | ind n ih =>
    intro hn x hx
    by_cases h0 : n = 0
    · subst h0; simp [ups_zero] at hx; omega
    · have hd := h n (by omega) hn
      rw [ups_step h hn h0] at hx
      rcases List.mem_cons.1 hx with e | hx
      · omega
      · have := ih (f n) hd (by omega) x hx; omega
theorem mem_self (f : Nat → Nat) (n : Nat) : n ∈ ups f n := by
  unfold ups
  cases n with
  | zero => simp [chn]
  | succ m => simp [chn]
theorem mem_zero {f : Nat → Nat} {c : Nat} (h : Dec f c) : ∀ n, n < c → 0 ∈ ups f n := by
  intro n
  induction n using Nat.strongRecOn with
  | ind n ih =>
    intro hn
    by_cases h0 : n = 0
    · subst h0; simp [ups_zero]
    · have hd := h n (by omega) hn
      rw [ups_step h hn h0]
      exact List.mem_cons_of_mem _ (ih (f n) hd (by omega))
theorem mem_trans {f : Nat → Nat} {c : Nat} (h : Dec f c) : ∀ a, a < c → ∀ b x, b ∈ ups f a → x ∈ ups f b → x ∈ ups f a := by
  intro a
  induction a using Nat.strongRecOn with
  | ind a ih =>
    intro ha b x hb hx
    by_cases h0 : a = 0
    · subst h0
      simp [ups_zero] at hb
      subst hb
      exact hx
    · have hd := h a (by omega) ha
      have e := ups_step h ha h0
      rw [e] at hb
      rcases List.mem_cons.1 hb with e2 | hb
      · rw [← e2]; exact hx
      · rw [e]; exact List.mem_cons_of_mem _ (ih (f a) hd (by omega) b x hb hx)
theorem ups_drop {f : Nat → Nat} {c : Nat} (h : Dec f c) : ∀ n, n < c → ∀ i, i < (ups f n).length → ∃ x, x ≤ n ∧ (ups f n)[i]? = some x ∧ (ups f n).drop i = ups f x := by
  intro n
  induction n using Nat.strongRecOn with
  | ind n ih =>
    intro hn i hi
    cases i with
    | zero =>
      refine ⟨n, Nat.le_refl _, ?_, by simp⟩
      by_cases h0 : n = 0
      · subst h0; rfl
      · rw [ups_step h hn h0]; rfl
    | succ i =>
      by_cases h0 : n = 0
      · subst h0; simp [ups_zero] at hi
      · have hd := h n (by omega) hn
        rw [ups_step h hn h0] at hi ⊢
        obtain ⟨x, hx, h1, h2⟩ := ih (f n) hd (by omega) i (by simpa using hi)
        exact ⟨x, by omega, by simpa using h1, by simpa using h2⟩
/-- The way there: from the first one to n. -/
def way (f : Nat → Nat) (n j : Nat) : Nat := (ups f n).getD ((ups f n).length - 1 - j) 0
theorem ups_last {f : Nat → Nat} {c : Nat} (h : Dec f c) : ∀ n, n < c → (ups f n).getD ((ups f n).length - 1) 0 = 0 := by
  intro n
  induction n using Nat.strongRecOn with
  | ind n ih =>
    intro hn
    by_cases h0 : n = 0
    · subst h0; rfl
    · have hd := h n (by omega) hn
      have hp := ups_pos f (f n)
      have e := ih (f n) hd (by omega)
      rw [ups_step h hn h0]
      obtain ⟨k, hk⟩ : ∃ k, (ups f (f n)).length = k + 1 := ⟨(ups f (f n)).length - 1, by omega⟩
      rw [hk] at e
      simp only [List.length_cons, hk]
      simpa using e
theorem way_zero {f : Nat → Nat} {c n : Nat} (h : Dec f c) (hn : n < c) : way f n 0 = 0 := ups_last h n hn
theorem way_end {f : Nat → Nat} {n : Nat} : way f n ((ups f n).length - 1) = n := by
  unfold way
  rw [Nat.sub_self]
  unfold ups
  cases n with
  | zero => rfl
  | succ m => simp [chn]
/-- Each of a way is within the one ahead. -/
theorem way_up {f : Nat → Nat} {c n i : Nat} (h : Dec f c) (hn : n < c) (h1 : 1 ≤ i) (hi : i < (ups f n).length) : f (way f n i) = way f n (i - 1) ∧ way f n i ≤ n ∧ way f n i ≠ 0 ∧ way f n i ∈ ups f n := by
  unfold way
  obtain ⟨x, hx, e1, e2⟩ := ups_drop h n hn ((ups f n).length - 1 - i) (by omega)
  have hl : ((ups f n).drop ((ups f n).length - 1 - i)).length = i + 1 := by rw [List.length_drop]; omega
  have hxe : (ups f n).getD ((ups f n).length - 1 - i) 0 = x := by simp [e1]
  rw [hxe]
  have hx0 : x ≠ 0 := by
    rintro rfl
    rw [e2, ups_zero] at hl
    simp at hl
    omega
  refine ⟨?_, hx, hx0, List.mem_of_getElem? e1⟩
  have e3 := ups_step h (show x < c by omega) hx0
  have e4 : (ups f n)[(ups f n).length - 1 - (i - 1)]? = (ups f (f x))[0]? := by
    have : (ups f n)[(ups f n).length - 1 - (i - 1)]? = ((ups f n).drop ((ups f n).length - 1 - i))[1]? := by
      rw [List.getElem?_drop]
      congr 1
      omega
    rw [this, e2, e3]
    rfl
  have e5 : (ups f (f x))[0]? = some (f x) := by
    unfold ups
    cases f x with
    | zero => rfl
    | succ m => simp [chn]
  simp [e4, e5]
/-- Is x one of n's way? -/
def within (f : Nat → Nat) (n x : Nat) : Bool := (ups f n).contains x
theorem within_iff (f : Nat → Nat) (n x : Nat) : within f n x = true ↔ x ∈ ups f n := by
  unfold within; simp
/-- One more. -/
def addU (f : Nat → Nat) (c up : Nat) : Nat → Nat := fun j => if j = c then up else f j
theorem dec_add {f : Nat → Nat} {c up : Nat} (h : Dec f c) (hu : up < c) : Dec (addU f c up) (c + 1) := fun j h1 h2 => by
  unfold addU
  by_cases e : j = c
  · rw [if_pos e]; omega
  · rw [if_neg e]; exact h j h1 (by omega)
theorem ups_add {f : Nat → Nat} {c up n : Nat} (h : Dec f c) (hn : n < c) : ups (addU f c up) n = ups f n :=
  (ups_congr h (fun j hj => by unfold addU; rw [if_neg (by omega)]) n hn).symm
theorem ups_new {f : Nat → Nat} {c up : Nat} (h : Dec f c) (hu : up < c) : ups (addU f c up) c = c :: ups f up := by
  rw [ups_step (dec_add h hu) (by omega) (by omega), ← ups_add h hu (up := up)]
  congr 2
  unfold addU; rw [if_pos rfl]
end Go.Proofs.YtcbcnhkalchpbaaDoor
