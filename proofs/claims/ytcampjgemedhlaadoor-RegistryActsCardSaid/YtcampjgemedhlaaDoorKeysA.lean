/- Plain: words of 32 bits packed into one number, a lane of 64 bits each, and reckoned with together. Nothing of the program. Plain: a sum by blocks, whole; and the sums of many texts at once, packed. Nothing of the program. Plain: the keys of all seeds of one byte, reckoned at once. Nothing of the program but what the contracts' words are. -/
import Derived.Test.YtcampjgemedhlaaDoorSha
namespace Go.Proofs.YtcampjgemedhlaaDoor.Sha
/-- n words in one number. -/
def pk (f : Nat → W32) : Nat → Nat
  | 0 => 0
  | n + 1 => pk f n + 2 ^ (64 * n) * (f n).toNat
def msk (n : Nat) : Nat := pk (fun _ => BitVec.allOnes 32) n
theorem pk_lt (f : Nat → W32) : ∀ n, pk f n < 2 ^ (64 * n)
  | 0 => by simp [pk]
  | n + 1 => by
    have h := pk_lt f n
    have h2 := (f n).isLt
    have e : 2 ^ (64 * (n + 1)) = 2 ^ (64 * n) * 18446744073709551616 := by rw [show 64 * (n + 1) = 64 * n + 64 from by omega, Nat.pow_add]
    rw [pk, e]
    have h3 : 2 ^ (64 * n) * (f n).toNat ≤ 2 ^ (64 * n) * 4294967295 := Nat.mul_le_mul_left _ (by omega)
    omega
/-- A packed number's bits. -/
theorem pk_bit (f : Nat → W32) : ∀ (n j : Nat), (pk f n).testBit j = (decide (j / 64 < n) && decide (j % 64 < 32) && (f (j / 64)).toNat.testBit (j % 64))
  | 0, j => by simp [pk]
  | n + 1, j => by
    rw [pk, Nat.add_comm, Nat.testBit_two_pow_mul_add _ (pk_lt f n), pk_bit f n j]
    by_cases h : j < 64 * n
    · rw [if_pos h]
      have h1 : j / 64 < n := by omega
      have h2 : j / 64 < n + 1 := by omega
      simp [h1, h2]
    · rw [if_neg h]
      by_cases h3 : j / 64 < n + 1
      · have e1 : j / 64 = n := by omega
        have e2 : j - 64 * n = j % 64 := by omega
        rw [e1, e2]
        by_cases h4 : j % 64 < 32
        · simp [h4]
        · have : (f n).toNat.testBit (j % 64) = false := Nat.testBit_lt_two_pow (Nat.lt_of_lt_of_le (f n).isLt (Nat.pow_le_pow_right (by omega) (by omega)))
          simp [this]
      · have : (f n).toNat.testBit (j - 64 * n) = false := Nat.testBit_lt_two_pow (Nat.lt_of_lt_of_le (f n).isLt (Nat.pow_le_pow_right (by omega) (by omega)))
        simp [h3, this]
theorem pk_congr {f g : Nat → W32} : ∀ n, (∀ i, i < n → f i = g i) → pk f n = pk g n
  | 0, _ => rfl
  | n + 1, h => by rw [pk, pk, pk_congr n (fun i hi => h i (by omega)), h n (by omega)]
theorem pk_xor (f g : Nat → W32) (n : Nat) : pk f n ^^^ pk g n = pk (fun i => f i ^^^ g i) n := by
  apply Nat.eq_of_testBit_eq; intro j
  rw [Nat.testBit_xor, pk_bit, pk_bit, pk_bit, BitVec.toNat_xor, Nat.testBit_xor]
  cases decide (j / 64 < n) <;> cases decide (j % 64 < 32) <;> simp
theorem pk_and (f g : Nat → W32) (n : Nat) : pk f n &&& pk g n = pk (fun i => f i &&& g i) n := by
  apply Nat.eq_of_testBit_eq; intro j
  rw [Nat.testBit_and, pk_bit, pk_bit, pk_bit, BitVec.toNat_and, Nat.testBit_and]
  cases decide (j / 64 < n) <;> cases decide (j % 64 < 32) <;> simp
theorem pk_or (f g : Nat → W32) (n : Nat) : pk f n ||| pk g n = pk (fun i => f i ||| g i) n := by
  apply Nat.eq_of_testBit_eq; intro j
  rw [Nat.testBit_or, pk_bit, pk_bit, pk_bit, BitVec.toNat_or, Nat.testBit_or]
  cases decide (j / 64 < n) <;> cases decide (j % 64 < 32) <;> simp
theorem pk_not (f : Nat → W32) (n : Nat) : pk f n ^^^ msk n = pk (fun i => ~~~ f i) n := by
  unfold msk
  rw [pk_xor]
  exact pk_congr n (fun i _ => by rw [BitVec.xor_allOnes])
theorem ones_bit (k : Nat) : (BitVec.allOnes 32).toNat.testBit k = decide (k < 32) := by
  rw [BitVec.toNat_allOnes, Nat.testBit_two_pow_sub_one]
theorem pk_shr (f : Nat → W32) (n s : Nat) (hs : s ≤ 32) : pk f n >>> s &&& msk n = pk (fun i => f i >>> s) n := by
  apply Nat.eq_of_testBit_eq; intro j
  unfold msk
  rw [Nat.testBit_and, Nat.testBit_shiftRight, pk_bit, pk_bit, pk_bit, ones_bit, BitVec.toNat_ushiftRight, Nat.testBit_shiftRight]
  by_cases h1 : j / 64 < n
  · by_cases h2 : j % 64 < 32
    · have e1 : (s + j) / 64 = j / 64 := by omega
      have e2 : (s + j) % 64 = s + j % 64 := by omega
      rw [e1, e2]
      by_cases h3 : s + j % 64 < 32
      · simp [h1, h2, h3]
      · have : (f (j / 64)).toNat.testBit (s + j % 64) = false := Nat.testBit_lt_two_pow (Nat.lt_of_lt_of_le (f (j / 64)).isLt (Nat.pow_le_pow_right (by omega) (by omega)))
        simp [this]
    · simp [h2]
  · simp [h1]
theorem pk_shl (f : Nat → W32) (n s : Nat) (hs : s ≤ 32) : pk f n <<< s &&& msk n = pk (fun i => f i <<< s) n := by
  apply Nat.eq_of_testBit_eq; intro j
  unfold msk
  rw [Nat.testBit_and, Nat.testBit_shiftLeft, pk_bit, pk_bit, pk_bit, ones_bit, BitVec.toNat_shiftLeft, Nat.testBit_mod_two_pow, Nat.testBit_shiftLeft]
  by_cases h1 : j / 64 < n
  · by_cases h2 : j % 64 < 32
    · by_cases h3 : s ≤ j % 64
      · have e1 : (j - s) / 64 = j / 64 := by omega
        have e2 : (j - s) % 64 = j % 64 - s := by omega
        have h4 : j ≥ s := by omega
        have h5 : j % 64 - s < 32 := by omega
        simp [e1, e2, h1, h2, h3, h4, h5]
      · by_cases h4 : j ≥ s
        · have h5 : ¬ (j - s) % 64 < 32 := by omega
          simp [h5, h3]
        · simp [h4, h3]
    · simp [h2]
  · simp [h1]
theorem sum_mask (n : Nat) : ∀ (f : Nat → Nat), (∀ i, f i < 2 ^ 64) → ∀ (S : Nat → Nat), S 0 = 0 → (∀ m, S (m + 1) = S m + 2 ^ (64 * m) * f m) → S n &&& msk n = pk (fun i => BitVec.ofNat 32 (f i)) n := by
  intro f hf S h0 hS
  have lt : ∀ m, S m < 2 ^ (64 * m) := by
    intro m
    induction m with
    | zero => simp [h0]
    | succ m ih =>
      have e : 2 ^ (64 * (m + 1)) = 2 ^ (64 * m) * 2 ^ 64 := by rw [show 64 * (m + 1) = 64 * m + 64 from by omega, Nat.pow_add]
      rw [hS, e]
      have h3 : 2 ^ (64 * m) * f m ≤ 2 ^ (64 * m) * (2 ^ 64 - 1) := Nat.mul_le_mul_left _ (by have := hf m; omega)
      rw [Nat.mul_sub] at h3
      have : 2 ^ (64 * m) * 1 ≤ 2 ^ (64 * m) * 2 ^ 64 := Nat.mul_le_mul_left _ (by decide)
      omega
  have bit : ∀ m j, (S m).testBit j = (decide (j / 64 < m) && (f (j / 64)).testBit (j % 64)) := by
    intro m
    induction m with
    | zero => intro j; simp [h0]
    | succ m ih =>
      intro j
      rw [hS, Nat.add_comm, Nat.testBit_two_pow_mul_add _ (lt m), ih j]
      by_cases h : j < 64 * m
      · rw [if_pos h]
        have h1 : j / 64 < m := by omega
        have h2 : j / 64 < m + 1 := by omega
        simp [h1, h2]
      · rw [if_neg h]
        by_cases h3 : j / 64 < m + 1
        · have e1 : j / 64 = m := by omega
          have e2 : j - 64 * m = j % 64 := by omega
          rw [e1, e2]; simp
        · have : (f m).testBit (j - 64 * m) = false := Nat.testBit_lt_two_pow (Nat.lt_of_lt_of_le (hf m) (Nat.pow_le_pow_right (by omega) (by omega)))
          simp [h3, this]
  apply Nat.eq_of_testBit_eq; intro j
  unfold msk
  rw [Nat.testBit_and, bit, pk_bit, pk_bit, ones_bit, BitVec.toNat_ofNat, Nat.testBit_mod_two_pow]
  cases decide (j / 64 < n) <;> cases decide (j % 64 < 32) <;> simp
theorem pk_add2 (f g : Nat → W32) (n : Nat) : (pk f n + pk g n) &&& msk n = pk (fun i => f i + g i) n := by
  rw [sum_mask n (fun i => (f i).toNat + (g i).toNat) (fun i => by have := (f i).isLt; have := (g i).isLt; omega) (fun m => pk f m + pk g m) rfl (fun m => by simp only [pk, Nat.mul_add]; omega)]
  exact pk_congr n (fun i _ => by apply BitVec.eq_of_toNat_eq; rw [BitVec.toNat_ofNat, BitVec.toNat_add])
theorem pk_add4 (f g h k : Nat → W32) (n : Nat) : (pk f n + pk g n + pk h n + pk k n) &&& msk n = pk (fun i => f i + g i + h i + k i) n := by
  rw [sum_mask n (fun i => (f i).toNat + (g i).toNat + (h i).toNat + (k i).toNat) (fun i => by have := (f i).isLt; have := (g i).isLt; have := (h i).isLt; have := (k i).isLt; omega) (fun m => pk f m + pk g m + pk h m + pk k m) rfl (fun m => by simp only [pk, Nat.mul_add]; omega)]
  exact pk_congr n (fun i _ => by apply BitVec.eq_of_toNat_eq; rw [BitVec.toNat_ofNat, BitVec.toNat_add, BitVec.toNat_add, BitVec.toNat_add]; omega)
theorem pk_add5 (f g h k l : Nat → W32) (n : Nat) : (pk f n + pk g n + pk h n + pk k n + pk l n) &&& msk n = pk (fun i => f i + g i + h i + k i + l i) n := by
  rw [sum_mask n (fun i => (f i).toNat + (g i).toNat + (h i).toNat + (k i).toNat + (l i).toNat) (fun i => by have := (f i).isLt; have := (g i).isLt; have := (h i).isLt; have := (k i).isLt; have := (l i).isLt; omega) (fun m => pk f m + pk g m + pk h m + pk k m + pk l m) rfl (fun m => by simp only [pk, Nat.mul_add]; omega)]
  exact pk_congr n (fun i _ => by apply BitVec.eq_of_toNat_eq; rw [BitVec.toNat_ofNat, BitVec.toNat_add, BitVec.toNat_add, BitVec.toNat_add, BitVec.toNat_add]; omega)
/-- Eight packed words. -/
structure P8 where
  a : Nat
  b : Nat
  c : Nat
  d : Nat
  e : Nat
  f : Nat
  g : Nat
  h : Nat
def rrP (M x n : Nat) : Nat := ((x >>> n) &&& M) ||| ((x <<< (32 - n)) &&& M)
def bs0P (M x : Nat) : Nat := rrP M x 2 ^^^ rrP M x 13 ^^^ rrP M x 22
def bs1P (M x : Nat) : Nat := rrP M x 6 ^^^ rrP M x 11 ^^^ rrP M x 25
def ss0P (M x : Nat) : Nat := rrP M x 7 ^^^ rrP M x 18 ^^^ ((x >>> 3) &&& M)
def ss1P (M x : Nat) : Nat := rrP M x 17 ^^^ rrP M x 19 ^^^ ((x >>> 10) &&& M)
def t1P (M : Nat) (s : P8) (k w : Nat) : Nat := (s.h + bs1P M s.e + ((s.e &&& s.f) ^^^ ((s.e ^^^ M) &&& s.g)) + k + w) &&& M
def t2P (M : Nat) (s : P8) : Nat := (bs0P M s.a + ((s.a &&& s.b) ^^^ (s.a &&& s.c) ^^^ (s.b &&& s.c))) &&& M
def roundP (M : Nat) (s : P8) (k w : Nat) : P8 := ⟨(t1P M s k w + t2P M s) &&& M, s.a, s.b, s.c, (s.d + t1P M s k w) &&& M, s.e, s.f, s.g⟩
def runP (M one : Nat) : List Nat → List Nat → P8 → P8
  | k :: ks, w :: ws, s => runP M one ks ws (roundP M s (k * one) w)
  | _, _, s => s
/-- The words of the schedule, the last one first. -/
def scP (M : Nat) : Nat → List Nat → List Nat
  | 0, l => l
  | m + 1, l => scP M m (((ss1P M (l.getD 1 0) + l.getD 6 0 + ss0P M (l.getD 14 0) + l.getD 15 0) &&& M) :: l)
def compP (M one : Nat) (h : P8) (w : List Nat) : P8 :=
  let r := runP M one kL (scP M 48 w.reverse).reverse h
  ⟨(h.a + r.a) &&& M, (h.b + r.b) &&& M, (h.c + r.c) &&& M, (h.d + r.d) &&& M, (h.e + r.e) &&& M, (h.f + r.f) &&& M, (h.g + r.g) &&& M, (h.h + r.h) &&& M⟩
def one (n : Nat) : Nat := pk (fun _ => 1) n
theorem pk_const (c : W32) : ∀ n, pk (fun _ => c) n = c.toNat * one n
  | 0 => by simp [pk, one]
  | n + 1 => by
    have ih := pk_const c n
    unfold one at ih ⊢
    rw [pk, pk, ih, Nat.mul_add, show (1 : W32).toNat = 1 from rfl, Nat.mul_one, Nat.mul_comm (2 ^ (64 * n))]
section
variable (n : Nat)
theorem pk_rr (f : Nat → W32) (s : Nat) (hs : s ≤ 32) : rrP (msk n) (pk f n) s = pk (fun i => rr (f i) s) n := by
  unfold rrP rr; rw [pk_shr f n s hs, pk_shl f n (32 - s) (by omega), pk_or]
theorem pk_bs0 (f : Nat → W32) : bs0P (msk n) (pk f n) = pk (fun i => bs0 (f i)) n := by
  unfold bs0P bs0; rw [pk_rr n f 2 (by omega), pk_rr n f 13 (by omega), pk_rr n f 22 (by omega), pk_xor, pk_xor]
theorem pk_bs1 (f : Nat → W32) : bs1P (msk n) (pk f n) = pk (fun i => bs1 (f i)) n := by
  unfold bs1P bs1; rw [pk_rr n f 6 (by omega), pk_rr n f 11 (by omega), pk_rr n f 25 (by omega), pk_xor, pk_xor]
theorem pk_ss0 (f : Nat → W32) : ss0P (msk n) (pk f n) = pk (fun i => ss0 (f i)) n := by
  unfold ss0P ss0; rw [pk_rr n f 7 (by omega), pk_rr n f 18 (by omega), pk_shr f n 3 (by omega), pk_xor, pk_xor]
theorem pk_ss1 (f : Nat → W32) : ss1P (msk n) (pk f n) = pk (fun i => ss1 (f i)) n := by
  unfold ss1P ss1; rw [pk_rr n f 17 (by omega), pk_rr n f 19 (by omega), pk_shr f n 10 (by omega), pk_xor, pk_xor]
/-- Packed, eight words of each lane. -/
def up (s : Nat → S8) : P8 := ⟨pk (fun i => (s i).a) n, pk (fun i => (s i).b) n, pk (fun i => (s i).c) n, pk (fun i => (s i).d) n, pk (fun i => (s i).e) n, pk (fun i => (s i).f) n, pk (fun i => (s i).g) n, pk (fun i => (s i).h) n⟩
theorem t1P_pk (s : Nat → S8) (k w : Nat → W32) : t1P (msk n) (up n s) (pk k n) (pk w n) = pk (fun i => t1 (s i) (k i) (w i)) n := by
  unfold t1P t1 up
  rw [pk_bs1, pk_and, pk_not, pk_and, pk_xor, pk_add5]
theorem t2P_pk (s : Nat → S8) : t2P (msk n) (up n s) = pk (fun i => t2 (s i)) n := by
  unfold t2P t2 up
  rw [pk_bs0, pk_and, pk_and, pk_and, pk_xor, pk_xor, pk_add2]
theorem roundP_pk (s : Nat → S8) (k w : Nat → W32) : roundP (msk n) (up n s) (pk k n) (pk w n) = up n (fun i => round (s i) (k i) (w i)) := by
  unfold roundP
  rw [t1P_pk, t2P_pk, pk_add2]
  unfold up round
  rw [pk_add2]
theorem runP_pk (K : Nat → W32) (W : Nat → Nat → W32) (s : Nat → S8) : ∀ (m t : Nat) (ks ws : List Nat), ks.length = m → ws.length = m → (∀ j, j < m → ks.getD j 0 = (K (t + j)).toNat) → (∀ j, j < m → ws.getD j 0 = pk (fun i => W i (t + j)) n) →
    runP (msk n) (one n) ks ws (up n (fun i => run K (W i) (s i) t)) = up n (fun i => run K (W i) (s i) (t + m))
  | 0, t, [], _, _, _, _, _ => by rw [runP]; rfl; intros; simp_all
  | m + 1, t, k :: ks, w :: ws, h1, h2, h3, h4 => by
    have e1 := h3 0 (by omega)
    have e2 := h4 0 (by omega)
    simp only [List.getD_cons_zero, Nat.add_zero] at e1 e2
    rw [runP, e1, e2, ← pk_const, roundP_pk]
    have := runP_pk K W s m (t + 1) ks ws (by simpa using h1) (by simpa using h2) (fun j hj => by have := h3 (j + 1) (by omega); simp only [List.getD_cons_succ] at this; rw [this, show t + (j + 1) = t + 1 + j from by omega])
      (fun j hj => by have := h4 (j + 1) (by omega); simp only [List.getD_cons_succ] at this; rw [this, show t + (j + 1) = t + 1 + j from by omega])
    rw [show t + (m + 1) = t + 1 + m from by omega, ← this]
    rfl
end
theorem sc_keep (B : Nat → BitVec 8) (j : Nat) : ∀ d m, j < 16 + m → sc B (m + d) j = sc B m j
  | 0, _, _ => rfl
  | d + 1, m, h => by
    rw [← Nat.add_assoc, sc, if_neg (by omega)]
    exact sc_keep B j d m h
theorem sched_step (B : Nat → BitVec 8) (t : Nat) (h0 : 16 ≤ t) (h1 : t < 64) : sched B t = ss1 (sched B (t - 2)) + sched B (t - 7) + ss0 (sched B (t - 15)) + sched B (t - 16) := by
  obtain ⟨m, rfl⟩ : ∃ m, t = 16 + m := ⟨t - 16, by omega⟩
  unfold sched
  have e : ∀ j, j < 16 + m → sc B 48 j = sc B m j := fun j hj => by
    have := sc_keep B j (48 - m) m hj
    rwa [show m + (48 - m) = 48 from by omega] at this
  have e0 : sc B 48 (16 + m) = sc B (m + 1) (16 + m) := by
    have := sc_keep B (16 + m) (48 - (m + 1)) (m + 1) (by omega)
    rwa [show m + 1 + (48 - (m + 1)) = 48 from by omega] at this
  rw [e0, sc, if_pos rfl, e (16 + m - 2) (by omega), e (16 + m - 7) (by omega), e (16 + m - 15) (by omega), e (16 + m - 16) (by omega)]
  rw [show 16 + m - 2 = m + 14 from by omega, show 16 + m - 7 = m + 9 from by omega, show 16 + m - 15 = m + 1 from by omega, show 16 + m - 16 = m from by omega]
theorem sched_head (B : Nat → BitVec 8) (t : Nat) (h : t < 16) : sched B t = pw B 64 t := by
  have := sc_keep B t 48 0 (by omega)
  rw [Nat.zero_add] at this
  exact this
section
variable (n : Nat)
/-- The first t words, the last one first. -/
def wl (W : Nat → Nat → W32) (t : Nat) : List Nat := ((List.range t).map fun j => pk (fun i => W i j) n).reverse
theorem wl_succ (W : Nat → Nat → W32) (t : Nat) : wl n W (t + 1) = pk (fun i => W i t) n :: wl n W t := by
  unfold wl; rw [List.range_succ]; simp
theorem wl_get (W : Nat → Nat → W32) (t j : Nat) (h : j < t) : (wl n W t).getD j 0 = pk (fun i => W i (t - 1 - j)) n := by
  induction t generalizing j with
  | zero => omega
  | succ t ih =>
    rw [wl_succ]
    cases j with
    | zero => rw [List.getD_cons_zero]; simp
    | succ j => rw [List.getD_cons_succ, ih j (by omega), show t + 1 - 1 - (j + 1) = t - 1 - j from by omega]
theorem scP_pk (B : Nat → Nat → BitVec 8) : ∀ m t, 16 ≤ t → t + m ≤ 64 → scP (msk n) m (wl n (fun i => sched (B i)) t) = wl n (fun i => sched (B i)) (t + m)
  | 0, t, _, _ => rfl
  | m + 1, t, h0, h1 => by
    rw [scP, wl_get _ _ _ _ (by omega), wl_get _ _ _ _ (by omega), wl_get _ _ _ _ (by omega), wl_get _ _ _ _ (by omega), pk_ss1, pk_ss0, pk_add4]
    have e : wl n (fun i => sched (B i)) (t + 1) = pk (fun i => ss1 (sched (B i) (t - 1 - 1)) + sched (B i) (t - 1 - 6) + ss0 (sched (B i) (t - 1 - 14)) + sched (B i) (t - 1 - 15)) n :: wl n (fun i => sched (B i)) t := by
      rw [wl_succ]; congr 1
      exact pk_congr n (fun i _ => by rw [sched_step (B i) t h0 (by omega), show t - 1 - 1 = t - 2 from by omega, show t - 1 - 6 = t - 7 from by omega, show t - 1 - 14 = t - 15 from by omega, show t - 1 - 15 = t - 16 from by omega])
    rw [← e, scP_pk B m (t + 1) (by omega) (by omega), show t + 1 + m = t + (m + 1) from by omega]
def upH (H : Nat → Nat → W32) : P8 := up n (fun i => s8 (H i))
theorem compP_pk (H : Nat → Nat → W32) (B : Nat → Nat → BitVec 8) (w : List Nat) (hw : w = (List.range 16).map fun t => pk (fun i => pw (B i) 64 t) n) :
    compP (msk n) (one n) (upH n H) w = upH n (fun i => comp (H i) (B i)) := by
  have e1 : w.reverse = wl n (fun i => sched (B i)) 16 := by
    rw [hw]; unfold wl
    rw [List.map_congr_left (fun t ht => pk_congr n (fun i _ => (sched_head (B i) t (by simpa using ht)).symm))]
  have e2 : (scP (msk n) 48 w.reverse).reverse = (List.range 64).map fun j => pk (fun i => sched (B i) j) n := by
    rw [e1, scP_pk n B 48 16 (by omega) (by omega)]; unfold wl; rw [List.reverse_reverse]
  have e3 := runP_pk n Kc (fun i => sched (B i)) (fun i => s8 (H i)) 64 0 kL ((List.range 64).map fun j => pk (fun i => sched (B i) j) n) rfl (by simp)
    (fun j hj => by
      unfold Kc; rw [BitVec.toNat_ofNat, Nat.zero_add]
      have : ∀ j, j < 64 → kL.getD j 0 < 4294967296 := by decide +kernel
      rw [Nat.mod_eq_of_lt (this j hj)])
    (fun j hj => by simp [hj])
  have e4 : runP (msk n) (one n) kL (scP (msk n) 48 w.reverse).reverse (upH n H) = up n (fun i => run Kc (sched (B i)) (s8 (H i)) 64) := by rw [e2]; exact e3
  unfold compP
  simp only [e4]
  unfold upH up
  simp only [pk_add2]
  rfl
end
end Go.Proofs.YtcampjgemedhlaaDoor.Sha
namespace Go.Proofs.YtcampjgemedhlaaDoor.Sha
/-- Where a sum begins. -/
def runB : Run := ⟨Hc, fun _ => 0, 0⟩
theorem pw_congr (B C : Nat → BitVec 8) : ∀ i, (∀ j, j < i → B j = C j) → ∀ j, pw B i j = pw C i j
  | 0, _, _ => rfl
  | i + 1, h, j => by rw [pw, pw, pw_congr B C i (fun j hj => h j (by omega)) j, h i (by omega)]
theorem sc_congr (B C : Nat → BitVec 8) (h : ∀ j, j < 64 → B j = C j) : ∀ n j, sc B n j = sc C n j
  | 0, j => pw_congr B C 64 h j
  | n + 1, j => by simp only [sc, sc_congr B C h n]
theorem run_congr (K W V : Nat → W32) (s : S8) (h : ∀ j, W j = V j) : ∀ n, run K W s n = run K V s n
  | 0 => rfl
  | n + 1 => by rw [run, run, run_congr K W V s h n, h n]
theorem comp_congr (H : Nat → W32) (B C : Nat → BitVec 8) (h : ∀ j, j < 64 → B j = C j) : comp H B = comp H C := by
  funext j
  unfold comp
  rw [run_congr Kc (sched B) (sched C) (s8 H) (fun j => sc_congr B C h 48 j)]
/-- A text with what stands behind it: n bytes, b blocks in all. -/
def padB (D : Nat → BitVec 8) (n b : Nat) (j : Nat) : BitVec 8 := if j < n then D j else if j = n then 0x80 else if j < 64 * b - 8 then 0 else be8 (8 * n) (j - (64 * b - 8))
/-- The words behind t blocks. -/
def Hb (E : Nat → BitVec 8) : Nat → Nat → W32
  | 0 => Hc
  | t + 1 => comp (Hb E t) (fun j => E (64 * t + j))
theorem feed_blocks (E : Nat → BitVec 8) : ∀ t, (feed runB E (64 * t)).H = Hb E t ∧ (feed runB E (64 * t)).f = 0
  | 0 => ⟨rfl, rfl⟩
  | t + 1 => by
    obtain ⟨h1, h2⟩ := feed_blocks E t
    rw [show 64 * (t + 1) = 64 * t + 64 from by omega, feed_add, feed_full _ _ 64 (by omega) (by rw [h2])]
    refine ⟨?_, rfl⟩
    show comp _ _ = comp _ _
    rw [h1, h2]
    exact comp_congr _ _ _ (fun j hj => by unfold putN; rw [if_pos (by omega)]; rfl)
theorem feed_fmod (s : Run) (D : Nat → BitVec 8) (h : s.f < 64) : ∀ n, (feed s D n).f = (s.f + n) % 64
  | 0 => by show s.f = _; omega
  | n + 1 => by
    have ih := feed_fmod s D h n
    rw [feed, feed1_f _ _ (by rw [ih]; omega), ih]; omega
theorem zer_feed (s : Run) : ∀ n, zer s n = feed s (fun _ => 0) n
  | 0 => rfl
  | n + 1 => by rw [zer, feed, zer_feed s n]
theorem closed_blocks (D : Nat → BitVec 8) (n b : Nat) (hb : b = (n + 72) / 64) : (closed (feed runB D n) n).H = Hb (padB D n b) b := by
  rw [← (feed_blocks (padB D n b) b).1]
  suffices hs : closed (feed runB D n) n = feed runB (padB D n b) (64 * b) by rw [hs]
  have hf : (feed1 (feed runB D n) 0x80).f = (n + 1) % 64 := by
    have h0 : runB.f = 0 := rfl
    have := feed_fmod runB D (by rw [h0]; omega) n
    rw [feed1_f _ _ (by rw [this]; omega), this, h0]; omega
  unfold closed
  rw [hf, zer_feed]
  have hz : 64 * b = n + 1 + (120 - (n + 1) % 64) % 64 + 8 := by omega
  generalize hzz : (120 - (n + 1) % 64) % 64 = z at hz ⊢
  rw [hz, feed_add, feed_add, feed_add]
  have e1 : feed runB (padB D n b) n = feed runB D n := feed_congr _ _ _ _ (fun j hj => by unfold padB; rw [if_pos hj])
  have e2 : ∀ s, feed s (fun j => padB D n b (n + j)) 1 = feed1 s 0x80 := fun s => by
    show feed1 s (padB D n b (n + 0)) = _
    unfold padB; rw [Nat.add_zero, if_neg (by omega), if_pos rfl]
  have e3 : ∀ s, feed s (fun j => padB D n b (n + 1 + j)) z = feed s (fun _ => 0) z := fun s => feed_congr _ _ _ _ (fun j hj => by unfold padB; rw [if_neg (by omega), if_neg (by omega), if_pos (by omega)])
  have e4 : ∀ s, feed s (fun j => padB D n b (n + 1 + z + j)) 8 = feed s (be8 (8 * n)) 8 := fun s => feed_congr _ _ _ _ (fun j hj => by
    unfold padB; rw [if_neg (by omega), if_neg (by omega), if_neg (by omega), show n + 1 + z + j - (64 * b - 8) = j from by omega])
  rw [e1, e2, e3, e4]
/-- Four bytes as a word. -/
def w4 (a b c d : BitVec 8) : W32 := BitVec.ofNat 32 (a.toNat * 16777216 + b.toNat * 65536 + c.toNat * 256 + d.toNat)
theorem shl_or (X : W32) (b : BitVec 8) (h : X.toNat < 16777216) : (X <<< 8 ||| b.setWidth 32).toNat = X.toNat * 256 + b.toNat := by
  have hb := b.isLt
  rw [BitVec.toNat_or, BitVec.toNat_shiftLeft, BitVec.toNat_setWidth, Nat.shiftLeft_eq, Nat.mod_eq_of_lt (a := X.toNat * 2 ^ 8) (by omega), Nat.mod_eq_of_lt (a := b.toNat) (by omega)]
  rw [← Nat.shiftLeft_eq, ← Nat.shiftLeft_add_eq_or_of_lt hb, Nat.shiftLeft_eq]
theorem pw_zero (B : Nat → BitVec 8) : ∀ i j, i ≤ 4 * j → pw B i j = 0
  | 0, _, _ => rfl
  | i + 1, j, h => by rw [pw, if_neg (by omega), pw_zero B i j (by omega)]
theorem pw_keep (B : Nat → BitVec 8) (j : Nat) : ∀ d, pw B (4 * j + 4 + d) j = pw B (4 * j + 4) j
  | 0 => rfl
  | d + 1 => by rw [← Nat.add_assoc, pw, if_neg (by omega), pw_keep B j d]
theorem pw_word (B : Nat → BitVec 8) (j : Nat) (hj : j < 16) : pw B 64 j = w4 (B (4 * j)) (B (4 * j + 1)) (B (4 * j + 2)) (B (4 * j + 3)) := by
  have e := pw_keep B j (60 - 4 * j)
  rw [show 4 * j + 4 + (60 - 4 * j) = 64 from by omega] at e
  rw [e]
  have s0 : pw B (4 * j) j = 0 := pw_zero B _ _ (Nat.le_refl _)
  have h0 := (B (4 * j)).isLt
  have h1 := (B (4 * j + 1)).isLt
  have h2 := (B (4 * j + 2)).isLt
  have h3 := (B (4 * j + 3)).isLt
  have s1 : (pw B (4 * j + 1) j).toNat = (B (4 * j)).toNat := by
    rw [pw, if_pos (by omega), s0, shl_or _ _ (by simp)]; simp
  have s2 : (pw B (4 * j + 2) j).toNat = (B (4 * j)).toNat * 256 + (B (4 * j + 1)).toNat := by
    rw [show 4 * j + 2 = 4 * j + 1 + 1 from rfl, pw, if_pos (by omega), shl_or _ _ (by rw [s1]; omega), s1]
  have s3 : (pw B (4 * j + 3) j).toNat = ((B (4 * j)).toNat * 256 + (B (4 * j + 1)).toNat) * 256 + (B (4 * j + 2)).toNat := by
    rw [show 4 * j + 3 = 4 * j + 2 + 1 from rfl, pw, if_pos (by omega), shl_or _ _ (by rw [s2]; omega), s2]
  apply BitVec.eq_of_toNat_eq
  rw [show 4 * j + 4 = 4 * j + 3 + 1 from rfl, pw, if_pos (by omega), shl_or _ _ (by rw [s3]; omega), s3]
  unfold w4
  rw [BitVec.toNat_ofNat]
  omega
theorem w4_word (H : Nat → W32) (j : Nat) : w4 (wordByte H (4 * j)) (wordByte H (4 * j + 1)) (wordByte H (4 * j + 2)) (wordByte H (4 * j + 3)) = H j := by
  have h := (H j).isLt
  apply BitVec.eq_of_toNat_eq
  unfold w4 wordByte
  rw [show 4 * j / 4 = j from by omega, show (4 * j + 1) / 4 = j from by omega, show (4 * j + 2) / 4 = j from by omega, show (4 * j + 3) / 4 = j from by omega]
  rw [show 4 * j % 4 = 0 from by omega, show (4 * j + 1) % 4 = 1 from by omega, show (4 * j + 2) % 4 = 2 from by omega, show (4 * j + 3) % 4 = 3 from by omega]
  simp only [BitVec.toNat_ofNat]
  omega
end Go.Proofs.YtcampjgemedhlaaDoor.Sha
namespace Go.Proofs.YtcampjgemedhlaaDoor.Sha
def h0P (n : Nat) : P8 := ⟨1779033703 * one n, 3144134277 * one n, 1013904242 * one n, 2773480762 * one n, 1359893119 * one n, 2600822924 * one n, 528734635 * one n, 1541459225 * one n⟩
def secL (n i b : Nat) (X : Nat) : List Nat := [0, one n, X, 0, (33554560 + i * 65536 + b * 256) * one n, 0, 0, 0, 0, 0, 0, 0, 0, 0, 0, 152 * one n]
def leafL (n : Nat) (s : P8) : List Nat := [s.a, s.b, s.c, s.d, s.e, s.f, s.g, s.h, 2147483648 * one n, 0, 0, 0, 0, 0, 0, 256 * one n]
def leafP (n X i b : Nat) : P8 := compP (msk n) (one n) (h0P n) (leafL n (compP (msk n) (one n) (h0P n) (secL n i b X)))
def bothL (s t : P8) : List Nat := [s.a, s.b, s.c, s.d, s.e, s.f, s.g, s.h, t.a, t.b, t.c, t.d, t.e, t.f, t.g, t.h]
def keyP (n X : Nat) : Nat → P8
  | 0 => h0P n
  | t + 1 => compP (msk n) (one n) (keyP n X t) (bothL (leafP n X t 0) (leafP n X t 1))
def keyF (n X : Nat) : P8 := compP (msk n) (one n) (keyP n X 32) [2147483648 * one n, 0, 0, 0, 0, 0, 0, 0, 0, 0, 0, 0, 0, 0, 0, 16384 * one n]
def seedP (n : Nat) : Nat := pk (fun l => BitVec.ofNat 32 (l % 256 * 16777216)) n
end Go.Proofs.YtcampjgemedhlaaDoor.Sha
