/- What times and below say as numbers. -/
import Derived.Test.YtneffelpdaigoaaDoorRef3
namespace Go.Proofs.YtneffelpdaigoaaDoor
open Go Go.RowKit Sha
/-- The number that parts of 32 bits make, the lowest first. -/
def vl (X : Nat → Nat) : Nat → Nat
  | 0 => 0
  | n + 1 => vl X n + X n * 4294967296 ^ n
theorem vl_congr {X Y : Nat → Nat} : ∀ {n : Nat}, (∀ j, j < n → X j = Y j) → vl X n = vl Y n
  | 0, _ => rfl
  | n + 1, h => by simp only [vl]; rw [vl_congr (n := n) (fun j hj => h j (by omega)), h n (by omega)]
theorem vl_put (X : Nat → Nat) (p v : Nat) : ∀ L, p < L → vl (fun j => if j = p then v else X j) L + X p * 4294967296 ^ p = vl X L + v * 4294967296 ^ p
  | L + 1, h => by
    simp only [vl]
    by_cases e : L = p
    · subst e
      rw [vl_congr (n := L) (X := fun j => if j = L then v else X j) (Y := X) (fun j hj => by rw [if_neg (by omega)]), if_pos rfl]
      omega
    · have ih := vl_put X p v L (by omega)
      rw [if_neg e]
      omega
theorem vl_in (A B : Nat → Nat) (i : Nat) (o : Nat → Nat) (L : Nat) : ∀ k, i + k ≤ L →
    vl (tIn A B i o k).1 L + (tIn A B i o k).2 * 4294967296 ^ (i + k) = vl o L + A i * 4294967296 ^ i * vl B k
  | 0, _ => by simp [tIn, vl]
  | k + 1, h => by
    have ih := vl_in A B i o L k (by omega)
    have hp := vl_put (tIn A B i o k).1 (i + k) ((A i * B k + (tIn A B i o k).1 (i + k) + (tIn A B i o k).2) % 4294967296) L (by omega)
    have hs := Nat.mod_add_div (A i * B k + (tIn A B i o k).1 (i + k) + (tIn A B i o k).2) 4294967296
    simp only [tIn, vl]
    generalize (tIn A B i o k).1 (i + k) = x at *
    generalize (tIn A B i o k).2 = c at *
    generalize (A i * B k + x + c) % 4294967296 = r at *
    generalize (A i * B k + x + c) / 4294967296 = q at *
    generalize vl (fun j => if j = i + k then r else (tIn A B i o k).1 j) L = V' at *
    generalize vl (tIn A B i o k).1 L = V at *
    generalize vl o L = O at *
    generalize vl B k = W at *
    have e1 : 4294967296 ^ (i + (k + 1)) = 4294967296 * 4294967296 ^ (i + k) := by rw [← Nat.add_assoc, Nat.pow_succ, Nat.mul_comm]
    have e2 : (4294967296 : Nat) ^ (i + k) = 4294967296 ^ i * 4294967296 ^ k := Nat.pow_add _ _ _
    rw [e1]
    have e3 : A i * 4294967296 ^ i * (W + B k * 4294967296 ^ k) = A i * 4294967296 ^ i * W + A i * B k * 4294967296 ^ (i + k) := by rw [e2]; grind
    rw [e3]
    have e4 : q * (4294967296 * 4294967296 ^ (i + k)) + r * 4294967296 ^ (i + k) = A i * B k * 4294967296 ^ (i + k) + x * 4294967296 ^ (i + k) + c * 4294967296 ^ (i + k) := by
      rw [← Nat.add_mul, ← Nat.add_mul, ← hs]; grind
    omega
theorem vl_out (A B : Nat → Nat) (m L : Nat) : ∀ i, i + m ≤ L → vl (tOut A B m i) L = vl A i * vl B m
  | 0, _ => by
    have : ∀ n, vl (fun _ => 0) n = 0 := fun n => by induction n with
      | zero => rfl
      | succ n ih => simp [vl, ih]
    simp [tOut, vl, this]
  | i + 1, h => by
    have ih := vl_out A B m L i (by omega)
    have h1 := vl_in A B i (tOut A B m i) L m (by omega)
    have hp := vl_put (tIn A B i (tOut A B m i) m).1 (i + m) ((tIn A B i (tOut A B m i) m).1 (i + m) + (tIn A B i (tOut A B m i) m).2) L (by omega)
    have h0 : (tIn A B i (tOut A B m i) m).1 (i + m) = 0 := by rw [tIn_far _ _ _ _ _ _ (Nat.le_refl _), tOut_far _ _ _ _ _ (Nat.le_refl _)]
    have e : vl (tOut A B m (i + 1)) L = vl (fun j => if j = i + m then (tIn A B i (tOut A B m i) m).1 (i + m) + (tIn A B i (tOut A B m i) m).2 else (tIn A B i (tOut A B m i) m).1 j) L :=
      vl_congr fun j _ => by simp only [tOut]; split <;> simp_all
    rw [e]
    rw [h0] at hp ⊢
    simp only [vl]
    rw [Nat.add_mul, ← ih]
    simp only [Nat.zero_mul, Nat.zero_add, Nat.add_zero] at hp ⊢
    omega
theorem vl_lt (X : Nat → Nat) (h : ∀ j, X j < 4294967296) : ∀ n, vl X n < 4294967296 ^ n
  | 0 => by show 0 < _; simp
  | n + 1 => by
    have ih := vl_lt X h n
    have : (X n + 1) * 4294967296 ^ n ≤ 4294967296 * 4294967296 ^ n := Nat.mul_le_mul_right _ (h n)
    simp only [vl]
    rw [Nat.pow_succ]
    rw [Nat.add_mul] at this
    omega
theorem blw_vl (X : Nat → Nat) (v k : Nat) (h : ∀ j, X j < 4294967296) (hv : v < 4294967296) : ∀ t, blw X v k t = decide (vl X t ≤ vl (blwY v k) t)
  | 0 => by simp [blw, vl]
  | t + 1 => by
    have ih := blw_vl X v k h hv t
    have hY : ∀ j, blwY v k j < 4294967296 := fun j => by unfold blwY; split <;> omega
    have h1 := vl_lt X h t
    have h2 := vl_lt _ hY t
    simp only [blw]
    by_cases e : X t = blwY v k t
    · rw [if_pos e, ih, decide_eq_decide]; simp only [vl]; rw [e]; omega
    · rw [if_neg e, decide_eq_decide]
      simp only [vl]
      by_cases hlt : X t < blwY v k t
      · have : (X t + 1) * 4294967296 ^ t ≤ blwY v k t * 4294967296 ^ t := Nat.mul_le_mul_right _ hlt
        rw [Nat.add_mul] at this
        omega
      · have : (blwY v k t + 1) * 4294967296 ^ t ≤ X t * 4294967296 ^ t := Nat.mul_le_mul_right _ (by omega)
        rw [Nat.add_mul] at this
        omega
theorem vl_one (v k : Nat) : ∀ t, vl (blwY v k) t = if k < t then v * 4294967296 ^ k else 0
  | 0 => by simp [vl]
  | t + 1 => by
    simp only [vl]
    rw [vl_one v k t]
    unfold blwY
    by_cases h : t = k
    · subst h; simp
    · rw [if_neg h]
      by_cases hk : k < t
      · rw [if_pos hk, if_pos (by omega)]; simp
      · rw [if_neg hk, if_neg (by omega)]; simp
/-- A number's two parts. -/
def pt (y : Nat) : Nat → Nat := fun j => if j = 0 then y % 4294967296 else y / 4294967296
theorem vl_pt (y : Nat) : vl (pt y) 2 = y := by
  show 0 + y % 4294967296 * 4294967296 ^ 0 + y / 4294967296 * 4294967296 ^ 1 = y
  omega
theorem pt_lt (y : Nat) (h : y < 18446744073709551616) (k : Nat) : pt y k < 4294967296 := by unfold pt; split <;> omega
theorem cube_said (y v : Nat) (h : y < 18446744073709551616) (hv : v < 4294967296) : blw (tOut (tOut (pt y) (pt y) 2 2) (pt y) 2 4) v 3 6 = decide (y * y * y ≤ v * 4294967296 ^ 3) := by
  have l2 := tOut_lt (pt y) (pt y) 2 2 (fun k _ => pt_lt y h k) (fun k _ => pt_lt y h k) 2 (Nat.le_refl 2)
  have l3 := tOut_lt (tOut (pt y) (pt y) 2 2) (pt y) 4 2 (fun k _ => l2 k) (fun k _ => pt_lt y h k) 4 (Nat.le_refl 4)
  rw [blw_vl _ _ _ l3 hv, vl_one, vl_out _ _ _ _ _ (by omega), vl_out _ _ _ _ _ (by omega), vl_pt, if_pos (by omega)]
theorem square_said (y v : Nat) (h : y < 18446744073709551616) (hv : v < 4294967296) : blw (tOut (pt y) (pt y) 2 2) v 2 4 = decide (y * y ≤ v * 4294967296 ^ 2) := by
  have l2 := tOut_lt (pt y) (pt y) 2 2 (fun k _ => pt_lt y h k) (fun k _ => pt_lt y h k) 2 (Nat.le_refl 2)
  rw [blw_vl _ _ _ l2 hv, vl_one, vl_out _ _ _ _ _ (by omega), vl_pt, if_pos (by omega)]
end Go.Proofs.YtneffelpdaigoaaDoor
