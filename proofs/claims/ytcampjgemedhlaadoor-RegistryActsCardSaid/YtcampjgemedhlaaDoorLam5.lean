/- A true signature fits its own key, and among the keys of seeds of one byte no other one. -/
import Derived.Test.YtcampjgemedhlaaDoorLam4
import Derived.Test.YtcampjgemedhlaaDoorKeysB
namespace Go.Proofs.YtcampjgemedhlaaDoor
open Go Go.RowKit Sha
theorem shaD_congr {D E : Nat → BitVec 8} {n : Nat} (h : ∀ j, j < n → D j = E j) : shaD D n = shaD E n := by
  unfold shaD; rw [feed_congr _ D E n h]
theorem ver_sig (n : Nat) (D s : Nat → BitVec 8) (j : Nat) : verText s (sigD n D s) j = keyText n D j := by
  have hsec : shaD (fun x => sigD n D s (64 * (j / 64) + x)) 32 = leafD n D (j / 64) (bitS s (j / 64)) := by
    unfold leafD
    exact shaD_congr (fun x hx => by unfold sigD; rw [show (64 * (j / 64) + x) % 64 = x from by omega, show (64 * (j / 64) + x) / 64 = j / 64 from by omega, if_pos hx])
  have hleaf : ∀ x, x < 32 → sigD n D s (64 * (j / 64) + 32 + x) = leafD n D (j / 64) (1 - bitS s (j / 64)) x := fun x hx => by
    unfold sigD; rw [show (64 * (j / 64) + 32 + x) % 64 = 32 + x from by omega, show (64 * (j / 64) + 32 + x) / 64 = j / 64 from by omega, if_neg (by omega), show 32 + x - 32 = x from by omega]
  unfold verText keyText
  by_cases hb : bitS s (j / 64) = 0
  · rw [if_pos hb]
    by_cases h : j % 64 < 32
    · rw [if_pos h, hsec, hb, show j % 64 / 32 = 0 from by omega, show j % 32 = j % 64 from by omega]
    · rw [if_neg h, hleaf _ (by omega), hb, show j % 64 / 32 = 1 from by omega, show j % 32 = j % 64 - 32 from by omega]
  · have hb1 : bitS s (j / 64) = 1 := by have := bitS_lt s (j / 64); omega
    rw [if_neg hb]
    by_cases h : j % 64 < 32
    · rw [if_pos h, hleaf _ (by omega), hb1, show j % 64 / 32 = 0 from by omega, show j % 32 = j % 64 from by omega]
    · rw [if_neg h, hsec, hb1, show j % 64 / 32 = 1 from by omega, show j % 32 = j % 64 - 32 from by omega]
theorem verD_sig (n : Nat) (D s : Nat → BitVec 8) : verD s (sigD n D s) = keyD n D := shaD_congr (fun j _ => ver_sig n D s j)
theorem fits_iff (key s sig : Nat → BitVec 8) : fitsB key s sig = true ↔ ∀ i, i < 32 → verD s sig i = key i := by
  unfold fitsB
  simp
theorem fits_sig (n : Nat) (D s : Nat → BitVec 8) : fitsB (keyD n D) s (sigD n D s) = true := by
  rw [fits_iff, verD_sig]; intro _ _; rfl
theorem fits_other (x y : BitVec 8) (s : Nat → BitVec 8) (h : x ≠ y) : fitsB (keyD 1 (fun _ => x)) s (sigD 1 (fun _ => y) s) = false := by
  rw [Bool.eq_false_iff]
  intro hf
  rw [fits_iff, verD_sig] at hf
  obtain ⟨j, hj, hn⟩ := keys_apart x y h
  exact hn (hf j hj).symm
theorem bitS_congr {s t : Nat → BitVec 8} (h : ∀ j, j < 4 → s j = t j) (i : Nat) (hi : i < 32) : bitS s i = bitS t i := by
  unfold bitS; rw [h _ (by omega)]
theorem sigD_congr (n : Nat) (D : Nat → BitVec 8) {s t : Nat → BitVec 8} (h : ∀ j, j < 4 → s j = t j) (j : Nat) (hj : j < 2048) : sigD n D s j = sigD n D t j := by
  unfold sigD; rw [bitS_congr h _ (by omega)]
theorem fits_bits (n : Nat) (D : Nat → BitVec 8) {s t : Nat → BitVec 8} (h : ∀ j, j < 4 → s j = t j) : fitsB (keyD n D) t (sigD n D s) = true := by
  have e : verD t (sigD n D s) = verD t (sigD n D t) := shaD_congr (fun j hj => by
    have h1 : ∀ i, i < 2048 → sigD n D s i = sigD n D t i := fun i hi => sigD_congr n D h i hi
    unfold verText
    have h2 : shaD (fun x => sigD n D s (64 * (j / 64) + x)) 32 = shaD (fun x => sigD n D t (64 * (j / 64) + x)) 32 := shaD_congr (fun x hx => h1 _ (by omega))
    rw [h2]
    split <;> split
    · rfl
    · exact h1 _ (by omega)
    · exact h1 _ (by omega)
    · rfl)
  rw [fits_iff, e, verD_sig]; intro _ _; rfl
end Go.Proofs.YtcampjgemedhlaaDoor
