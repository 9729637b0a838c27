/- AbsregStacks: both stacks say the same. -/
import Derived.Test.YtcdhngceiochoaaAsr
namespace Go.Proofs.Ytcdhngceiochoaa
open Go Go.RowKit
def kpA (x : Nat) : Ar := if x = 0 then zeroA else ⟨5, zeroR, 0, 0, (x : Int) - 1, (x : Int) - 1⟩
/-- A state, by what the document's stack says. -/
def stOf (W : Nat → Bool) (K : Nat → Nat) : St := ⟨startS.R, W, fun k => kpA (K k)⟩
theorem stC_same {s t : St} (hR : ∀ i, i < 11 → s.R i = t.R i) (hW : ∀ j, j < 64 → s.W j = t.W j) (hK : ∀ k, k < 8 → s.K k = t.K k) (j : Nat) (hj : j < 273) : stC s j = stC t j := by
  unfold stC
  by_cases h1 : j < 121
  · rw [if_pos h1, if_pos h1, hR _ (by omega)]
  · rw [if_neg h1, if_neg h1]
    by_cases h2 : j < 185
    · rw [if_pos h2, if_pos h2, hW _ (by omega)]
    · rw [if_neg h2, if_neg h2, hK _ (by omega)]
theorem kpA_k (x : Nat) : (kpA x).k = 0 ↔ x = 0 := by
  unfold kpA
  by_cases h : x = 0
  · rw [if_pos h]; exact ⟨fun _ => h, fun _ => rfl⟩
  · rw [if_neg h]; exact ⟨fun e => absurd (show (5 : Int) = 0 from e) (by omega), fun e => absurd e h⟩
theorem kpA_zero : kpA 0 = zeroA := rfl
/-- What the document's Save tells, and leaves. -/
def refF (W : Nat → Bool) (K : Nat → Nat) (a : Int) (n v : Nat) : Bool × (Nat → Bool) × (Nat → Nat) :=
  if a < 0 then (false, W, K)
  else if 64 < a + n then (false, W, K)
  else if v = 0 then (true, w2 W K a.toNat n true n, k1 K a.toNat n)
  else if n ≠ 8 then (false, W, K)
  else if a % 8 ≠ 0 then (false, W, K)
  else (true, w2 W K a.toNat n false n, fun k => if k = a.toNat / 8 then v else k1 K a.toNat n k)
theorem tmod_ne {a : Int} (h : a % 8 ≠ 0) : ((a.tmod 8 != 0)) = true := by
  rw [bne_iff_ne]; intro e; exact h (Int.emod_eq_zero_of_dvd (Int.dvd_of_tmod_eq_zero e))
theorem RSave_all (b : Nat) (W : Nat → Bool) (K : Nat → Nat) (a : Int) (n v : Nat) (ha : -1 ≤ a ∧ a < 64) (hn : n = 1 ∨ n = 2 ∨ n = 4 ∨ n = 8) (hv : v < 1000) (w : World) (N : Nat) (hN : Sz w N) (hh : Has w b 81 72 (skC W K)) :
    Calls Try.prog 46 #[.pointer (some ⟨b, 0, none⟩), .int .i64 a, .int .i64 ((n : Nat) : Int), .int .i64 ((v : Nat) : Int)] w fun e w' => e = .returned (.bool (refF W K a n v).1) ∧ Grew (some b) w w' ∧ Has w' b 81 72 (skC (refF W K a n v).2.1 (refF W K a n v).2.2) := by
  have hb := hh.ltN hN
  have no : ∀ {e : Ending} {w' : World}, (e = .returned (.bool false) ∧ Below N w w') → refF W K a n v = (false, W, K) → e = .returned (.bool (refF W K a n v).1) ∧ Grew (some b) w w' ∧ Has w' b 81 72 (skC (refF W K a n v).2.1 (refF W K a n v).2.2) := fun h e => by
    rw [e]; exact ⟨h.1, below_grew h.2 hN, hh.below h.2 hb⟩
  by_cases h1 : a < 0
  · exact (RSave_neg b a n v (hid (decide_eq_true h1)) w N hN).mono fun e w' h => no h (by unfold refF; rw [if_pos h1])
  have dA : decide (a < 0) = false := decide_eq_false h1
  have ew : wrap64 (a + ((n : Nat) : Int)) = a + n := wrap_id (by omega) (by omega)
  by_cases h2 : 64 < a + n
  · exact (RSave_out b a n v (hid dA) (hid (by rw [ew]; exact decide_eq_true h2)) w N hN).mono fun e w' h => no h (by unfold refF; rw [if_neg h1, if_pos h2])
  have dB : decide (64 < wrap64 (a + ((n : Nat) : Int))) = false := by rw [ew]; exact decide_eq_false h2
  have ea : a = ((a.toNat : Nat) : Int) := by omega
  by_cases h3 : v = 0
  · subst h3
    have e : refF W K a n 0 = (true, w2 W K a.toNat n true n, k1 K a.toNat n) := by unfold refF; rw [if_neg h1, if_neg h2, if_pos rfl]
    rw [e]
    have h := RSave_n b W K a.toNat n (by omega) (by omega) w N hN hh
    rw [← ea] at h
    exact h
  have dV : decide ((0 : Int) < ((v : Nat) : Int)) = true := decide_eq_true (by omega)
  by_cases h4 : n ≠ 8
  · exact (RSave_no8 b a n v (hid dA) (hid dB) (hid dV) (hid (by rw [bne_iff_ne]; omega)) w N hN).mono fun e w' h => no h (by unfold refF; rw [if_neg h1, if_neg h2, if_neg h3, if_pos h4])
  have e8 : n = 8 := by omega
  by_cases h5 : a % 8 ≠ 0
  · exact (RSave_odd b a n v (hid dA) (hid dB) (hid dV) (hid (by rw [bne_eq_false_iff_eq]; omega)) (hid (tmod_ne h5)) w N hN).mono fun e w' h => no h (by unfold refF; rw [if_neg h1, if_neg h2, if_neg h3, if_neg h4, if_pos h5])
  have e : refF W K a n v = (true, w2 W K a.toNat n false n, fun k => if k = a.toNat / 8 then v else k1 K a.toNat n k) := by unfold refF; rw [if_neg h1, if_neg h2, if_neg h3, if_neg h4, if_neg h5]
  rw [e]
  have h := RSave_v b W K a.toNat n v (by omega) (by omega) (by omega) e8 (by omega) w N hN hh
  rw [← ea] at h
  exact h
/-- A register that is saved: a number, or the cell of a number. -/
def rgA (v : Nat) : Ar := if v = 0 then numA (cR 7#64) else ⟨5, zeroR, 0, 0, (v : Int) - 1, (v : Int) - 1⟩
def atF (A : Int) : Int := if -64 ≤ A ∧ A < 0 then A + 64 else -1
theorem atF_bnd (A : Int) : -1 ≤ atF A ∧ atF A < 64 := by unfold atF; split <;> omega
def Both (W : Nat → Bool) (K : Nat → Nat) (x : St × Bool) (y : Bool × (Nat → Bool) × (Nat → Nat)) : Prop :=
  x.2 = y.1 ∧ (∀ j, j < 273 → stC x.1 j = stC (stOf y.2.1 y.2.2) j) ∧ (y.1 = false → x.1 = stOf W K ∧ y.2 = (W, K))
/-- Both say the same: of whatever place, size, value. -/
theorem save_same (W : Nat → Bool) (K : Nat → Nat) (A : Int) (hA : -9223372036854775808 ≤ A ∧ A < 9223372036854775808) (n v : Nat) (hn : n = 1 ∨ n = 2 ∨ n = 4 ∨ n = 8) :
    Both W K (saveF (stOf W K) A n (rgA v)) (refF W K (atF A) n v) := by
  have hs : sizeF (n : Int) = true := size_of (by omega)
  have no : saveF (stOf W K) A n (rgA v) = (stOf W K, false) → refF W K (atF A) n v = (false, W, K) → Both W K (saveF (stOf W K) A n (rgA v)) (refF W K (atF A) n v) := fun e1 e2 => by
    rw [e1, e2]; exact ⟨rfl, fun _ _ => rfl, fun _ => ⟨rfl, rfl⟩⟩
  by_cases h1 : -64 ≤ A ∧ A < 0
  · have e1 : atF A = A + 64 := if_pos h1
    by_cases h2 : 64 < A + 64 + n
    · exact no (by unfold saveF; rw [inside_f h1.1 h1.2 (by omega), Bool.and_false]; rfl) (by rw [e1]; unfold refF; rw [if_neg (by omega), if_pos h2])
    have hi : insideF A n = true := inside_t h1.1 h1.2 (by omega)
    have hx : (indexF A).toNat = (A + 64).toNat := index_at h1.1 h1.2
    by_cases h3 : v = 0
    · subst h3
      have es : saveF (stOf W K) A n (rgA 0) = (saveL (stOf W K) (A + 64).toNat true n, true) := by
        unfold saveF; rw [hs, hi, hx, Int.toNat_natCast]; rfl
      have er : refF W K (atF A) n 0 = (true, w2 W K (A + 64).toNat n true n, k1 K (A + 64).toNat n) := by rw [e1]; unfold refF; rw [if_neg (by omega), if_neg h2, if_pos rfl]
      rw [es, er]
      refine ⟨rfl, fun j hj => stC_same (fun i _ => by rw [saveL_R]; rfl) (fun j _ => ?_) (fun k _ => ?_) j hj, fun h => by cases h⟩
      · rw [saveL_W]
        show _ = w2 W K (A + 64).toNat n true n j
        unfold w2 w1
        by_cases hin : (A + 64).toNat ≤ j ∧ j < (A + 64).toNat + n
        · rw [if_pos hin, if_pos hin]
        · rw [if_neg hin, if_neg hin]
          by_cases hk : K (j / 8) = 0
          · rw [if_neg (fun h => h.2 ((kpA_k _).2 hk)), if_neg (fun h => h.2 hk)]; rfl
          · by_cases hh : Hit (A + 64).toNat n (j / 8)
            · rw [if_pos ⟨hh, fun e => hk ((kpA_k _).1 e)⟩, if_pos ⟨hh, hk⟩]
            · rw [if_neg (fun h => hh h.1), if_neg (fun h => hh h.1)]; rfl
      · rw [saveL_K]
        show _ = kpA (k1 K (A + 64).toNat n k)
        unfold k1
        by_cases hh : Hit (A + 64).toNat n k
        · rw [if_pos hh]
          by_cases hk : K k = 0
          · rw [if_neg (fun h => h.2 ((kpA_k _).2 hk))]; show kpA (K k) = _; rw [hk]
          · rw [if_pos ⟨hh, fun e => hk ((kpA_k _).1 e)⟩]; rfl
        · rw [if_neg (fun h => hh h.1), if_neg hh]; rfl
    have hr : rgA v = ⟨5, zeroR, 0, 0, (v : Int) - 1, (v : Int) - 1⟩ := if_neg h3
    by_cases h4 : n ≠ 8
    · exact no (by unfold saveF; rw [hs, hi, hr, word_f (by omega)]; rfl) (by rw [e1]; unfold refF; rw [if_neg (by omega), if_neg h2, if_neg h3, if_pos h4])
    have e8 : n = 8 := by omega
    subst e8
    by_cases h5 : (A + 64) % 8 ≠ 0
    · have hw : wordF A 8 = false := by
        unfold wordF
        rw [show ((8 : Int) == 8) = true from rfl, cond_true]
        exact beq_false_of_ne (fun e => h5 (by have := Int.emod_eq_zero_of_dvd (Int.dvd_of_tmod_eq_zero e); omega))
      exact no (by unfold saveF; rw [hs, hi, hr, show ((8 : Nat) : Int) = 8 from rfl, hw]; rfl) (by rw [e1]; unfold refF; rw [if_neg (by omega), if_neg h2, if_neg h3, if_neg h4, if_pos h5])
    have es : saveF (stOf W K) A ((8 : Nat) : Int) (rgA v) = ((saveL (stOf W K) (A + 64).toNat false 8).setK ((A + 64).toNat / 8) (rgA v), true) := by
      unfold saveF; rw [hs, hi, hx, show ((8 : Nat) : Int) = 8 from rfl, word_t (show A % 8 = 0 by omega), hr]; rfl
    have er : refF W K (atF A) 8 v = (true, w2 W K (A + 64).toNat 8 false 8, fun k => if k = (A + 64).toNat / 8 then v else k1 K (A + 64).toNat 8 k) := by rw [e1]; unfold refF; rw [if_neg (by omega), if_neg h2, if_neg h3, if_neg h4, if_neg h5]
    rw [es, er]
    refine ⟨rfl, fun j hj => stC_same (fun i _ => by show (saveL (stOf W K) (A + 64).toNat false 8).R i = _; rw [saveL_R]; rfl) (fun j _ => ?_) (fun k _ => ?_) j hj, fun h => by cases h⟩
    · show (saveL (stOf W K) (A + 64).toNat false 8).W j = w2 W K (A + 64).toNat 8 false 8 j
      rw [saveL_W]
      unfold w2 w1
      by_cases hin : (A + 64).toNat ≤ j ∧ j < (A + 64).toNat + 8
      · rw [if_pos hin, if_pos hin]
      · rw [if_neg hin, if_neg hin]
        by_cases hk : K (j / 8) = 0
        · rw [if_neg (fun h => h.2 ((kpA_k _).2 hk)), if_neg (fun h => h.2 hk)]; rfl
        · by_cases hh : Hit (A + 64).toNat 8 (j / 8)
          · rw [if_pos ⟨hh, fun e => hk ((kpA_k _).1 e)⟩, if_pos ⟨hh, hk⟩]
          · rw [if_neg (fun h => hh h.1), if_neg (fun h => hh h.1)]; rfl
    · show (if k = (A + 64).toNat / 8 then rgA v else (saveL (stOf W K) (A + 64).toNat false 8).K k) = kpA (if k = (A + 64).toNat / 8 then v else k1 K (A + 64).toNat 8 k)
      by_cases ek : k = (A + 64).toNat / 8
      · rw [if_pos ek, if_pos ek, hr]; exact (if_neg h3).symm
      · rw [if_neg ek, if_neg ek, saveL_K]
        unfold k1
        by_cases hh : Hit (A + 64).toNat 8 k
        · rw [if_pos hh]
          by_cases hk : K k = 0
          · rw [if_neg (fun h => h.2 ((kpA_k _).2 hk))]; show kpA (K k) = _; rw [hk]
          · rw [if_pos ⟨hh, fun e => hk ((kpA_k _).1 e)⟩]; rfl
        · rw [if_neg (fun h => hh h.1), if_neg hh]; rfl
  · have e1 : atF A = -1 := if_neg h1
    have hi : insideF A n = false := by
      unfold insideF
      by_cases hlo : -64 ≤ A
      · rw [show decide (-64 ≤ A) = true from decide_eq_true hlo, cond_true]
        exact decide_eq_false (by unfold wrap64; omega)
      · rw [show decide (-64 ≤ A) = false from decide_eq_false hlo]; rfl
    exact no (by unfold saveF; rw [hi, Bool.and_false]; rfl) (by rw [e1]; unfold refF; rw [if_pos (by omega)])
end Go.Proofs.Ytcdhngceiochoaa
