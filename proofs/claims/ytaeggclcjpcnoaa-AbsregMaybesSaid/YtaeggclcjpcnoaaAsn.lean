/- AbsregMaybes: what is told. -/
import Derived.Test.YtaeggclcjpcnoaaAsf
import Derived.Test.YtaeggclcjpcnoaaAbh
import Derived.Test.YtaeggclcjpcnoaaAct
import Derived.Test.YtaeggclcjpcnoaaAwm
namespace Go.Proofs.Ytaeggclcjpcnoaa
open Go Go.RowKit
def mbA (sl id : Int) : Ar := ⟨6, zeroR, sl, id, 0, 0⟩
/-- A state with two Maybes. -/
def mS (sl i j : Int) : St := (startS.setR 0 (mbA sl i)).setR 6 (mbA sl j)
theorem mS_0 (sl i j : Int) : prt (mS sl i j) 0 = mbA sl i := rfl
theorem mS_6 (sl i j : Int) : prt (mS sl i j) 6 = mbA sl j := rfl
theorem mS_o (sl i j : Int) {x : Nat} (h0 : x ≠ 0) (h6 : x ≠ 6) : prt (mS sl i j) x = prt startS x := by
  unfold prt
  by_cases h : x < 11
  · rw [if_pos h, if_pos h]
    show (if x = 6 then mbA sl j else if x = 0 then mbA sl i else startS.R x) = _
    rw [if_neg h6, if_neg h0]
  · rw [if_neg h, if_neg h]; rfl
theorem start_kind (x : Nat) : ¬ (prt startS x).k = 6 := by
  unfold prt
  by_cases h : x < 11
  · rw [if_pos h]
    show ¬ (if x = 10 then (⟨3, zeroR, 0, 0, 0, 0⟩ : Ar) else if x = 1 then ⟨2, zeroR, 0, 0, 0, 0⟩ else zeroA).k = 6
    by_cases h1 : x = 10
    · rw [if_pos h1]; decide
    · rw [if_neg h1]
      by_cases h2 : x = 1
      · rw [if_pos h2]; decide
      · rw [if_neg h2]; decide
  · rw [if_neg h]; show ¬ (0 : Int) = 6; decide
theorem start_cov (x : Nat) : covA (prt startS x) (prt startS x) = true := by
  unfold prt
  by_cases h : x < 11
  · rw [if_pos h]
    show covA (if x = 10 then (⟨3, zeroR, 0, 0, 0, 0⟩ : Ar) else if x = 1 then ⟨2, zeroR, 0, 0, 0, 0⟩ else zeroA) (if x = 10 then (⟨3, zeroR, 0, 0, 0, 0⟩ : Ar) else if x = 1 then ⟨2, zeroR, 0, 0, 0, 0⟩ else zeroA) = true
    by_cases h1 : x = 10
    · rw [if_pos h1]; rfl
    · rw [if_neg h1]
      by_cases h2 : x = 1
      · rw [if_pos h2]; rfl
      · rw [if_neg h2]; rfl
  · rw [if_neg h]; rfl
theorem mb_cov (sl i j : Int) : covA (mbA sl i) (mbA sl j) = true := (covA_iff _ _).2 (.inr ⟨rfl, fun h => absurd h (by show ¬ (6 : Int) = 1; decide), fun h => absurd h (by show ¬ ((6 : Int) = 2 ∨ (6 : Int) = 3 ∨ (6 : Int) = 5); decide), fun _ => rfl⟩)
theorem maybe_cov (sl i j k : Int) : covS (mS sl i j) (mS sl j k) = ((i != j) || (j == k)) := by
  have hs : sameB (mS sl i j) (mS sl j k) = ((i != j) || (j == k)) := by
    rw [Bool.eq_iff_iff, same_iff, Bool.or_eq_true, bne_iff_ne, beq_iff_eq]
    constructor
    · intro h
      by_cases e : i = j
      · exact .inr (h 6 (by omega) 0 (by omega) rfl rfl e)
      · exact .inl e
    · intro h y hy x hx k1 k2 e
      have hx0 : x = 0 ∨ x = 6 := by
        by_cases a : x = 0
        · exact .inl a
        by_cases b : x = 6
        · exact .inr b
        rw [mS_o sl i j a b] at k1; exact absurd k1 (start_kind x)
      have hy0 : y = 0 ∨ y = 6 := by
        by_cases a : y = 0
        · exact .inl a
        by_cases b : y = 6
        · exact .inr b
        rw [mS_o sl i j a b] at k2; exact absurd k2 (start_kind y)
      obtain rfl : x = 0 := by omega
      obtain rfl : y = 6 := by omega
      rcases h with h | h
      · exact absurd e h
      · exact h
  cases hb : ((i != j) || (j == k))
  · cases hc : covS (mS sl i j) (mS sl j k)
    · rfl
    · have := ((covS_iff _ _).1 hc).2.2; rw [hs, hb] at this; cases this
  · refine (covS_iff _ _).2 ⟨fun x hx => ?_, fun x hx hw => (by cases hw), by rw [hs, hb]⟩
    by_cases a : x = 0
    · subst a; exact mb_cov sl i j
    by_cases b : x = 6
    · subst b; exact mb_cov sl j k
    rw [mS_o sl i j a b, mS_o sl j k a b]; exact start_cov x
/-- The state that is settled. -/
def uS (sl i j : Int) (c : Bool) : St := setlS ((mS sl i j).setK 2 (mbA sl i)) i c
theorem mb_is (sl i x : Int) : isMayb (mbA sl i) x = (i == x) := by unfold isMayb mbA; rfl
theorem mb_eq (sl i : Int) : isMayb (mbA sl i) i = true := by rw [mb_is]; exact beq_self_eq_true i
theorem uS_K2 (sl i j : Int) (c : Bool) : (uS sl i j c).K 2 = settlA (mbA sl i) c := if_pos ⟨by omega, mb_eq sl i⟩
theorem uS_R0 (sl i j : Int) (c : Bool) : (uS sl i j c).R 0 = settlA (mbA sl i) c := if_pos ⟨by omega, mb_eq sl i⟩
theorem uS_R6 (sl i j : Int) (c : Bool) : (uS sl i j c).R 6 = if (j == i) = true then settlA (mbA sl j) c else mbA sl j := by
  by_cases h : (j == i) = true
  · rw [if_pos h]; exact if_pos ⟨by omega, by rw [← mb_is sl j i] at h; exact h⟩
  · rw [if_neg h]; exact if_neg (fun y => h ((mb_is sl j i).symm.trans y.2))
theorem uS_R1 (sl i j : Int) (c : Bool) : (uS sl i j c).R 1 = ⟨2, zeroR, 0, 0, 0, 0⟩ := by
  show (if 1 < 11 ∧ isMayb (⟨2, zeroR, 0, 0, 0, 0⟩ : Ar) i = true then settlA ⟨2, zeroR, 0, 0, 0, 0⟩ c else (⟨2, zeroR, 0, 0, 0, 0⟩ : Ar)) = _
  rw [if_neg (fun y => by have h := y.2; unfold isMayb at h; cases h)]
theorem set_t (sl i : Int) : settlA (mbA sl i) true = ⟨5, zeroR, sl, 0, 0, 0⟩ := rfl
theorem set_f (sl i : Int) : settlA (mbA sl i) false = ⟨1, cR 0#64, 0, 0, 0, 0⟩ := rfl
theorem uS_load (sl i j : Int) (c : Bool) : loadF (uS sl i j c) (-48) 8 = (settlA (mbA sl i) c, true) := by
  unfold loadF
  rw [show sizeF 8 = true from rfl, inside_t (by decide) (by decide) (by decide), word_t (by decide), index_at (by decide) (by decide), show ((-48 : Int) + 64).toNat / 8 = 2 from rfl, uS_K2]
  cases c <;> rfl
end Go.Proofs.Ytaeggclcjpcnoaa
