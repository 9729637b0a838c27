/- Tokens: Root and Derive by their answers; derives of the law. Cells from some place on, by a function; numbers that are rests of 64 bits. Nothing of the program. -/
import Derived.Test.YtilhkgbninbkkaaDoorTk6
import Derived.Test.YtilhkgbninbkkaaDoorOw
import Derived.Test.YtilhkgbninbkkaaDoorOw2
namespace Go.Proofs.YtilhkgbninbkkaaDoor
open Go Go.RowKit
theorem Tks.one {w : World} {t : Tk} (h : Has w t.b 74 8 (tkC t.at_ t.r (.pointer none))) : Tks w [t] := And.intro h (And.intro (fun u hu => by cases hu) trivial)
theorem Tks.cons {w : World} {t u : Tk} {us : List Tk} (h : Has w t.b 74 8 (tkC t.at_ t.r (.pointer (some ⟨u.b, 0, none⟩)))) (hl : ∀ x ∈ u :: us, x.b < t.b) (h2 : Tks w (u :: us)) : Tks w (t :: u :: us) := And.intro h (And.intro hl h2)
section
variable {b c : Nat} {f : Nat → Nat} {at_ : Int} {r : Rg} {w : World} {N : Nat}
theorem Root_ok (he : rootErr c at_ r = 0) (hN : Sz w N) (hT : Tr w b c f) :
    Calls Tryd.prog 27 #[.pointer (some ⟨b, 0, none⟩), .int .i64 at_, rgV r] w fun e w' => ∃ k, e = .returned (.tuple #[.pointer (some ⟨k, 0, none⟩), .int .i64 0]) ∧ N ≤ k ∧ Below N w w' ∧ Tks w' [⟨k, at_, r⟩] := by
  refine (Root_any b c f at_ r w N hN hT).mono ?_
  rintro e w' ⟨hb, h⟩
  rw [if_pos he] at h
  obtain ⟨k, h1, h2, h3⟩ := h
  exact ⟨k, h1, h2, hb, Tks.one h3⟩
def derErr (f : Nat → Nat) (c : Nat) (t : Tk) (us : List Tk) (at_ : Int) (r : Rg) : Int := if isIn c at_ then derE f c t us at_ r else 2
variable {t : Tk} {us : List Tk}
theorem Derive_any (hN : Sz w N) (hT : Tr w b c f) (hU : Tks w (t :: us)) :
    Calls Tryd.prog 28 #[.pointer (some ⟨b, 0, none⟩), .pointer (some ⟨t.b, 0, none⟩), .int .i64 at_, rgV r] w (newPost N w at_ r (.pointer (some ⟨t.b, 0, none⟩)) (derErr f c t us at_ r)) := by
  unfold derErr
  cases hb : isIn c at_
  · rw [if_neg (by decide)]; exact Derive_out b c f t us at_ r hb w N hN hT
  · rw [if_pos rfl]
    have := Derive_in b c f t us at_ r hb _ _ _ rfl rfl rfl w N hN hT hU
    simp only [decide_eq_true_eq] at this
    exact this
theorem Derive_ok (he : derErr f c t us at_ r = 0) (hN : Sz w N) (hT : Tr w b c f) (hU : Tks w (t :: us)) :
    Calls Tryd.prog 28 #[.pointer (some ⟨b, 0, none⟩), .pointer (some ⟨t.b, 0, none⟩), .int .i64 at_, rgV r] w fun e w' => ∃ k, e = .returned (.tuple #[.pointer (some ⟨k, 0, none⟩), .int .i64 0]) ∧ N ≤ k ∧ Below N w w' ∧ Tks w' (⟨k, at_, r⟩ :: t :: us) := by
  refine (Derive_any hN hT hU).mono ?_
  rintro e w' ⟨hb, h⟩
  rw [if_pos he] at h
  obtain ⟨k, h1, h2, h3⟩ := h
  refine ⟨k, h1, h2, hb, Tks.cons h3 (fun u hu => ?_) (hU.below hN hb)⟩
  have := hU.lt u hu
  rw [show w.heap.size = N from hN] at this
  exact Nat.lt_of_lt_of_le this h2
theorem Derive_no {er : Int} (he : derErr f c t us at_ r = er) (h0 : er ≠ 0) (hN : Sz w N) (hT : Tr w b c f) (hU : Tks w (t :: us)) :
    Calls Tryd.prog 28 #[.pointer (some ⟨b, 0, none⟩), .pointer (some ⟨t.b, 0, none⟩), .int .i64 at_, rgV r] w fun e w' => e = .returned (.tuple #[.pointer none, .int .i64 er]) ∧ Below N w w' := by
  refine (Derive_any hN hT hU).mono ?_
  rintro e w' ⟨hb, h⟩
  rw [he, if_neg h0] at h
  exact ⟨h, hb⟩
end
end Go.Proofs.YtilhkgbninbkkaaDoor
namespace Go.Proofs.YtilhkgbninbkkaaDoor
open Go Go.RowKit
theorem u64_pos (n : Int) : 0 ≤ IntKind.u64.wrap n := by
  rw [IntKind.wrap_u64]
  exact Int.emod_nonneg _ (by omega)
/-- The rest of a number as one of 64 bits without sign. -/
theorem rest (n : Int) (m : Nat) (h0 : 0 < m) (hm : m ≤ 10000) : ∃ x : Nat, x < m ∧ wrap64 ((IntKind.u64.wrap n).tmod (m : Int)) = (x : Int) := by
  have h := u64_pos n
  generalize IntKind.u64.wrap n = u at h
  rw [Int.tmod_eq_emod_of_nonneg h]
  have h1 := Int.emod_nonneg u (b := (m : Int)) (by omega)
  have h2 := Int.emod_lt_of_pos u (b := (m : Int)) (by omega)
  exact ⟨(u % (m : Int)).toNat, by omega, by rw [IntWalk.wrap64_in _ (by omega)]; omega⟩
end Go.Proofs.YtilhkgbninbkkaaDoor
