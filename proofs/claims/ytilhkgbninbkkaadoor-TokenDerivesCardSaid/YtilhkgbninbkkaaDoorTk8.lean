/- TokenInside: the walk. -/
import Derived.Test.YtilhkgbninbkkaaDoorTk7
import Derived.Test.YtilhkgbninbkkaaDoorAts2
namespace Go.Proofs.YtilhkgbninbkkaaDoor
open Go Go.RowKit
theorem makeErr_zero {f : Nat → Nat} {c : Nat} {up : Int} (h : makeErr f c up = 0) : ∃ k : Nat, up = (k : Int) ∧ k < c ∧ (ups f k).length ≤ 4 ∧ c < 8 := by
  unfold makeErr at h
  split at h
  · rename_i hi
    obtain ⟨k, rfl, hk⟩ := isIn_get hi
    rw [depth_nat hk] at h
    split at h
    · cases h
    · split at h
      · cases h
      · exact ⟨k, rfl, hk, by omega, by omega⟩
  · cases h
end Go.Proofs.YtilhkgbninbkkaaDoor
