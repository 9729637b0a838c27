/- RightsWithin: the walk. -/
import Derived.Test.YtilhkgbninbkkaaDoorMgRi6
import Derived.Test.YtilhkgbninbkkaaDoorMgPot3
import Derived.Test.YtilhkgbninbkkaaDoorMgSha
namespace Go.Proofs.YtilhkgbninbkkaaDoor
open Go Go.RowKit
theorem not_dst {ops : Array Oper} {rem : List Nat} {t : Tmp} (h : (rem.all fun j => dstOf ops j != some t) = true) : ∀ j ∈ rem, dstOf ops j ≠ some t := fun j hj => by
  have := List.all_eq_true.1 h j hj
  simpa using this
theorem size_dst {ops : Array Oper} {rem : List Nat} {n : Nat} (h : (rem.all fun j => match dstOf ops j with | some t => decide (t < n) | none => true) = true) : ∀ i ∈ rem, ∀ t, dstOf ops i = some t → t < n := fun i hi t ht => by
  have := List.all_eq_true.1 h i hi
  rw [ht] at this
  simpa using this
end Go.Proofs.YtilhkgbninbkkaaDoor
