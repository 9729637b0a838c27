/- Plain: one of a number's. Nothing of the program. -/
import Derived.Test.YtbeikhokkpioeaaNc
namespace Go.Proofs.Ytbeikhokkpioeaa
open Go
theorem pick_has {a : Nm} (ha : Rgt a) (x : W) : tHas a (a.v ||| (x &&& a.m)) = true := by
  rw [has_iff]
  intro i hi
  have := ha.bit i
  simp only [BitVec.getLsbD_or, BitVec.getLsbD_and]
  revert this
  cases a.v.getLsbD i <;> cases a.m.getLsbD i <;> cases x.getLsbD i <;> decide
end Go.Proofs.Ytbeikhokkpioeaa
