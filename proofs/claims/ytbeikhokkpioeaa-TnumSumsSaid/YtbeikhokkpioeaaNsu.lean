/- And, or, exclusive or are the document's. -/
import Derived.Test.YtbeikhokkpioeaaNr6
import Derived.Test.YtbeikhokkpioeaaNss
namespace Go.Proofs.Ytbeikhokkpioeaa
open Go Go.RowKit
theorem each_and : ∀ av am bv bm : Bool, ¬ (av = true ∧ am = true) → ¬ (bv = true ∧ bm = true) →
    ((av && bv) = ((eachN 0 (if am then (true, true) else (!av, av)) (if bm then (true, true) else (!bv, bv)) 4).2 && !(eachN 0 (if am then (true, true) else (!av, av)) (if bm then (true, true) else (!bv, bv)) 4).1)) ∧
    (((av || am) && (bv || bm) && !(av && bv)) = ((eachN 0 (if am then (true, true) else (!av, av)) (if bm then (true, true) else (!bv, bv)) 4).1 && (eachN 0 (if am then (true, true) else (!av, av)) (if bm then (true, true) else (!bv, bv)) 4).2)) := by decide +kernel
theorem each_or : ∀ av am bv bm : Bool, ¬ (av = true ∧ am = true) → ¬ (bv = true ∧ bm = true) →
    ((av || bv) = ((eachN 1 (if am then (true, true) else (!av, av)) (if bm then (true, true) else (!bv, bv)) 4).2 && !(eachN 1 (if am then (true, true) else (!av, av)) (if bm then (true, true) else (!bv, bv)) 4).1)) ∧
    (((am || bm) && !(av || bv)) = ((eachN 1 (if am then (true, true) else (!av, av)) (if bm then (true, true) else (!bv, bv)) 4).1 && (eachN 1 (if am then (true, true) else (!av, av)) (if bm then (true, true) else (!bv, bv)) 4).2)) := by decide +kernel
theorem each_xor : ∀ av am bv bm : Bool, ¬ (av = true ∧ am = true) → ¬ (bv = true ∧ bm = true) →
    (((av ^^ bv) && !(am || bm)) = ((eachN 2 (if am then (true, true) else (!av, av)) (if bm then (true, true) else (!bv, bv)) 4).2 && !(eachN 2 (if am then (true, true) else (!av, av)) (if bm then (true, true) else (!bv, bv)) 4).1)) ∧
    ((am || bm) = ((eachN 2 (if am then (true, true) else (!av, av)) (if bm then (true, true) else (!bv, bv)) 4).1 && (eachN 2 (if am then (true, true) else (!av, av)) (if bm then (true, true) else (!bv, bv)) 4).2)) := by decide +kernel
theorem and_ref {a b : Nm} (ha : Rgt a) (hb : Rgt b) : tAnd a b = rEach a b 0 := by
  refine rN_eq fun i hi => ?_
  have := each_and (a.v.getLsbD i) (a.m.getLsbD i) (b.v.getLsbD i) (b.m.getLsbD i) (ha.bit i) (hb.bit i)
  unfold tAnd rBits
  simp only [BitVec.getLsbD_and, BitVec.getLsbD_or, BitVec.getLsbD_not, hi, decide_true, Bool.true_and]
  exact this
theorem or_ref {a b : Nm} (ha : Rgt a) (hb : Rgt b) : tOr a b = rEach a b 1 := by
  refine rN_eq fun i hi => ?_
  have := each_or (a.v.getLsbD i) (a.m.getLsbD i) (b.v.getLsbD i) (b.m.getLsbD i) (ha.bit i) (hb.bit i)
  unfold tOr rBits
  simp only [BitVec.getLsbD_and, BitVec.getLsbD_or, BitVec.getLsbD_not, hi, decide_true, Bool.true_and]
  exact this
theorem xor_ref {a b : Nm} (ha : Rgt a) (hb : Rgt b) : tXor a b = rEach a b 2 := by
  refine rN_eq fun i hi => ?_
  have := each_xor (a.v.getLsbD i) (a.m.getLsbD i) (b.v.getLsbD i) (b.m.getLsbD i) (ha.bit i) (hb.bit i)
  unfold tXor tKnown rBits
  simp only [BitVec.getLsbD_and, BitVec.getLsbD_or, BitVec.getLsbD_xor, BitVec.getLsbD_not, hi, decide_true, Bool.true_and]
  exact this
end Go.Proofs.Ytbeikhokkpioeaa
