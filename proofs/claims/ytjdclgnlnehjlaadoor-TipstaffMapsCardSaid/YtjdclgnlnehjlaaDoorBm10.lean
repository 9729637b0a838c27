/- bmap: lists of bytes that are written out; maps(). -/
import Derived.Test.YtjdclgnlnehjlaaDoorBm8
import Derived.Test.YtjdclgnlnehjlaaDoorBm9
import Derived.Lib.SlBytesConst
import Derived.Deep.CutBlock
import Derived.Deep.DeepCutAuto
namespace Go.Proofs.YtjdclgnlnehjlaaDoor
open Go Go.RowKit
section
variable {ops : Array Oper} {rest : List Oper} {o : Oper} {a : Act} {w : World} {Q : Exit → Act → World → Prop}
def four (a b c d : BitVec 8) : Nat → BitVec 8 := fun j => if j = 0 then a else if j = 1 then b else if j = 2 then c else d
theorem wpl_bs4 (hgd : o.guard = none) (x y z t : Operand) (ho : o.op = .buildSlice 35 4 #[(0, x), (1, y), (2, z), (3, t)]) (d0 d1 d2 d3 : BitVec 8) (hx : a.eval x = By d0) (hy : a.eval y = By d1) (hz : a.eval z = By d2) (ht : a.eval t = By d3) (N : Nat) (hN : Sz w N)
    (h : ∀ w1, Sz w1 (N + 1) → Below N w w1 → Has w1 N 5 4 (fun j => By (four d0 d1 d2 d3 j)) → wpList Tryd.prog ops Q rest (a.put o.dst (.slice (some ⟨N, 0, none⟩) 4 4)) w1) : wpList Tryd.prog ops Q (o :: rest) a w := by
  have e : w.heap.size = N := hN
  subst e
  refine wpl_run hgd (.slice (some ⟨w.heap.size, 0, none⟩) 4 4) (w.alloc (.cells #[By d0, By d1, By d2, By d3] 5)) ?_ (h _ (sz_alloc rfl _) (below_new _ _ _ rfl) ?_)
  · unfold By at *
    clear h hN
    generalize a.eval = ev at *
    unfold execOp
    simp only [ho]
    go_simp
  · exact has_new rfl 5 4 (fun j => By (four d0 d1 d2 d3 j))
end
end Go.Proofs.YtjdclgnlnehjlaaDoor
