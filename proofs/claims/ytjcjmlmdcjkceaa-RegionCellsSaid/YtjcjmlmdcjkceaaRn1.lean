/- RegionNumbers: its walk. -/
import Derived.Test.YtjcjmlmdcjkceaaRn0
namespace Go.Proofs.Ytjcjmlmdcjkceaa
open Go Go.RowKit
theorem sn_of (o : Int) (h : -9223372036854775808 ≤ o) (h2 : o < 9223372036854775808) : sn (BitVec.ofInt 64 o) = o := by
  rw [sn_ofInt]; split <;> omega
theorem Ats.ltN {w : World} {g off n M : Nat} {f : Nat → Value} (h : Ats w (some ⟨g, off, none⟩) n f) (hn : 0 < n) (hM : Sz w M) : g < M := by
  have := World.block_lt_of_cell? w _ (at_L h hn)
  have e : w.heap.size = M := hM
  simp only at this
  omega
theorem subN {P : Program} {a : Act} {o : Oper} {T ty : TypeId} {x y : Operand} {p q r : Int} (ho : o.op = .binOp .sub T x y ty) (hx : a.eval x = .int .i64 p) (hy : a.eval y = .int .i64 q) (h : wrap64 (p - q) = r) (w : World) : (execOp a.eval o).run P w = .ok (.value (.int .i64 r)) w := by
  rw [← h]; exact run_subI ho hx hy w
end Go.Proofs.Ytjcjmlmdcjkceaa
