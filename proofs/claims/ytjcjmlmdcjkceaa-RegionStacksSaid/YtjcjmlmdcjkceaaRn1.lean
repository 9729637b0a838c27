/- RegionNumbers: its walk. -/
import Derived.Test.YtjcjmlmdcjkceaaRn0
namespace Go.Proofs.Ytjcjmlmdcjkceaa
open Go Go.RowKit
def X0 (_ : Nat) : W := 0#64
def Vn (x : W) : Vl := ⟨1, x, 0, none⟩
def Sv (o : Int) : Vl := ⟨3, BitVec.ofInt 64 o, 0, none⟩
theorem sn_of (o : Int) (h : -9223372036854775808 ≤ o) (h2 : o < 9223372036854775808) : sn (BitVec.ofInt 64 o) = o := by
  rw [sn_ofInt]; split <;> omega
theorem numF_congr {D E : Nat → W} {n : Nat} (h : ∀ j, j < n → D j = E j) : numF D n = numF E n := by
  induction n with
  | zero => rfl
  | succ n ih => show numF D n ||| _ = numF E n ||| _; rw [ih (fun j hj => h j (by omega)), h n (by omega)]
theorem Vn_ok (x : W) : 1 ≤ (Vn x).tag ∧ (Vn x).tag ≤ 5 := ⟨Int.le_refl 1, by show (1 : Int) ≤ 5; decide⟩
theorem Ats.ltN {w : World} {g off n M : Nat} {f : Nat → Value} (h : Ats w (some ⟨g, off, none⟩) n f) (hn : 0 < n) (hM : Sz w M) : g < M := by
  have := World.block_lt_of_cell? w _ (at_L h hn)
  have e : w.heap.size = M := hM
  simp only at this
  omega
theorem wrap_z (x : Int) (h : -9223372036854775808 ≤ x) (h2 : x < 9223372036854775808) : wrap64 x = x := wrap_id h h2
theorem subN {P : Program} {a : Act} {o : Oper} {T ty : TypeId} {x y : Operand} {p q r : Int} (ho : o.op = .binOp .sub T x y ty) (hx : a.eval x = .int .i64 p) (hy : a.eval y = .int .i64 q) (h : wrap64 (p - q) = r) (w : World) : (execOp a.eval o).run P w = .ok (.value (.int .i64 r)) w := by
  rw [← h]; exact run_subI ho hx hy w
theorem addN {P : Program} {a : Act} {o : Oper} {T ty : TypeId} {x y : Operand} {p q r : Int} (ho : o.op = .binOp .add T x y ty) (hx : a.eval x = .int .i64 p) (hy : a.eval y = .int .i64 q) (h : wrap64 (p + q) = r) (w : World) : (execOp a.eval o).run P w = .ok (.value (.int .i64 r)) w := by
  rw [← h]; exact run_addI ho hx hy w
theorem bin_yneq {P : Program} (T : TypeId) (p : W) : BinRun P .neq T (Yv p) (Yv p) (.bool false) := binRun_of fun w => by
  show (Op.intCmp .neq (qn p) (qn p)).run P w = _
  simp [Op.intCmp]
end Go.Proofs.Ytjcjmlmdcjkceaa
