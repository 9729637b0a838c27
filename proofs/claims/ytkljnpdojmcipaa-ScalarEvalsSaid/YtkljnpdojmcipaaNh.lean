/- Rows of two words; '==' of signs; which words are known alone. -/
import Derived.Test.YtkljnpdojmcipaaNg
import Derived.Test.YtkljnpdojmcipaaNo
namespace Go.Proofs.Ytkljnpdojmcipaa
open Go Go.RowKit
def dC (D : Nat → W) : Nat → Value := fun j => Q (D j)
theorem dC_one (D : Nat → W) (j : Nat) : (dC D j).oneCell' = true := rfl
theorem d_cells {w : World} {b T : Nat} {D : Nat → W} (h : Has w b T 2 (dC D)) : w.cell? ⟨b, 0, none⟩ = some (Q (D 0)) ∧ w.cell? ⟨b, 1, none⟩ = some (Q (D 1)) := ⟨h.cell (by omega), h.cell (by omega)⟩
theorem undD : ∃ d, Try.prog.underlying 23 = some d ∧ d.isRow = true := row_ofN (by kernel_rfl)
theorem szD : (Try.prog.info? 23).map (·.size) = some 2 := by kernel_rfl
theorem iaD0 (b : Nat) (w : World) : (Instr.indexAt 23 (.pointer (some ⟨b, 0, none⟩)) (.int .i64 0)).run Try.prog w = .ok (.pointer (some ⟨b, 0, none⟩)) w := by go_simp
theorem iaD1 (b : Nat) (w : World) : (Instr.indexAt 23 (.pointer (some ⟨b, 0, none⟩)) (.int .i64 1)).run Try.prog w = .ok (.pointer (some ⟨b, 1, none⟩)) w := by go_simp
theorem run_ia {P : Program} {a : Act} {w : World} {o : Oper} (T : TypeId) (x y : Operand) (k : Nat) (ho : o.op = .indexAddr T x y) {b : Nat} (hx : a.eval x = .pointer (some ⟨b, 0, none⟩)) (hy : a.eval y = .int .i64 (k : Int))
    (hf : ∀ b w, (Instr.indexAt T (.pointer (some ⟨b, 0, none⟩)) (.int .i64 (k : Int))).run P w = .ok (.pointer (some ⟨b, k, none⟩)) w) : (execOp a.eval o).run P w = .ok (.value (.pointer (some ⟨b, k, none⟩))) w := by
  unfold execOp
  simp only [ho, hx, hy, Sem.run_bind, hf, Result.andThen_ok, Sem.run_pure]
theorem run_eqb {P : Program} {a : Act} {w : World} {o : Oper} (T ty : TypeId) (x y : Operand) (ho : o.op = .binOp .eql T x y ty) (hT : P.underlying T = some .bool) {p q r : Bool} (hx : a.eval x = .bool p) (hy : a.eval y = .bool q) (h : (p == q) = r) : (execOp a.eval o).run P w = .ok (.value (.bool r)) w := by
  subst h
  have := run_equalIn_bool (P := P) w 9999 T p q hT
  unfold execOp
  simp only [ho, hx, hy, Sem.run_bind]
  have e : (eqGuard .eql T x y (.bool p) (.bool q)).run P w = .ok () w := by unfold eqGuard; rfl
  simp only [e, Result.andThen_ok, binOp, Sem.run_bind, Op.equal, Op.maxDepth, this, Sem.run_pure]
theorem run_ex {P : Program} {a : Act} {o : Oper} {x : Operand} {k : Nat} (ho : o.op = .extract x k) (w : World) {vs : Array Value} {v : Value} (hx : a.eval x = .tuple vs) (hv : vs[k]? = some v) : (execOp a.eval o).run P w = .ok (.value v) w := by
  unfold execOp
  simp [ho, hx, hv, Sem.run_bind, Instr.extract]
theorem sub_const (x y : W) : tSub (tConst x) (tConst y) = tConst (x - y) := by
  unfold tSub tConst tKnown; simp only [BitVec.or_self, BitVec.add_zero, BitVec.sub_zero, BitVec.xor_self, BitVec.not_zero, BitVec.and_allOnes]
theorem and_const (x y : W) : tAnd (tConst x) (tConst y) = tConst (x &&& y) := by
  unfold tAnd tConst; simp only [BitVec.or_zero, BitVec.and_not_self] <;> rfl
theorem or_const (x y : W) : tOr (tConst x) (tConst y) = tConst (x ||| y) := by
  unfold tOr tConst; simp only [BitVec.or_self, BitVec.zero_and]
theorem xor_const (x y : W) : tXor (tConst x) (tConst y) = tConst (x ^^^ y) := by
  unfold tXor tConst tKnown; simp only [BitVec.or_self, BitVec.not_zero, BitVec.and_allOnes]
theorem left_const (x : W) (k : Nat) : tLeft (tConst x) k = tConst (x <<< k) := by
  unfold tLeft tConst; simp
theorem down_const (x : W) (k : Nat) : tDown (tConst x) k = tConst (x >>> k) := by
  unfold tDown tConst; simp
theorem join_const_m (x y : W) : (tJoin (tConst x) (tConst y)).m = x ^^^ y := by
  unfold tJoin tConst tKnown; simp
/-- What both have. -/
def meetN (a b : Nm) : Nm := (tMeet a b).1
def meetB (a b : Nm) : Bool := (tMeet a b).2
theorem meet_const (x y : W) : meetB (tConst x) (tConst y) = (x == y) := by
  unfold meetB tMeet
  rw [tRight_iff.2 (show Rgt (tConst x) by unfold Rgt tConst; simp), tRight_iff.2 (show Rgt (tConst y) by unfold Rgt tConst; simp)]
  simp only [tConst, BitVec.or_self, BitVec.not_zero, BitVec.and_allOnes, Bool.not_true, Bool.false_or]
  by_cases h : x = y
  · subst h; simp
  · have : (x ^^^ y) ≠ 0#64 := fun e => h (BitVec.xor_eq_zero_iff.1 e)
    simp [h, this]
end Go.Proofs.Ytkljnpdojmcipaa
