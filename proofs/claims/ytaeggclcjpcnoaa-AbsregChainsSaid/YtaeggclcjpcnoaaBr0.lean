/- Laws: an operation that comes alone in a region whose order is drawn, by its slot. -/
import Derived.Test.YtaeggclcjpcnoaaSe0
namespace Go.Proofs.Ytaeggclcjpcnoaa
open Go Go.RowKit
section
variable {P : Program} {ops : Array Oper} {Q : Exit → Act → World → Prop}
theorem wpl_runD {rest : List Oper} {o : Oper} {a : Act} {w w' : World} {d : Option Tmp} (hg : o.guard = none) (hd : o.dst = d) (v : Value) (hr : (execOp a.eval o).run P w = .ok (.value v) w') (h : wpList P ops Q rest (a.put d v) w') : wpList P ops Q (o :: rest) a w := by
  subst hd
  exact wpl_run hg v w' hr h
theorem wpl_storeN {rest : List Oper} {o : Oper} {a : Act} {w : World} (hg : o.guard = none) (hd : o.dst = none) (ty : TypeId) (x y : Operand) (ho : o.op = .store ty x y) (b : Nat) (n : Nat) (g : Nat → Value) (hx : a.eval x = .pointer (some ⟨b, 0, none⟩)) (hy : a.eval y = .agg (cellsOf g n)) (T : TypeId) (f : Nat → Value) (hh : Has w b T n f)
    (hi : (P.info? ty).map (·.size) = some n) (h1 : ∀ j, j < n → (g j).oneCell' = true) (h : ∀ w1, Touch b w w1 → Has w1 b T n g → wpList P ops Q rest a w1) : wpList P ops Q (o :: rest) a w := by
  refine wpl_store hg ty x y ho b n g hx hy T f hh hi h1 fun w1 t h' => ?_
  rw [hd]
  exact h w1 t h'
theorem wpl_partN {rest : List Oper} {o : Oper} {a : Act} {w : World} (hg : o.guard = none) (hd : o.dst = none) (ty : TypeId) (x y : Operand) (ho : o.op = .store ty x y) (b : Nat) (hx : a.eval x = .pointer (some ⟨b, 0, none⟩)) (n : Nm) (hy : a.eval y = .agg (cellsOf (nC n) 2)) (T : TypeId) (r : Rn) (hh : Has w b T 6 (rC r))
    (hi : (P.info? ty).map (·.size) = some 2) (h : ∀ w1, Touch b w w1 → Has w1 b T 6 (rC ⟨n, r.lo, r.hi, r.sl, r.sh⟩) → wpList P ops Q rest a w1) : wpList P ops Q (o :: rest) a w := by
  refine wpl_store_part hg ty x y ho b 0 hx 2 (nC n) hy T 6 _ hh (by omega) hi (fun j _ => nC_one _ j) ?_
  intro w1 t h'
  rw [hd]
  exact h w1 t (h'.congr (fun j hj => lay_bits _ _ _ _ _ _ j))
end
theorem run_qnot {P : Program} {a : Act} {o : Oper} {T : TypeId} {x : Operand} {p : W} (ho : o.op = .unOp .xor T x) (hx : a.eval x = Q p) (w : World) : (execOp a.eval o).run P w = .ok (.value (Q (~~~p))) w := by
  have e : (Op.intBits .xor .u64 (IntKind.u64.max) (qn p)).run P w = .ok (Q (~~~p)) w := by
    have e1 : IntKind.u64.wrap (((BitVec.ofInt 64 (IntKind.u64.max) ^^^ BitVec.ofInt 64 (qn p)).toNat : Nat) : Int) = qn (~~~p) := by
      rw [show BitVec.ofInt 64 (IntKind.u64.max) = BitVec.allOnes 64 by decide, ofInt_qn, BitVec.allOnes_xor, wrap_u]
      show qn (BitVec.ofInt 64 (qn (~~~p))) = _
      rw [ofInt_qn]
    unfold Q
    rw [← e1]; rfl
  unfold execOp
  simp only [ho, hx]
  unfold Q
  simp only [Op.unary, Sem.run_bind, IntKind.signed, Bool.false_eq_true, if_false]
  rw [e]
  rfl
end Go.Proofs.Ytaeggclcjpcnoaa
