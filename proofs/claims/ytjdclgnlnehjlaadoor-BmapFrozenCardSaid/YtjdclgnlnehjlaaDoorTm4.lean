/- TipstaffMaps: laws of its walk. -/
import Derived.Test.YtjdclgnlnehjlaaDoorMgStdc
import Derived.Test.YtjdclgnlnehjlaaDoorMgEq
namespace Go.Proofs.YtjdclgnlnehjlaaDoor
open Go Go.RowKit
section
variable {P : Program} {ops : Array Oper} {Q : Exit → Act → World → Prop} {i : Nat} {o : Oper} {a : Act} {w w0 : World} {TL N : Nat} {V : Nat → Option Value} {n : Nat → Nat} {D : Nat → Nat → BitVec 8} {rem : List Nat}
theorem run_iaS8 {x y : Operand} {t e : TypeId} {g off n' c k : Nat} {b : Option Addr} (ho : o.op = .indexAddr t x y) (hx : a.eval x = .slice b n' c) (hb : b = some ⟨g, off, none⟩) (hy : a.eval y = .int .i64 (k : Int)) (hu : P.underlying t = some (.slice e)) (hs : (P.info? e).map (·.size) = some 1) (hk : k < n') (w : World) : (execOp a.eval o).run P w = .ok (.value (.pointer (some ⟨g, off + k, none⟩))) w := by
  subst hb
  cases hq : P.info? e with
  | none => rw [hq] at hs; cases hs
  | some u =>
    rw [hq] at hs
    have h1 : u.size = 1 := by simpa using hs
    have h2 : ¬ (n' ≤ k) := by omega
    unfold execOp
    simp only [ho, hx, hy]
    simp [Instr.indexAt, Instr.sureAddr, asIntOf, Sem.run_bind, run_underlying hu, sizeOf, typeInfo, hq, h1, Addr.add, h2, hk]
end
theorem cof8m : Tryd.prog.cellsOf 5 = 1 := by kernel_rfl
theorem eqSum (D : Nat → BitVec 8) (w : World) : (Op.equalIn 10000 40 (.agg (cellsOf (fun j => By (D j)) 32)) (.agg (cellsOf (fun j => By (D j)) 32))).run Tryd.prog w = .ok true w := by
  rw [run_eq_bytes (P := Tryd.prog) 40 5 32 und23 und5 inf5 cof8m D D w]
  congr 1
  simp
section
variable {ops : Array Oper} {rest : List Oper} {o : Oper} {a : Act} {w : World} {Q : Exit → Act → World → Prop}
def two (a b : BitVec 8) : Nat → BitVec 8 := fun j => if j = 0 then a else b
end
section
variable {th : Nat → Bool} {V : Nat → Nat → BitVec 8} {k c i x j : Nat} {D : Nat → BitVec 8}
end
end Go.Proofs.YtjdclgnlnehjlaaDoor
