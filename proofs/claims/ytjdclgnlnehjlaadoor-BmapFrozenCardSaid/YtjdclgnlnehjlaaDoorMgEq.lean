/- Contracts of fdtab: Used, Free; opens of the law. opens of the whole's laws is true. The builtin min of two numbers, by its outcome. Nothing of the program. '==' of two arrays of bytes. -/
import Derived.Test.YtjdclgnlnehjlaaDoorFd1c
import Derived.Test.YtjdclgnlnehjlaaDoorInns
import Derived.Laws.Small
import Derived.Test.YtjdclgnlnehjlaaDoorMgAts
import Derived.DeepKeys
namespace Go.Proofs.YtjdclgnlnehjlaaDoor
open Go Go.RowKit
end Go.Proofs.YtjdclgnlnehjlaaDoor
namespace Go.Proofs.YtjdclgnlnehjlaaDoor
open Go Go.RowKit
end Go.Proofs.YtjdclgnlnehjlaaDoor
namespace Go.Proofs.YtjdclgnlnehjlaaDoor
open Go Go.RowKit
variable {P : Program} {ops : Array Oper} {rest : List Oper} {o : Oper} {a : Act} {w : World} {Q : Exit → Act → World → Prop}
theorem wpl_min (hgd : o.guard = none) (x y : Operand) (T : TypeId) (ho : o.op = .call { callee := .builtin .min, args := #[x, y], argTypes := #[T, T] }) (n m c : Nat) (hx : a.eval x = .int .i64 (n : Int)) (hy : a.eval y = .int .i64 (m : Int)) (hc : Hid (c = min n m))
    (h : wpList P ops Q rest (a.put o.dst (.int .i64 (c : Int))) w) : wpList P ops Q (o :: rest) a w := by
  refine wpList_plain hgd fun K hK => ?_
  have e : (if (m : Int) < (n : Int) then (m : Int) else (n : Int)) = (c : Int) := by have := hc.out; split <;> omega
  have hrun : (Builtin.min_ #[T, T] o.type #[.int .i64 (n : Int), .int .i64 (m : Int)]).run P w = .ok (.int .i64 (c : Int)) w := by
    rw [run_min_int2, e]
  unfold Oper.wp
  simp [execOp, ho, resolve, invoke, builtin, hx, hy, hrun, Result.andThen]
  exact hK _ _ h
end Go.Proofs.YtjdclgnlnehjlaaDoor
namespace Go.Proofs.YtjdclgnlnehjlaaDoor
open Go Go.RowKit Sha
section
variable {P : Program}
theorem run_part_cells (e : TypeId) (k : IntKind) (he : P.underlying e = some (.int k)) (f : Nat → Value) (n i : Nat) (hi : i < n) (w : World) : (part e (cellsOf f n) i).run P w = .ok (f i) w := by
  have hagg : (isAgg e).run P w = .ok false w := by
    unfold isAgg
    rw [Sem.run_bind, run_underlying he w]
    simp
  simp [part, hagg, get_cellsOf f n i hi]
theorem run_eqItems_bytes (d : Nat) (e : TypeId) (he : P.underlying e = some (.int .u8)) (f g : Nat → BitVec 8) (n : Nat) (w : World) : ∀ (is : List Nat), (∀ i ∈ is, i < n) →
    (Op.eqItems (d + 1) e 1 (cellsOf (fun j => By (f j)) n) (cellsOf (fun j => By (g j)) n) is).run P w = .ok (is.all fun i => f i == g i) w
  | [], _ => by simp [Op.eqItems]
  | i :: is, h => by
    have h0 := h i (by simp)
    have ih := run_eqItems_bytes d e he f g n w is (fun j hj => h j (by simp [hj]))
    have e1 : (Op.equalIn (d + 1) e (By (f i)) (By (g i))).run P w = .ok (f i == g i) w := by
      have := run_equalIn_int (P := P) w d e .u8 .u8 (v8 (f i)) (v8 (g i)) he
      unfold By
      rw [this]
      have : (v8 (f i) == v8 (g i)) = (f i == g i) := by
        rw [Bool.eq_iff_iff]; simp only [beq_iff_eq]
        exact ⟨fun h => by unfold v8 at h; exact BitVec.eq_of_toNat_eq (by omega), fun h => by rw [h]⟩
      rw [this]
    simp only [Op.eqItems, Sem.run_bind, Nat.mul_one, run_part_cells e .u8 he _ n i h0 w, e1, Result.andThen_ok, List.all_cons]
    cases hb : (f i == g i)
    · simp
    · simpa using ih
theorem run_eq_bytes (t e n : Nat) (ht : P.underlying t = some (.array n e)) (he : P.underlying e = some (.int .u8)) (hs : (P.info? e).map (·.size) = some 1) (hc : P.cellsOf e = 1) (f g : Nat → BitVec 8) (w : World) :
    (Op.equalIn 10000 t (.agg (cellsOf (fun j => By (f j)) n)) (.agg (cellsOf (fun j => By (g j)) n))).run P w = .ok ((List.range n).all fun i => f i == g i) w := by
  cases hq : P.info? e with
  | none => simp [hq] at hs
  | some i =>
    rw [show (10000 : Nat) = (9998 + 1) + 1 from rfl, run_equalIn_array w (9998 + 1) _ _ ht hq, hc]
    exact run_eqItems_bytes 9998 e he f g n w (List.range n) (fun i hi => by simpa using hi)
end
end Go.Proofs.YtjdclgnlnehjlaaDoor
