/- Rows of words that are read: cells from some place on, and laws of the walk over them. -/
import Derived.Test.YtjcjmlmdcjkceaaOw
import Derived.Test.YtjcjmlmdcjkceaaNl
import Derived.Laws.Small
namespace Go.Proofs.Ytjcjmlmdcjkceaa
open Go Go.RowKit
/-- n cells from some place on. -/
def Ats (w : World) (p : Option Addr) (n : Nat) (g : Nat → Value) : Prop := 0 < n → ∃ b off, p = some ⟨b, off, none⟩ ∧ ∀ j, j < n → w.cell? ⟨b, off + j, none⟩ = some (g j)
section
variable {w w' : World} {p : Option Addr} {n : Nat} {g : Nat → Value}
theorem Ats.below {N : Nat} (h : Ats w p n g) (hN : Sz w N) (hb : Below N w w') : Ats w' p n g := fun h0 => by
  obtain ⟨b, off, e, hc⟩ := h h0
  refine ⟨b, off, e, fun j hj => ?_⟩
  have h1 := hc j hj
  rw [hb.cell (p := ⟨b, off + j, none⟩) (by have := World.block_lt_of_cell? w _ h1; have e : w.heap.size = N := hN; simp only at this ⊢; omega)]
  exact h1
theorem Ats.cells (h : Ats w p n g) : Cells w p n g := fun h0 => by
  obtain ⟨b, off, e, hc⟩ := h h0
  exact ⟨_, e, fun j hj => by rw [Addr.add_mid]; exact hc j hj⟩
theorem Ats.congr {g' : Nat → Value} (h : Ats w p n g) (e : ∀ j, j < n → g j = g' j) : Ats w p n g' := fun h0 => by
  obtain ⟨b, off, ep, hc⟩ := h h0
  exact ⟨b, off, ep, fun j hj => by rw [hc j hj, e j hj]⟩
theorem Ats.cut {m : Nat} (h : Ats w p n g) (hm : m ≤ n) : Ats w p m g := fun h0 => by
  obtain ⟨b, off, e, hc⟩ := h (by omega)
  exact ⟨b, off, e, fun j hj => hc j (by omega)⟩
theorem Ats.drew (h : Ats w p n g) : Ats w.drew p n g := h
theorem Own.ats {E cap : Nat} (h : Own w E p n cap g) : Ats w p n g := fun h0 => by
  obtain ⟨b, e, hc⟩ := h.cell h0
  exact ⟨b, 0, e, hc⟩
theorem Ats.touch {k : Nat} (h : Ats w p n g) (t : Touch k w w') (hne : ∀ b, blk p = some b → b ≠ k) : Ats w' p n g := fun h0 => by
  obtain ⟨b, off, e, hc⟩ := h h0
  refine ⟨b, off, e, fun j hj => ?_⟩
  have := hne b (by rw [e]; rfl)
  rw [World.cell?_of_block (w := w) (t.block b this)]
  exact hc j hj
theorem own_has {b T : Nat} (h : Has w b T n g) : Own w T (some ⟨b, 0, none⟩) n n g :=
  .inr ⟨b, cellsOf g n, rfl, h, Nat.le_refl _, by simp [cellsOf], fun j hj => by simp [cellsOf, hj]⟩
/-- One of them. -/
theorem at_L {b off k : Nat} (h : Ats w (some ⟨b, off, none⟩) n g) (hk : k < n) : w.cell? ⟨b, off + k, none⟩ = some (g k) := by
  obtain ⟨b', o', e, hc⟩ := h (by omega)
  cases e
  exact hc k hk
end
section
variable {P : Program} {a : Act} {o : Oper}
theorem run_ixL (T E : TypeId) (hu : P.underlying T = some (.slice E)) (hs : (P.info? E).map (·.size) = some 1) (x y : Operand) (ho : o.op = .indexAddr T x y) {q off cap k n : Nat} (hx : a.eval x = .slice (some ⟨q, off, none⟩) n cap) (hy : a.eval y = .int .i64 (k : Int)) (hk : k < n) (w : World) : (execOp a.eval o).run P w = .ok (.value (.pointer (some ⟨q, off + k, none⟩))) w := by
  cases hq : P.info? E with
  | none => simp [hq] at hs
  | some i =>
    have hi : i.size = 1 := by simpa [hq] using hs
    have h1 : ¬ (n ≤ k) := by omega
    unfold execOp
    simp only [ho, hx, hy]
    simp [Instr.indexAt, Instr.sureAddr, asIntOf, Sem.run_bind, run_underlying hu, sizeOf, typeInfo, hq, hi, Addr.add, h1, hk]
theorem addr_zero (q : Addr) : q.add 0 = q := by simp [Addr.add]
theorem run_slTo (T E : TypeId) (hu : P.underlying T = some (.slice E)) (hs : (P.info? E).map (·.size) = some 1) (x y : Operand) (ho : o.op = .slice T x none (some y) none) {p : Option Addr} {cap k n : Nat} (hx : a.eval x = .slice p n cap) (hy : a.eval y = .int .i64 (k : Int)) (hk : k ≤ cap) (w : World) : (execOp a.eval o).run P w = .ok (.value (.slice p k cap)) w := by
  cases hq : P.info? E with
  | none => simp [hq] at hs
  | some i =>
    have hi : i.size = 1 := by simpa [hq] using hs
    unfold execOp
    simp only [ho, Option.map, hx, hy]
    cases p <;> simp [Instr.sliceAt, Instr.slice, run_underlying hu, Instr.sliceBounds, Instr.sliceBound, asIntOf, sizeOf, typeInfo, hq, hi, Sem.run_bind, hk, addr_zero]
theorem run_lenS {p : Option Addr} {n cap : Nat} {x : Operand} {T E : TypeId} (hu : P.underlying T = some (.slice E)) (ho : o.op = .call { callee := .builtin .len, args := #[x], argTypes := #[T] }) (hx : a.eval x = .slice p n cap) (w : World) : (execOp a.eval o).run P w = .ok (.value (.int .i64 (n : Int))) w := by
  unfold execOp
  simp [ho, resolve, invoke, builtin, hx, Builtin.len_, run_underlying hu, Sem.run_bind, goInt]
theorem run_minN {n m : Nat} {x y : Operand} {T : TypeId} (ho : o.op = .call { callee := .builtin .min, args := #[x, y], argTypes := #[T, T] }) (hx : a.eval x = .int .i64 (n : Int)) (hy : a.eval y = .int .i64 (m : Int)) (w : World) : (execOp a.eval o).run P w = .ok (.value (.int .i64 ((min n m : Nat) : Int))) w := by
  have e : (if (m : Int) < (n : Int) then (m : Int) else (n : Int)) = ((min n m : Nat) : Int) := by split <;> omega
  have hrun : (Builtin.min_ #[T, T] o.type #[.int .i64 (n : Int), .int .i64 (m : Int)]).run P w = .ok (.int .i64 ((min n m : Nat) : Int)) w := by
    rw [run_min_int2, e]
  unfold execOp
  simp [ho, resolve, invoke, builtin, hx, hy, hrun, Result.andThen]
end
end Go.Proofs.Ytjcjmlmdcjkceaa
