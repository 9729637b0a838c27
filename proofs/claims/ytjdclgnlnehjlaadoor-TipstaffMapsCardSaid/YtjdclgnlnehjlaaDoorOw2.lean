/- A new slice of n noughts; a new block of one cell as what is appended; an operation by what it runs to. Nothing of the program. -/
import Derived.Test.YtjdclgnlnehjlaaDoorOw
import Derived.Laws.MakeOwn
namespace Go.Proofs.YtjdclgnlnehjlaaDoor
open Go Go.RowKit
theorem made_one (z : Value) (n : Nat) (hz : z.cells = #[z]) : madeCells z.cells n = cellsOf (fun _ => z) n := by
  apply Array.ext_getElem?
  intro j
  rw [hz]
  by_cases hj : j < n
  · simp [madeCells, cellsOf, hj, Nat.mod_one]
  · simp [madeCells, cellsOf, hj]
section
variable {P : Program} {ops : Array Oper} {rest : List Oper} {o : Oper} {a : Act} {w : World} {Q : Exit → Act → World → Prop}
/-- make of n, all noughts. -/
theorem wpl_make_full (hgd : o.guard = none) (T : TypeId) (x y : Operand) (ho : o.op = .makeSlice T x y) (n : Nat) (hx : a.eval x = .int .i64 (n : Int)) (hy : a.eval y = .int .i64 (n : Int)) (E : TypeId) (z : Value) (k : Nat)
    (ht : P.underlying T = some (.slice E)) (hi : (P.info? E).map (fun i => (i.zero, i.size, i.bytes)) = some (some z, 1, k)) (hk : k ≤ 1000) (hz : z.cells = #[z]) (hn : n ≤ 1000000)
    (N : Nat) (hN : Sz w N) (h : ∀ w1, Sz w1 (N + 1) → Below N w w1 → Has w1 N E n (fun _ => z) → wpList P ops Q rest (a.put o.dst (.slice (some ⟨N, 0, none⟩) n n)) w1) : wpList P ops Q (o :: rest) a w := by
  refine wpList_plain hgd fun K hK => ?_
  have e : w.heap.size = N := hN
  subst e
  cases hq : P.info? E with
  | none => simp [hq] at hi
  | some i =>
    simp [hq] at hi
    obtain ⟨h1, h2, h3⟩ := hi
    have hb : (i.bytes : Int) * (n : Int) ≤ 281474976710656 := by
      have := Nat.mul_le_mul (show i.bytes ≤ 1000 by omega) hn
      have h' : ((i.bytes * n : Nat) : Int) ≤ 281474976710656 := by omega
      rwa [Int.natCast_mul] at h'
    have hr := run_make (P := P) w T E i z ht hq h1 .i64 .i64 n n (by omega) (Int.le_refl _) hb (by omega)
    simp only [Int.toNat_natCast, h2, Nat.mul_one] at hr
    rw [made_one z n hz] at hr
    unfold Oper.wp execOp
    simp only [ho, hx, hy, Sem.run_bind, hr, Result.andThen_ok, Sem.run_pure]
    exact hK _ _ (h _ (sz_alloc rfl _) (below_new _ _ _ rfl) (has_new rfl E n _))
/-- An operation by what it runs to. -/
theorem wpl_runs (hgd : o.guard = none) (v : Value) (w' : World) (hrun : (execOp a.eval o).run P w = .ok (.value v) w') (h : wpList P ops Q rest (a.put o.dst v) w') : wpList P ops Q (o :: rest) a w := by
  refine wpList_plain hgd fun K hK => ?_
  unfold Oper.wp
  rw [hrun]
  exact hK _ _ h
end
/-- What a load of one cell runs to. -/
theorem ld_one {P : Program} {a : Act} {w : World} {o : Oper} (ty : TypeId) (x : Operand) (ho : o.op = .load ty x) (p : Addr) (hx : a.eval x = .pointer (some p)) (v : Value) (hrun : (Instr.loadAt ty (.pointer (some p))).run P w = .ok v w) : (execOp a.eval o).run P w = .ok (.value v) w := by
  unfold execOp
  simp only [ho, hx, Sem.run_bind, hrun, Result.andThen_ok, Sem.run_pure]
end Go.Proofs.YtjdclgnlnehjlaaDoor
