/- RegionStacks: words of its row of calls. -/
import Derived.Test.YtjcjmlmdcjkceaaRt0
namespace Go.Proofs.Ytjcjmlmdcjkceaa
open Go Go.RowKit
/-- A call on a stack. -/
structure AxR where
  wh : Int
  n : Int
  off : Int
  sz : Int
  x : W
  pb : Option Addr
  nb : Nat
  cb : Nat
  D : Nat → W
def acC (z : AxR) : Nat → Value
  | 0 => .int .i64 z.wh
  | 1 => .int .i64 z.n
  | 2 => .int .i64 z.off
  | 3 => .int .i64 z.sz
  | 4 => Q z.x
  | _ => .slice z.pb z.nb z.cb
def zeroX : AxR := ⟨0, 0, 0, 0, 0#64, none, 0, 0, fun _ => 0#64⟩
theorem acC_one (z : AxR) (j : Nat) : (acC z j).oneCell' = true := by unfold acC; split <;> rfl
theorem undAc : ∃ d, Try.prog.underlying 51 = some d ∧ d.isRow = true := row_ofN (by kernel_rfl)
theorem szAc : (Try.prog.info? 51).map (·.size) = some 6 := by kernel_rfl
theorem zeAc : (Try.prog.info? 51).map (fun i => (i.zero, i.size)) = some (some (.agg (cellsOf (acC zeroX) 6)), 6) := by kernel_rfl
theorem undAcs : Try.prog.underlying 22 = some (.slice 51) := by kernel_rfl
theorem undVs : Try.prog.underlying 49 = some (.slice 26) := by kernel_rfl
/-- A row of calls. -/
def RowA (w : World) (p : Option Addr) (n : Nat) (Z : Nat → AxR) : Prop := 0 < n → ∃ b off, p = some ⟨b, off, none⟩ ∧ ∀ k, k < n → ∀ j, j < 6 → w.cell? ⟨b, off + k * 6 + j, none⟩ = some (acC (Z k) j)
theorem RowA.below {w w' : World} {p : Option Addr} {n N : Nat} {Z : Nat → AxR} (h : RowA w p n Z) (hN : Sz w N) (hb : Below N w w') : RowA w' p n Z := fun h0 => by
  obtain ⟨b, off, rfl, hc⟩ := h h0
  refine ⟨b, off, rfl, fun k hk j hj => ?_⟩
  have h1 := hc k hk j hj
  rw [hb.cell (p := ⟨b, off + k * 6 + j, none⟩) (by have := World.block_lt_of_cell? w _ h1; have e : w.heap.size = N := hN; simp only at this ⊢; omega)]
  exact h1
/-- What is known of a call's numbers and bytes. -/
structure okX (w : World) (z : AxR) : Prop where
  n : -9223372036854775808 ≤ z.n ∧ z.n < 9223372036854775808
  o : -9223372036854775808 ≤ z.off ∧ z.off < 9223372036854775808
  c : z.nb ≤ z.cb
  a : Ats w z.pb z.nb (fun j => Yv (z.D j))
  s : ∀ j, sml (z.D j)
/-- The place's number. -/
def nF (n : Int) : Int := if n.tmod 50 = 49 then n else n.tmod 70
theorem nF_b {n : Int} (h : -9223372036854775808 ≤ n ∧ n < 9223372036854775808) : -9223372036854775808 ≤ nF n ∧ nF n < 9223372036854775808 := by
  unfold nF
  split
  · exact h
  · have := Int.tmod_lt_of_pos n (show (0 : Int) < 70 by omega)
    have h2 : -70 < n.tmod 70 := by
      have := Int.lt_tmod_of_pos n (show (0 : Int) < 70 by omega); omega
    omega
theorem tmod80 (o : Int) : -80 < o.tmod 80 ∧ o.tmod 80 < 80 := ⟨by have := Int.lt_tmod_of_pos o (show (0 : Int) < 80 by omega); omega, Int.tmod_lt_of_pos o (by omega)⟩
theorem run_remZ {P : Program} {a : Act} {o : Oper} {T ty : TypeId} {x y : Operand} {p q : Int} (ho : o.op = .binOp .rem T x y ty) (hx : a.eval x = .int .i64 p) (hy : a.eval y = .int .i64 q) (hq : q = 50 ∨ q = 70 ∨ q = 80) (w : World) : (execOp a.eval o).run P w = .ok (.value (.int .i64 (p.tmod q))) w := by
  rcases hq with rfl | rfl | rfl <;> (unfold execOp; simp only [ho, hx, hy]; go_simp)
theorem run_ixK6 {P : Program} {a : Act} {o : Oper} (T E : TypeId) (s : Nat) (hu : P.underlying T = some (.slice E)) (hs : (P.info? E).map (·.size) = some s) (x y : Operand) (ho : o.op = .indexAddr T x y) {q off cap k n : Nat} (hx : a.eval x = .slice (some ⟨q, off, none⟩) n cap) (hy : a.eval y = .int .i64 (k : Int)) (hk : k < n) (w : World) : (execOp a.eval o).run P w = .ok (.value (.pointer (some ⟨q, off + k * s, none⟩))) w := by
  cases hq : P.info? E with
  | none => simp [hq] at hs
  | some i =>
    have hi : i.size = s := by simpa [hq] using hs
    have h1 : ¬ (n ≤ k) := by omega
    unfold execOp
    simp only [ho, hx, hy]
    simp [Instr.indexAt, Instr.sureAddr, asIntOf, Sem.run_bind, run_underlying hu, sizeOf, typeInfo, hq, hi, Addr.add, h1, hk]
end Go.Proofs.Ytjcjmlmdcjkceaa
