/- States of registers and of a stack: their cells; laws of the walk over numbers. -/
import Derived.Test.YtaeggclcjpcnoaaSl0
import Derived.Test.YtaeggclcjpcnoaaSc12
import Derived.Test.YtaeggclcjpcnoaaSe0
import Derived.Test.YtaeggclcjpcnoaaBr0
namespace Go.Proofs.Ytaeggclcjpcnoaa
open Go Go.RowKit
/-- What a register may have. -/
structure Ar where
  k : Int
  r : Rn
  sl : Int
  id : Int
  lo : Int
  hi : Int
def arC (a : Ar) : Nat → Value
  | 0 => .int .i64 a.k
  | 1 => Q a.r.b.v
  | 2 => Q a.r.b.m
  | 3 => Q a.r.lo
  | 4 => Q a.r.hi
  | 5 => S a.r.sl
  | 6 => S a.r.sh
  | 7 => .int .i64 a.sl
  | 8 => .int .i64 a.id
  | 9 => .int .i64 a.lo
  | _ => .int .i64 a.hi
def zeroA : Ar := ⟨0, zeroR, 0, 0, 0, 0⟩
def arV (a : Ar) : Value := .agg (cellsOf (arC a) 11)
/-- Registers, and a stack. -/
structure St where
  R : Nat → Ar
  W : Nat → Bool
  K : Nat → Ar
def stC (s : St) (j : Nat) : Value := if j < 121 then arC (s.R (j / 11)) (j % 11) else if j < 185 then .bool (s.W (j - 121)) else arC (s.K ((j - 185) / 11)) ((j - 185) % 11)
def zeroS : St := ⟨fun _ => zeroA, fun _ => false, fun _ => zeroA⟩
def stV (s : St) : Value := .agg (cellsOf (stC s) 273)
def St.setW (s : St) (i : Nat) (v : Bool) : St := ⟨s.R, fun j => if j = i then v else s.W j, s.K⟩
def St.setK (s : St) (i : Nat) (a : Ar) : St := ⟨s.R, s.W, fun j => if j = i then a else s.K j⟩
def St.setR (s : St) (i : Nat) (a : Ar) : St := ⟨fun j => if j = i then a else s.R j, s.W, s.K⟩
theorem stC_W (s : St) {i : Nat} (h : i < 64) : stC s (121 + i) = .bool (s.W i) := by
  unfold stC; rw [if_neg (by omega), if_pos (by omega), Nat.add_sub_cancel_left]
theorem stC_K (s : St) (i : Nat) {j : Nat} (h : j < 11) : stC s (185 + (11 * i + j)) = arC (s.K i) j := by
  unfold stC; rw [if_neg (by omega), if_neg (by omega), Nat.add_sub_cancel_left, show (11 * i + j) / 11 = i by omega, show (11 * i + j) % 11 = j by omega]
theorem stC_R (s : St) {i : Nat} (hi : i < 11) {j : Nat} (h : j < 11) : stC s (11 * i + j) = arC (s.R i) j := by
  unfold stC; rw [if_pos (by omega), show (11 * i + j) / 11 = i by omega, show (11 * i + j) % 11 = j by omega]
theorem upd_W (s : St) {i : Nat} (h : i < 64) (v : Bool) (j : Nat) : upd (stC s) (121 + i) (.bool v) j = stC (s.setW i v) j := by
  unfold upd stC St.setW
  by_cases e : j = 121 + i
  · subst e; rw [if_pos rfl, if_neg (by omega), if_pos (by omega)]; simp
  · rw [if_neg e]
    by_cases h1 : j < 121
    · rw [if_pos h1, if_pos h1]
    · rw [if_neg h1, if_neg h1]
      by_cases h2 : j < 185
      · rw [if_pos h2, if_pos h2]; simp only; rw [if_neg (by omega)]
      · rw [if_neg h2, if_neg h2]
theorem lay_K (s : St) {i : Nat} (h : i < 8) (a : Ar) (j : Nat) : lay (stC s) (185 + 11 * i) 11 (arC a) j = stC (s.setK i a) j := by
  unfold lay stC St.setK
  by_cases e : 185 + 11 * i ≤ j ∧ j < 185 + 11 * i + 11
  · rw [if_pos e, if_neg (by omega), if_neg (by omega)]; simp only
    rw [if_pos (by omega), show (j - 185) % 11 = j - (185 + 11 * i) by omega]
  · rw [if_neg e]
    by_cases h1 : j < 121
    · rw [if_pos h1, if_pos h1]
    · rw [if_neg h1, if_neg h1]
      by_cases h2 : j < 185
      · rw [if_pos h2, if_pos h2]
      · rw [if_neg h2, if_neg h2]; simp only; rw [if_neg (by omega)]
theorem lay_R (s : St) {i : Nat} (h : i < 11) (a : Ar) (j : Nat) : lay (stC s) (11 * i) 11 (arC a) j = stC (s.setR i a) j := by
  unfold lay stC St.setR
  by_cases e : 11 * i ≤ j ∧ j < 11 * i + 11
  · rw [if_pos e, if_pos (by omega)]; simp only
    rw [if_pos (by omega), show j % 11 = j - 11 * i by omega]
  · rw [if_neg e]
    by_cases h1 : j < 121
    · rw [if_pos h1, if_pos h1]; simp only; rw [if_neg (by omega)]
    · rw [if_neg h1, if_neg h1]
theorem arC_one (a : Ar) (j : Nat) : (arC a j).oneCell' = true := by unfold arC; split <;> rfl
theorem stC_one (s : St) (j : Nat) : (stC s j).oneCell' = true := by
  unfold stC; split
  · exact arC_one _ _
  · split
    · rfl
    · exact arC_one _ _
theorem undSt : ∃ d, Try.prog.underlying 76 = some d ∧ d.isRow = true := row_ofN (by kernel_rfl)
theorem szSt : (Try.prog.info? 76).map (·.size) = some 273 := by kernel_rfl
theorem undAr : ∃ d, Try.prog.underlying 71 = some d ∧ d.isRow = true := row_ofN (by kernel_rfl)
theorem szAr : (Try.prog.info? 71).map (·.size) = some 11 := by kernel_rfl
theorem zeAr : (Try.prog.info? 71).map (fun i => (i.zero, i.size)) = some (some (.agg (cellsOf (arC zeroA) 11)), 11) := by kernel_rfl
theorem zeSt : (Try.prog.info? 76).map (fun i => (i.zero, i.size)) = some (some (.agg (cellsOf (stC zeroS) 273)), 273) := by kernel_rfl
theorem szB1 : (Try.prog.info? 4).map (·.size) = some 1 := by kernel_rfl
theorem wrE (x : Int) : IntKind.i64.wrap x = wrap64 x := by rw [IntKind.wrap_i64]; unfold wrap64; rfl
section
variable {P : Program} {a : Act} {o : Oper} {T ty : TypeId} {x y : Operand} {p q : Int} {r : Bool}
theorem run_eqlI (ho : o.op = .binOp .eql T x y ty) (hx : a.eval x = .int .i64 p) (hy : a.eval y = .int .i64 q) (h : (p == q) = r) (w : World) : (execOp a.eval o).run P w = .ok (.value (.bool r)) w := by
  subst h; unfold execOp; simp only [ho, hx, hy]; go_simp
theorem run_neqI (ho : o.op = .binOp .neq T x y ty) (hx : a.eval x = .int .i64 p) (hy : a.eval y = .int .i64 q) (h : (p != q) = r) (w : World) : (execOp a.eval o).run P w = .ok (.value (.bool r)) w := by
  subst h; unfold execOp; simp only [ho, hx, hy]; go_simp
theorem run_lssI (ho : o.op = .binOp .lss T x y ty) (hx : a.eval x = .int .i64 p) (hy : a.eval y = .int .i64 q) (h : decide (p < q) = r) (w : World) : (execOp a.eval o).run P w = .ok (.value (.bool r)) w := by
  subst h; unfold execOp; simp only [ho, hx, hy]; go_simp
theorem run_leqI (ho : o.op = .binOp .leq T x y ty) (hx : a.eval x = .int .i64 p) (hy : a.eval y = .int .i64 q) (h : decide (p ≤ q) = r) (w : World) : (execOp a.eval o).run P w = .ok (.value (.bool r)) w := by
  subst h; unfold execOp; simp only [ho, hx, hy]; go_simp
theorem run_gtrI (ho : o.op = .binOp .gtr T x y ty) (hx : a.eval x = .int .i64 p) (hy : a.eval y = .int .i64 q) (h : decide (q < p) = r) (w : World) : (execOp a.eval o).run P w = .ok (.value (.bool r)) w := by
  subst h; unfold execOp; simp only [ho, hx, hy]; go_simp
theorem run_geqI (ho : o.op = .binOp .geq T x y ty) (hx : a.eval x = .int .i64 p) (hy : a.eval y = .int .i64 q) (h : decide (q ≤ p) = r) (w : World) : (execOp a.eval o).run P w = .ok (.value (.bool r)) w := by
  subst h; unfold execOp; simp only [ho, hx, hy]; go_simp
theorem run_addI (ho : o.op = .binOp .add T x y ty) (hx : a.eval x = .int .i64 p) (hy : a.eval y = .int .i64 q) (w : World) : (execOp a.eval o).run P w = .ok (.value (.int .i64 (wrap64 (p + q)))) w := by
  unfold execOp; simp only [ho, hx, hy]; go_simp; rw [wrE]
theorem run_negI (ho : o.op = .unOp .neg T x) (hx : a.eval x = .int .i64 p) (w : World) : (execOp a.eval o).run P w = .ok (.value (.int .i64 (wrap64 (-p)))) w := by
  unfold execOp; simp only [ho, hx]; go_simp; rw [wrE]
theorem run_remI8 (ho : o.op = .binOp .rem T x y ty) (hx : a.eval x = .int .i64 p) (hy : a.eval y = .int .i64 8) (w : World) : (execOp a.eval o).run P w = .ok (.value (.int .i64 (p.tmod 8))) w := by
  unfold execOp; simp only [ho, hx, hy]; go_simp
end
end Go.Proofs.Ytaeggclcjpcnoaa
