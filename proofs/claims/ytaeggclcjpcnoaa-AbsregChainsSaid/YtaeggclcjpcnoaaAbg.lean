/- States: laws for the generator. -/
import Derived.Test.YtaeggclcjpcnoaaAb6
import Derived.Test.YtaeggclcjpcnoaaAb10
import Derived.Test.YtaeggclcjpcnoaaPtL
namespace Go.Proofs.Ytaeggclcjpcnoaa
open Go Go.RowKit
theorem wrap_lo (x : Int) : -9223372036854775808 ≤ wrap64 x := by unfold wrap64; omega
theorem wrap_hi (x : Int) : wrap64 x < 9223372036854775808 := by unfold wrap64; omega
theorem place_lt {x : Int} {a : Int} (h : a = wrap64 x) : a < 9223372036854775808 := by rw [h]; exact wrap_hi x
theorem wrap_id {x : Int} (h : -9223372036854775808 ≤ x) (h2 : x < 9223372036854775808) : wrap64 x = x := by unfold wrap64; omega
section
variable {P : Program} {a : Act} {o : Oper} {T ty : TypeId} {x y : Operand} {p q : Int}
theorem run_subI (ho : o.op = .binOp .sub T x y ty) (hx : a.eval x = .int .i64 p) (hy : a.eval y = .int .i64 q) (w : World) : (execOp a.eval o).run P w = .ok (.value (.int .i64 (wrap64 (p - q)))) w := by
  unfold execOp; simp only [ho, hx, hy]; go_simp; rw [wrE]
theorem run_mulI (ho : o.op = .binOp .mul T x y ty) (hx : a.eval x = .int .i64 p) (hy : a.eval y = .int .i64 q) (w : World) : (execOp a.eval o).run P w = .ok (.value (.int .i64 (wrap64 (p * q)))) w := by
  unfold execOp; simp only [ho, hx, hy]; go_simp; rw [wrE]
end
/-- The cells of a register. -/
theorem ar_cells {w : World} {b T : Nat} {a : Ar} (h : Has w b T 11 (arC a)) : w.cell? ⟨b, 0, none⟩ = some (.int .i64 a.k) ∧ w.cell? ⟨b, 1, none⟩ = some (Q a.r.b.v) ∧ w.cell? ⟨b, 2, none⟩ = some (Q a.r.b.m) ∧ w.cell? ⟨b, 3, none⟩ = some (Q a.r.lo) ∧ w.cell? ⟨b, 4, none⟩ = some (Q a.r.hi) ∧ w.cell? ⟨b, 5, none⟩ = some (S a.r.sl) ∧ w.cell? ⟨b, 6, none⟩ = some (S a.r.sh) ∧ w.cell? ⟨b, 7, none⟩ = some (.int .i64 a.sl) ∧ w.cell? ⟨b, 8, none⟩ = some (.int .i64 a.id) ∧ w.cell? ⟨b, 9, none⟩ = some (.int .i64 a.lo) ∧ w.cell? ⟨b, 10, none⟩ = some (.int .i64 a.hi) :=
  ⟨h.cell (j := 0) (by omega), h.cell (j := 1) (by omega), h.cell (j := 2) (by omega), h.cell (j := 3) (by omega), h.cell (j := 4) (by omega), h.cell (j := 5) (by omega), h.cell (j := 6) (by omega), h.cell (j := 7) (by omega), h.cell (j := 8) (by omega), h.cell (j := 9) (by omega), h.cell (j := 10) (by omega)⟩
def iC (s : Nat → Int) : Nat → Value := fun j => .int .i64 (s j)
theorem z_cells {w : World} {b T : Nat} {s : Nat → Int} (h : Has w b T 2 (iC s)) : w.cell? ⟨b, 0, none⟩ = some (.int .i64 (s 0)) ∧ w.cell? ⟨b, 1, none⟩ = some (.int .i64 (s 1)) :=
  ⟨h.cell (j := 0) (by omega), h.cell (j := 1) (by omega)⟩
theorem faAr0 (b : Nat) (w : World) : (Instr.fieldAt 71 (.pointer (some ⟨b, 0, none⟩)) 0).run Try.prog w = .ok (.pointer (some ⟨b, 0, none⟩)) w := by go_simp
theorem faAr1 (b : Nat) (w : World) : (Instr.fieldAt 71 (.pointer (some ⟨b, 0, none⟩)) 1).run Try.prog w = .ok (.pointer (some ⟨b, 1, none⟩)) w := by go_simp
theorem faAr2 (b : Nat) (w : World) : (Instr.fieldAt 71 (.pointer (some ⟨b, 0, none⟩)) 2).run Try.prog w = .ok (.pointer (some ⟨b, 7, none⟩)) w := by go_simp
theorem faAr3 (b : Nat) (w : World) : (Instr.fieldAt 71 (.pointer (some ⟨b, 0, none⟩)) 3).run Try.prog w = .ok (.pointer (some ⟨b, 8, none⟩)) w := by go_simp
theorem faAr4 (b : Nat) (w : World) : (Instr.fieldAt 71 (.pointer (some ⟨b, 0, none⟩)) 4).run Try.prog w = .ok (.pointer (some ⟨b, 9, none⟩)) w := by go_simp
theorem faAr5 (b : Nat) (w : World) : (Instr.fieldAt 71 (.pointer (some ⟨b, 0, none⟩)) 5).run Try.prog w = .ok (.pointer (some ⟨b, 10, none⟩)) w := by go_simp
end Go.Proofs.Ytaeggclcjpcnoaa
