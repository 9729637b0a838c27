/- States: one of the registers, or of the words, by its number. -/
import Derived.Test.YtaeggclcjpcnoaaAbc
namespace Go.Proofs.Ytaeggclcjpcnoaa
open Go Go.RowKit
theorem run_subI2 {P : Program} {a : Act} {o : Oper} {T ty : TypeId} {x y : Operand} {p q r : Int} (ho : o.op = .binOp .sub T x y ty) (hx : a.eval x = .int .i64 p) (hy : a.eval y = .int .i64 q) (h : wrap64 (p - q) = r) (w : World) : (execOp a.eval o).run P w = .ok (.value (.int .i64 r)) w := by
  rw [← h]; exact run_subI ho hx hy w
/-- Where a part stands. -/
def pAt (i : Nat) : Nat := if i < 11 then i * 11 else 185 + (i - 11) * 11
/-- A part. -/
def prt (s : St) (i : Nat) : Ar := if i < 11 then s.R i else s.K (i - 11)
theorem prt_cell (s : St) {i j : Nat} (hj : j < 11) : stC s (pAt i + j) = arC (prt s i) j := by
  unfold pAt prt
  by_cases h : i < 11
  · rw [if_pos h, if_pos h, Nat.mul_comm i 11]; exact stC_R s h hj
  · rw [if_neg h, if_neg h, Nat.mul_comm (i - 11) 11, Nat.add_assoc]; exact stC_K s (i - 11) hj
theorem pAt_lt {i : Nat} (h : i < 19) : pAt i + 11 ≤ 273 := by unfold pAt; split <;> omega
set_option maxRecDepth 100000 in
theorem Part_any (b i : Nat) (hi : i < 19) (w : World) : Calls Try.prog 108 #[.pointer (some ⟨b, 0, none⟩), .int .i64 ((i : Nat) : Int)] w fun e w' => e = .returned (.pointer (some ⟨b, pAt i, none⟩)) ∧ w' = w := by
  have i0 : (0 : Int) ≤ (i : Int) := by omega
  by_cases h : i < 11
  · have h1 : (i : Int) < 11 := by omega
    have e : pAt i = i * 11 := if_pos h
    rw [e]
    clear h e
    go_enter Try.func108, Try.ntmps108
    go_wp2_with fail
    go_ret
    exact ⟨rfl, rfl⟩
  · obtain ⟨j, ej⟩ : ∃ j, j = i - 11 := ⟨_, rfl⟩
    have hj : j < 8 := by omega
    have e : pAt i = 185 + j * 11 := by rw [ej]; exact if_neg h
    have h1 : ¬ (i : Int) < 11 := by omega
    have e2 : (i : Int) - 11 = (j : Int) := by omega
    have E2 := hid e2
    have j0 : (0 : Int) ≤ (j : Int) := by omega
    have j1 : (j : Int) < 8 := by omega
    rw [e]
    clear h e ej e2
    go_enter Try.func108, Try.ntmps108
    go_wp2_with (first
      | (refine wpl_run rfl (.int .i64 ((j : Nat) : Int)) _ (run_subI2 (x := (.tmp 13)) (y := (.const (.int .i64 11))) rfl rfl rfl (p := ((i : Nat) : Int)) (q := 11) (by rw [E2.out]; exact wrap_id (by omega) (by omega)) _) ?_)
      | fail)
    go_ret
    exact ⟨rfl, rfl⟩
end Go.Proofs.Ytaeggclcjpcnoaa
