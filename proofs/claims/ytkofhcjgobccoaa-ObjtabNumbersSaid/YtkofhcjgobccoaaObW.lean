/- Words on tables of objects, of no type. Nothing of the program. -/
import Derived.Test.YtkofhcjgobccoaaOb0
import Derived.Test.YtkofhcjgobccoaaInns
namespace Go.Proofs.Ytkofhcjgobccoaa
open Go Go.RowKit
/-- The cells of a table. -/
def obC (size last : Int) (p : Option Addr) (n cap : Nat) : Nat → Value := fun j => if j = 0 then .int .i64 size else if j = 1 then .int .i64 last else .slice p n cap
/-- The cells of one object. -/
def oneC {α : Type} (v : α → Value) (e : En α) : Nat → Value := fun j => if j = 0 then .int .i64 e.id else if j = 1 then .int .i64 e.held else v e.x
theorem oneC_one {α : Type} {v : α → Value} (hv : ∀ x, (v x).oneCell' = true) (e : En α) (j : Nat) : (oneC v e j).oneCell' = true := by
  unfold oneC; split; rfl; split; rfl; exact hv _
theorem enC_at {α : Type} (v : α → Value) (E : Nat → En α) (k i : Nat) (hi : i < 3) : enC v E (k * 3 + i) = oneC v (E k) i := by
  unfold enC oneC
  rw [show (k * 3 + i) % 3 = i by omega, show (k * 3 + i) / 3 = k by omega]
theorem enC_self {α : Type} (v : α → Value) (e : En α) (i : Nat) (hi : i < 3) : enC v (fun _ => e) i = oneC v e i := by
  unfold enC oneC
  rw [show i % 3 = i by omega]
theorem cells_new_three (w : World) (a b c : Value) (E : TypeId) (g : Nat → Value) (h0 : g 0 = a) (h1 : g 1 = b) (h2 : g 2 = c) : Cells (w.alloc (.cells #[a, b, c] E)) (some ⟨w.heap.size, 0, none⟩) (1 * 3) g := fun _ => ⟨_, rfl, fun j hj => by
  rw [Addr.add_mid, Nat.zero_add]
  rw [cell_of_row _ w.heap.size j #[a, b, c] E (0, 0) (heap_alloc_new w _)]
  rcases (show j = 0 ∨ j = 1 ∨ j = 2 by omega) with rfl | rfl | rfl
  · rw [h0]; rfl
  · rw [h1]; rfl
  · rw [h2]; rfl⟩
end Go.Proofs.Ytkofhcjgobccoaa
