/- A row of texts, as it was read. -/
import Derived.Test.YtkofhcjgobccoaaArgP
import Derived.Deep.Strs
namespace Go.Proofs.Ytkofhcjgobccoaa
open Go Go.ChangeShapes Go.WideShapes Go.ChangeAt Go.WideMaps Go.WideElems Go.RowKit
section
variable {H : Type} {enc : TypeId × Value → H} {w : World} {base : Nat} {sp : Nat → Bool} {held : Bool}
theorem open_texts {fuel : Nat} {v : Value} {x : DataW H × List MemPlace} (h : DataW.trod enc Try.prog w base sp held fuel 22 [v] = some x) :
    ∃ (q : Option Addr) (n cap : Nat) (T : Nat → ByteArray), v = .slice q n cap ∧ n ≤ cap ∧ n ≤ maxLen ∧ (0 < n → ∃ bb off, q = some ⟨bb, off, none⟩ ∧ ∀ k, k < n → w.cell? ⟨bb, off + k, none⟩ = some (Value.string (T k))) := by
  rcases Deep.open_strs (show Try.prog.underlying 22 = some (.slice 9) by kernel_rfl) (show Try.prog.underlying 9 = some .string by kernel_rfl) (by kernel_rfl) h with ⟨hcs, _⟩ | ⟨a, l, c, m, S, hcs, _, hl, hm, hmm, _, hcell⟩
  · exact ⟨none, 0, 0, fun _ => ⟨#[]⟩, by simpa using hcs, Nat.le_refl _, Nat.zero_le _, fun h0 => absurd h0 (by omega)⟩
  · have hlm : l ≤ m := by rw [hmm]; split <;> omega
    refine ⟨some a, l, c, S, by simpa using hcs, hl, by omega, fun h0 => ?_⟩
    have hc0 := (hcell 0 (by omega)).1
    have ha : a = ⟨a.block, a.off, none⟩ := by
      have hz : a.add 0 = a := by simp [Addr.add]
      rw [hz] at hc0
      obtain ⟨b, o, s⟩ := a
      cases s with
      | none => rfl
      | some x =>
        unfold World.cell? at hc0
        split at hc0 <;> simp at hc0
    refine ⟨a.block, a.off, by rw [← ha], fun j hj => ?_⟩
    have hcj := (hcell j (by omega)).1
    rw [ha, Addr.add_mid] at hcj
    exact hcj
end
end Go.Proofs.Ytkofhcjgobccoaa
