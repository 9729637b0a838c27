/- What the lifted proofs of space share: the program's layout; slices and arrays of numbers that were read. -/
import Derived.Test.YtilhkgbninbkkaaDoorRows
import Derived.Test.YtilhkgbninbkkaaDoorSp1
import Derived.WalkKit
import Derived.ProofKit
import Derived.OpenShut
import Derived.LaidMore
import Derived.Stop.Joined
import Derived.Deep.Slices
namespace Go.Proofs.YtilhkgbninbkkaaDoor
open Go Go.ChangeShapes Go.WideShapes Go.ChangeAt Go.WideMaps Go.WideElems Go.RowKit
theorem plain_addr {w : World} {a : Addr} {v : Value} (h : w.cell? a = some v) : a = ⟨a.block, a.off, none⟩ := by
  obtain ⟨b, o, s⟩ := a
  cases s with
  | none => rfl
  | some x =>
    unfold World.cell? at h
    split at h <;> simp at h
section
variable {H : Type} {enc : TypeId × Value → H} {w : World} {base : Nat} {sp : Nat → Bool} {held : Bool}
theorem open_numbers {fuel : Nat} {v : Value} {x : DataW H × List MemPlace} (h : DataW.trod enc Tryd.prog w base sp held fuel 51 [v] = some x) :
    ∃ (q : Option Addr) (n cap : Nat) (Z : Nat → Int), v = .slice q n cap ∧ n ≤ cap ∧ n ≤ maxLen ∧ Ats w q n (fun j => .int .i64 (Z j)) := by
  rcases open_ints undInts (show Tryd.prog.underlying 3 = some (.int .i64) by kernel_rfl) (by kernel_rfl) h with ⟨hcs, _⟩ | ⟨a, l, c, zs, hcs, _, hl, hm, hz, _, hcell, _⟩
  · exact ⟨none, 0, 0, fun _ => 0, by simpa using hcs, Nat.le_refl _, Nat.zero_le _, fun h0 => by omega⟩
  · refine ⟨some a, l, c, fun j => zs.getD j 0, by simpa using hcs, hl, by omega, fun h0 => ?_⟩
    have hz' : l ≤ zs.length := by rw [hz]; split <;> omega
    have hc0 := hcell 0 (by omega)
    have ha : a = ⟨a.block, a.off, none⟩ := plain_addr (v := .int .i64 (zs.getD 0 0)) (by simpa [Addr.add] using hc0)
    refine ⟨a.block, a.off, by rw [← ha], fun j hj => ?_⟩
    have hcj := hcell j (by omega)
    rw [ha, Addr.add_mid] at hcj
    exact hcj
end
end Go.Proofs.YtilhkgbninbkkaaDoor
