/- Arguments opened: bytes, and slices of bytes. -/
import Derived.Test.YtjdclgnlnehjlaaDoorLift
import Derived.Test.YtjdclgnlnehjlaaDoorDig4
namespace Go.Proofs.YtjdclgnlnehjlaaDoor
open Go Go.ChangeShapes Go.WideShapes Go.ChangeAt Go.WideMaps Go.WideElems Go.RowKit Sha
theorem By_of_int (z : Int) (h0 : 0 ≤ z) (h1 : z < 256) : Value.int .u8 z = By (BitVec.ofInt 8 z) := by
  unfold By v8
  rw [BitVec.toNat_ofInt]
  congr 1; omega
theorem addr_plain {w : World} {a : Addr} {v : Value} (h : w.cell? a = some v) : a = ⟨a.block, a.off, none⟩ := by
  obtain ⟨b, o, s⟩ := a
  cases s with
  | none => rfl
  | some x =>
    unfold World.cell? at h
    split at h <;> simp at h
section
variable {H : Type} {enc : TypeId × Value → H} {w : World} {base : Nat} {sp : Nat → Bool} {held : Bool}
/-- A slice of bytes that was read. -/
theorem open_bytes {fuel : Nat} {v : Value} {x : DataW H × List MemPlace} (h : DataW.trod enc Tryd.prog w base sp held fuel 35 [v] = some x) :
    ∃ q n cap D, v = .slice q n cap ∧ n ≤ cap ∧ n ≤ maxLen ∧ Bytes w q n D := by
  rcases open_ints und22 und5 (by kernel_rfl) h with ⟨hcs, _⟩ | ⟨a, l, c, zs, hcs, _, hl, hm, hz, _, hcell, hwz⟩
  · exact ⟨none, 0, 0, fun _ => 0, by simpa using hcs, Nat.le_refl _, Nat.zero_le _, fun h0 => by omega⟩
  · refine ⟨some a, l, c, fun j => BitVec.ofInt 8 (zs.getD j 0), by simpa using hcs, hl, by omega, fun h0 => ?_⟩
    have hz' : l ≤ zs.length := by rw [hz]; split <;> omega
    have hc0 := hcell 0 (by omega)
    have ha : a = ⟨a.block, a.off, none⟩ := addr_plain (v := .int .u8 (zs.getD 0 0)) (by simpa [Addr.add] using hc0)
    refine ⟨a.block, a.off, by rw [← ha], fun j hj => ?_⟩
    have hcj := hcell j (by omega)
    rw [ha, Addr.add_mid] at hcj
    rw [hcj]
    have hw := hwz (zs.getD j 0) (by rw [List.getD_eq_getElem?_getD, List.getElem?_eq_getElem (by omega)]; exact List.getElem_mem _)
    have hb := bounds_u8 hw
    exact congrArg some (By_of_int _ hb.1 (by have := hb.2; omega))
end
end Go.Proofs.YtjdclgnlnehjlaaDoor
