/- Arguments opened: bytes, and slices of bytes. -/
import Derived.Test.YtcampjgemedhlaaDoorLift
import Derived.Test.YtcampjgemedhlaaDoorDig4
namespace Go.Proofs.YtcampjgemedhlaaDoor
open Go Go.ChangeShapes Go.WideShapes Go.ChangeAt Go.WideMaps Go.WideElems Go.RowKit Sha
theorem By_of_int (z : Int) (h0 : 0 ≤ z) (h1 : z < 256) : Value.int .u8 z = By (BitVec.ofInt 8 z) := by
  unfold By v8
  rw [BitVec.toNat_ofInt]
  congr 1; omega
theorem addr_plain {w : World} {a : Addr} {v : Value} (h : w.cell? a = some v) : a = ⟨a.block, a.off, none⟩ := by
  obtain ⟨b, o, s⟩ := a
  cases s with
  | none => rfl
  | some x =>
    unfold World.cell? at h
    split at h <;> simp at h
section
variable {H : Type} {enc : TypeId × Value → H} {w : World} {base : Nat} {sp : Nat → Bool} {held : Bool}
/-- A slice of bytes that was read. -/
theorem open_bytes {fuel : Nat} {v : Value} {x : DataW H × List MemPlace} (h : DataW.trod enc Tryd.prog w base sp held fuel 22 [v] = some x) :
    ∃ q n cap D, v = .slice q n cap ∧ n ≤ cap ∧ n ≤ maxLen ∧ Bytes w q n D := by
  rcases open_ints und22 und5 (by kernel_rfl) h with ⟨hcs, _⟩ | ⟨a, l, c, zs, hcs, _, hl, hm, hz, _, hcell, hwz⟩
  · exact ⟨none, 0, 0, fun _ => 0, by simpa using hcs, Nat.le_refl _, Nat.zero_le _, fun h0 => by omega⟩
  · refine ⟨some a, l, c, fun j => BitVec.ofInt 8 (zs.getD j 0), by simpa using hcs, hl, by omega, fun h0 => ?_⟩
    have hz' : l ≤ zs.length := by rw [hz]; split <;> omega
    have hc0 := hcell 0 (by omega)
    have ha : a = ⟨a.block, a.off, none⟩ := addr_plain (v := .int .u8 (zs.getD 0 0)) (by simpa [Addr.add] using hc0)
    refine ⟨a.block, a.off, by rw [← ha], fun j hj => ?_⟩
    have hcj := hcell j (by omega)
    rw [ha, Addr.add_mid] at hcj
    rw [hcj]
    have hw := hwz (zs.getD j 0) (by rw [List.getD_eq_getElem?_getD, List.getElem?_eq_getElem (by omega)]; exact List.getElem_mem _)
    have hb := bounds_u8 hw
    exact congrArg some (By_of_int _ hb.1 (by have := hb.2; omega))
/-- A slice of slices of bytes that was read. -/
theorem open_parts {fuel : Nat} {v : Value} {x : DataW H × List MemPlace} (h : DataW.trod enc Tryd.prog w base sp held fuel 29 [v] = some x) :
    ∃ p n cap S, v = .slice p n cap ∧ n ≤ cap ∧ n ≤ maxLen ∧ Parts w p n S := by
  rcases Deep.open_slice1 (show Tryd.prog.underlying 29 = some (.slice 22) by kernel_rfl) (show Tryd.prog.cellsOf 22 = 1 by kernel_rfl) h with ⟨hcs, _⟩ | ⟨a, l, c, m, k, V, D, Pl, hcs, _, hl, hm, hmm, _, hel⟩
  · exact ⟨none, 0, 0, fun _ => ⟨none, 0, 0, fun _ => 0⟩, by simpa using hcs, Nat.le_refl _, Nat.zero_le _, fun h0 => by omega⟩
  · have hlm : l ≤ m := by rw [hmm]; split <;> omega
    have hall : ∀ j : Nat, ∃ y : Part, j < l → V j = .slice y.q y.n y.cap ∧ y.n ≤ y.cap ∧ Bytes w y.q y.n y.D := fun j => by
      by_cases hj : j < l
      · obtain ⟨_, ht⟩ := hel j (by omega)
        obtain ⟨q, n, cap, E, e1, e2, _, e3⟩ := open_bytes ht
        exact ⟨⟨q, n, cap, E⟩, fun _ => ⟨e1, e2, e3⟩⟩
      · exact ⟨⟨none, 0, 0, fun _ => 0⟩, fun h => absurd h hj⟩
    obtain ⟨S, hS⟩ := Classical.axiomOfChoice hall
    refine ⟨some a, l, c, S, by simpa using hcs, hl, by omega, fun h0 => ?_⟩
    obtain ⟨hc0, _⟩ := hel 0 (by omega)
    have ha : a = ⟨a.block, a.off, none⟩ := addr_plain (v := V 0) (by simpa [Addr.add] using hc0)
    refine ⟨a.block, a.off, by rw [← ha], fun j hj => ?_⟩
    obtain ⟨hcj, _⟩ := hel j (by omega)
    rw [ha, Addr.add_mid] at hcj
    obtain ⟨e1, e2, e3⟩ := hS j hj
    exact ⟨by rw [hcj, e1], e2, e3⟩
end
end Go.Proofs.YtcampjgemedhlaaDoor
