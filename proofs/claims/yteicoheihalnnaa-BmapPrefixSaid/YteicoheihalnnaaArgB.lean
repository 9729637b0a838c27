/- What the lifted proofs of bmap share: the program's layout; bytes and numbers that were read. -/
import Derived.Test.YteicoheihalnnaaRows
import Derived.Test.YteicoheihalnnaaBm1
import Derived.WalkKit
import Derived.ProofKit
import Derived.OpenShut
import Derived.LaidMore
import Derived.Stop.Joined
import Derived.Deep.Slices
namespace Go.Proofs.Yteicoheihalnnaa
open Go Go.ChangeShapes Go.WideShapes Go.ChangeAt Go.WideMaps Go.WideElems Go.RowKit
theorem ownP : ownKnob Try.prog.godebug = none := by kernel_rfl
theorem laidOutP : laidOutB Try.prog = true := by kernel_rfl
theorem plain_addr {w : World} {a : Addr} {v : Value} (h : w.cell? a = some v) : a = ⟨a.block, a.off, none⟩ := by
  obtain ⟨b, o, s⟩ := a
  cases s with
  | none => rfl
  | some x =>
    unfold World.cell? at h
    split at h <;> simp at h
theorem By_of_int (z : Int) (h0 : 0 ≤ z) (h1 : z < 256) : Value.int .u8 z = By (BitVec.ofInt 8 z) := by
  unfold By v8
  rw [BitVec.toNat_ofInt]
  congr 1; omega
section
variable {H : Type} {enc : TypeId × Value → H} {w : World} {base : Nat} {sp : Nat → Bool} {held : Bool}
theorem open_bytes {fuel : Nat} {v : Value} {x : DataW H × List MemPlace} (h : DataW.trod enc Try.prog w base sp held fuel 22 [v] = some x) :
    ∃ (q : Option Addr) (n cap : Nat) (D : Nat → BitVec 8), v = .slice q n cap ∧ n ≤ cap ∧ n ≤ maxLen ∧ Ats w q n (fun j => By (D j)) := by
  rcases open_ints undBB undBy (by kernel_rfl) h with ⟨hcs, _⟩ | ⟨a, l, c, zs, hcs, _, hl, hm, hz, _, hcell, hwz⟩
  · exact ⟨none, 0, 0, fun _ => 0, by simpa using hcs, Nat.le_refl _, Nat.zero_le _, fun h0 => by omega⟩
  · refine ⟨some a, l, c, fun j => BitVec.ofInt 8 (zs.getD j 0), by simpa using hcs, hl, by omega, fun h0 => ?_⟩
    have hz' : l ≤ zs.length := by rw [hz]; split <;> omega
    have hc0 := hcell 0 (by omega)
    have ha : a = ⟨a.block, a.off, none⟩ := plain_addr (v := .int .u8 (zs.getD 0 0)) (by simpa [Addr.add] using hc0)
    refine ⟨a.block, a.off, by rw [← ha], fun j hj => ?_⟩
    have hcj := hcell j (by omega)
    rw [ha, Addr.add_mid] at hcj
    rw [hcj]
    have hw := hwz (zs.getD j 0) (by rw [List.getD_eq_getElem?_getD, List.getElem?_eq_getElem (by omega)]; exact List.getElem_mem _)
    have hb := bounds_u8 hw
    exact congrArg some (By_of_int _ hb.1 (by have := hb.2; omega))
theorem open_u8 {v : Value} {d : DataW H} {p : List MemPlace} {r : Reach} {b0 : Nat} (hv : Value.okWide Try.prog w r b0 5 v) (h : DataW.Trod enc Try.prog w base sp held 5 v d p) : ∃ x : BitVec 8, v = .int .u8 (v8 x) := by
  obtain ⟨n, rfl⟩ := okWide_int (P := Try.prog) undBy hv
  obtain ⟨fuel, hf⟩ := h
  obtain ⟨k, e, _, hw⟩ := DataW.trod_int undBy hf
  have hnk : n = k := by simpa [Value.cells] using e
  subst hnk
  have hb := bounds_u8 hw
  exact ⟨BitVec.ofInt 8 n, By_of_int n hb.1 (by have := hb.2; omega)⟩
theorem open_numbers {fuel : Nat} {v : Value} {x : DataW H × List MemPlace} (h : DataW.trod enc Try.prog w base sp held fuel 41 [v] = some x) :
    ∃ (q : Option Addr) (n cap : Nat) (Z : Nat → Int), v = .slice q n cap ∧ n ≤ cap ∧ n ≤ maxLen ∧ Ats w q n (fun j => .int .i64 (Z j)) := by
  rcases open_ints (show Try.prog.underlying 41 = some (.slice 3) by kernel_rfl) (show Try.prog.underlying 3 = some (.int .i64) by kernel_rfl) (by kernel_rfl) h with ⟨hcs, _⟩ | ⟨a, l, c, zs, hcs, _, hl, hm, hz, _, hcell, _⟩
  · exact ⟨none, 0, 0, fun _ => 0, by simpa using hcs, Nat.le_refl _, Nat.zero_le _, fun h0 => by omega⟩
  · refine ⟨some a, l, c, fun j => zs.getD j 0, by simpa using hcs, hl, by omega, fun h0 => ?_⟩
    have hz' : l ≤ zs.length := by rw [hz]; split <;> omega
    have hc0 := hcell 0 (by omega)
    have ha : a = ⟨a.block, a.off, none⟩ := plain_addr (v := .int .i64 (zs.getD 0 0)) (by simpa [Addr.add] using hc0)
    refine ⟨a.block, a.off, by rw [← ha], fun j hj => ?_⟩
    have hcj := hcell j (by omega)
    rw [ha, Addr.add_mid] at hcj
    exact hcj
end
end Go.Proofs.Yteicoheihalnnaa
