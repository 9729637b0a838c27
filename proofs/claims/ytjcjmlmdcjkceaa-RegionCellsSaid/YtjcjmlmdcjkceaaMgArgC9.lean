/- What the lifted proofs share: the program's layout; words and rows of words that were read. What RegionCells is called with, as it was read: bytes, two numbers of 64 bits, a number. -/
import Derived.Test.YtjcjmlmdcjkceaaRows
import Derived.Test.YtjcjmlmdcjkceaaNl
import Derived.WalkKit
import Derived.ProofKit
import Derived.OpenShut
import Derived.LaidMore
import Derived.Stop.Joined
import Derived.Test.YtjcjmlmdcjkceaaBm1r
import Derived.Deep.Slices
namespace Go.Proofs.Ytjcjmlmdcjkceaa
open Go Go.ChangeShapes Go.WideShapes Go.ChangeAt Go.WideMaps Go.WideElems Go.RowKit
theorem ownP : ownKnob Try.prog.godebug = none := by kernel_rfl
theorem laidOutP : laidOutB Try.prog = true := by kernel_rfl
theorem at_oneN {cs : List Value} {k : Nat} {v : Value} (h : (cs.drop k).take 1 = [v]) : cs[k]? = some v := by
  have := congrArg (fun l => l[0]?) h
  simpa using this
section
variable {H : Type} {enc : TypeId × Value → H} {w : World} {base : Nat} {sp : Nat → Bool} {held : Bool}
theorem okWide_arrN {P : Program} {r : Reach} {b0 t n e : Nat} {v : Value} (ht : P.underlying t = some (.array n e)) (h : Value.okWide P w r b0 t v) : ∃ cs, v = .agg cs := by
  simp only [Value.okWide, ht] at h
  obtain ⟨cs, h1, _⟩ := h
  exact ⟨cs, h1⟩
end
end Go.Proofs.Ytjcjmlmdcjkceaa
namespace Go.Proofs.Ytjcjmlmdcjkceaa
open Go Go.ChangeShapes Go.WideShapes Go.ChangeAt Go.WideMaps Go.WideElems Go.RowKit
theorem plain_addr {w : World} {a : Addr} {v : Value} (h : w.cell? a = some v) : a = ⟨a.block, a.off, none⟩ := by
  obtain ⟨b, o, s⟩ := a
  cases s with
  | none => rfl
  | some x =>
    unfold World.cell? at h
    split at h <;> simp at h
theorem By_of_int (z : Int) (h0 : 0 ≤ z) (h1 : z < 256) : Value.int .u8 z = By (BitVec.ofInt 8 z) := by
  unfold By v8
  rw [BitVec.toNat_ofInt]
  congr 1; omega
theorem cofL1 : Try.prog.cellsOf 2 = 1 := by kernel_rfl
section
variable {H : Type} {enc : TypeId × Value → H} {w : World} {base : Nat} {sp : Nat → Bool} {held : Bool}
theorem open_bytes {fuel : Nat} {v : Value} {x : DataW H × List MemPlace} (h : DataW.trod enc Try.prog w base sp held fuel 32 [v] = some x) :
    ∃ (q : Option Addr) (n cap : Nat) (D : Nat → BitVec 8), v = .slice q n cap ∧ n ≤ cap ∧ n ≤ maxLen ∧ Ats w q n (fun j => By (D j)) := by
  rcases open_ints undBB undBy (by kernel_rfl) h with ⟨hcs, _⟩ | ⟨a, l, c, zs, hcs, _, hl, hm, hz, _, hcell, hwz⟩
  · exact ⟨none, 0, 0, fun _ => 0, by simpa using hcs, Nat.le_refl _, Nat.zero_le _, fun h0 => by omega⟩
  · refine ⟨some a, l, c, fun j => BitVec.ofInt 8 (zs.getD j 0), by simpa using hcs, hl, by omega, fun h0 => ?_⟩
    have hz' : l ≤ zs.length := by rw [hz]; split <;> omega
    have hc0 := hcell 0 (by omega)
    have ha : a = ⟨a.block, a.off, none⟩ := plain_addr (v := .int .u8 (zs.getD 0 0)) (by simpa [Addr.add] using hc0)
    refine ⟨a.block, a.off, by rw [← ha], fun j hj => ?_⟩
    have hcj := hcell j (by omega)
    rw [ha, Addr.add_mid] at hcj
    rw [hcj]
    have hw := hwz (zs.getD j 0) (by rw [List.getD_eq_getElem?_getD, List.getElem?_eq_getElem (by omega)]; exact List.getElem_mem _)
    have hb := bounds_u8 hw
    exact congrArg some (By_of_int _ hb.1 (by have := hb.2; omega))
set_option maxRecDepth 100000 in
theorem open_larr {fuel t n : Nat} {cs : List Value} {x : DataW H × List MemPlace} (ht : Try.prog.underlying t = some (.array n 2)) (hct : Try.prog.cellsOf t = n) (h : DataW.trod enc Try.prog w base sp held fuel t cs = some x) :
    ∃ D : Nat → Int, cs = (List.range n).map (fun j => .int .i64 (D j)) := by
  obtain ⟨xs, m, rfl, _, hlen, hn, hel⟩ := DataW.trod_array ht h
  rw [hct] at hlen
  have hall : ∀ j : Nat, ∃ y : Int, j < n → cs[j]? = some (.int .i64 y) := fun j => by
    by_cases hj : j < n
    · have h0 := hel j hj
      rw [cofL1, Nat.mul_one] at h0
      have hxi : xs[j]? = some xs[j] := List.getElem?_eq_getElem (by omega)
      rw [hxi] at h0
      obtain ⟨k, e1, _, hw⟩ := DataW.trod_int (show Try.prog.underlying 2 = some (.int .i64) by kernel_rfl) h0
      exact ⟨k, fun _ => at_oneN e1⟩
    · exact ⟨0, fun h => absurd h hj⟩
  obtain ⟨D, hD⟩ := Classical.axiomOfChoice hall
  refine ⟨D, List.ext_getElem? fun j => ?_⟩
  by_cases hj : j < n
  · rw [hD j hj]; simp [hj]
  · rw [List.getElem?_eq_none (by omega), List.getElem?_eq_none (by simp; omega)]
set_option maxRecDepth 100000 in
theorem open_larr_agg {t n : Nat} {v : Value} {d : DataW H} {p : List MemPlace} {r : Reach} {b0 : Nat} (ht : Try.prog.underlying t = some (.array n 2)) (hct : Try.prog.cellsOf t = n) (hv : Value.okWide Try.prog w r b0 t v) (h : DataW.Trod enc Try.prog w base sp held t v d p) :
    ∃ D : Nat → Int, v = .agg (cellsOf (fun j => .int .i64 (D j)) n) := by
  obtain ⟨cs, rfl⟩ := okWide_arrN (P := Try.prog) ht hv
  obtain ⟨fuel, hf⟩ := h
  obtain ⟨D, hD⟩ := open_larr ht hct hf
  refine ⟨D, ?_⟩
  congr 1
  apply Array.ext'
  simpa [cellsOf, Value.cells] using hD
end
end Go.Proofs.Ytjcjmlmdcjkceaa
