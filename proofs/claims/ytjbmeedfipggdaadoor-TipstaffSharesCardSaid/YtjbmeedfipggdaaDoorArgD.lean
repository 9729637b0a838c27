/- Arguments opened: arrays of numbers, slices of bools, of numbers. -/
import Derived.Test.YtjbmeedfipggdaaDoorLift
import Derived.Test.YtjbmeedfipggdaaDoorAts2
namespace Go.Proofs.YtjbmeedfipggdaaDoor
open Go Go.ChangeShapes Go.WideShapes Go.ChangeAt Go.WideMaps Go.WideElems Go.RowKit
theorem undIntD : Tryd.prog.underlying 3 = some (.int .i64) := by kernel_rfl
theorem cofIntD : Tryd.prog.cellsOf 3 = 1 := by kernel_rfl
theorem addr_is_plain {w : World} {a : Addr} {v : Value} (h : w.cell? a = some v) : a = ⟨a.block, a.off, none⟩ := by
  obtain ⟨b, o, s⟩ := a
  cases s with
  | none => rfl
  | some x =>
    unfold World.cell? at h
    split at h <;> simp at h
section
variable {H : Type} {enc : TypeId × Value → H} {w : World} {base : Nat} {sp : Nat → Bool} {held : Bool}
theorem open_int_arr {fuel t n : Nat} {cs : List Value} {x : DataW H × List MemPlace} (ht : Tryd.prog.underlying t = some (.array n 3)) (hct : Tryd.prog.cellsOf t = n) (h : DataW.trod enc Tryd.prog w base sp held fuel t cs = some x) :
    ∃ D : Nat → Int, cs = (List.range n).map (fun j => .int .i64 (D j)) := by
  obtain ⟨xs, m, rfl, _, hlen, hn, hel⟩ := DataW.trod_array ht h
  rw [hct] at hlen
  have hall : ∀ j : Nat, ∃ y : Int, j < n → cs[j]? = some (.int .i64 y) := fun j => by
    by_cases hj : j < n
    · have h0 := hel j hj
      rw [cofIntD, Nat.mul_one] at h0
      have hxi : xs[j]? = some xs[j] := List.getElem?_eq_getElem (by omega)
      rw [hxi] at h0
      obtain ⟨k, e1, _, hw⟩ := DataW.trod_int undIntD h0
      have hcj : cs[j]? = some cs[j] := List.getElem?_eq_getElem (by omega)
      have : (cs.drop j).take 1 = [cs[j]] := by
        rw [List.drop_eq_getElem_cons (by omega)]; rfl
      rw [this] at e1
      exact ⟨k, fun _ => by rw [hcj]; simpa using e1⟩
    · exact ⟨0, fun h => absurd h hj⟩
  obtain ⟨D, hD⟩ := Classical.axiomOfChoice hall
  refine ⟨D, List.ext_getElem? fun j => ?_⟩
  by_cases hj : j < n
  · rw [hD j hj]; simp [hj]
  · rw [List.getElem?_eq_none (by omega), List.getElem?_eq_none (by simp; omega)]
theorem okWide_array {P : Program} {r : Reach} {b0 t n e : Nat} {v : Value} (ht : P.underlying t = some (.array n e)) (h : Value.okWide P w r b0 t v) : ∃ cs, v = .agg cs := by
  simp only [Value.okWide, ht] at h
  obtain ⟨cs, h1, _⟩ := h
  exact ⟨cs, h1⟩
set_option maxRecDepth 100000 in
theorem open_int_agg {t n : Nat} {v : Value} {d : DataW H} {p : List MemPlace} {r : Reach} {b0 : Nat} (ht : Tryd.prog.underlying t = some (.array n 3)) (hct : Tryd.prog.cellsOf t = n) (hv : Value.okWide Tryd.prog w r b0 t v) (h : DataW.Trod enc Tryd.prog w base sp held t v d p) :
    ∃ D : Nat → Int, v = .agg (cellsOf (fun j => .int .i64 (D j)) n) := by
  obtain ⟨cs, rfl⟩ := okWide_array (P := Tryd.prog) ht hv
  obtain ⟨fuel, hf⟩ := h
  obtain ⟨D, hD⟩ := open_int_arr ht hct hf
  refine ⟨D, ?_⟩
  congr 1
  apply Array.ext'
  simpa [cellsOf, Value.cells] using hD
theorem open_flags {fuel : Nat} {v : Value} {x : DataW H × List MemPlace} (h : DataW.trod enc Tryd.prog w base sp held fuel 23 [v] = some x) :
    ∃ (q : Option Addr) (n cap : Nat) (B : Nat → Bool), v = .slice q n cap ∧ n ≤ cap ∧ n ≤ maxLen ∧ Lies w q n (fun j => .bool (B j)) := by
  rcases Deep.open_slice1 (show Tryd.prog.underlying 23 = some (.slice 4) by kernel_rfl) (show Tryd.prog.cellsOf 4 = 1 by kernel_rfl) h with ⟨hcs, _⟩ | ⟨a, l, c, m, k, V, D, Pl, hcs, _, hl, hm, hmm, _, hel⟩
  · exact ⟨none, 0, 0, fun _ => false, by simpa using hcs, Nat.le_refl _, Nat.zero_le _, fun h0 => by omega⟩
  · have hlm : l ≤ m := by rw [hmm]; split <;> omega
    have hall : ∀ j : Nat, ∃ y : Bool, j < l → V j = .bool y := fun j => by
      by_cases hj : j < l
      · obtain ⟨_, ht⟩ := hel j (by omega)
        obtain ⟨b, e1, _⟩ := DataW.trod_bool (show Tryd.prog.underlying 4 = some .bool by kernel_rfl) ht
        exact ⟨b, fun _ => by simpa using e1⟩
      · exact ⟨false, fun h => absurd h hj⟩
    obtain ⟨B, hB⟩ := Classical.axiomOfChoice hall
    refine ⟨some a, l, c, B, by simpa using hcs, hl, by omega, fun h0 => ?_⟩
    obtain ⟨hc0, _⟩ := hel 0 (by omega)
    have ha : a = ⟨a.block, a.off, none⟩ := addr_is_plain (v := V 0) (by simpa [Addr.add] using hc0)
    refine ⟨a.block, a.off, by rw [← ha], fun j hj => ?_⟩
    obtain ⟨hcj, _⟩ := hel j (by omega)
    rw [ha, Addr.add_mid] at hcj
    rw [hcj, hB j hj]
end
end Go.Proofs.YtjbmeedfipggdaaDoor
