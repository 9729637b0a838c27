/- Arrays of numbers that were read. -/
import Derived.Test.YtaeggclcjpcnoaaArgN
namespace Go.Proofs.Ytaeggclcjpcnoaa
open Go Go.ChangeShapes Go.WideShapes Go.ChangeAt Go.WideMaps Go.WideElems Go.RowKit
section
variable {H : Type} {enc : TypeId × Value → H} {w : World} {base : Nat} {sp : Nat → Bool} {held : Bool}
theorem cofInt : Try.prog.cellsOf 3 = 1 := by kernel_rfl
theorem okWide_arr {P : Program} {r : Reach} {b0 t n e : Nat} {v : Value} (ht : P.underlying t = some (.array n e)) (h : Value.okWide P w r b0 t v) : ∃ cs, v = .agg cs := by
  simp only [Value.okWide, ht] at h
  obtain ⟨cs, h1, _⟩ := h
  exact ⟨cs, h1⟩
/-- An array of numbers that was read. -/
theorem open_iarr {fuel t n : Nat} {cs : List Value} {x : DataW H × List MemPlace} (ht : Try.prog.underlying t = some (.array n 3)) (hct : Try.prog.cellsOf t = n) (h : DataW.trod enc Try.prog w base sp held fuel t cs = some x) :
    ∃ D : Nat → Int, cs = (List.range n).map (fun j => .int .i64 (D j)) := by
  obtain ⟨xs, m, rfl, _, hlen, hn, hel⟩ := DataW.trod_array ht h
  rw [hct] at hlen
  have hall : ∀ j : Nat, ∃ y : Int, j < n → cs[j]? = some (.int .i64 y) := fun j => by
    by_cases hj : j < n
    · have h0 := hel j hj
      rw [cofInt, Nat.mul_one] at h0
      have hxi : xs[j]? = some xs[j] := List.getElem?_eq_getElem (by omega)
      rw [hxi] at h0
      obtain ⟨k, e1, _, hw⟩ := DataW.trod_int (show Try.prog.underlying 3 = some (.int .i64) by kernel_rfl) h0
      have hcj : cs[j]? = some cs[j] := List.getElem?_eq_getElem (by omega)
      have : (cs.drop j).take 1 = [cs[j]] := by
        rw [List.drop_eq_getElem_cons (by omega)]; rfl
      rw [this] at e1
      refine ⟨k, fun _ => ?_⟩
      rw [hcj]
      simpa using e1
    · exact ⟨0, fun h => absurd h hj⟩
  obtain ⟨D, hD⟩ := Classical.axiomOfChoice hall
  refine ⟨D, List.ext_getElem? fun j => ?_⟩
  by_cases hj : j < n
  · rw [hD j hj]; simp [hj]
  · rw [List.getElem?_eq_none (by omega), List.getElem?_eq_none (by simp; omega)]
set_option maxRecDepth 100000 in
theorem open_iarr_agg {t n : Nat} {v : Value} {d : DataW H} {p : List MemPlace} {r : Reach} {b0 : Nat} (ht : Try.prog.underlying t = some (.array n 3)) (hct : Try.prog.cellsOf t = n) (hv : Value.okWide Try.prog w r b0 t v) (h : DataW.Trod enc Try.prog w base sp held t v d p) :
    ∃ D : Nat → Int, v = .agg (cellsOf (fun j => .int .i64 (D j)) n) := by
  obtain ⟨cs, rfl⟩ := okWide_arr (P := Try.prog) ht hv
  obtain ⟨fuel, hf⟩ := h
  obtain ⟨D, hD⟩ := open_iarr ht hct hf
  refine ⟨D, ?_⟩
  congr 1
  apply Array.ext'
  simpa [cellsOf, Value.cells] using hD
end
end Go.Proofs.Ytaeggclcjpcnoaa
