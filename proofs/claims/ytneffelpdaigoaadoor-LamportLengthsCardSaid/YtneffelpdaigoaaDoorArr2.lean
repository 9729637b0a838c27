/- Arguments opened: a byte. -/
import Derived.Test.YtneffelpdaigoaaDoorArr
namespace Go.Proofs.YtneffelpdaigoaaDoor
open Go Go.ChangeShapes Go.WideShapes Go.ChangeAt Go.WideMaps Go.WideElems Go.RowKit Sha
section
variable {H : Type} {enc : TypeId × Value → H} {w : World} {base : Nat} {sp : Nat → Bool} {held : Bool}
set_option maxRecDepth 100000 in
theorem open_u8 {v : Value} {d : DataW H} {p : List MemPlace} {r : Reach} {b0 : Nat} (hv : Value.okWide Tryd.prog w r b0 5 v) (h : DataW.Trod enc Tryd.prog w base sp held 5 v d p) : ∃ x : BitVec 8, v = .int .u8 (v8 x) := by
  obtain ⟨n, rfl⟩ := okWide_int (P := Tryd.prog) und5 hv
  obtain ⟨fuel, hf⟩ := h
  obtain ⟨k, e, _, hw⟩ := DataW.trod_int und5 hf
  have hnk : n = k := by simpa [Value.cells] using e
  subst hnk
  have hb := bounds_u8 hw
  exact ⟨BitVec.ofInt 8 n, By_of_int n hb.1 (by have := hb.2; omega)⟩
end
end Go.Proofs.YtneffelpdaigoaaDoor
