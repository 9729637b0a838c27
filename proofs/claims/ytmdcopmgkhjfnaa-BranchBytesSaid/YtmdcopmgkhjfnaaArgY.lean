/- What the lifted proofs over bytes among words share. -/
import Derived.Test.YtmdcopmgkhjfnaaArgN
import Derived.Test.YtmdcopmgkhjfnaaYv
namespace Go.Proofs.Ytmdcopmgkhjfnaa
open Go Go.ChangeShapes Go.WideShapes Go.ChangeAt Go.WideMaps Go.WideElems Go.RowKit
theorem bounds_u8w {k : Int} (h : (Lit.int .u8 k).wf = true) : 0 ≤ k ∧ k ≤ 255 := by
  simp only [Lit.wf, Bool.and_eq_true, decide_eq_true_eq] at h
  have e1 : IntKind.u8.min = 0 := by decide
  have e2 : IntKind.u8.max = 255 := by decide
  rw [e1, e2] at h
  exact h
section
variable {H : Type} {enc : TypeId × Value → H} {w : World} {base : Nat} {sp : Nat → Bool} {held : Bool}
set_option maxRecDepth 100000 in
theorem open_y {v : Value} {d : DataW H} {p : List MemPlace} {r : Reach} {b0 : Nat} (hv : Value.okWide Try.prog w r b0 5 v) (h : DataW.Trod enc Try.prog w base sp held 5 v d p) : ∃ x : W, v = Yv x ∧ x.toNat < 256 := by
  obtain ⟨n, rfl⟩ := okWide_int (P := Try.prog) undY hv
  obtain ⟨fuel, hf⟩ := h
  obtain ⟨k, e, _, hw⟩ := DataW.trod_int undY hf
  have hnk : n = k := by simpa [Value.cells] using e
  subst hnk
  have hb := bounds_u8w hw
  have e1 : qn (BitVec.ofInt 64 n) = n := by rw [qn_ofInt]; omega
  refine ⟨BitVec.ofInt 64 n, ?_, ?_⟩
  · unfold Yv; rw [e1]
  · unfold qn at e1; omega
end
end Go.Proofs.Ytmdcopmgkhjfnaa
