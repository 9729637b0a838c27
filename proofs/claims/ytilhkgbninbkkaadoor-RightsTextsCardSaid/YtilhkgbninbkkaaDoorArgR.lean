/- Arguments opened: rights, numbers of 32 bits. -/
import Derived.Test.YtilhkgbninbkkaaDoorLiftR
import Derived.Lib.SmallJoins
namespace Go.Proofs.YtilhkgbninbkkaaDoor
open Go Go.ChangeShapes Go.WideShapes Go.ChangeAt Go.WideMaps Go.WideElems Go.RowKit
def rg6Fs : TypeDesc → Bool
  | .struct fs => fs.toList.map (fun f => (f.type, f.offset)) == [(22, 0), (22, 1), (22, 2), (22, 3), (4, 4), (4, 5)]
  | _ => false
set_option maxRecDepth 100000 in
theorem rg6_of {T : TypeId} (h : (Tryd.prog.underlying T).map rg6Fs = some true) : ∃ f0 f1 f2 f3 f4 f5 : Field, Tryd.prog.underlying T = some (.struct #[f0, f1, f2, f3, f4, f5]) ∧ (f0.type = 22 ∧ f0.offset = 0) ∧ (f1.type = 22 ∧ f1.offset = 1) ∧ (f2.type = 22 ∧ f2.offset = 2) ∧ (f3.type = 22 ∧ f3.offset = 3) ∧ (f4.type = 4 ∧ f4.offset = 4) ∧ (f5.type = 4 ∧ f5.offset = 5) := by
  cases e : Tryd.prog.underlying T with
  | none => rw [e] at h; cases h
  | some d =>
    rw [e] at h
    cases d with
    | struct fs =>
      obtain ⟨l⟩ := fs
      simp only [Option.map_some, Option.some.injEq, rg6Fs, beq_iff_eq] at h
      have hl : l.length = 6 := by have := congrArg List.length h; simpa using this
      obtain ⟨f0, f1, f2, f3, f4, f5, rfl⟩ : ∃ f0 f1 f2 f3 f4 f5, l = [f0, f1, f2, f3, f4, f5] := by
        match l, hl with
        | [f0, f1, f2, f3, f4, f5], _ => exact ⟨f0, f1, f2, f3, f4, f5, rfl⟩
      simp only [List.map_cons, List.map_nil, List.cons.injEq, Prod.mk.injEq, and_true] at h
      obtain ⟨h0, h1, h2, h3, h4, h5⟩ := h
      exact ⟨f0, f1, f2, f3, f4, f5, rfl, h0, h1, h2, h3, h4, h5⟩
    | _ => simp [rg6Fs] at h
theorem cofU16 : Tryd.prog.cellsOf 22 = 1 := by kernel_rfl
theorem cofBo : Tryd.prog.cellsOf 4 = 1 := by kernel_rfl
theorem und16' : Tryd.prog.underlying 22 = some (.int .u16) := by kernel_rfl
theorem undBo' : Tryd.prog.underlying 4 = some .bool := by kernel_rfl
theorem at_one {cs : List Value} {k : Nat} {v : Value} (h : (cs.drop k).take 1 = [v]) : cs[k]? = some v := by
  have := congrArg (fun l => l[0]?) h
  simpa using this
theorem bounds_u16 {k : Int} (h : (Lit.int .u16 k).wf = true) : 0 ≤ k ∧ k ≤ 65535 := by
  simp only [Lit.wf, Bool.and_eq_true, decide_eq_true_eq] at h
  have e1 : IntKind.u16.min = 0 := by decide
  have e2 : IntKind.u16.max = 65535 := by decide
  rw [e1, e2] at h
  exact h
theorem Wd_of_int (z : Int) (h0 : 0 ≤ z) (h1 : z ≤ 65535) : Value.int .u16 z = Wd (BitVec.ofInt 16 z) := by
  unfold Wd u6
  rw [BitVec.toNat_ofInt]
  congr 1; omega
section
variable {H : Type} {enc : TypeId × Value → H} {w : World} {base : Nat} {sp : Nat → Bool} {held : Bool}
set_option maxRecDepth 100000 in
/-- Six cells that read as rights. -/
theorem open_rgc {T : TypeId} (hT : (Tryd.prog.underlying T).map rg6Fs = some true) (hc : Tryd.prog.cellsOf T = 6) {fuel : Nat} {cs : List Value} {x : DataW H × List MemPlace} (h : DataW.trod enc Tryd.prog w base sp held fuel T cs = some x) : ∃ r : Rg, cs = (List.range 6).map (rgC r) := by
  obtain ⟨f0, f1, f2, f3, f4, f5, hu, ⟨t0, o0⟩, ⟨t1, o1⟩, ⟨t2, o2⟩, ⟨t3, o3⟩, ⟨t4, o4⟩, ⟨t5, o5⟩⟩ := rg6_of hT
  obtain ⟨xs, n, _, rfl, hl, hlen, hf⟩ := DataW.trod_struct hu h
  match xs, hlen with
  | [y0, y1, y2, y3, y4, y5], _ =>
    have e0 := hf 0 f0 rfl
    have e1 := hf 1 f1 rfl
    have e2 := hf 2 f2 rfl
    have e3 := hf 3 f3 rfl
    have e4 := hf 4 f4 rfl
    have e5 := hf 5 f5 rfl
    rw [t0, o0, cofU16] at e0
    rw [t1, o1, cofU16] at e1
    rw [t2, o2, cofU16] at e2
    rw [t3, o3, cofU16] at e3
    rw [t4, o4, cofBo] at e4
    rw [t5, o5, cofBo] at e5
    obtain ⟨z0, r0, _, w0⟩ := DataW.trod_int und16' e0
    obtain ⟨z1, r1, _, w1⟩ := DataW.trod_int und16' e1
    obtain ⟨z2, r2, _, w2⟩ := DataW.trod_int und16' e2
    obtain ⟨z3, r3, _, w3⟩ := DataW.trod_int und16' e3
    obtain ⟨b4, r4, _⟩ := DataW.trod_bool undBo' e4
    obtain ⟨b5, r5, _⟩ := DataW.trod_bool undBo' e5
    have w0 := bounds_u16 w0
    have w1 := bounds_u16 w1
    have w2 := bounds_u16 w2
    have w3 := bounds_u16 w3
    refine ⟨⟨BitVec.ofInt 16 z0, BitVec.ofInt 16 z1, BitVec.ofInt 16 z2, BitVec.ofInt 16 z3, b4, b5⟩, List.ext_getElem? fun j => ?_⟩
    rw [hc] at hl
    by_cases hj : j < 6
    · rcases (show j = 0 ∨ j = 1 ∨ j = 2 ∨ j = 3 ∨ j = 4 ∨ j = 5 by omega) with rfl | rfl | rfl | rfl | rfl | rfl
      · rw [at_one r0, Wd_of_int z0 w0.1 w0.2]; rfl
      · rw [at_one r1, Wd_of_int z1 w1.1 w1.2]; rfl
      · rw [at_one r2, Wd_of_int z2 w2.1 w2.2]; rfl
      · rw [at_one r3, Wd_of_int z3 w3.1 w3.2]; rfl
      · rw [at_one r4]; rfl
      · rw [at_one r5]; rfl
    · rw [List.getElem?_eq_none (by omega), List.getElem?_eq_none (by simp; omega)]
set_option maxRecDepth 100000 in
theorem open_rg {T : TypeId} (hT : (Tryd.prog.underlying T).map rg6Fs = some true) (hc : Tryd.prog.cellsOf T = 6) {v : Value} {d : DataW H} {p : List MemPlace} {r : Reach} {b0 : Nat} (hv : Value.okWide Tryd.prog w r b0 T v) (h : DataW.Trod enc Tryd.prog w base sp held T v d p) : ∃ r : Rg, v = rgV r := by
  obtain ⟨f0, f1, f2, f3, f4, f5, hu, _⟩ := rg6_of hT
  obtain ⟨cs, rfl, _⟩ := okWide_struct hu hv
  obtain ⟨fuel, hf⟩ := h
  obtain ⟨r, hr⟩ := open_rgc hT hc hf
  refine ⟨r, ?_⟩
  unfold rgV
  congr 1
  apply Array.ext'
  simpa [cellsOf, Value.cells] using hr
end
end Go.Proofs.YtilhkgbninbkkaaDoor
