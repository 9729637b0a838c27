/- What the lifted proofs over two ranges, a number of each and a comparison share: what is asked, as it was read. -/
import Derived.Test.YtmdcopmgkhjfnaaArgK
import Derived.Test.YtmdcopmgkhjfnaaBX0
namespace Go.Proofs.Ytmdcopmgkhjfnaa
open Go Go.ChangeShapes Go.WideShapes Go.ChangeAt Go.WideMaps Go.WideElems Go.RowKit
section
variable {H : Type} {enc : TypeId × Value → H} {w : World} {base : Nat} {sp : Nat → Bool} {held : Bool}
set_option maxRecDepth 100000 in
theorem open_ce {v : Value} {d : DataW H} {p : List MemPlace} {r : Reach} {b0 : Nat} (hv : Value.okWide Try.prog w r b0 58 v) (h : DataW.Trod enc Try.prog w base sp held 58 v d p) :
    ∃ (p0 : Option Addr) (n0 c0 : Nat) (p1 : Option Addr) (n1 c1 : Nat) (z0 z1 : Int) (u0 u1 : W) (op : Int) (l : Bool) (Z0 Z1 : Nat → W), v = .agg (cellsOf (ceC ⟨p0, n0, c0, p1, n1, c1, z0, z1, u0, u1, op, l⟩) 8) ∧ n0 ≤ c0 ∧ n1 ≤ c1 ∧ Ats w p0 n0 (fun j => Q (Z0 j)) ∧ Ats w p1 n1 (fun j => Q (Z1 j)) := by
  obtain ⟨fs, hu, hl⟩ := flds_of (T := 58) (l := [(27, 0), (27, 1), (28, 2), (23, 4), (3, 6), (4, 7)]) (by kernel_rfl)
  obtain ⟨cs, rfl, _⟩ := okWide_struct hu hv
  obtain ⟨fuel, hf⟩ := h
  have hlen := trod_len hu hf
  rw [show Try.prog.cellsOf 58 = 8 by kernel_rfl] at hlen
  obtain ⟨y0, m0, e0⟩ := trod_fld hu hl hf 0 _ _ rfl
  obtain ⟨y1, m1, e1⟩ := trod_fld hu hl hf 1 _ _ rfl
  obtain ⟨y2, m2, e2⟩ := trod_fld hu hl hf 2 _ _ rfl
  obtain ⟨y3, m3, e3⟩ := trod_fld hu hl hf 3 _ _ rfl
  obtain ⟨y4, m4, e4⟩ := trod_fld hu hl hf 4 _ _ rfl
  obtain ⟨y5, m5, e5⟩ := trod_fld hu hl hf 5 _ _ rfl
  have k2 : Try.prog.cellsOf 28 = 2 := by kernel_rfl
  have k3 : Try.prog.cellsOf 23 = 2 := by kernel_rfl
  have k5 : Try.prog.cellsOf 4 = 1 := by kernel_rfl
  rw [cofSQ] at e0 e1
  rw [cofI1] at e4
  rw [k5] at e5
  obtain ⟨I, hI⟩ := open_iarrN (show Try.prog.underlying 28 = some (.array 2 3) by kernel_rfl) k2 e2
  obtain ⟨D, hD⟩ := open_warr (show Try.prog.underlying 23 = some (.array 2 22) by kernel_rfl) k3 e3
  obtain ⟨z4, r4, _, _⟩ := DataW.trod_int (show Try.prog.underlying 3 = some (.int .i64) by kernel_rfl) e4
  obtain ⟨b5, r5, _⟩ := DataW.trod_bool (show Try.prog.underlying 4 = some .bool by kernel_rfl) e5
  rw [k2] at hI
  rw [k3] at hD
  generalize hcs : (Value.agg cs).cells.toList = l at *
  match l, hlen with
  | [c0, c1, c2, c3, c4, c5, c6, c7], _ =>
    obtain ⟨p0, n0, a0, Z0, h0, l0, _, A0⟩ := open_words (v := c0) (by simpa using e0)
    obtain ⟨p1, n1, a1, Z1, h1, l1, _, A1⟩ := open_words (v := c1) (by simpa using e1)
    refine ⟨p0, n0, a0, p1, n1, a1, I 0, I 1, D 0, D 1, z4, b5, Z0, Z1, ?_, l0, l1, A0, A1⟩
    have i0 := at_rowN hI (j := 0) (by omega); have i1 := at_rowN hI (j := 1) (by omega)
    have d0 := at_rowN hD (j := 0) (by omega); have d1 := at_rowN hD (j := 1) (by omega)
    have g4 := at_oneN r4; have g5 := at_oneN r5
    simp at i0 i1 d0 d1 g4 g5
    subst h0 h1 i0 i1 d0 d1 g4 g5
    congr 1
    apply Array.ext'
    rw [show (Value.agg cs).cells = cs from rfl] at hcs
    rw [hcs]
    rfl
end
end Go.Proofs.Ytmdcopmgkhjfnaa
