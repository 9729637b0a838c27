/- Arguments opened: a turn of a signature. -/
import Derived.Test.YtneffelpdaigoaaDoorArr2
import Derived.Test.YtneffelpdaigoaaDoorLaw14
import Derived.Lib.SmallJoins
namespace Go.Proofs.YtneffelpdaigoaaDoor
open Go Go.ChangeShapes Go.WideShapes Go.ChangeAt Go.WideMaps Go.WideElems Go.RowKit Sha
def bentFs : TypeDesc → Bool
  | .struct fs => fs.toList.map (fun f => (f.type, f.offset)) == [(3, 0), (5, 1), (23, 2), (4, 34)]
  | _ => false
set_option maxRecDepth 100000 in
theorem und50 : ∃ f0 f1 f2 f3 : Field, Tryd.prog.underlying 50 = some (.struct #[f0, f1, f2, f3]) ∧ (f0.type = 3 ∧ f0.offset = 0) ∧ (f1.type = 5 ∧ f1.offset = 1) ∧ (f2.type = 23 ∧ f2.offset = 2) ∧ (f3.type = 4 ∧ f3.offset = 34) := by
  have h : (Tryd.prog.underlying 50).map bentFs = some true := by kernel_rfl
  cases e : Tryd.prog.underlying 50 with
  | none => rw [e] at h; cases h
  | some d =>
    rw [e] at h
    cases d with
    | struct fs =>
      obtain ⟨l⟩ := fs
      simp only [Option.map_some, Option.some.injEq, bentFs, beq_iff_eq] at h
      match l, h with
      | [f0, f1, f2, f3], h =>
        simp only [List.map_cons, List.map_nil, List.cons.injEq, Prod.mk.injEq, and_true] at h
        obtain ⟨h0, h1, h2, h3⟩ := h
        exact ⟨f0, f1, f2, f3, rfl, h0, h1, h2, h3⟩
    | _ => simp [bentFs] at h
theorem cof3 : Tryd.prog.cellsOf 3 = 1 := by kernel_rfl
theorem cof5c : Tryd.prog.cellsOf 5 = 1 := by kernel_rfl
theorem cof23 : Tryd.prog.cellsOf 23 = 32 := by kernel_rfl
theorem cof4 : Tryd.prog.cellsOf 4 = 1 := by kernel_rfl
theorem cof50 : Tryd.prog.cellsOf 50 = 35 := by kernel_rfl
theorem und3b : Tryd.prog.underlying 3 = some (.int .i64) := by kernel_rfl
theorem und4b : Tryd.prog.underlying 4 = some .bool := by kernel_rfl
section
variable {H : Type} {enc : TypeId × Value → H} {w : World} {base : Nat} {sp : Nat → Bool} {held : Bool}
theorem one_at {cs : List Value} {k : Nat} {v : Value} (h : (cs.drop k).take 1 = [v]) : cs[k]? = some v := by
  have := congrArg (fun l => l[0]?) h
  simpa using this
set_option maxRecDepth 100000 in
theorem open_bent {v : Value} {d : DataW H} {p : List MemPlace} {r : Reach} {b0 : Nat} (hv : Value.okWide Tryd.prog w r b0 50 v) (h : DataW.Trod enc Tryd.prog w base sp held 50 v d p) :
    ∃ (z : Int) (y : BitVec 8) (t : Nat → BitVec 8) (b : Bool), v = .agg (cellsOf (bentC z y t b) 35) := by
  obtain ⟨f0, f1, f2, f3, hu, ⟨t0, o0⟩, ⟨t1, o1⟩, ⟨t2, o2⟩, ⟨t3, o3⟩⟩ := und50
  obtain ⟨cs, rfl, hsz⟩ := okWide_struct hu hv
  obtain ⟨fuel, hf⟩ := h
  obtain ⟨y0, y1, y2, y3, n, _, hl, h0, h1, h2, h3⟩ := Go.Joins.trod_struct4 hu hf
  rw [t0, o0, cof3] at h0
  rw [t1, o1, cof5c] at h1
  rw [t2, o2, cof23] at h2
  rw [t3, o3, cof4] at h3
  obtain ⟨z, e0, _, _⟩ := DataW.trod_int und3b h0
  obtain ⟨k, e1, _, hw⟩ := DataW.trod_int und5 h1
  obtain ⟨t, e2⟩ := open_arr und23 cof23 h2
  obtain ⟨b, e3, _⟩ := DataW.trod_bool und4b h3
  have hb := bounds_u8 hw
  rw [By_of_int k hb.1 (by have := hb.2; omega)] at e1
  rw [cof50] at hsz
  refine ⟨z, BitVec.ofInt 8 k, t, b, ?_⟩
  congr 1
  obtain ⟨l⟩ := cs
  have hl35 : l.length = 35 := by simpa using hsz
  simp only [Value.cells] at e0 e1 e2 e3
  apply Array.ext_getElem?
  intro j
  by_cases hj : j < 35
  · rw [get_cellsOf _ _ _ hj]
    rw [List.getElem?_toArray]
    unfold bentC
    by_cases c0 : j = 0
    · subst c0; rw [if_pos rfl]; exact one_at e0
    · rw [if_neg c0]
      by_cases c1 : j = 1
      · subst c1; rw [if_pos rfl]; exact one_at e1
      · rw [if_neg c1]
        by_cases c2 : j < 34
        · rw [if_pos c2]
          have := congrArg (fun l => l[j - 2]?) e2
          simp only [List.getElem?_take, List.getElem?_drop, List.getElem?_map] at this
          rw [if_pos (by omega), show 2 + (j - 2) = j from by omega, List.getElem?_range (by omega)] at this
          exact this
        · obtain rfl : j = 34 := by omega
          rw [if_neg c2]; exact one_at e3
  · rw [List.getElem?_toArray, List.getElem?_eq_none (by omega)]
    have : (cellsOf (bentC z (BitVec.ofInt 8 k) t b) 35).size ≤ j := by rw [size_cellsOf]; omega
    rw [Array.getElem?_eq_none this]
end
end Go.Proofs.YtneffelpdaigoaaDoor
