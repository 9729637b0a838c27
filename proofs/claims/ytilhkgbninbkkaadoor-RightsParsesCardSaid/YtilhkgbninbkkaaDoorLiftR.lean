/- What the rows of rights and tokens share: the tables as a row's condition gives them. -/
import Derived.Test.YtilhkgbninbkkaaDoorRows
import Derived.Test.YtilhkgbninbkkaaDoorRi6
import Derived.WalkKit
import Derived.ProofKit
import Derived.OpenShut
import Derived.LaidMore
import Derived.Stop.Joined
import Derived.Deep.Slices
namespace Go.Proofs.YtilhkgbninbkkaaDoor
open Go Go.ChangeShapes Go.WideShapes Go.ChangeAt Go.WideMaps Go.WideElems Go.RowKit
theorem own : ownKnob Tryd.prog.godebug = none := by kernel_rfl
theorem laidOut : laidOutB Tryd.prog = true := by kernel_rfl
theorem row_of_laid {H : Type} {enc : TypeId × Value → H} {P : Program} {w : World} {base : Nat} {sp : Nat → Bool} {held : Bool} {fuel t e n : Nat} {cs : List Value} {k : IntKind} {L : List Int} {q : List MemPlace}
    (ht : P.underlying t = some (.array n e)) (he : P.underlying e = some (.int k)) (hc : P.cellsOf e = 1) (hct : P.cellsOf t = n)
    (h : DataW.trod enc P w base sp held fuel t cs = some (.agg (L.map fun z => .lit (.int k z)), q)) : cs = L.map fun z => .int k z := by
  obtain ⟨xs, m, rfl, hx, hlen, hn, hel⟩ := DataW.trod_array ht h
  simp only [Prod.mk.injEq, DataW.agg.injEq] at hx
  have hLn : L.length = n := by
    have := congrArg List.length hx.1
    simp only [List.length_map] at this
    omega
  rw [hct] at hlen
  apply List.ext_getElem?
  intro i
  by_cases hi : i < n
  · have h0 := hel i hi
    rw [hc, Nat.mul_one] at h0
    have hxi : xs[i]? = some xs[i] := List.getElem?_eq_getElem (by omega)
    rw [hxi] at h0
    obtain ⟨k', e1, e2, _⟩ := DataW.trod_int he h0
    have h1 := congrArg (fun l => l[i]?) hx.1
    simp only [List.getElem?_map, hxi, e2, Option.map_some] at h1
    have hLi : L[i]? = some L[i] := List.getElem?_eq_getElem (by omega)
    rw [hLi] at h1
    simp only [Option.map_some, Option.some.injEq, DataW.lit.injEq, Lit.int.injEq, true_and] at h1
    rw [List.getElem?_map, hLi, Option.map_some, h1]
    have hci : cs[i]? = some cs[i] := List.getElem?_eq_getElem (by omega)
    have : (cs.drop i).take 1 = [cs[i]] := by
      rw [List.drop_eq_getElem_cons (by omega)]; rfl
    rw [this] at e1
    rw [hci]
    simpa using e1
  · rw [List.getElem?_eq_none (by omega), List.getElem?_eq_none (by simp; omega)]
theorem block_of_var {W : World} {P : Program} (g : Nat) (n : String) (cs : Array Value) (hg : P.globalNamed n = some g) (hv : W.var? P n = some cs) : ∃ T fr, W.heap[g]? = some (.cells cs T fr) := by
  unfold World.var? at hv
  rw [hg] at hv
  simp only [Option.bind_some] at hv
  split at hv
  · rename_i cs' T fr heq
    obtain rfl : cs' = cs := by simpa using hv
    exact ⟨T, fr, heq⟩
  · cases hv
def hpL : List Int := [1, 2, 3, 5, 7, 87, 88, 89]
theorem gHp : Tryd.prog.globalNamed "tipstaff/rights.helpers" = some 0 := by kernel_rfl
theorem tHp : (Tryd.prog.globals[0]?).map (·.type) = some 90 := by kernel_rfl
theorem und8A : Tryd.prog.underlying 90 = some (.array 8 21) := by kernel_rfl
theorem und32 : Tryd.prog.underlying 21 = some (.int .i32) := by kernel_rfl
theorem cofI32 : Tryd.prog.cellsOf 21 = 1 := by kernel_rfl
theorem hp_of {W : World} {H : Type} {enc : TypeId × Value → H} {base : Nat} {sp : Nat → Bool} {held : Bool} {fuel g t : Nat} {cs : Array Value} {q : List MemPlace} (hg : Tryd.prog.globalNamed "tipstaff/rights.helpers" = some g) (ht : (Tryd.prog.globals[g]?).map (·.type) = some t) (hv : W.var? Tryd.prog "tipstaff/rights.helpers" = some cs)
    (hd : DataW.trod enc Tryd.prog W base sp held fuel t cs.toList = some (Rows.laid_tipstaff_rights_helpers, q)) : Hp W := by
  obtain rfl := Option.some.inj (gHp.symm.trans hg)
  obtain rfl := Option.some.inj (tHp.symm.trans ht)
  have a0 := row_of_laid (L := hpL) und8A und32 cofI32 (by kernel_rfl) hd
  obtain ⟨T, fr, b⟩ := block_of_var _ _ _ hg hv
  refine ⟨T, fr, ?_⟩
  rw [b]
  have : cs = cellsOf (fun j => .int .i32 (hpN j)) 8 := by
    apply Array.ext'; rw [a0]; rfl
  rw [this]
def dbL : List Int := [0, 1, 56, 2, 57, 49, 28, 3, 61, 58, 42, 50, 38, 29, 17, 4, 62, 47, 59, 36, 45, 43, 51, 22, 53, 39, 33, 30, 24, 18, 12, 5, 63, 55, 48, 27, 60, 41, 37, 16, 46, 35, 44, 21, 52, 32, 23, 11, 54, 26, 40, 15, 34, 20, 31, 10, 25, 14, 19, 9, 13, 8, 7, 6]
theorem gDb : Tryd.prog.globalNamed "math/bits.deBruijn64tab" = some 8 := by kernel_rfl
theorem tDb : (Tryd.prog.globals[8]?).map (·.type) = some 119 := by kernel_rfl
theorem und64A : Tryd.prog.underlying 119 = some (.array 64 5) := by kernel_rfl
theorem cofU8 : Tryd.prog.cellsOf 5 = 1 := by kernel_rfl
theorem db_of {W : World} {H : Type} {enc : TypeId × Value → H} {base : Nat} {sp : Nat → Bool} {held : Bool} {fuel g t : Nat} {cs : Array Value} {q : List MemPlace} (hg : Tryd.prog.globalNamed "math/bits.deBruijn64tab" = some g) (ht : (Tryd.prog.globals[g]?).map (·.type) = some t) (hv : W.var? Tryd.prog "math/bits.deBruijn64tab" = some cs)
    (hd : DataW.trod enc Tryd.prog W base sp held fuel t cs.toList = some (Rows.laid_math_bits_deBruijn64tab, q)) : Db W := by
  obtain rfl := Option.some.inj (gDb.symm.trans hg)
  obtain rfl := Option.some.inj (tDb.symm.trans ht)
  have a0 := row_of_laid (L := dbL) und64A undBy cofU8 (by kernel_rfl) hd
  obtain ⟨T, fr, b⟩ := block_of_var _ _ _ hg hv
  unfold Db
  rw [cell_of_row W _ _ cs T fr b]
  have : cs = (dbL.map fun z => Value.int .u8 z).toArray := by
    apply Array.ext'; rw [a0]
  rw [this]
  rfl
end Go.Proofs.YtilhkgbninbkkaaDoor
