/- What all rows of the seat share: the package's tables as the row's condition gives them. -/
import Derived.Test.YtjdclgnlnehjlaaDoorRows
import Derived.Test.YtjdclgnlnehjlaaDoorDig1
import Derived.WalkKit
import Derived.ProofKit
import Derived.OpenShut
import Derived.LaidMore
import Derived.Stop.Joined
import Derived.Deep.Slices
namespace Go.Proofs.YtjdclgnlnehjlaaDoor
open Go Go.ChangeShapes Go.WideShapes Go.ChangeAt Go.WideMaps Go.WideElems Go.RowKit Sha
theorem own : ownKnob Tryd.prog.godebug = none := by kernel_rfl
theorem laidOut : laidOutB Tryd.prog = true := by kernel_rfl
def laid2 : List (String × DataW Unit) := [("tipstaff/digest.beginnings", Rows.laid_tipstaff_digest_beginnings), ("tipstaff/digest.constants", Rows.laid_tipstaff_digest_constants)]
theorem gH : Tryd.prog.globalNamed "tipstaff/digest.beginnings" = some 0 := by kernel_rfl
theorem gK : Tryd.prog.globalNamed "tipstaff/digest.constants" = some 2 := by kernel_rfl
theorem tH : (Tryd.prog.globals[0]?).map (·.type) = some 109 := by kernel_rfl
theorem tK : (Tryd.prog.globals[2]?).map (·.type) = some 140 := by kernel_rfl
theorem und35 : Tryd.prog.underlying 108 = some (.int .u32) := by kernel_rfl
theorem cof35 : Tryd.prog.cellsOf 108 = 1 := by kernel_rfl
/-- The door's own heap meets the condition. -/
theorem door_met (os : Os) (args : Array Value) : laidMetH Tryd.prog laid2 ((World.doorLaid Tryd.prog 400 os).forCall (fun _ _ => 0) ⟨#[], args, []⟩).memory :=
  laidMetH_of_parts3 (fuel := 8) (laidMet_of_run' 8 (by kernel_rfl) (by kernel_rfl)) (by kernel_rfl) (by kernel_rfl)
theorem cells_of_laid {H : Type} {enc : TypeId × Value → H} {P : Program} {w : World} {base : Nat} {sp : Nat → Bool} {held : Bool} {fuel t e n : Nat} {cs : List Value} {L : List Int} {q : List MemPlace}
    (ht : P.underlying t = some (.array n e)) (he : P.underlying e = some (.int .u32)) (hc : P.cellsOf e = 1)
    (h : DataW.trod enc P w base sp held fuel t cs = some (.agg (L.map fun z => .lit (.int .u32 z)), q)) (hct : P.cellsOf t = n) : cs = L.map fun z => .int .u32 z := by
  obtain ⟨xs, m, rfl, hx, hlen, hn, hel⟩ := DataW.trod_array ht h
  simp only [Prod.mk.injEq, DataW.agg.injEq] at hx
  have hLn : L.length = n := by
    have := congrArg List.length hx.1
    simp only [List.length_map] at this
    omega
  rw [hct] at hlen
  apply List.ext_getElem?
  intro i
  by_cases hi : i < n
  · have h0 := hel i hi
    rw [hc, Nat.mul_one] at h0
    have hxi : xs[i]? = some xs[i] := List.getElem?_eq_getElem (by omega)
    rw [hxi] at h0
    obtain ⟨k, e1, e2, _⟩ := DataW.trod_int he h0
    have h1 := congrArg (fun l => l[i]?) hx.1
    simp only [List.getElem?_map, hxi, e2, Option.map_some] at h1
    have hLi : L[i]? = some L[i] := List.getElem?_eq_getElem (by omega)
    rw [hLi] at h1
    simp only [Option.map_some, Option.some.injEq, DataW.lit.injEq, Lit.int.injEq, true_and] at h1
    rw [List.getElem?_map, hLi, Option.map_some, h1]
    have hci : cs[i]? = some cs[i] := List.getElem?_eq_getElem (by omega)
    have : (cs.drop i).take 1 = [cs[i]] := by
      rw [List.drop_eq_getElem_cons (by omega)]; rfl
    rw [this] at e1
    rw [hci]
    simpa using e1
  · rw [List.getElem?_eq_none (by omega), List.getElem?_eq_none (by simp; omega)]
theorem of_laid {W : World} (h : laidMetH Tryd.prog laid2 W) : Tabs W := by
  rw [MakeChecks.laidMetH_plain _ _ _ (by kernel_rfl)] at h
  obtain ⟨ps, ⟨g0, t0, cs0, f0, p0, q0, hg0, ht0, hv0, hd0, ⟨g1, t1, cs1, f1, p1, q1, hg1, ht1, hv1, hd1, _, _⟩, _⟩, _, _⟩ := h
  obtain rfl := Option.some.inj (gH.symm.trans hg0)
  obtain rfl := Option.some.inj (gK.symm.trans hg1)
  obtain rfl := Option.some.inj (tH.symm.trans ht0)
  obtain rfl := Option.some.inj (tK.symm.trans ht1)
  have a0 := cells_of_laid (L := hL.map Int.ofNat) und37 und35 cof35 hd0 (by kernel_rfl)
  have a1 := cells_of_laid (L := kL.map Int.ofNat) und36 und35 cof35 hd1 (by kernel_rfl)
  have blockOf : ∀ (g : Nat) (n : String) (cs : Array Value), Tryd.prog.globalNamed n = some g → W.var? Tryd.prog n = some cs → ∃ T fr, W.heap[g]? = some (.cells cs T fr) := fun g n cs hg hv => by
    unfold World.var? at hv
    rw [hg] at hv
    simp only [Option.bind_some] at hv
    split at hv
    · rename_i cs' T fr heq
      obtain rfl : cs' = cs := by simpa using hv
      exact ⟨T, fr, heq⟩
    · cases hv
  obtain ⟨T0, fr0, b0⟩ := blockOf _ _ _ hg0 hv0
  obtain ⟨T1, fr1, b1⟩ := blockOf _ _ _ hg1 hv1
  refine ⟨⟨T0, fr0, ?_⟩, ⟨T1, fr1, ?_⟩⟩
  · rw [b0]
    have : cs0 = cellsOf (fun j => U (Hc j)) 8 := by
      apply Array.ext'; rw [a0]; rfl
    rw [this]
  · rw [b1]
    have : cs1 = cellsOf (fun j => U (Kc j)) 64 := by
      apply Array.ext'; rw [a1]; rfl
    rw [this]
end Go.Proofs.YtjdclgnlnehjlaaDoor
