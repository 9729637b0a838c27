/- TipstaffMaps: a map's sum as one value; new maps; six of them. Hex of digest. The known text's sum. stands of the laws through the layers. -/
import Derived.Test.YtjdclgnlnehjlaaDoorMgTm2
import Derived.Test.YtjdclgnlnehjlaaDoorMgPotB
import Derived.Test.YtjdclgnlnehjlaaDoorOw
import Derived.Test.YtjdclgnlnehjlaaDoorInns
import Derived.Lib.SlBytesConst
namespace Go.Proofs.YtjdclgnlnehjlaaDoor
open Go Go.RowKit Go.Sort
def leMe (x y : Me) : Bool := !(decide (Lib.compareBytes y.k.data.toList x.k.data.toList < 0))
theorem leMe_trans (a b c : Me) (h1 : leMe a b = true) (h2 : leMe b c = true) : leMe a c = true := by
  unfold leMe at *
  have := (swo_text (fun e : Me => e.k)).ntrans c b a (by simpa using h2) (by simpa using h1)
  simpa using this
theorem leMe_total (a b : Me) : (leMe a b || leMe b a) = true := by
  cases h1 : leMe a b with
  | true => rfl
  | false =>
    cases h2 : leMe b a with
    | true => rfl
    | false =>
      unfold leMe at h1 h2
      have := (swo_text (fun e : Me => e.k)).trans a b a (by simpa using h2) (by simpa using h1)
      rw [(swo_text (fun e : Me => e.k)).irrefl a] at this
      cases this
/-- A map's entries by their keys, one such row. -/
def canL (m : Mp) : List Me := ((List.range m.n).map m.E).mergeSort leMe
def can (m : Mp) : Nat → Me := fun i => (canL m)[i]?.getD default
theorem canL_len (m : Mp) : (canL m).length = m.n := by unfold canL; rw [List.length_mergeSort]; simp
theorem can_list (m : Mp) : (List.range m.n).map (can m) = canL m := by
  apply List.ext_getElem?
  intro i
  by_cases hi : i < m.n
  · rw [List.getElem?_map, List.getElem?_range hi, Option.map_some]
    unfold can
    rw [List.getElem?_eq_getElem (by rw [canL_len]; exact hi)]
    rfl
  · rw [List.getElem?_eq_none (by simp; omega), List.getElem?_eq_none (by rw [canL_len]; omega)]
theorem can_ord (m : Mp) (h : m.ty ≠ 3 ∧ m.ty ≠ 4) : Ordd m (can m) := by
  refine ⟨fun _ => ⟨?_, ?_⟩, fun hl => absurd hl (by omega)⟩
  · rw [can_list]; exact List.mergeSort_perm _ _
  · rw [can_list]
    have := List.pairwise_mergeSort (le := leMe) leMe_trans leMe_total ((List.range m.n).map m.E)
    refine List.Pairwise.imp (fun {a b} h => ?_) this
    unfold leMe at h
    simpa using h
section
variable {m m1 m2 : Mp} {ty N : Nat} {th : Nat → Bool} {V : Nat → Nat → BitVec 8} {w w2 : World}
end
section
variable {w wr w2 w3 w4 w5 : World} {N M M2 c : Nat} {Mf : Nat → Mp} {ma mb : Mp}
end
end Go.Proofs.YtjdclgnlnehjlaaDoor
namespace Go.Proofs.YtjdclgnlnehjlaaDoor
open Go Go.RowKit Sha
end Go.Proofs.YtjdclgnlnehjlaaDoor
namespace Go.Proofs.YtjdclgnlnehjlaaDoor
open Go Go.RowKit Sha
end Go.Proofs.YtjdclgnlnehjlaaDoor
namespace Go.Proofs.YtjdclgnlnehjlaaDoor
open Go Go.RowKit Sha
end Go.Proofs.YtjdclgnlnehjlaaDoor
