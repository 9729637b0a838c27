/- Maps' sums: of the same entries, in whatever order, they are the same. TipstaffMaps: six maps beside each other, and what was put into them. -/
import Derived.Test.YtjdclgnlnehjlaaDoorMgTm0
namespace Go.Proofs.YtjdclgnlnehjlaaDoor
open Go Go.RowKit
def kv (v : Nat) (e : Me) : ByteArray × ByteArray := (e.k, strOf e.v v)
theorem sum_perm {m1 m2 : Mp} {E1 E2 : Nat → Me} {n : Nat} (n1 : m1.n = n) (n2 : m2.n = n) (et : m2.ty = m1.ty) (ek : m2.key = m1.key) (ev : m2.val = m1.val) (ee : m2.ent = m1.ent)
    (o1 : Ord n m1.E E1) (o2 : Ord n m2.E E2) (hp : ((List.range n).map (fun i => kv m1.val (m1.E i))).Perm ((List.range n).map (fun i => kv m1.val (m2.E i)))) (hd : ∀ i j, i < n → j < n → (m1.E i).k = (m1.E j).k → i = j) : sumD m1 E1 = sumD m2 E2 := by
  have mp : ∀ E : Nat → Me, (List.range n).map (fun i => kv m1.val (E i)) = ((List.range n).map E).map (kv m1.val) := fun E => by rw [List.map_map]; rfl
  have p1 : ((List.range n).map (fun i => kv m1.val (E1 i))).Perm ((List.range n).map (fun i => kv m1.val (m1.E i))) := by rw [mp, mp]; exact o1.perm.map _
  have p2 : ((List.range n).map (fun i => kv m1.val (E2 i))).Perm ((List.range n).map (fun i => kv m1.val (m2.E i))) := by rw [mp, mp]; exact o2.perm.map _
  have srt : ∀ (E E' : Nat → Me), Ord n E E' → ((List.range n).map (fun i => kv m1.val (E' i))).Pairwise (fun x y => decide (Lib.compareBytes y.1.data.toList x.1.data.toList < 0) = false) := fun E E' o => by
    rw [mp, List.pairwise_map]
    exact o.sorted
  have e := perm_sorted_eq _ _ _ (p1.trans (hp.trans p2.symm)) (srt _ _ o1) (srt _ _ o2) (fun x hx y hy h1 h2 => by
    have hk := anti_text (fun z : ByteArray × ByteArray => z.1) x y h1 h2
    obtain ⟨i, hi, rfl⟩ := List.mem_map.1 (p1.mem_iff.1 hx)
    obtain ⟨j, hj, rfl⟩ := List.mem_map.1 (p1.mem_iff.1 hy)
    rw [hd i j (List.mem_range.1 hi) (List.mem_range.1 hj) hk])
  have each : ∀ i, i < n → kv m1.val (E1 i) = kv m1.val (E2 i) := fun i hi => by
    have h := congrArg (fun l => l[i]?) e
    simp only [List.getElem?_map, List.getElem?_range hi, Option.map_some, Option.some.injEq] at h
    exact h
  unfold sumD
  rw [n1, n2]
  refine joinD_congr _ (fun j hj => ?_)
  show ptN m1 E1 j = ptN m2 E2 j ∧ ∀ i, i < ptN m1 E1 j → ptD m1 E1 j i = ptD m2 E2 j i
  unfold ptN ptD
  by_cases j0 : j = 0
  · rw [if_pos j0, if_pos j0, if_pos j0, if_pos j0, et, ek, ev, ee]
    exact ⟨rfl, fun _ _ => rfl⟩
  · rw [if_neg j0, if_neg j0, if_neg j0, if_neg j0]
    by_cases j1 : j % 2 = 1
    · rw [if_pos j1, if_pos j1, if_pos j1, if_pos j1]
      have hk := congrArg Prod.fst (each ((j - 1) / 2) (by omega))
      have hk : (E1 ((j - 1) / 2)).k = (E2 ((j - 1) / 2)).k := hk
      rw [hk]
      exact ⟨rfl, fun _ _ => rfl⟩
    · rw [if_neg j1, if_neg j1, if_neg j1, if_neg j1, ev]
      have hv := congrArg Prod.snd (each ((j - 2) / 2) (by omega))
      exact ⟨rfl, fun i hi => strOf_inj hv i hi⟩
section
variable {m m1 m2 : Mp} {ty N : Nat} {th : Nat → Bool} {V : Nat → Nat → BitVec 8} {w w2 : World} {E1 E2 : Nat → Me} {κ κ1 κ2 : Nat → Nat}
end
end Go.Proofs.YtjdclgnlnehjlaaDoor
namespace Go.Proofs.YtjdclgnlnehjlaaDoor
open Go Go.RowKit
section
variable {w wr w2 : World} {N M wb : Nat} {B : Nat → Nat} {TH : Nat → Nat → Bool} {VV : Nat → Nat → Nat → BitVec 8} {rows : Nat → Option Nat} {V : Nat → Nat → BitVec 8} {Mf : Nat → Mp}
end
end Go.Proofs.YtjdclgnlnehjlaaDoor
