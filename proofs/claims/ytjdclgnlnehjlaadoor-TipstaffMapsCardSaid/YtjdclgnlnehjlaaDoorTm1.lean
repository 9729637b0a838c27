/- Maps' sums: of the same entries, in whatever order, they are the same. -/
import Derived.Test.YtjdclgnlnehjlaaDoorTm0
namespace Go.Proofs.YtjdclgnlnehjlaaDoor
open Go Go.RowKit
def kv (v : Nat) (e : Me) : ByteArray × ByteArray := (e.k, strOf e.v v)
theorem sum_perm {m1 m2 : Mp} {E1 E2 : Nat → Me} {n : Nat} (n1 : m1.n = n) (n2 : m2.n = n) (et : m2.ty = m1.ty) (ek : m2.key = m1.key) (ev : m2.val = m1.val) (ee : m2.ent = m1.ent)
    (o1 : Ord n m1.E E1) (o2 : Ord n m2.E E2) (hp : ((List.range n).map (fun i => kv m1.val (m1.E i))).Perm ((List.range n).map (fun i => kv m1.val (m2.E i)))) (hd : ∀ i j, i < n → j < n → (m1.E i).k = (m1.E j).k → i = j) : sumD m1 E1 = sumD m2 E2 := by
  have mp : ∀ E : Nat → Me, (List.range n).map (fun i => kv m1.val (E i)) = ((List.range n).map E).map (kv m1.val) := fun E => by rw [List.map_map]; rfl
  have p1 : ((List.range n).map (fun i => kv m1.val (E1 i))).Perm ((List.range n).map (fun i => kv m1.val (m1.E i))) := by rw [mp, mp]; exact o1.perm.map _
  have p2 : ((List.range n).map (fun i => kv m1.val (E2 i))).Perm ((List.range n).map (fun i => kv m1.val (m2.E i))) := by rw [mp, mp]; exact o2.perm.map _
  have srt : ∀ (E E' : Nat → Me), Ord n E E' → ((List.range n).map (fun i => kv m1.val (E' i))).Pairwise (fun x y => decide (Lib.compareBytes y.1.data.toList x.1.data.toList < 0) = false) := fun E E' o => by
    rw [mp, List.pairwise_map]
    exact o.sorted
  have e := perm_sorted_eq _ _ _ (p1.trans (hp.trans p2.symm)) (srt _ _ o1) (srt _ _ o2) (fun x hx y hy h1 h2 => by
    have hk := anti_text (fun z : ByteArray × ByteArray => z.1) x y h1 h2
    obtain ⟨i, hi, rfl⟩ := List.mem_map.1 (p1.mem_iff.1 hx)
    obtain ⟨j, hj, rfl⟩ := List.mem_map.1 (p1.mem_iff.1 hy)
    rw [hd i j (List.mem_range.1 hi) (List.mem_range.1 hj) hk])
  have each : ∀ i, i < n → kv m1.val (E1 i) = kv m1.val (E2 i) := fun i hi => by
    have h := congrArg (fun l => l[i]?) e
    simp only [List.getElem?_map, List.getElem?_range hi, Option.map_some, Option.some.injEq] at h
    exact h
  unfold sumD
  rw [n1, n2]
  refine joinD_congr _ (fun j hj => ?_)
  show ptN m1 E1 j = ptN m2 E2 j ∧ ∀ i, i < ptN m1 E1 j → ptD m1 E1 j i = ptD m2 E2 j i
  unfold ptN ptD
  by_cases j0 : j = 0
  · rw [if_pos j0, if_pos j0, if_pos j0, if_pos j0, et, ek, ev, ee]
    exact ⟨rfl, fun _ _ => rfl⟩
  · rw [if_neg j0, if_neg j0, if_neg j0, if_neg j0]
    by_cases j1 : j % 2 = 1
    · rw [if_pos j1, if_pos j1, if_pos j1, if_pos j1]
      have hk := congrArg Prod.fst (each ((j - 1) / 2) (by omega))
      have hk : (E1 ((j - 1) / 2)).k = (E2 ((j - 1) / 2)).k := hk
      rw [hk]
      exact ⟨rfl, fun _ _ => rfl⟩
    · rw [if_neg j1, if_neg j1, if_neg j1, if_neg j1, ev]
      have hv := congrArg Prod.snd (each ((j - 2) / 2) (by omega))
      exact ⟨rfl, fun i hi => strOf_inj hv i hi⟩
section
variable {m m1 m2 : Mp} {ty N : Nat} {th : Nat → Bool} {V : Nat → Nat → BitVec 8} {w w2 : World} {E1 E2 : Nat → Me} {κ κ1 κ2 : Nat → Nat}
theorem Ent8.list {n : Nat} {E : Nat → Me} (h : Ent8 n E κ th V) : (List.range n).map (fun i => kv 2 (E i)) = ((List.range n).map κ).map (fun x => (key4 x, strOf (V x) 2)) := by
  rw [List.map_map]
  refine List.map_congr_left (fun i hi => ?_)
  have hi := List.mem_range.1 hi
  show (_, _) = (_, _)
  rw [h.k i hi, strOf_congr (h.v i hi)]
theorem Ent8.nodup {n : Nat} {E : Nat → Me} (h : Ent8 n E κ th V) : ((List.range n).map κ).Nodup := by
  rw [List.nodup_iff_pairwise_ne, List.pairwise_map]
  refine List.Pairwise.imp_of_mem (fun {i j} hi hj hne => fun e => hne (h.inj i j (List.mem_range.1 hi) (List.mem_range.1 hj) e)) (List.nodup_iff_pairwise_ne.1 List.nodup_range)
theorem Ent8.mem {n : Nat} {E : Nat → Me} (h : Ent8 n E κ th V) (x : Nat) : x ∈ (List.range n).map κ ↔ x < 8 ∧ th x = true := by
  rw [List.mem_map]
  constructor
  · rintro ⟨i, hi, rfl⟩
    exact ⟨h.lt i (List.mem_range.1 hi), h.tt i (List.mem_range.1 hi)⟩
  · rintro ⟨h1, h2⟩
    obtain ⟨i, hi, e⟩ := h.sur x h1 h2
    exact ⟨i, List.mem_range.2 hi, e⟩
theorem MH_sum (h1 : MH ty m1 th V w) (h2 : MH ty m2 th V w2) (o1 : Ordd m1 E1) (o2 : Ordd m2 E2) : sumD m1 E1 = sumD m2 E2 := by
  obtain ⟨κ1, e1⟩ := h1.es
  obtain ⟨κ2, e2⟩ := h2.es
  have hp : ((List.range m1.n).map κ1).Perm ((List.range m2.n).map κ2) := (List.perm_ext_iff_of_nodup e1.nodup e2.nodup).2 (fun x => by rw [e1.mem, e2.mem])
  have hn : m2.n = m1.n := by have := hp.length_eq; simpa using this.symm
  have l1 : m1.ty ≠ 3 ∧ m1.ty ≠ 4 := by have := h1.ety; have := h1.t2; omega
  have l2 : m2.ty ≠ 3 ∧ m2.ty ≠ 4 := by have := h2.ety; have := h2.t2; omega
  have o2' := o2.1 l2
  rw [hn] at o2' hp
  refine sum_perm rfl hn (by rw [h1.ety, h2.ety]) (by rw [h1.ekey, h2.ekey]) (by rw [h1.eval, h2.eval]) (by rw [h1.eent, h2.eent]) (o1.1 l1) o2' ?_ (fun i j hi hj e => ?_)
  · rw [hn] at e2
    rw [h1.eval, e1.list, e2.list]
    exact hp.map _
  · rw [e1.k i hi, e1.k j hj] at e
    exact e1.inj i j hi hj (key4_inj (by have := e1.lt i hi; omega) (by have := e1.lt j hj; omega) e)
theorem MH.ok (h : MH ty m th V w) : SumOk m := by
  obtain ⟨κ, e⟩ := h.es
  refine ⟨by have := h.ety; have := h.t2; omega, by rw [h.ekey]; omega, by rw [h.eval]; omega, by rw [h.eval]; omega, by rw [h.eent]; omega, by have := e.le; omega, fun i hi => ?_⟩
  rw [e.k i hi]
  unfold key4
  rw [strOf_size]; omega
end
end Go.Proofs.YtjdclgnlnehjlaaDoor
