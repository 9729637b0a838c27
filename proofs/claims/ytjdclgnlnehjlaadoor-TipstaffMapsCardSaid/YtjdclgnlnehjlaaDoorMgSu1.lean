/- A map's entries, sorted by their keys: slices.SortFunc in plain words. A map's entries, sorted by their keys: slices.SortFunc in plain words. -/
import Derived.Test.YtjdclgnlnehjlaaDoorBm1
import Derived.Test.YtjdclgnlnehjlaaDoorSrt
import Derived.Test.YtjdclgnlnehjlaaDoorShs
import Derived.Shelf.SlSortCmp.InsertionK
import Derived.Shelf.SlSortCmp.WholeK
namespace Go.Proofs.YtjdclgnlnehjlaaDoor
open Go Go.RowKit Go.Sort Go.Proofs
instance : Inhabited Me := ⟨⟨⟨#[]⟩, 0, 0, fun _ => 0⟩⟩
def encMe (e : Me) : List Value := [.string e.k, .pointer (some ⟨e.c, 0, none⟩)]
def rowMe (E : Nat → Me) (n : Nat) : Array Me := ((List.range n).map E).toArray
theorem rowMe_size (E : Nat → Me) (n : Nat) : (rowMe E n).size = n := by simp [rowMe]
theorem rowMe_at (E : Nat → Me) (n i : Nat) (hi : i < n) : (rowMe E n)[i]! = E i := by
  rw [getElem!_pos _ i (by rw [rowMe_size]; exact hi)]
  simp [rowMe]
theorem enc_at (e : Me) (c : Nat) (hc : c < 2) : (encMe e)[c]! = me1 e c := by
  rcases (show c = 0 ∨ c = 1 by omega) with rfl | rfl <;> rfl
/-- A row of entries, as the sort holds it. -/
theorem holds_own {w : World} {T g n cap : Nat} {E : Nat → Me} (h : OwnK w T 2 (some ⟨g, 0, none⟩) n cap (meC E)) (hn : 0 < n) : HoldsK encMe 2 w g 0 (rowMe E n) := by
  intro j hj
  rw [size_flatK, rowMe_size] at hj
  obtain ⟨g', e, hc⟩ := h.cell hn
  obtain rfl : g = g' := by injection e with e; injection e
  obtain ⟨g', e, hf⟩ := h.free hn
  obtain rfl : g = g' := by injection e with e; injection e
  refine ⟨?_, ?_⟩
  · rw [hc j hj, get_flatK _ _ _ _ (by rw [rowMe_size]; exact hj), rowMe_at _ _ _ (by omega), enc_at _ _ (by omega)]
    rfl
  · rw [Nat.zero_add]; exact hf j
theorem size_putCells {α : Type} [Inhabited α] (enc : α → Value) (off : Nat) (d : Array α) (c : Array Value) : (putCells enc off d c).size = c.size := by simp [putCells]
theorem own_sorted {w : World} {T g n cap : Nat} {E : Nat → Me} (h : OwnK w T 2 (some ⟨g, 0, none⟩) n cap (meC E)) (hn : 0 < n) (d' : Array Me) (hd : d'.size = n) (m : Nat) (os : Array Obj) : OwnK (sortWorldK encMe 2 w g 0 m d' os) T 2 (some ⟨g, 0, none⟩) n cap (meC (fun i => d'[i]!)) := by
  have hH := holds_own h hn
  have hblk : g < w.heap.size := h.lt g rfl
  have hK := holdsK_sortWorldK_c encMe 2 w g 0 (rowMe E n) d' m os hH hblk (by rw [hd, rowMe_size])
  rcases h with ⟨e, _⟩ | ⟨x, C, e, hg, h1, h2, h3⟩
  · cases e
  · obtain rfl : g = x := by injection e with e; injection e
    have hg2 : (sortWorldK encMe 2 w g 0 m d' os).heap[g]? = some (.cells (putCells id 0 (flatK encMe 2 d') C) T (0, 0)) := by
      have : (grow (putRowK encMe 2 (Sort.ahead w m) g 0 d') os).heap[g]? = (putRowK encMe 2 (Sort.ahead w m) g 0 d').heap[g]? := heap_grow_old _ _ (by unfold putRowK; rw [size_putRow]; exact hblk)
      show (grow (putRowK encMe 2 (Sort.ahead w m) g 0 d') os).heap[g]? = _
      rw [this]
      show (w.heap.modify g _)[g]? = _
      rw [Array.getElem?_modify, if_pos rfl, hg]
      rfl
    refine .inr ⟨g, _, rfl, hg2, h1, by rw [size_putCells, h2], fun j hj => ?_⟩
    have hc := (hK.cell (i := j / 2) (c := j % 2) (by omega) (by omega)).1
    rw [show 0 + j / 2 * 2 + j % 2 = j by omega, cell_of_row _ g j _ T (0, 0) hg2, enc_at _ _ (by omega)] at hc
    exact hc
theorem turn_sort {α : Type} [Inhabited α] (enc : α → List Value) (k : Nat) (w : World) (blk off n : Nat) (d : Array α) (os : Array Obj) : Turn (fun j => j = blk) w (sortWorldK enc k w blk off n d os) := by
  refine ⟨rfl, rfl, rfl, ?_, fun j hj hne => ?_⟩
  · show _ ≤ (w.heap.modify blk _ ++ os).size
    simp
  · have : (grow (putRowK enc k (Sort.ahead w n) blk off d) os).heap[j]? = (putRowK enc k (Sort.ahead w n) blk off d).heap[j]? := heap_grow_old _ _ (by unfold putRowK; rw [size_putRow]; exact hj)
    show (grow (putRowK enc k (Sort.ahead w n) blk off d) os).heap[j]? = _
    rw [this]
    show (w.heap.modify blk _)[j]? = _
    rw [Array.getElem?_modify, if_neg (fun e => hne e.symm)]
/-- E' is E, in the order of the keys. -/
structure Ord (n : Nat) (E E' : Nat → Me) : Prop where
  perm : ((List.range n).map E').Perm ((List.range n).map E)
  sorted : ((List.range n).map E').Pairwise (fun x y => decide (Lib.compareBytes y.k.data.toList x.k.data.toList < 0) = false)
theorem Ord.zero (E : Nat → Me) : Ord 0 E E := ⟨List.Perm.refl _, List.Pairwise.nil⟩
theorem ord_of {n : Nat} {E : Nat → Me} {d' : Array Me} (hp : PermIn 0 n (rowMe E n) d') (hs : SortedIn (ltOf fun x y : Me => Lib.compareBytes x.k.data.toList y.k.data.toList) 0 n d') : Ord n E (fun i => d'[i]!) ∧ d'.size = n := by
  have hd : d'.size = n := by rw [hp.1, rowMe_size]
  have el : (List.range n).map (fun i => d'[i]!) = d'.toList := by
    apply List.ext_getElem?
    intro i
    by_cases hi : i < n
    · rw [List.getElem?_map, List.getElem?_range hi, Option.map_some, Array.getElem?_toList, Array.getElem?_eq_getElem (by omega), getElem!_pos _ i (by omega)]
    · rw [List.getElem?_eq_none (by simp; omega), List.getElem?_eq_none (by simp; omega)]
  refine ⟨⟨?_, ?_⟩, hd⟩
  · rw [el]
    have h := hp.2.2
    rw [show d'.extract 0 n = d' by rw [← hd]; exact Array.extract_size, show (rowMe E n).extract 0 n = rowMe E n by (have h9 := Array.extract_size (xs := rowMe E n); rw [rowMe_size] at h9; exact h9)] at h
    exact h
  · rw [el]
    have := sortedIn_pairwise (ltOf fun x y : Me => Lib.compareBytes x.k.data.toList y.k.data.toList) d' (by rw [hd]; exact hs)
    exact this
theorem ltMe : (ltOf fun x y : Me => Lib.compareBytes x.k.data.toList y.k.data.toList) = fun x y : Me => decide (Lib.compareBytes x.k.data.toList y.k.data.toList < 0) := rfl
set_option maxHeartbeats 1000000 in
/-- The closure: two boxes are laid, and the keys compared. -/
theorem closure_any (x y : Me) (W : World) : Calls Tryd.prog 61 #[.agg (encMe x).toArray, .agg (encMe y).toArray] W fun e w' => e = .returned (.int .i64 (Lib.compareBytes x.k.data.toList y.k.data.toList)) ∧ ∃ q os', w' = grow (W.drewN q) os' := by
  have hcon := fun W' => Tryd.strings_Compare x.k y.k W'
  generalize Lib.compareBytes x.k.data.toList y.k.data.toList = r at hcon ⊢
  unfold encMe
  go_enter Tryd.func61, Tryd.ntmps61
  go_wp2_with (go_at_call 62; refine (hcon _).mono ?_; rintro e w' ⟨rfl, rfl⟩)
  go_ret
  exact ⟨rfl, 0, _, by rw [alloc_eq_grow, alloc_eq_grow, grow_grow]; rfl⟩
theorem aggBE : ∀ w, (isAgg 82).run Tryd.prog w = .ok true w := by
  intro w
  obtain ⟨fs, h⟩ := stBE
  unfold isAgg
  rw [Sem.run_bind, run_underlying h w]
  rfl
theorem sizBE : ∀ w, (Go.sizeOf 82).run Tryd.prog w = .ok 2 w := by
  intro w
  cases e : Tryd.prog.info? 82 with
  | none => have := szBE; rw [e] at this; cases this
  | some i =>
    have h : i.size = 2 := by have := szBE; rw [e] at this; simpa using this
    simp [Go.sizeOf, typeInfo, e, h]
end Go.Proofs.YtjdclgnlnehjlaaDoor
namespace Go.Proofs.YtjdclgnlnehjlaaDoor
open Go Go.RowKit Go.Sort
set_option maxHeartbeats 1000000 in
theorem Sort_own (g n cap : Nat) (E : Nat → Me) (w : World) (h : OwnK w 82 2 (some ⟨g, 0, none⟩) n cap (meC E)) (hn0 : 0 < n) (hn : n ≤ 1000) :
    Calls Tryd.prog 60 #[.slice (some ⟨g, 0, none⟩) n cap, .func (.func 61) #[] #[]] w fun e w' => e = .returned (.tuple #[]) ∧ ∃ E', Turn (fun k => k = g) w w' ∧ OwnK w' 82 2 (some ⟨g, 0, none⟩) n cap (meC E') ∧ Ord n E E' := by
  have eg : ∀ args w, (callFunc 61 args).run Tryd.prog w = .ok (.enter 61 args) w := Go.Proofs.enters_of Tryd.func61 (by kernel_rfl) rfl
  have hcon := AnyQ.slices_SortFunc Tryd.sortE 2 aggBE sizBE encMe (fun _ => rfl) (fun x v hv => by simp [encMe] at hv; rcases hv with rfl | rfl <;> rfl) (fun x y : Me => Lib.compareBytes x.k.data.toList y.k.data.toList) (by rw [ltMe]; exact swo_text (fun e : Me => e.k)) 61 #[] g 0 cap (rowMe E n) w eg (fun _ _ _ _ x y => closure_any x y _) (holds_own h hn0) (h.lt g rfl) (by rw [rowMe_size]; omega)
  rw [rowMe_size] at hcon
  refine hcon.mono ?_
  rintro e w' ⟨rfl, d', m, os, hp, hs, rfl⟩
  obtain ⟨ho, hd⟩ := ord_of hp hs
  exact ⟨rfl, _, turn_sort _ _ _ _ _ _ _ _, own_sorted h hn0 d' hd m os, ho⟩
end Go.Proofs.YtjdclgnlnehjlaaDoor
