/- strings.Compare and slices.SortFunc at this program (laid by the kit's lay-shelf.mjs and lay-plain.mjs). A map's entries, sorted by their keys: slices.SortFunc in plain words. A map's entries, sorted by their keys: slices.SortFunc in plain words. A map's entries in order: Clone, the sort of none, inOrder. -/
import Derived.Test.YtjdclgnlnehjlaaDoorChecked
import Derived.Shelf.Small.Strs
import Derived.Shelf.SlLaysF0
import Derived.Shelf.Small.Bits
import Derived.Test.YtjdclgnlnehjlaaDoorMgBm1
import Derived.Test.YtjdclgnlnehjlaaDoorMgSrt
import Derived.Shelf.SlSortCmp.InsertionK
import Derived.Shelf.SlSortCmp.WholeK
namespace Go.Proofs
open Go.Shelf
def Tryd.lays106_ren : Go.Shelf.Ren := ⟨fun | 106 => 62 | 213 => 75 | 265 => 87 | n => n, fun | 9 => 9 | 3 => 3 | n => n, fun | n => n⟩
theorem Tryd.lays106 : Go.Proofs.Lays.n106 Tryd.prog Tryd.lays106_ren := {
  mixed := by kernel_rfl
  f106 := Tryd.func62.trans (congrArg some (by kernel_rfl))
  f213 := Tryd.func75.trans (congrArg some (by kernel_rfl))
  f265 := Tryd.func87.trans (congrArg some (by kernel_rfl))
  t3 := Tryd.underlying3
  a3 := Tryd.isAgg3
  z3 := Tryd.sizeOf3
  v3 := Tryd.zeroValue3
  t9 := Tryd.underlying9
  a9 := Tryd.isAgg9
  z9 := Tryd.sizeOf9
  v9 := Tryd.zeroValue9 }
open Go.RowKit in
/-- strings.Compare: "Compare returns an integer comparing two strings lexicographically. The result will be 0 if a == b, -1 if a < b, and +1 if a > b.": IT RETURNS 'Lib.compareBytes a b'; the world is as it was. (LAID: no walk: one application.) -/
theorem Tryd.strings_Compare (a b : ByteArray) (w : World) :
    Calls Tryd.prog 62 #[.string a, .string b] w fun e w' => e = .returned (.int .i64 (Lib.compareBytes a.data.toList b.data.toList)) ∧ w' = w := Any.strings_Compare Tryd.lays106 a b w
def Tryd.lays125_ren : Go.Shelf.Ren := ⟨fun | 125 => 74 | 128 => 85 | 129 => 86 | n => n, fun | 46 => 121 | 3 => 3 | 51 => 108 | 53 => 36 | 4 => 4 | 5 => 5 | 9 => 9 | n => n, fun | n => n⟩
theorem Tryd.lays125 : Go.Proofs.Lays.n125 Tryd.prog Tryd.lays125_ren := {
  mixed := by kernel_rfl
  f125 := Tryd.func74.trans (congrArg some (by kernel_rfl))
  f128 := Tryd.func85.trans (congrArg some (by kernel_rfl))
  f129 := Tryd.func86.trans (congrArg some (by kernel_rfl))
  t3 := Tryd.underlying3
  a3 := Tryd.isAgg3
  z3 := Tryd.sizeOf3
  v3 := Tryd.zeroValue3
  t4 := Tryd.underlying4
  a4 := Tryd.isAgg4
  z4 := Tryd.sizeOf4
  v4 := Tryd.zeroValue4
  t5 := Tryd.underlying5
  a5 := Tryd.isAgg5
  z5 := Tryd.sizeOf5
  v5 := Tryd.zeroValue5
  t9 := Tryd.underlying9
  a9 := Tryd.isAgg9
  z9 := Tryd.sizeOf9
  v9 := Tryd.zeroValue9
  t46 := Tryd.underlying121
  a46 := Tryd.isAgg121
  z46 := Tryd.sizeOf121
  v46 := Tryd.zeroValue121
  t51 := Tryd.underlying108
  a51 := Tryd.isAgg108
  z51 := Tryd.sizeOf108
  v51 := Tryd.zeroValue108
  t53 := Tryd.underlying36
  a53 := Tryd.isAgg36
  z53 := Tryd.sizeOf36
  v53 := Tryd.zeroValue36 }
/-- bits.Len: "Len returns the minimum number of bits required to represent x; the result is 0 for x == 0.": IT RETURNS 'Lib.bitLen x'; the world is as it was. (A uint has 64 bits in the model.) ITS CALLEE bits.Len64 IS MET BY ITS OWN CONTRACT OFF THE SHELF (lay that first). (LAID: no walk: one application.) -/
theorem Tryd.bits_Len (x : Int) (w : World) (h0 : 0 ≤ x) (h1 : x ≤ 18446744073709551615) :
    Calls Tryd.prog 74 #[.int .u64 x] w fun e w' => e = .returned (.int .i64 (Lib.bitLen x.toNat)) ∧ w' = w := Any.bits_Len Tryd.lays125 x w h0 h1
def Tryd.sortE_ren : Go.Shelf.Ren := ⟨fun | 6 => 60 | 15 => 74 | 14 => 73 | 28 => 85 | 29 => 86 | 20 => 77 | 21 => 78 | 22 => 79 | 23 => 80 | 24 => 81 | 25 => 82 | 26 => 83 | 27 => 84 | 46 => 90 | 47 => 91 | 48 => 92 | 49 => 93 | 50 => 94 | 57 => 95 | n => n, fun | 22 => 57 | 24 => 82 | 25 => 107 | 3 => 3 | 39 => 121 | 0 => 0 | 53 => 108 | 55 => 36 | 4 => 4 | 46 => 132 | 45 => 131 | 50 => 136 | 5 => 5 | 9 => 9 | 66 => 143 | 70 => 147 | 76 => 149 | 77 => 150 | n => n, fun | n => n⟩
theorem Tryd.sortE : Go.Proofs.SlLaysF0.n6 Tryd.prog Tryd.sortE_ren := {
  mixed := by kernel_rfl
  f6 := ⟨Tryd.f60.name, by decide, Tryd.func60.trans (congrArg some (by kernel_rfl))⟩
  f14 := ⟨Tryd.f73.name, by decide, Tryd.func73.trans (congrArg some (by kernel_rfl))⟩
  f15 := Tryd.func74.trans (congrArg some (by kernel_rfl))
  f20 := ⟨Tryd.f77.name, by decide, Tryd.func77.trans (congrArg some (by kernel_rfl))⟩
  f21 := ⟨Tryd.f78.name, by decide, Tryd.func78.trans (congrArg some (by kernel_rfl))⟩
  f22 := ⟨Tryd.f79.name, by decide, Tryd.func79.trans (congrArg some (by kernel_rfl))⟩
  f23 := ⟨Tryd.f80.name, by decide, Tryd.func80.trans (congrArg some (by kernel_rfl))⟩
  f24 := ⟨Tryd.f81.name, by decide, Tryd.func81.trans (congrArg some (by kernel_rfl))⟩
  f25 := ⟨Tryd.f82.name, by decide, Tryd.func82.trans (congrArg some (by kernel_rfl))⟩
  f26 := ⟨Tryd.f83.name, by decide, Tryd.func83.trans (congrArg some (by kernel_rfl))⟩
  f27 := ⟨Tryd.f84.name, by decide, Tryd.func84.trans (congrArg some (by kernel_rfl))⟩
  f28 := Tryd.func85.trans (congrArg some (by kernel_rfl))
  f29 := Tryd.func86.trans (congrArg some (by kernel_rfl))
  f46 := ⟨Tryd.f90.name, by decide, Tryd.func90.trans (congrArg some (by kernel_rfl))⟩
  f47 := Tryd.func91.trans (congrArg some (by kernel_rfl))
  f48 := Tryd.func92.trans (congrArg some (by kernel_rfl))
  f49 := ⟨Tryd.f93.name, by decide, Tryd.func93.trans (congrArg some (by kernel_rfl))⟩
  f50 := ⟨Tryd.f94.name, by decide, Tryd.func94.trans (congrArg some (by kernel_rfl))⟩
  f57 := ⟨Tryd.f95.name, by decide, Tryd.func95.trans (congrArg some (by kernel_rfl))⟩
  t0 := Tryd.underlying0
  a0 := Tryd.isAgg0
  z0 := Tryd.sizeOf0
  v0 := Tryd.zeroValue0
  t3 := Tryd.underlying3
  a3 := Tryd.isAgg3
  z3 := Tryd.sizeOf3
  v3 := Tryd.zeroValue3
  t4 := Tryd.underlying4
  a4 := Tryd.isAgg4
  z4 := Tryd.sizeOf4
  v4 := Tryd.zeroValue4
  t5 := Tryd.underlying5
  a5 := Tryd.isAgg5
  z5 := Tryd.sizeOf5
  v5 := Tryd.zeroValue5
  t9 := Tryd.underlying9
  a9 := Tryd.isAgg9
  z9 := Tryd.sizeOf9
  v9 := Tryd.zeroValue9
  t22 := Tryd.underlying57
  a22 := Tryd.isAgg57
  z22 := Tryd.sizeOf57
  v22 := Tryd.zeroValue57
  t25 := Tryd.underlying107
  a25 := Tryd.isAgg107
  z25 := Tryd.sizeOf107
  v25 := Tryd.zeroValue107
  t39 := Tryd.underlying121
  a39 := Tryd.isAgg121
  z39 := Tryd.sizeOf121
  v39 := Tryd.zeroValue121
  t45 := Tryd.underlying131
  a45 := Tryd.isAgg131
  z45 := Tryd.sizeOf131
  v45 := Tryd.zeroValue131
  t46 := Tryd.underlying132
  a46 := Tryd.isAgg132
  z46 := Tryd.sizeOf132
  v46 := Tryd.zeroValue132
  t50 := Tryd.underlying136
  a50 := Tryd.isAgg136
  z50 := Tryd.sizeOf136
  v50 := Tryd.zeroValue136
  t53 := Tryd.underlying108
  a53 := Tryd.isAgg108
  z53 := Tryd.sizeOf108
  v53 := Tryd.zeroValue108
  t55 := Tryd.underlying36
  a55 := Tryd.isAgg36
  z55 := Tryd.sizeOf36
  v55 := Tryd.zeroValue36
  t66 := Tryd.underlying143
  a66 := Tryd.isAgg143
  z66 := Tryd.sizeOf143
  v66 := Tryd.zeroValue143
  t70 := Tryd.underlying147
  a70 := Tryd.isAgg147
  z70 := Tryd.sizeOf147
  v70 := Tryd.zeroValue147
  t76 := Tryd.underlying149
  a76 := Tryd.isAgg149
  z76 := Tryd.sizeOf149
  v76 := Tryd.zeroValue149
  t77 := Tryd.underlying150
  a77 := Tryd.isAgg150
  z77 := Tryd.sizeOf150
  v77 := Tryd.zeroValue150 }
end Go.Proofs
namespace Go.Proofs.YtjdclgnlnehjlaaDoor
open Go Go.RowKit Go.Sort Go.Proofs
instance : Inhabited Me := ⟨⟨⟨#[]⟩, 0, 0, fun _ => 0⟩⟩
def encMe (e : Me) : List Value := [.string e.k, .pointer (some ⟨e.c, 0, none⟩)]
def rowMe (E : Nat → Me) (n : Nat) : Array Me := ((List.range n).map E).toArray
theorem rowMe_size (E : Nat → Me) (n : Nat) : (rowMe E n).size = n := by simp [rowMe]
theorem rowMe_at (E : Nat → Me) (n i : Nat) (hi : i < n) : (rowMe E n)[i]! = E i := by
  rw [getElem!_pos _ i (by rw [rowMe_size]; exact hi)]
  simp [rowMe]
theorem enc_at (e : Me) (c : Nat) (hc : c < 2) : (encMe e)[c]! = me1 e c := by
  rcases (show c = 0 ∨ c = 1 by omega) with rfl | rfl <;> rfl
/-- A row of entries, as the sort holds it. -/
theorem holds_own {w : World} {T g n cap : Nat} {E : Nat → Me} (h : OwnK w T 2 (some ⟨g, 0, none⟩) n cap (meC E)) (hn : 0 < n) : HoldsK encMe 2 w g 0 (rowMe E n) := by
  intro j hj
  rw [size_flatK, rowMe_size] at hj
  obtain ⟨g', e, hc⟩ := h.cell hn
  obtain rfl : g = g' := by injection e with e; injection e
  obtain ⟨g', e, hf⟩ := h.free hn
  obtain rfl : g = g' := by injection e with e; injection e
  refine ⟨?_, ?_⟩
  · rw [hc j hj, get_flatK _ _ _ _ (by rw [rowMe_size]; exact hj), rowMe_at _ _ _ (by omega), enc_at _ _ (by omega)]
    rfl
  · rw [Nat.zero_add]; exact hf j
theorem size_putCells {α : Type} [Inhabited α] (enc : α → Value) (off : Nat) (d : Array α) (c : Array Value) : (putCells enc off d c).size = c.size := by simp [putCells]
theorem own_sorted {w : World} {T g n cap : Nat} {E : Nat → Me} (h : OwnK w T 2 (some ⟨g, 0, none⟩) n cap (meC E)) (hn : 0 < n) (d' : Array Me) (hd : d'.size = n) (m : Nat) (os : Array Obj) : OwnK (sortWorldK encMe 2 w g 0 m d' os) T 2 (some ⟨g, 0, none⟩) n cap (meC (fun i => d'[i]!)) := by
  have hH := holds_own h hn
  have hblk : g < w.heap.size := h.lt g rfl
  have hK := holdsK_sortWorldK_c encMe 2 w g 0 (rowMe E n) d' m os hH hblk (by rw [hd, rowMe_size])
  rcases h with ⟨e, _⟩ | ⟨x, C, e, hg, h1, h2, h3⟩
  · cases e
  · obtain rfl : g = x := by injection e with e; injection e
    have hg2 : (sortWorldK encMe 2 w g 0 m d' os).heap[g]? = some (.cells (putCells id 0 (flatK encMe 2 d') C) T (0, 0)) := by
      have : (grow (putRowK encMe 2 (Sort.ahead w m) g 0 d') os).heap[g]? = (putRowK encMe 2 (Sort.ahead w m) g 0 d').heap[g]? := heap_grow_old _ _ (by unfold putRowK; rw [size_putRow]; exact hblk)
      show (grow (putRowK encMe 2 (Sort.ahead w m) g 0 d') os).heap[g]? = _
      rw [this]
      show (w.heap.modify g _)[g]? = _
      rw [Array.getElem?_modify, if_pos rfl, hg]
      rfl
    refine .inr ⟨g, _, rfl, hg2, h1, by rw [size_putCells, h2], fun j hj => ?_⟩
    have hc := (hK.cell (i := j / 2) (c := j % 2) (by omega) (by omega)).1
    rw [show 0 + j / 2 * 2 + j % 2 = j by omega, cell_of_row _ g j _ T (0, 0) hg2, enc_at _ _ (by omega)] at hc
    exact hc
theorem turn_sort {α : Type} [Inhabited α] (enc : α → List Value) (k : Nat) (w : World) (blk off n : Nat) (d : Array α) (os : Array Obj) : Turn (fun j => j = blk) w (sortWorldK enc k w blk off n d os) := by
  refine ⟨rfl, rfl, rfl, ?_, fun j hj hne => ?_⟩
  · show _ ≤ (w.heap.modify blk _ ++ os).size
    simp
  · have : (grow (putRowK enc k (Sort.ahead w n) blk off d) os).heap[j]? = (putRowK enc k (Sort.ahead w n) blk off d).heap[j]? := heap_grow_old _ _ (by unfold putRowK; rw [size_putRow]; exact hj)
    show (grow (putRowK enc k (Sort.ahead w n) blk off d) os).heap[j]? = _
    rw [this]
    show (w.heap.modify blk _)[j]? = _
    rw [Array.getElem?_modify, if_neg (fun e => hne e.symm)]
/-- E' is E, in the order of the keys. -/
structure Ord (n : Nat) (E E' : Nat → Me) : Prop where
  perm : ((List.range n).map E').Perm ((List.range n).map E)
  sorted : ((List.range n).map E').Pairwise (fun x y => decide (Lib.compareBytes y.k.data.toList x.k.data.toList < 0) = false)
theorem Ord.zero (E : Nat → Me) : Ord 0 E E := ⟨List.Perm.refl _, List.Pairwise.nil⟩
theorem ord_of {n : Nat} {E : Nat → Me} {d' : Array Me} (hp : PermIn 0 n (rowMe E n) d') (hs : SortedIn (ltOf fun x y : Me => Lib.compareBytes x.k.data.toList y.k.data.toList) 0 n d') : Ord n E (fun i => d'[i]!) ∧ d'.size = n := by
  have hd : d'.size = n := by rw [hp.1, rowMe_size]
  have el : (List.range n).map (fun i => d'[i]!) = d'.toList := by
    apply List.ext_getElem?
    intro i
    by_cases hi : i < n
    · rw [List.getElem?_map, List.getElem?_range hi, Option.map_some, Array.getElem?_toList, Array.getElem?_eq_getElem (by omega), getElem!_pos _ i (by omega)]
    · rw [List.getElem?_eq_none (by simp; omega), List.getElem?_eq_none (by simp; omega)]
  refine ⟨⟨?_, ?_⟩, hd⟩
  · rw [el]
    have h := hp.2.2
    rw [show d'.extract 0 n = d' by rw [← hd]; exact Array.extract_size, show (rowMe E n).extract 0 n = rowMe E n by (have h9 := Array.extract_size (xs := rowMe E n); rw [rowMe_size] at h9; exact h9)] at h
    exact h
  · rw [el]
    have := sortedIn_pairwise (ltOf fun x y : Me => Lib.compareBytes x.k.data.toList y.k.data.toList) d' (by rw [hd]; exact hs)
    exact this
theorem ltMe : (ltOf fun x y : Me => Lib.compareBytes x.k.data.toList y.k.data.toList) = fun x y : Me => decide (Lib.compareBytes x.k.data.toList y.k.data.toList < 0) := rfl
set_option maxHeartbeats 1000000 in
/-- The closure: two boxes are laid, and the keys compared. -/
theorem closure_any (x y : Me) (W : World) : Calls Tryd.prog 61 #[.agg (encMe x).toArray, .agg (encMe y).toArray] W fun e w' => e = .returned (.int .i64 (Lib.compareBytes x.k.data.toList y.k.data.toList)) ∧ ∃ q os', w' = grow (W.drewN q) os' := by
  have hcon := fun W' => Tryd.strings_Compare x.k y.k W'
  generalize Lib.compareBytes x.k.data.toList y.k.data.toList = r at hcon ⊢
  unfold encMe
  go_enter Tryd.func61, Tryd.ntmps61
  go_wp2_with (go_at_call 62; refine (hcon _).mono ?_; rintro e w' ⟨rfl, rfl⟩)
  go_ret
  exact ⟨rfl, 0, _, by rw [alloc_eq_grow, alloc_eq_grow, grow_grow]; rfl⟩
theorem aggBE : ∀ w, (isAgg 82).run Tryd.prog w = .ok true w := by
  intro w
  obtain ⟨fs, h⟩ := stBE
  unfold isAgg
  rw [Sem.run_bind, run_underlying h w]
  rfl
theorem sizBE : ∀ w, (Go.sizeOf 82).run Tryd.prog w = .ok 2 w := by
  intro w
  cases e : Tryd.prog.info? 82 with
  | none => have := szBE; rw [e] at this; cases this
  | some i =>
    have h : i.size = 2 := by have := szBE; rw [e] at this; simpa using this
    simp [Go.sizeOf, typeInfo, e, h]
end Go.Proofs.YtjdclgnlnehjlaaDoor
namespace Go.Proofs.YtjdclgnlnehjlaaDoor
open Go Go.RowKit Go.Sort
set_option maxHeartbeats 1000000 in
theorem Sort_own (g n cap : Nat) (E : Nat → Me) (w : World) (h : OwnK w 82 2 (some ⟨g, 0, none⟩) n cap (meC E)) (hn0 : 0 < n) (hn : n ≤ 1000) :
    Calls Tryd.prog 60 #[.slice (some ⟨g, 0, none⟩) n cap, .func (.func 61) #[] #[]] w fun e w' => e = .returned (.tuple #[]) ∧ ∃ E', Turn (fun k => k = g) w w' ∧ OwnK w' 82 2 (some ⟨g, 0, none⟩) n cap (meC E') ∧ Ord n E E' := by
  have eg : ∀ args w, (callFunc 61 args).run Tryd.prog w = .ok (.enter 61 args) w := Go.Proofs.enters_of Tryd.func61 (by kernel_rfl) rfl
  have hcon := AnyQ.slices_SortFunc Tryd.sortE 2 aggBE sizBE encMe (fun _ => rfl) (fun x v hv => by simp [encMe] at hv; rcases hv with rfl | rfl <;> rfl) (fun x y : Me => Lib.compareBytes x.k.data.toList y.k.data.toList) (by rw [ltMe]; exact swo_text (fun e : Me => e.k)) 61 #[] g 0 cap (rowMe E n) w eg (fun _ _ _ _ x y => closure_any x y _) (holds_own h hn0) (h.lt g rfl) (by rw [rowMe_size]; omega)
  rw [rowMe_size] at hcon
  refine hcon.mono ?_
  rintro e w' ⟨rfl, d', m, os, hp, hs, rfl⟩
  obtain ⟨ho, hd⟩ := ord_of hp hs
  exact ⟨rfl, _, turn_sort _ _ _ _ _ _ _ _, own_sorted h hn0 d' hd m os, ho⟩
end Go.Proofs.YtjdclgnlnehjlaaDoor
namespace Go.Proofs.YtjdclgnlnehjlaaDoor
open Go Go.RowKit Go.Sort Go.Proofs
set_option maxRecDepth 100000 in
theorem Sort_zero (p : Option Addr) (cap : Nat) (w : World) (N : Nat) :
    Calls Tryd.prog 60 #[.slice p 0 cap, .func (.func 61) #[] #[]] w fun e w' => e = .returned (.tuple #[]) ∧ Below N w w' := by
  have HL := fun w => Tryd.bits_Len 0 w (by omega) (by omega)
  have HI : ∀ w, Calls Tryd.prog 77 #[.slice p 0 cap, .int .i64 0, .int .i64 0, .func (.func 61) #[] #[]] w fun e w' => e = .returned (.tuple #[]) ∧ w' = w := by
    intro w
    go_enter Tryd.func77, Tryd.ntmps77
    go_wp2
    go_loop [8] (fun x => x = .int .i64 1) (fun _ => 0)
    case atStart => rfl
    case round =>
      subst hrel
      go_wp2
      go_end0
      exact ⟨rfl, rfl⟩
  have HP : ∀ (z : Int) w, Calls Tryd.prog 73 #[.slice p 0 cap, .int .i64 0, .int .i64 0, .int .i64 z, .func (.func 61) #[] #[]] w fun e w' => e = .returned (.tuple #[]) ∧ w' = w := by
    intro z w
    go_enter Tryd.func73, Tryd.ntmps73
    go_wp2
    go_loop [1, 2, 3, 10, 11] (fun x1 x2 x3 x10 x11 => x1 = .int .i64 0 ∧ x2 = .int .i64 0 ∧ x3 = .int .i64 z ∧ x10 = .bool true ∧ x11 = .bool true) (fun _ _ _ _ _ => 0)
    case atStart => exact ⟨rfl, rfl, rfl, rfl, rfl⟩
    case round =>
      obtain ⟨rfl, rfl, rfl, rfl, rfl⟩ := hrel
      go_wp2_with (go_at_call 77; refine (HI _).mono ?_; rintro e w' ⟨rfl, rfl⟩)
      refine bodyPost_ret (results_none rfl _ _ _) rfl ?_
      exact ⟨rfl, rfl⟩
  generalize ((Lib.bitLen (0 : Int).toNat : Nat) : Int) = z at HL
  have HP := HP z
  go_enter Tryd.func60, Tryd.ntmps60
  go_wp2_with (first
    | (go_at_call 74; refine (HL _).mono ?_; rintro e w' ⟨rfl, rfl⟩)
    | (go_at_call 73; refine (HP _).mono ?_; rintro e w' ⟨rfl, rfl⟩))
  go_end0
  exact ⟨rfl, Below.refl N _⟩
theorem eqSNd {P : Program} (w : World) (d : Nat) (t e : TypeId) (a : Option Addr) (l c : Nat) (h : P.underlying t = some (.slice e)) : (Op.equalIn (d + 1) t (.slice a l c) (.slice none 0 0)).run P w = .ok a.isNone w := by
  cases a <;> simp [Op.equalIn, run_underlying h]
theorem eqSNe {P : Program} (w : World) (t e : TypeId) (a : Option Addr) (l c : Nat) (h : P.underlying t = some (.slice e)) : (Op.equal t (.slice a l c) (.slice none 0 0)).run P w = .ok a.isNone w := eqSNd w 9999 t e a l c h
theorem eqSN {P : Program} (w : World) (t e : TypeId) (a : Option Addr) (l c : Nat) (h : P.underlying t = some (.slice e)) : (binOp .eql t (.slice a l c) (.slice none 0 0)).run P w = .ok (.bool a.isNone) w := by
  simp [binOp, eqSNe w t e a l c h]
theorem undBEs : Tryd.prog.underlying 57 = some (.slice 82) := by kernel_rfl
theorem cells_own {w : World} {T n cap : Nat} {q : Option Addr} {E : Nat → Me} (h : OwnK w T 2 q n cap (meC E)) : Cells w q (n * 2) (meC E) := fun h0 => by
  obtain ⟨g, e, hc⟩ := h.cell (by omega)
  exact ⟨_, e, fun j hj => by rw [Addr.add_mid]; exact hc j hj⟩
theorem wpl_bsE {ops : Array Oper} {rest : List Oper} {o : Oper} {a : Act} {w : World} {Q' : Exit → Act → World → Prop} (hgd : o.guard = none) (ho : o.op = .buildSlice 57 0 #[]) (N : Nat) (hN : Sz w N)
    (h : ∀ w1, Sz w1 (N + 1) → Below N w w1 → OwnK w1 82 2 (some ⟨N, 0, none⟩) 0 0 (meC (fun _ => default)) → wpList Tryd.prog ops Q' rest (a.put o.dst (.slice (some ⟨N, 0, none⟩) 0 0)) w1) : wpList Tryd.prog ops Q' (o :: rest) a w := by
  have e : w.heap.size = N := hN
  subst e
  refine wpl_run hgd (.slice (some ⟨w.heap.size, 0, none⟩) 0 0) (w.alloc (.cells #[] 82)) ?_ (h _ (sz_alloc rfl _) (below_new _ _ _ rfl) ?_)
  · clear h hN
    generalize a.eval = ev at *
    unfold execOp
    simp only [ho]
    go_simp
  · exact .inr ⟨_, #[], rfl, heap_alloc_new w _, Nat.le_refl _, rfl, fun j hj => by omega⟩
set_option maxRecDepth 100000 in
theorem Clone_own (p : Option Addr) (n cap : Nat) (E : Nat → Me) (w : World) (N : Nat) (hN : Sz w N) (h : OwnK w 82 2 p n cap (meC E)) (hn : n ≤ 1000) :
    Calls Tryd.prog 59 #[.slice p n cap] w fun e w' => ∃ p' cap', e = .returned (.slice p' n cap') ∧ OwnK w' 82 2 p' n cap' (meC E) ∧ Below N w w' ∧ ∀ g, blk p' = some g → N ≤ g := by
  have q2 := fun (a : Option Addr) (l c : Nat) (w : World) => eqSN (P := Tryd.prog) w 57 82 a l c undBEs
  cases p with
  | none =>
    obtain ⟨rfl, rfl⟩ : n = 0 ∧ cap = 0 := by
      rcases h with ⟨_, h1, h2⟩ | ⟨_, _, e, _⟩
      · exact ⟨h1, h2⟩
      · cases e
    go_enter Tryd.func59, Tryd.ntmps59
    go_wp2
    go_ret
    exact ⟨none, 0, rfl, .inl ⟨rfl, rfl, rfl⟩, Below.refl N _, fun g hg => by cases hg⟩
  | some ad =>
    go_enter Tryd.func59, Tryd.ntmps59
    go_upto_region 3 with fail
    go_wp2_with (first
      | ((with_reducible show wpList _ _ _ (_ :: _) _ _); first
        | (refine wpl_bsE rfl rfl N hN ?_; intro w1 hN1 b1 o1)
        | (refine wpl_appK rfl (.tmp 5) (.tmp 6) 57 rfl 82 2 (by omega) undBEs kBE (some ⟨N, 0, none⟩) 0 0 rfl (meC (fun _ => default)) o1 (some ad) n cap rfl (meC E) (cells_own (h.below b1 (Nat.le_of_eq hN))) (fun j _ => meC_one _ _) (by omega) ?_; intro p2 cap2 w2 o2 g2 e2 n2))
      | fail)

    go_ret
    have hsz : w1.heap.size = N + 1 := hN1
    refine ⟨p2, cap2, rfl, ?_, g2.below b1 (by omega) (fun g hg => by simp [blk] at hg; omega), fun g hg => ?_⟩
    · rw [Nat.zero_add] at o2
      exact o2.congr (fun j hj => by unfold cat; rw [if_neg (by omega)]; rw [Nat.zero_mul, Nat.sub_zero])
    · rcases e2 with e | e
      · rw [e] at hg; simp [blk] at hg; omega
      · rw [e] at hg; injection hg with hg; omega
/-- The entries, in the order in which a sum takes them. -/
def Ordd (m : Mp) (E' : Nat → Me) : Prop := (m.ty ≠ 3 ∧ m.ty ≠ 4 → Ord m.n m.E E') ∧ (m.ty = 3 ∨ m.ty = 4 → E' = m.E)
set_option maxRecDepth 100000 in
theorem inOrder_any (m : Mp) (hn : m.n ≤ 1000) (w : World) (N : Nat) (hN : Sz w N) (hA : MpAt w m) :
    Calls Tryd.prog 34 #[.pointer (some ⟨m.b, 0, none⟩)] w fun e w' => ∃ p' cap' E', e = .returned (.slice p' m.n cap') ∧ OwnK w' 82 2 p' m.n cap' (meC E') ∧ Below N w w' ∧ Ordd m E' := by
  by_cases hl : m.ty = 3 ∨ m.ty = 4
  · have hL := fun w hA => isLine_yes m hl w hA
    have c5 := hA.c5
    go_enter Tryd.func34, Tryd.ntmps34
    go_wp2_with (first
      | (go_at_call 37; refine (hL _ hA).mono ?_; rintro e w2 ⟨rfl, rfl⟩)
      | fail)
    go_ret
    exact ⟨_, _, _, rfl, hA.e, Below.refl N _, fun h => absurd hl (by omega), fun _ => rfl⟩
  · have h3 : m.ty ≠ 3 := fun h => hl (.inl h)
    have h4 : m.ty ≠ 4 := fun h => hl (.inr h)
    have hL := fun w hA => isLine_no m h3 h4 w hA
    have c5 := hA.c5
    have HC := Clone_own m.p m.n m.cap m.E w N hN hA.e hn
    have hO : ∀ E', Ord m.n m.E E' → Ordd m E' := fun E' h => ⟨fun _ => h, fun h => absurd h hl⟩
    by_cases h0 : m.n = 0
    · have HS := fun (p : Option Addr) (cap : Nat) (w : World) (N : Nat) => Sort_zero p cap w N
      have hO2 := hO m.E (by rw [h0]; exact Ord.zero _)
      rw [h0] at HC c5 ⊢
      clear hO hl h3 h4
      go_enter Tryd.func34, Tryd.ntmps34
      go_wp2_with (first
        | (go_at_call 37; refine (hL _ hA).mono ?_; rintro e w2 ⟨rfl, rfl⟩)
        | (go_at_call 59; refine HC.mono ?_; rintro e w3 ⟨p2, cap2, rfl, o3, b3, ge3⟩; obtain ⟨M3, hM3⟩ := sz_some w3; have l3 := below_sz b3 hN hM3)
        | (go_at_call 60; refine (HS p2 cap2 _ M3).mono ?_; rintro e w4 ⟨rfl, b4⟩)
        | fail)
      go_ret
      exact ⟨p2, cap2, m.E, rfl, o3.below b4 (Nat.le_of_eq hM3), b3.trans (b4.mono l3), hO2⟩
    · have HS := fun (g cap : Nat) (w : World) (h : OwnK w 82 2 (some ⟨g, 0, none⟩) m.n cap (meC m.E)) => Sort_own g m.n cap m.E w h (by omega) hn
      clear hl h3 h4
      go_enter Tryd.func34, Tryd.ntmps34
      go_wp2_with (first
        | (go_at_call 37; refine (hL _ hA).mono ?_; rintro e w2 ⟨rfl, rfl⟩)
        | (go_at_call 59; refine HC.mono ?_; rintro e w3 ⟨p2, cap2, rfl, o3, b3, ge3⟩; obtain ⟨g2, eg2, _⟩ := o3.cell (by omega); subst eg2)
        | (go_at_call 60; refine (HS g2 cap2 _ o3).mono ?_; rintro e w4 ⟨rfl, E2, t4, o4, ho⟩)
        | fail)
      go_ret
      exact ⟨_, cap2, E2, rfl, o4, t4.below b3 (fun j hj => by rw [hj]; exact ge3 g2 rfl) (below_le b3 hN), hO E2 ho⟩
end Go.Proofs.YtjdclgnlnehjlaaDoor
