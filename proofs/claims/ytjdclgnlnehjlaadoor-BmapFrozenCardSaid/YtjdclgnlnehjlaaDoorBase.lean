/- Plain words on worlds, blocks of cells, regions that draw their order. Nothing of the program. -/
import Derived.WalkKit
import Derived.Deep.MidRow
import Derived.Deep.Quiet
import Derived.Deep.WholeRow
import Derived.Laws.CopyOwn
import Derived.StillTailTactics
import Derived.Deep.RegionWith
import Derived.BigQuiet
import Derived.Laws.StructEq
namespace Go.Proofs.YtjdclgnlnehjlaaDoor
open Go Go.RowKit
theorem hid {p : Prop} (h : p) : Hid p := h
/-- n cells, by a function of the place. -/
def cellsOf (f : Nat → Value) (n : Nat) : Array Value := ((List.range n).map f).toArray
/-- The same as a list. -/
def lst (f : Nat → Value) (n : Nat) : List Value := (List.range n).map f
theorem length_lst (f : Nat → Value) (n : Nat) : (lst f n).length = n := by simp [lst]
theorem size_cellsOf (f : Nat → Value) (n : Nat) : (cellsOf f n).size = n := by simp [cellsOf]
theorem get_cellsOf (f : Nat → Value) (n j : Nat) (h : j < n) : (cellsOf f n)[j]? = some (f j) := by simp [cellsOf, h]
theorem cellsOf_congr {f g : Nat → Value} {n : Nat} (h : ∀ j, j < n → f j = g j) : cellsOf f n = cellsOf g n := by
  simp only [cellsOf]; congr 1; exact List.map_congr_left (fun j hj => h j (by simpa using hj))
def upd (f : Nat → Value) (k : Nat) (v : Value) : Nat → Value := fun j => if j = k then v else f j
theorem set_cellsOf (f : Nat → Value) (n k : Nat) (v : Value) : (cellsOf f n).setIfInBounds k v = cellsOf (upd f k v) n := by
  apply Array.ext_getElem?
  intro j
  rw [Array.getElem?_setIfInBounds]
  by_cases hj : j < n
  · by_cases h : k = j
    · subst h; simp [cellsOf, hj, upd]
    · have h' : ¬ j = k := fun e => h e.symm
      simp [cellsOf, hj, upd, h, h']
  · by_cases h : k = j
    · subst h; simp [cellsOf, hj]
    · simp [cellsOf, hj, h]
/-- Block b is n cells of type T, cell j being f j; none is frozen. -/
def Has (w : World) (b : Nat) (T : TypeId) (n : Nat) (f : Nat → Value) : Prop := w.heap[b]? = some (.cells (cellsOf f n) T (0, 0))
section
variable {w w' : World} {b : Nat} {T : TypeId} {n : Nat} {f g : Nat → Value}
theorem Has.out (h : Has w b T n f) : w.heap[b]? = some (.cells (cellsOf f n) T (0, 0)) := h
theorem Has.lt (h : Has w b T n f) : b < w.heap.size := (Array.getElem?_eq_some_iff.1 h).1
theorem Has.cell (h : Has w b T n f) {j : Nat} (hj : j < n) : w.cell? ⟨b, j, none⟩ = some (f j) := by
  rw [cell_of_row w b j _ T (0, 0) h, get_cellsOf f n j hj]
theorem Has.free (h : Has w b T n f) (j : Nat) : w.frozen? ⟨b, j, none⟩ = false := by
  unfold Has at h
  simp [World.frozen?, h]
theorem Has.congr (h : Has w b T n f) (e : ∀ j, j < n → f j = g j) : Has w b T n g := by
  unfold Has at h ⊢; rw [h, cellsOf_congr e]
theorem Has.same (h : Has w b T n f) (e : w'.heap[b]? = w.heap[b]?) : Has w' b T n f := e.trans h
theorem Has.below {B : Nat} (h : Has w b T n f) (hb : Below B w w') (hlt : b < B) : Has w' b T n f := h.same (hb.block b hlt)
theorem Has.drew (h : Has w b T n f) : Has w.drew b T n f := h
theorem Has.drewN (h : Has w b T n f) (k : Nat) : Has (w.drewN k) b T n f := by
  exact h
theorem Has.alloc (h : Has w b T n f) (o : Obj) : Has (w.alloc o) b T n f := by
  unfold Has; rw [Below.heap_alloc w o b h.lt]; exact h
theorem Has.new (w : World) (T : TypeId) (n : Nat) (f : Nat → Value) : Has (w.alloc (.cells (cellsOf f n) T (0, 0))) w.heap.size T n f := heap_alloc_new w _
theorem Has.other (h : Has w b T n f) {p : Addr} (v : Value) (hne : b ≠ p.block) : Has (w.setCell p v) b T n f := h.same (Below.heap_setCell w p v b hne)
theorem Has.set (h : Has w b T n f) (k : Nat) (v : Value) : Has (w.setCell ⟨b, k, none⟩ v) b T n (upd f k v) := by
  unfold Has at h ⊢
  rw [← set_cellsOf]
  simp [World.setCell, Array.getElem?_modify, h]
theorem Has.row (h : Has w b T n f) (g : Nat → Value) : Has (w.setRow b (cellsOf g n)) b T n g := setRow_heap w b _ _ T _ h
end
theorem below_drewN {B : Nat} {a w : World} (h : Below B a w) (k : Nat) : Below B a (w.drewN k) := h.trans ⟨rfl, rfl, rfl, Nat.le_refl _, fun _ _ => rfl⟩
/-- A table: a block of n cells, by a function of the place, of whatever mark. -/
def Tab (w : World) (b n : Nat) (f : Nat → Value) : Prop := ∃ T fr, w.heap[b]? = some (.cells (cellsOf f n) T fr)
section
variable {w w' : World} {b n : Nat} {f : Nat → Value}
theorem Tab.lt (h : Tab w b n f) : b < w.heap.size := by obtain ⟨_, _, h⟩ := h; exact (Array.getElem?_eq_some_iff.1 h).1
theorem Tab.cell (h : Tab w b n f) {j : Nat} (hj : j < n) : w.cell? ⟨b, j, none⟩ = some (f j) := by
  obtain ⟨T, fr, h⟩ := h
  rw [cell_of_row w b j _ T fr h, get_cellsOf f n j hj]
theorem Tab.same (h : Tab w b n f) (e : w'.heap[b]? = w.heap[b]?) : Tab w' b n f := by obtain ⟨T, fr, h⟩ := h; exact ⟨T, fr, e.trans h⟩
theorem Tab.below {B : Nat} (h : Tab w b n f) (hb : Below B w w') (hlt : b < B) : Tab w' b n f := h.same (hb.block b hlt)
theorem Tab.drew (h : Tab w b n f) : Tab w.drew b n f := h
theorem Tab.drewN (h : Tab w b n f) (k : Nat) : Tab (w.drewN k) b n f := h
end
/-- The heap has so many blocks. -/
def Sz (w : World) (n : Nat) : Prop := w.heap.size = n
/-- Block b alone may have turned. -/
structure Touch (b : Nat) (w w' : World) : Prop where
  os : w'.os = w.os
  tape : w'.tape = w.tape
  output : w'.output = w.output
  size : w'.heap.size = w.heap.size
  block : ∀ k, k ≠ b → w'.heap[k]? = w.heap[k]?
theorem Touch.below {b B : Nat} {a w w' : World} (h : Touch b w w') (k : Below B a w) (hb : B ≤ b) : Below B a w' :=
  k.trans ⟨h.os, h.tape, h.output, Nat.le_of_eq h.size.symm, fun i hi => h.block i (by omega)⟩
theorem Touch.sz {b n : Nat} {w w' : World} (h : Touch b w w') (k : Sz w n) : Sz w' n := h.size.trans k
theorem Has.touch {w w' : World} {b c : Nat} {T : TypeId} {n : Nat} {f : Nat → Value} (h : Has w b T n f) (t : Touch c w w') (hne : b ≠ c) : Has w' b T n f := h.same (t.block b hne)
theorem touch_setCell (w : World) (p : Addr) (v : Value) : Touch p.block w (w.setCell p v) :=
  ⟨rfl, rfl, rfl, by simp [World.setCell], fun k hk => Below.heap_setCell w p v k hk⟩
theorem touch_setRow (w : World) (g : Nat) (cs : Array Value) : Touch g w (w.setRow g cs) :=
  ⟨rfl, rfl, rfl, by simp [World.setRow], fun k hk => setRow_other w g k cs hk⟩
theorem below_new (w : World) (o : Obj) (N : Nat) (hN : Sz w N) : Below N w (w.alloc o) := by
  have := (Below.refl N w).alloc (Nat.le_of_eq hN.symm) o
  exact this
theorem sz_alloc {w : World} {N : Nat} (hN : Sz w N) (o : Obj) : Sz (w.alloc o) (N + 1) := by
  show (w.heap.push o).size = N + 1
  rw [Array.size_push, show w.heap.size = N from hN]
theorem has_new {w : World} {N : Nat} (hN : Sz w N) (T : TypeId) (n : Nat) (f : Nat → Value) : Has (w.alloc (.cells (cellsOf f n) T (0, 0))) N T n f := by
  have := Has.new w T n f
  rwa [show w.heap.size = N from hN] at this
theorem below_sz {B n m : Nat} {w w' : World} (h : Below B w w') (a : Sz w n) (b : Sz w' m) : n ≤ m := by
  have h1 := h.size
  have h2 : w.heap.size = n := a
  have h3 : w'.heap.size = m := b
  omega
theorem sz_some (w : World) : ∃ n, Sz w n := ⟨_, rfl⟩
theorem Has.ltN {w : World} {b : Nat} {T : TypeId} {n : Nat} {f : Nat → Value} (h : Has w b T n f) {N : Nat} (hN : Sz w N) : b < N := by have := h.lt; rwa [show w.heap.size = N from hN] at this
section laws
variable {P : Program} {ops : Array Oper} {rest : List Oper} {o : Oper} {a : Act} {w : World} {Q : Exit → Act → World → Prop}
/-- A new variable of many cells. -/
theorem wpl_alloc (hg : o.guard = none) (T : TypeId) (ho : o.op = .alloc T) (n : Nat) (f : Nat → Value) (hz : (P.info? T).map (fun i => (i.zero, i.size)) = some (some (.agg (cellsOf f n)), n))
    (N : Nat) (hN : Sz w N) (h : ∀ w1, Sz w1 (N + 1) → Below N w w1 → Has w1 N T n f → wpList P ops Q rest (a.put o.dst (.pointer (some ⟨N, 0, none⟩))) w1) : wpList P ops Q (o :: rest) a w := by
  refine wpList_plain hg fun K hK => ?_
  have hz' := (zero_of_info hz).1 w
  have e : w.heap.size = N := hN
  subst e
  unfold Oper.wp execOp
  simp only [ho, Sem.run_bind, Instr.alloc, newVar, newRow, hz', Result.andThen_ok, run_newObj_alloc, Sem.run_pure]
  exact hK _ _ (h _ (sz_alloc rfl _) (below_new _ _ _ rfl) (has_new rfl T n f))
/-- A new variable that holds a value of many cells. -/
theorem wpl_box (hg : o.guard = none) (T : TypeId) (x : Operand) (ho : o.op = .box T x) (n : Nat) (f : Nat → Value) (hx : a.eval x = .agg (cellsOf f n))
    (N : Nat) (hN : Sz w N) (h : ∀ w1, Sz w1 (N + 1) → Below N w w1 → Has w1 N T n f → wpList P ops Q rest (a.put o.dst (.pointer (some ⟨N, 0, none⟩))) w1) : wpList P ops Q (o :: rest) a w := by
  refine wpList_plain hg fun K hK => ?_
  have e : w.heap.size = N := hN
  subst e
  unfold Oper.wp execOp
  simp only [ho, hx, Value.cells, Sem.run_bind, Instr.box, newVar, newRow, run_newObj_alloc, Sem.run_pure, Result.andThen_ok]
  exact hK _ _ (h _ (sz_alloc rfl _) (below_new _ _ _ rfl) (has_new rfl T n f))
/-- A whole array is read. -/
theorem wpl_load (hg : o.guard = none) (ty : TypeId) (x : Operand) (ho : o.op = .load ty x) (b : Nat) (hx : a.eval x = .pointer (some ⟨b, 0, none⟩)) (T : TypeId) (n : Nat) (f : Nat → Value) (hh : Has w b T n f)
    (d : TypeDesc) (hu : P.underlying ty = some d) (hd : d.isRow = true) (hi : (P.info? ty).map (·.size) = some n) (h : wpList P ops Q rest (a.put o.dst (.agg (cellsOf f n))) w) : wpList P ops Q (o :: rest) a w :=
  wpList_load_row hg ty x ho b hx T (cellsOf f n) (0, 0) d hh.out hu (by cases d <;> simp_all) (by rw [hi, size_cellsOf]) h
theorem wpl_load_tab (hg : o.guard = none) (ty : TypeId) (x : Operand) (ho : o.op = .load ty x) (b : Nat) (hx : a.eval x = .pointer (some ⟨b, 0, none⟩)) (n : Nat) (f : Nat → Value) (hh : Tab w b n f)
    (d : TypeDesc) (hu : P.underlying ty = some d) (hd : d.isRow = true) (hi : (P.info? ty).map (·.size) = some n) (h : wpList P ops Q rest (a.put o.dst (.agg (cellsOf f n))) w) : wpList P ops Q (o :: rest) a w := by
  obtain ⟨T, fr, hh⟩ := hh
  exact wpList_load_row hg ty x ho b hx T (cellsOf f n) fr d hh hu (by cases d <;> simp_all) (by rw [hi, size_cellsOf]) h
/-- A whole array is written. -/
theorem wpl_store (hg : o.guard = none) (ty : TypeId) (x y : Operand) (ho : o.op = .store ty x y) (b : Nat) (n : Nat) (g : Nat → Value) (hx : a.eval x = .pointer (some ⟨b, 0, none⟩)) (hy : a.eval y = .agg (cellsOf g n))
    (T : TypeId) (f : Nat → Value) (hh : Has w b T n f) (hi : (P.info? ty).map (·.size) = some n) (h1 : ∀ j, j < n → (g j).oneCell' = true)
    (h : ∀ w1, Touch b w w1 → Has w1 b T n g → wpList P ops Q rest (a.put o.dst undef) w1) : wpList P ops Q (o :: rest) a w :=
  wpList_store_row hg ty x y ho b (cellsOf g n) hx hy T (cellsOf f n) hh.out (by rw [hi, size_cellsOf]) (by rw [size_cellsOf, size_cellsOf])
    (by rw [Array.all_eq_true_iff_forall_mem]; intro v hv; simp only [cellsOf, List.mem_toArray, List.mem_map, List.mem_range] at hv; obtain ⟨j, hj, rfl⟩ := hv; exact h1 j hj)
    (h _ (touch_setRow w b _) (hh.row g))
theorem post_cell {fn : Func} {R : Ending → World → Prop} {p : Tmp} {T : TypeId} (hr : fn.results = #[.cell p T]) (b : Nat) (hp : a.tmps.getD p undef = .pointer (some ⟨b, 0, none⟩))
    {n : Nat} {f : Nat → Value} (hh : Has w b T n f) (d : TypeDesc) (hu : P.underlying T = some d) (hd : d.isRow = true) (hi : (P.info? T).map (·.size) = some n)
    (hdef : a.defers = []) (hR : R (.returned (.agg (cellsOf f n))) w) : bodyPost P fn R .ret a w :=
  bodyPost_ret (results_cell_row hr a.tmps w b T (cellsOf f n) (0, 0) d hp hh.out hu (by cases d <;> simp_all) (by rw [hi, size_cellsOf])) hdef hR
theorem run_index_cells (xT e len : Nat) (f : Nat → Value) (n k : Nat) (d : TypeDesc) (hu : P.underlying xT = some (.array len e)) (he : P.underlying e = some d) (hd : (match d with | .struct _ | .array _ _ => false | _ => true) = true)
    (hs : (P.info? e).map (·.size) = some 1) (hk : k < len) (hn : k < n) (w : World) :
    (Instr.index xT (.agg (cellsOf f n)) (.int .i64 (k : Int))).run P w = .ok (f k) w := by
  cases hq : P.info? e with
  | none => simp [hq] at hs
  | some i =>
    have hi : i.size = 1 := by simpa [hq] using hs
    have hagg : (isAgg e).run P w = .ok false w := by
      unfold isAgg
      rw [Sem.run_bind, run_underlying he w]
      cases d <;> simp_all
    simp [Instr.index, asIntOf, Sem.run_bind, run_underlying hu w, sizeOf, typeInfo, hq, hi, part, hagg, get_cellsOf f n k hn]
    intro hle; omega
end laws
end Go.Proofs.YtjdclgnlnehjlaaDoor
namespace Go.Proofs.YtjdclgnlnehjlaaDoor
open Go Go.RowKit
/-- A slice's length, for a measure. -/
def lenOf : Value → Nat | .slice _ n _ => n | _ => 0
/-- g, m long, laid over f from place o on. -/
def lay (f : Nat → Value) (o m : Nat) (g : Nat → Value) : Nat → Value := fun j => if o ≤ j ∧ j < o + m then g (j - o) else f j
/-- Block R has turned, and there may be new ones. -/
structure Mod (R : Nat) (w w' : World) : Prop where
  os : w'.os = w.os
  tape : w'.tape = w.tape
  output : w'.output = w.output
  size : w.heap.size ≤ w'.heap.size
  block : ∀ k, k < w.heap.size → k ≠ R → w'.heap[k]? = w.heap[k]?
theorem Mod.refl (R : Nat) (w : World) : Mod R w w := ⟨rfl, rfl, rfl, Nat.le_refl _, fun _ _ _ => rfl⟩
theorem Mod.trans {R : Nat} {a b c : World} (h : Mod R a b) (k : Mod R b c) : Mod R a c :=
  ⟨k.os.trans h.os, k.tape.trans h.tape, k.output.trans h.output, Nat.le_trans h.size k.size, fun i hi hr => (k.block i (Nat.lt_of_lt_of_le hi h.size) hr).trans (h.block i hi hr)⟩
theorem Touch.mod {R : Nat} {w w' : World} (h : Touch R w w') : Mod R w w' := ⟨h.os, h.tape, h.output, Nat.le_of_eq h.size.symm, fun k _ hk => h.block k hk⟩
theorem mod_of_below {R N : Nat} {w w' : World} (hN : Sz w N) (h : Below N w w') : Mod R w w' := ⟨h.os, h.tape, h.output, h.size, fun k hk _ => h.block k (by have e : w.heap.size = N := hN; omega)⟩
theorem mod_drew (R : Nat) (w : World) : Mod R w w.drew := ⟨rfl, rfl, rfl, Nat.le_refl _, fun _ _ _ => rfl⟩
theorem Mod.below {R B : Nat} {a w w' : World} (h : Mod R w w') (k : Below B a w) (hR : B ≤ R) (hB : B ≤ w.heap.size) : Below B a w' :=
  k.trans ⟨h.os, h.tape, h.output, h.size, fun i hi => h.block i (by omega) (by omega)⟩
theorem Has.mod {w w' : World} {b R : Nat} {T : TypeId} {n : Nat} {f : Nat → Value} (h : Has w b T n f) (m : Mod R w w') (hne : b ≠ R) : Has w' b T n f := h.same (m.block b h.lt hne)
theorem Tab.mod {w w' : World} {b R n : Nat} {f : Nat → Value} (h : Tab w b n f) (m : Mod R w w') (hne : b ≠ R) : Tab w' b n f := h.same (m.block b h.lt hne)
theorem Mod.cell {w w' : World} {R : Nat} (m : Mod R w w') {p : Addr} {v : Value} (h : w.cell? p = some v) (hne : p.block ≠ R) : w'.cell? p = some v := by
  rw [World.cell?_of_block (w := w) (m.block p.block (World.block_lt_of_cell? w p h) hne)]; exact h
theorem Touch.cell {w w' : World} {R : Nat} (m : Touch R w w') {p : Addr} {v : Value} (h : w.cell? p = some v) (hne : p.block ≠ R) : w'.cell? p = some v := m.mod.cell h hne
section
variable {w : World} {b : Nat} {T : TypeId} {n : Nat} {f g : Nat → Value}
theorem Has.rangeAt (h : Has w b T n f) (o m : Nat) (hm : o + m ≤ n) : w.rangeAt b o (cellsOf (fun j => f (o + j)) m).toList := fun j v hv => by
  have hj : j < m := by
    have := (List.getElem?_eq_some_iff.1 hv).1
    simpa [cellsOf] using this
  rw [h.cell (by omega), ← hv]
  simp [cellsOf, hj]
theorem Has.there (h : Has w b T n f) (o m : Nat) (hm : o + m ≤ n) : w.there b o m := fun j hj => ⟨by rw [h.cell (by omega)]; rfl, h.free _⟩
theorem touch_setCells (b : Nat) : ∀ (vs : List Value) (o : Nat) (w : World), Touch b w (w.setCells b o vs)
  | [], _, _ => ⟨rfl, rfl, rfl, rfl, fun _ _ => rfl⟩
  | v :: vs, o, w => by
    have h1 := touch_setCell w ⟨b, o, none⟩ v
    have h2 := touch_setCells b vs (o + 1) (w.setCell ⟨b, o, none⟩ v)
    exact ⟨h2.os.trans h1.os, h2.tape.trans h1.tape, h2.output.trans h1.output, h2.size.trans h1.size, fun k hk => (h2.block k hk).trans (h1.block k hk)⟩
theorem Has.setCells : ∀ (m o : Nat) (g : Nat → Value) {w : World} {f : Nat → Value}, Has w b T n f → Has (w.setCells b o ((List.range m).map g)) b T n (lay f o m g)
  | 0, o, g, w, f, h => h.congr (fun j _ => by simp only [lay]; rw [if_neg (by omega)])
  | m + 1, o, g, w, f, h => by
    rw [List.range_succ_eq_map, List.map_cons, List.map_map]
    have h1 := Has.setCells m (o + 1) (g ∘ Nat.succ) (h.set o (g 0))
    refine Has.congr h1 (fun j _ => ?_)
    simp only [lay, upd, Function.comp]
    by_cases e : j = o
    · subst e; rw [if_neg (by omega), if_pos rfl, if_pos (by omega), Nat.sub_self]
    · by_cases e2 : o ≤ j ∧ j < o + (m + 1)
      · rw [if_pos (by omega), if_pos e2, show (j - (o + 1)).succ = j - o from by omega]
      · rw [if_neg (by omega), if_neg e, if_neg e2]
variable {P : Program}
theorem run_load_part (h : Has w b T n f) (o m : Nat) (hm : o + m ≤ n) (ty : TypeId) (d : TypeDesc) (hu : P.underlying ty = some d) (hd : d.isRow = true) (hi : (P.info? ty).map (·.size) = some m) :
    (Instr.loadAt ty (.pointer (some ⟨b, o, none⟩))).run P w = .ok (.agg (cellsOf (fun j => f (o + j)) m)) w := by
  have := run_loadAt_mid (P := P) w b o ty (cellsOf (fun j => f (o + j)) m).toList d (h.rangeAt o m hm) hu hd (by rw [hi]; simp [cellsOf])
  simpa using this
theorem run_store_part (h : Has w b T n f) (o m : Nat) (hm : o + m ≤ n) (ty : TypeId) (g : Nat → Value) (hi : (P.info? ty).map (·.size) = some m) (h1 : ∀ j, j < m → (g j).oneCell' = true) :
    (Instr.storeAt ty (.pointer (some ⟨b, o, none⟩)) (.agg (cellsOf g m))).run P w = .ok () (w.setCells b o ((List.range m).map g)) := by
  have := run_storeAt_mid (P := P) w b o ty (cellsOf g m) (by rw [size_cellsOf]; exact h.there o m hm) (by rw [hi, size_cellsOf])
    (by rw [Array.all_eq_true_iff_forall_mem]; intro v hv; simp only [cellsOf, List.mem_toArray, List.mem_map, List.mem_range] at hv; obtain ⟨j, hj, rfl⟩ := hv; exact h1 j hj)
  simpa [cellsOf] using this
end
/-- Where a slice begins that was cut at n. -/
def cutAt (a : Option Addr) (cap n : Nat) : Option Addr := if cap = n then a else a.map (·.add n)
theorem cutAt_lt (b o cap n : Nat) (h : n < cap) : cutAt (some ⟨b, o, none⟩) cap n = some ⟨b, o + n, none⟩ := by
  unfold cutAt; rw [if_neg (by omega)]; simp [Addr.add_mid]
section
variable {P : Program}
theorem run_slice_from (t e : TypeId) (hu : P.underlying t = some (.slice e)) (hs : (P.info? e).map (·.size) = some 1) (a : Option Addr) (len cap n : Nat) (h : n ≤ len) (w : World) :
    (Instr.sliceAt t (.slice a len cap) (some (.int .i64 (n : Int))) none none).run P w = .ok (.slice (cutAt a cap n) (len - n) (cap - n)) w := by
  cases hq : P.info? e with
  | none => simp [hq] at hs
  | some i =>
    have hi : i.size = 1 := by simpa [hq] using hs
    simp [Instr.sliceAt, Instr.slice, run_underlying hu, Instr.sliceBounds, Instr.sliceBound, asIntOf, sizeOf, typeInfo, hq, hi, Sem.run_bind, h, cutAt]
theorem run_sliceArr_from (t e : TypeId) (k : Nat) (hu : P.underlying t = some (.array k e)) (hs : (P.info? e).map (·.size) = some 1) (b o n : Nat) (h : n < k) (w : World) :
    (Instr.sliceAt t (.pointer (some ⟨b, o, none⟩)) (some (.int .i64 (n : Int))) none none).run P w = .ok (.slice (some ⟨b, o + n, none⟩) (k - n) (k - n)) w := by
  cases hq : P.info? e with
  | none => simp [hq] at hs
  | some i =>
    have hi : i.size = 1 := by simpa [hq] using hs
    have h' : n ≤ k := Nat.le_of_lt h
    have h'' : ¬ k = n := by omega
    simp [Instr.sliceAt, Instr.sureAddr, run_underlying hu, Instr.sliceBounds, Instr.sliceBound, asIntOf, sizeOf, typeInfo, hq, hi, Sem.run_bind, h', h'', Addr.add_mid]
theorem run_sliceArr_all (t e : TypeId) (k : Nat) (hu : P.underlying t = some (.array k e)) (hs : (P.info? e).map (·.size) = some 1) (b o : Nat) (w : World) :
    (Instr.sliceAt t (.pointer (some ⟨b, o, none⟩)) none none none).run P w = .ok (.slice (some ⟨b, o, none⟩) k k) w := by
  cases hq : P.info? e with
  | none => simp [hq] at hs
  | some i =>
    simp [Instr.sliceAt, Instr.sureAddr, run_underlying hu, Instr.sliceBounds, sizeOf, typeInfo, hq, Sem.run_bind, Addr.add]
end
section laws
variable {P : Program} {ops : Array Oper} {rest : List Oper} {o : Oper} {a : Act} {w : World} {Q : Exit → Act → World → Prop}
/-- A copy of m cells, one or more, into a row. -/
theorem wpl_copy (hg : o.guard = none) (d s : Operand) (dT sT : TypeId) (ho : o.op = .call { callee := .builtin .copy, args := #[d, s], argTypes := #[dT, sT] })
    (elem : TypeId) (hu : P.underlying dT = some (.slice elem)) (hsz : (P.info? elem).map (·.size) = some 1)
    (b off dLen dCap : Nat) (hd : a.eval d = .slice (some ⟨b, off, none⟩) dLen dCap) (ad : Addr) (sLen sCap : Nat) (hs : a.eval s = .slice (some ad) sLen sCap)
    (T n : Nat) (f : Nat → Value) (hh : Has w b T n f) (m : Nat) (g : Nat → Value) (hm : m = Nat.min sLen dLen) (hsrc : ∀ j, j < m → w.cell? (ad.add j) = some (g j)) (hfit : off + m ≤ n)
    (h1 : ∀ j, j < m → (g j).oneCell' = true)
    (h : ∀ w1, Touch b w w1 → Has w1 b T n (lay f off m g) → wpList P ops Q rest (a.put o.dst (.int .i64 (m : Int))) w1) : wpList P ops Q (o :: rest) a w := by
  refine wpList_plain hg fun K hK => ?_
  have hrun := run_copy_row (P := P) w dT sT o.type elem b off dLen dCap ad sLen sCap (cellsOf f n) T ((List.range m).map g) hu hsz hh.out (by simp [hm])
    (fun j v hv => by
      have hj : j < m := by
        have := (List.getElem?_eq_some_iff.1 hv).1
        simpa using this
      rw [hsrc j hj, ← hv]; simp [hj])
    (by simpa [size_cellsOf] using hfit)
    (fun v hv => by simp only [List.mem_map, List.mem_range] at hv; obtain ⟨j, hj, rfl⟩ := hv; exact h1 j hj)
  have hrow : ((cellsOf f n).toList.take off ++ (List.range m).map g ++ (cellsOf f n).toList.drop (off + ((List.range m).map g).length)).toArray = cellsOf (lay f off m g) n := by
    apply Array.ext_getElem?
    intro j
    simp only [cellsOf, List.getElem?_toArray, List.length_map, List.length_range, List.append_assoc]
    by_cases h0 : j < off
    · rw [List.getElem?_append_left (by simp; omega)]
      have hjn : j < n := by omega
      simp [h0, hjn, lay]
      intro; omega
    · rw [List.getElem?_append_right (by simp; omega)]
      have e0 : (List.take off ((List.range n).map f)).length = off := by simp; omega
      rw [e0]
      by_cases h2 : j < off + m
      · rw [List.getElem?_append_left (by simp; omega)]
        have hjn : j < n := by omega
        have hjm : j - off < m := by omega
        simp [hjn, hjm, lay]
        intro hlt; omega
      · rw [List.getElem?_append_right (by simp; omega)]
        have e1 : off + m + (j - off - m) = j := by omega
        by_cases hjn : j < n
        · simp [e1, hjn, lay]
          intro; omega
        · simp [e1, hjn]
  rw [hrow] at hrun
  unfold Oper.wp
  simp only [List.length_map, List.length_range] at hrun
  simp [execOp, ho, resolve, invoke, builtin, hd, hs, hrun, Result.andThen]
  exact hK _ _ (h _ (touch_setRow w b _) (hh.row _))
theorem wpl_build (hg : o.guard = none) (t : TypeId) (parts : Array (Nat × Operand)) (ho : o.op = .build t parts) (cells : Array Value)
    (hb : P.built t (parts.map fun (i, x) => (i, a.eval x)).toList = some cells) (h : wpList P ops Q rest (a.put o.dst (.agg cells)) w) : wpList P ops Q (o :: rest) a w :=
  wpList_build hg t parts ho (by rw [hb]; rfl) (by rw [hb]; exact h)
theorem run_store_one {b k T n : Nat} {f : Nat → Value} (hh : Has w b T n f) (hk : k < n) (ty : TypeId) (v : Value) (hi : (P.info? ty).map (·.size) = some 1) (hv : v.cells = #[v]) (h1 : v.oneCell' = true) :
    (Instr.storeAt ty (.pointer (some ⟨b, k, none⟩)) v).run P w = .ok () (w.setCell ⟨b, k, none⟩ v) := by
  have := run_storeCells_cells (P := P) b k [v] 0 w (fun j hj => by
      have : j = 0 := by simpa using hj
      subst this
      rw [show k + 0 = k from rfl]
      rw [hh.cell hk]; rfl) (fun j _ => hh.free _) (fun u hu => by
      have : u = v := by simpa using hu
      rw [this]; exact h1)
  cases hq : P.info? ty with
  | none => simp [hq] at hi
  | some i =>
    have hs : i.size = 1 := by simpa [hq] using hi
    simp only [Nat.add_zero, World.setCells] at this
    simp [Instr.storeAt, Instr.sureAddr, storeVar, sizeOf, typeInfo, hq, hv, hs, this]
/-- One cell is written. -/
theorem wpl_set (hg : o.guard = none) (ty : TypeId) (x y : Operand) (ho : o.op = .store ty x y) (b k : Nat) (hx : a.eval x = .pointer (some ⟨b, k, none⟩)) (v : Value) (hy : a.eval y = v)
    (hi : (P.info? ty).map (·.size) = some 1) (hv : v.cells = #[v]) (h1 : v.oneCell' = true) (T n : Nat) (f : Nat → Value) (hh : Has w b T n f) (hk : k < n)
    (h : ∀ w1, Touch b w w1 → Has w1 b T n (upd f k v) → wpList P ops Q rest (a.put o.dst undef) w1) : wpList P ops Q (o :: rest) a w := by
  refine wpList_plain hg fun K hK => ?_
  have hrun := run_store_one (P := P) hh hk ty v hi hv h1
  unfold Oper.wp execOp
  simp only [ho, hx, hy, Sem.run_bind, hrun, Result.andThen_ok]
  exact hK _ _ (h _ (touch_setCell w ⟨b, k, none⟩ v) (hh.set k v))
/-- A part of a row is read, whole. -/
theorem wp_load_part {K : Act → World → Prop} (ty : TypeId) (x : Operand) (ho : o.op = .load ty x) (b off : Nat) (hx : a.eval x = .pointer (some ⟨b, off, none⟩)) (T : TypeId) (n : Nat) (f : Nat → Value) (hh : Has w b T n f)
    (m : Nat) (hm : off + m ≤ n) (g : Nat → Value) (hg : ∀ j, j < m → f (off + j) = g j) (d : TypeDesc) (hu : P.underlying ty = some d) (hd : d.isRow = true) (hi : (P.info? ty).map (·.size) = some m) (h : K (a.put o.dst (.agg (cellsOf g m))) w) : o.wp P a w K Q := by
  have hrun := run_load_part (P := P) hh off m hm ty d hu hd hi
  rw [cellsOf_congr hg] at hrun
  unfold Oper.wp execOp
  simp only [ho, hx, Sem.run_bind, hrun, Result.andThen_ok]
  exact h
theorem wpl_load_part (hgd : o.guard = none) (ty : TypeId) (x : Operand) (ho : o.op = .load ty x) (b off : Nat) (hx : a.eval x = .pointer (some ⟨b, off, none⟩)) (T : TypeId) (n : Nat) (f : Nat → Value) (hh : Has w b T n f)
    (m : Nat) (hm : off + m ≤ n) (g : Nat → Value) (hg : ∀ j, j < m → f (off + j) = g j) (d : TypeDesc) (hu : P.underlying ty = some d) (hd : d.isRow = true) (hi : (P.info? ty).map (·.size) = some m) (h : wpList P ops Q rest (a.put o.dst (.agg (cellsOf g m))) w) :
    wpList P ops Q (o :: rest) a w := wpList_plain hgd fun _ hK => wp_load_part ty x ho b off hx T n f hh m hm g hg d hu hd hi (hK _ _ h)
/-- A part of a row is written, whole. -/
theorem wpl_store_part (hgd : o.guard = none) (ty : TypeId) (x y : Operand) (ho : o.op = .store ty x y) (b off : Nat) (hx : a.eval x = .pointer (some ⟨b, off, none⟩)) (m : Nat) (g : Nat → Value) (hy : a.eval y = .agg (cellsOf g m))
    (T : TypeId) (n : Nat) (f : Nat → Value) (hh : Has w b T n f) (hm : off + m ≤ n) (hi : (P.info? ty).map (·.size) = some m) (h1 : ∀ j, j < m → (g j).oneCell' = true)
    (h : ∀ w1, Touch b w w1 → Has w1 b T n (lay f off m g) → wpList P ops Q rest (a.put o.dst undef) w1) : wpList P ops Q (o :: rest) a w := by
  refine wpList_plain hgd fun K hK => ?_
  have hrun := run_store_part (P := P) hh off m hm ty g hi h1
  unfold Oper.wp execOp
  simp only [ho, hx, hy, Sem.run_bind, hrun, Result.andThen_ok]
  exact hK _ _ (h _ (touch_setCells b _ off w) (Has.setCells m off g hh))
/-- An operation that asks nothing of the world. -/
theorem wpl_pure (hgd : o.guard = none) {v : Value} (hrun : ∀ w, (execOp a.eval o).run P w = .ok (.value v) w) (h : wpList P ops Q rest (a.put o.dst v) w) : wpList P ops Q (o :: rest) a w := by
  refine wpList_plain hgd fun K hK => ?_
  unfold Oper.wp
  rw [hrun w]
  exact hK _ _ h
end laws
end Go.Proofs.YtjdclgnlnehjlaaDoor
namespace Go.Proofs.YtjdclgnlnehjlaaDoor
open Go Go.RowKit
theorem wanted_none {o : Oper} {y : Nat → Option Bool} {A B : Prop} (hg : o.guard = none) (x : A) : if Region.wanted o y = true then A else B := by
  rw [if_pos (by simp [Region.wanted, hg])]; exact x
/-- One operation alone may come up, each time. -/
def chained (md : Region.Mode) (ops : Array Oper) : Array Bool → List Nat → Bool
  | listed, [] => (Region.ready md ops listed).isEmpty
  | listed, i :: r => Region.ready md ops listed == [i] && (ops[i]?).isSome && chained md ops (listed.setIfInBounds i true) r
theorem wpAny_chain {P : Program} {md : Region.Mode} {ops : Array Oper} {Q : Exit → Act → World → Prop} : ∀ (r : List Nat) (fuel : Nat) (listed : Array Bool) (a : Act) (w : World),
    chained md ops listed r = true → r.length ≤ fuel → wpList P ops Q (r.filterMap (ops[·]?)) a w → wpAny P md ops Q fuel listed a w
  | [], fuel, listed, a, w, hc, _, h => by
    simp only [chained, List.isEmpty_iff] at hc
    exact wpAny_done hc h fuel
  | i :: r, fuel, listed, a, w, hc, hf, h => by
    simp only [chained, Bool.and_eq_true, beq_iff_eq] at hc
    obtain ⟨⟨h1, h2⟩, h3⟩ := hc
    obtain ⟨o, ho⟩ := Option.isSome_iff_exists.1 h2
    obtain ⟨fuel, rfl⟩ : ∃ k, fuel = k + 1 := ⟨fuel - 1, by simp only [List.length_cons] at hf; omega⟩
    refine wpAny_all h1 (by simp) (fun j hj => ?_)
    obtain rfl : j = i := by simpa using hj
    simp only [List.filterMap_cons, ho] at h
    unfold wpOp
    simp only [ho]
    unfold wpList at h
    have hl : r.length ≤ fuel := by simp only [List.length_cons] at hf; omega
    have mono : ∀ a w, wpList P ops Q (r.filterMap (ops[·]?)) a w → wpAny P md ops Q fuel (listed.setIfInBounds j true) a w := fun a w h => wpAny_chain r fuel _ a w h3 hl h
    split
    · rename_i hw
      rw [if_pos hw] at h
      exact h.imp (fun h => Oper.wp_mono mono h) id
    · rename_i hw
      rw [if_neg hw] at h
      exact mono _ _ h
/-- An operation by what it runs to. -/
theorem wpl_run {P : Program} {ops : Array Oper} {rest : List Oper} {o : Oper} {a : Act} {w : World} {Q : Exit → Act → World → Prop} (hgd : o.guard = none) (v : Value) (w' : World)
    (hrun : (execOp a.eval o).run P w = .ok (.value v) w') (h : wpList P ops Q rest (a.put o.dst v) w') : wpList P ops Q (o :: rest) a w := by
  refine wpList_plain hgd fun K hK => ?_
  unfold Oper.wp
  rw [hrun]
  exact hK _ _ h
end Go.Proofs.YtjdclgnlnehjlaaDoor
namespace Go.Proofs.YtjdclgnlnehjlaaDoor
open Go Go.RowKit
/-- A later world, in which nothing below N has turned. -/
structure Later (N : Nat) (w : World) where
  w' : World
  b : Below N w w'
instance (N : Nat) (w : World) : Nonempty (Later N w) := ⟨⟨w, Below.refl N w⟩⟩
section
variable {P : Program} {N : Nat} {w : World}
theorem wp_region_later {id : Nat} {Q : Exit → Act → World → Prop} {a : Act} {l : List Oper} (N : Nat) (hm : P.follows .mixedOrders = true) (hB : Region.lexB .any l.toArray = true)
    (h : wpQuiet P l.toArray (fun w' => ∃ x : Later N w, w' = x.w') (fun a' => ∀ w', (∃ x : Later N w, w' = x.w') → Q .normal a' w') l a) : (Code.region id l.toArray true).wp P Q a w :=
  wp_region_quiet (C := fun w' => ∃ x : Later N w, w' = x.w') hm hB ⟨⟨w.drew, (Below.refl N w).drew⟩, rfl⟩ (by simpa using h)
/-- One operation, by what it runs to there. -/
theorem later_val {ops : Array Oper} {Q : Act → Prop} {a : Act} {o : Oper} {rest : List Oper} {v : Value} (hr : ∀ x : Later N w, (execOp a.eval o).run P x.w' = .ok (.value v) x.w') (hw : Region.wanted o (yielded ops a.tmps) = true)
    (h : wpQuiet P ops (fun w' => ∃ x : Later N w, w' = x.w') Q rest (a.put o.dst v)) : wpQuiet P ops (fun w' => ∃ x : Later N w, w' = x.w') Q (o :: rest) a :=
  wpQuiet_step fun K hK => by
    rw [if_pos hw]
    exact ⟨v, fun w1 ⟨x, e⟩ => by subst e; unfold Oper.quietAt; rw [hr x]; exact ⟨rfl, rfl⟩, hK _ h⟩
/-- A callee's contract there. -/
theorem later_of {f : FuncId} {args : Array Value} {v : Value} (hN : Sz w N) (x : Later N w) (h : ∀ M, Sz x.w' M → N ≤ M → Calls P f args x.w' fun e w' => e = .returned v ∧ Below M x.w' w') :
    Calls P f args x.w' fun e w'' => e = .returned v ∧ ∃ y : Later N w, w'' = y.w' :=
  have hNM := below_sz x.b hN (m := x.w'.heap.size) rfl
  (h _ rfl hNM).mono fun e w'' ⟨he, hb⟩ => ⟨he, ⟨w'', x.b.trans (hb.mono hNM)⟩, rfl⟩
theorem later_of_same {f : FuncId} {args : Array Value} {v : Value} (x : Later N w) (h : Calls P f args x.w' fun e w' => e = .returned v ∧ w' = x.w') :
    Calls P f args x.w' fun e w'' => e = .returned v ∧ ∃ y : Later N w, w'' = y.w' :=
  h.mono fun e w'' ⟨he, hb⟩ => ⟨he, x, hb⟩
theorem Later.cell {b o : Nat} {v : Value} (hN : Sz w N) (h : w.cell? ⟨b, o, none⟩ = some v) (x : Later N w) : x.w'.cell? ⟨b, o, none⟩ = some v := by
  rw [x.b.cell (p := ⟨b, o, none⟩) (by have := World.block_lt_of_cell? w _ h; have e : w.heap.size = N := hN; simp only at this ⊢; omega)]; exact h
theorem Later.has {b T n : Nat} {f : Nat → Value} (hN : Sz w N) (h : Has w b T n f) (x : Later N w) : Has x.w' b T n f := h.below x.b (h.ltN hN)
end
end Go.Proofs.YtjdclgnlnehjlaaDoor
namespace Go.Proofs.YtjdclgnlnehjlaaDoor
open Go Go.RowKit
section
variable {P : Program} {ops : Array Oper} {rest : List Oper} {o : Oper} {a : Act} {w : World} {Q : Exit → Act → World → Prop}
/-- What '==' of two structs or arrays runs to, and '!='. -/
theorem run_eql_op (t ty : TypeId) (x y : Operand) (ho : o.op = .binOp .eql t x y ty) (A B : Array Value) (hx : a.eval x = .agg A) (hy : a.eval y = .agg B) (r : Bool) (hm : P.eqGuardType P.depth t = false) (h : (Op.equalIn 10000 t (.agg A) (.agg B)).run P w = .ok r w) :
    (execOp a.eval o).run P w = .ok (.value (.bool r)) w := by
  unfold execOp
  simp only [ho, hx, hy, Sem.run_bind, run_eqGuard_agg w _ t x y A B hm, run_eql_struct, h, Result.andThen_ok, Sem.run_pure]
end
end Go.Proofs.YtjdclgnlnehjlaaDoor
namespace Go.Proofs.YtjdclgnlnehjlaaDoor
open Go Go.RowKit
/-- Q, but R where the code goes on. -/
def behind (Q : Exit → Act → World → Prop) (R : Act → World → Prop) : Exit → Act → World → Prop
  | .normal, a, w => R a w
  | .exit i, a, w => Q (.exit i) a w
  | .goto l, a, w => Q (.goto l) a w
  | .ret, a, w => Q .ret a w
  | .panic c, a, w => Q (.panic c) a w
  | .outgrown, a, w => Q .outgrown a w
theorem wp_behind {P : Program} {o : Oper} {a : Act} {w : World} {K : Act → World → Prop} {Q : Exit → Act → World → Prop} {R : Act → World → Prop} (h : o.wp P a w K (behind Q R)) : o.wp P a w K Q := by
  unfold Oper.wp at *
  generalize (execOp a.eval o).run P w = r at *
  exact h
def prechain (md : Region.Mode) (ops : Array Oper) : Array Bool → List Nat → Bool
  | _, [] => true
  | listed, i :: r => Region.ready md ops listed == [i] && (ops[i]?).isSome && prechain md ops (listed.setIfInBounds i true) r
section
variable {P : Program} {ops : Array Oper} {rest : List Oper} {o : Oper} {a : Act} {w : World} {Q : Exit → Act → World → Prop}
theorem wpl_want (hw : Region.wanted o (yielded ops a.tmps) = true) (h : wpList P ops Q ({ o with guard := none } :: rest) a w) : wpList P ops Q (o :: rest) a w := by
  unfold wpList at h ⊢
  rw [if_pos (by simp [Region.wanted])] at h
  rw [if_pos hw]
  exact h
end
end Go.Proofs.YtjdclgnlnehjlaaDoor
namespace Go.Proofs.YtjdclgnlnehjlaaDoor
open Go Go.RowKit
theorem wpOp_one {P : Program} {ops : Array Oper} {Q : Exit → Act → World → Prop} {i : Nat} {K : Act → World → Prop} {a : Act} {w : World} (h : wpList P ops (behind Q K) ([i].filterMap (ops[·]?)) a w) : wpOp P ops Q i K a w := by
  unfold wpOp
  cases ho : ops[i]? with
  | none => simp only [List.filterMap_cons, ho, List.filterMap_nil] at h; exact h
  | some o =>
    simp only [List.filterMap_cons, ho, List.filterMap_nil] at h
    unfold wpList at h
    have mono : ∀ a w, wpList P ops (behind Q K) [] a w → K a w := fun a w h => h
    dsimp only
    split
    · rename_i hw
      rw [if_pos hw] at h
      exact h.imp (fun h => Oper.wp_mono mono (wp_behind h)) (fun h => ⟨h.1, h.2⟩)
    · rename_i hw
      rw [if_neg hw] at h
      exact mono _ _ h
theorem wpOp_value {P : Program} {ops : Array Oper} {Q : Exit → Act → World → Prop} {i : Nat} {o : Oper} {K : Act → World → Prop} {a : Act} {w : World} {v : Value} (ho : ops[i]? = some o) (hw : Region.wanted o (yielded ops a.tmps) = true)
    (hrun : (execOp a.eval o).run P w = .ok (.value v) w) (h : K (a.put o.dst v) w) : wpOp P ops Q i K a w := by
  unfold wpOp
  simp only [ho]
  rw [if_pos hw]
  refine .inl ?_
  unfold Oper.wp
  rw [hrun]
  exact h
section
variable {P : Program} {a : Act} {w : World}
/-- What a load of a whole array runs to. -/
theorem run_ld {o : Oper} (ty : TypeId) (x : Operand) (ho : o.op = .load ty x) (b : Nat) (hx : a.eval x = .pointer (some ⟨b, 0, none⟩)) (T : TypeId) (n : Nat) (f : Nat → Value) (hh : Has w b T n f)
    (d : TypeDesc) (hu : P.underlying ty = some d) (hd : d.isRow = true) (hi : (P.info? ty).map (·.size) = some n) : (execOp a.eval o).run P w = .ok (.value (.agg (cellsOf f n))) w := by
  have hrun := run_load_part (P := P) hh 0 n (by omega) ty d hu hd hi
  simp only [Nat.zero_add] at hrun
  unfold execOp
  simp only [ho, hx, Sem.run_bind, hrun, Result.andThen_ok, Sem.run_pure]
end
section
variable {P : Program} {ops : Array Oper} {rest : List Oper} {o : Oper} {a : Act} {w : World} {Q : Exit → Act → World → Prop}
/-- A conversion, by what it runs to. -/
theorem wpl_conv (hgd : o.guard = none) (src dst : TypeId) (x : Operand) (ho : o.op = .convert src dst x) (u v : Value) (hx : a.eval x = u) (hrun : (convert src dst u).run P w = .ok v w) (h : wpList P ops Q rest (a.put o.dst v) w) : wpList P ops Q (o :: rest) a w := by
  refine wpl_run hgd v w ?_ h
  unfold execOp
  simp only [ho, hx, Sem.run_bind, hrun, Result.andThen_ok, Sem.run_pure]
end
end Go.Proofs.YtjdclgnlnehjlaaDoor
namespace Go.Proofs.YtjdclgnlnehjlaaDoor
open Go Go.RowKit
section
variable {P : Program} {Q : Exit → Act → World → Prop}
end
/-- Does s wait for i? -/
def waitsB (md : Region.Mode) (ops : Array Oper) (s i : Nat) : Bool := match ops[s]? with | some o => o.after.any (fun e => Region.binds md e && e.on == i) | none => false
end Go.Proofs.YtjdclgnlnehjlaaDoor
namespace Go.Proofs.YtjdclgnlnehjlaaDoor
open Go Go.RowKit
section
variable {P : Program} {md : Region.Mode} {ops : Array Oper} {Q : Exit → Act → World → Prop}
def dstOf (ops : Array Oper) (i : Nat) : Option Tmp := (ops[i]?).bind (·.dst)
/-- The values of those of the row that are done. -/
def puts (ops : Array Oper) (L : Nat → Bool) (vals : Nat → Value) : List Nat → Act → Act
  | [], a => a
  | i :: r, a => puts ops L vals r (if L i then a.put (dstOf ops i) (vals i) else a)
def marks (L : Nat → Bool) : List Nat → Array Bool → Array Bool
  | [], l => l
  | i :: r, l => marks L r (if L i then l.setIfInBounds i true else l)
def setL (L : Nat → Bool) (i : Nat) : Nat → Bool := fun j => if j = i then true else L j
def setV (vals : Nat → Value) (i : Nat) (v : Value) : Nat → Value := fun j => if j = i then v else vals j
theorem puts_congr {L L' : Nat → Bool} {vals vals' : Nat → Value} : ∀ (r : List Nat) (a : Act), (∀ j ∈ r, L j = L' j ∧ vals j = vals' j) → puts ops L vals r a = puts ops L' vals' r a
  | [], _, _ => rfl
  | i :: r, a, h => by
    obtain ⟨h1, h2⟩ := h i (by simp)
    simp only [puts, h1, h2]
    exact puts_congr r _ (fun j hj => h j (List.mem_cons_of_mem _ hj))
theorem marks_congr {L L' : Nat → Bool} : ∀ (r : List Nat) (l : Array Bool), (∀ j ∈ r, L j = L' j) → marks L r l = marks L' r l
  | [], _, _ => rfl
  | i :: r, l, h => by
    simp only [marks, h i (by simp)]
    exact marks_congr r _ (fun j hj => h j (List.mem_cons_of_mem _ hj))
theorem puts_comm {L : Nat → Bool} {vals : Nat → Value} (d : Option Tmp) (v : Value) : ∀ (r : List Nat) (a : Act), (∀ j ∈ r, ∀ t, dstOf ops j = some t → d ≠ some t) → puts ops L vals r (a.put d v) = (puts ops L vals r a).put d v
  | [], _, _ => rfl
  | i :: r, a, h => by
    simp only [puts]
    split
    · rw [← puts_comm d v r _ (fun j hj => h j (List.mem_cons_of_mem _ hj)), Act.put_comm a (vals i) v (fun t ht => h i (by simp) t ht)]
    · exact puts_comm d v r a (fun j hj => h j (List.mem_cons_of_mem _ hj))
theorem marks_comm {L : Nat → Bool} (k : Nat) : ∀ (r : List Nat) (l : Array Bool), marks L r (l.setIfInBounds k true) = (marks L r l).setIfInBounds k true
  | [], _ => rfl
  | i :: r, l => by
    simp only [marks]
    split
    · rw [← marks_comm k r]
      congr 1
      by_cases e : k = i
      · subst e; rfl
      · exact Array.setIfInBounds_comm _ _ e
    · exact marks_comm k r l
/-- Of these rows no two write to one slot. -/
def apartB (ops : Array Oper) : List Nat → Bool
  | [] => true
  | i :: r => r.all (fun j => j != i && (dstOf ops i == none || dstOf ops i != dstOf ops j)) && apartB ops r
theorem puts_set {L : Nat → Bool} {vals : Nat → Value} (i : Nat) (v : Value) (hi : L i = false) : ∀ (r : List Nat) (a : Act), apartB ops r = true → i ∈ r →
    (puts ops L vals r a).put (dstOf ops i) v = puts ops (setL L i) (setV vals i v) r a
  | [], _, _, h => by cases h
  | k :: r, a, hb, h => by
    simp only [apartB, Bool.and_eq_true, List.all_eq_true, bne_iff_ne, Bool.or_eq_true, beq_iff_eq] at hb
    obtain ⟨hk, hr⟩ := hb
    by_cases e : k = i
    · subst e
      simp only [puts, hi, setL, setV, if_true, Bool.false_eq_true, if_false]
      rw [← puts_comm (dstOf ops k) v r a (fun j hj t ht => by
        rcases (hk j hj).2 with h0 | h0
        · rw [h0]; simp
        · rw [← ht]; exact h0)]
      exact puts_congr r _ (fun j hj => by have := (hk j hj).1; simp [setL, setV, this])
    · have hir : i ∈ r := by
        rcases List.mem_cons.1 h with h | h
        · exact absurd h.symm e
        · exact h
      simp only [puts, setL, setV, if_neg e]
      exact puts_set i v hi r _ hr hir
theorem marks_set {L : Nat → Bool} (i : Nat) (hi : L i = false) : ∀ (r : List Nat) (l : Array Bool), r.Nodup → i ∈ r → (marks L r l).setIfInBounds i true = marks (setL L i) r l
  | [], _, _, h => by cases h
  | k :: r, l, hb, h => by
    rw [List.nodup_cons] at hb
    by_cases e : k = i
    · subst e
      simp only [marks, hi, setL, if_true]
      rw [← marks_comm]
      exact marks_congr r _ (fun j hj => by
        have : j ≠ k := fun e => hb.1 (e ▸ hj)
        simp [setL, this])
    · have hir : i ∈ r := by
        rcases List.mem_cons.1 h with h | h
        · exact absurd h.symm e
        · exact h
      simp only [marks, setL, if_neg e]
      exact marks_set i hi r _ hb.2 hir
theorem apart_nodup : ∀ (r : List Nat), apartB ops r = true → r.Nodup
  | [], _ => List.nodup_nil
  | i :: r, h => by
    simp only [apartB, Bool.and_eq_true, List.all_eq_true, bne_iff_ne] at h
    exact List.nodup_cons.2 ⟨fun hi => (h.1 i hi).1 rfl, apart_nodup r h.2⟩
theorem marks_getD_not {L : Nat → Bool} (k : Nat) (d : Bool) : ∀ (r : List Nat) (l : Array Bool), k ∉ r → (marks L r l).getD k d = l.getD k d
  | [], _, _ => rfl
  | i :: r, l, h => by
    simp only [List.mem_cons, not_or] at h
    simp only [marks]
    split
    · rw [marks_getD_not k d r _ h.2, getD_set_ne d (fun e => h.1 e.symm)]
    · exact marks_getD_not k d r l h.2
theorem marks_getD {L : Nat → Bool} (k : Nat) (d : Bool) : ∀ (r : List Nat) (l : Array Bool), r.Nodup → k ∈ r → l.getD k true = false → (marks L r l).getD k d = L k
  | [], _, _, h, _ => by cases h
  | i :: r, l, hn, h, hl => by
    rw [List.nodup_cons] at hn
    have hlt : k < l.size := by
      rcases Nat.lt_or_ge k l.size with h' | h'
      · exact h'
      · simp [Array.getElem?_eq_none h'] at hl
    by_cases e : i = k
    · subst e
      simp only [marks]
      rw [marks_getD_not i d r _ hn.1]
      have e : ∀ (l : Array Bool) (h : i < l.size) (d : Bool), l.getD i d = l[i] := fun l h d => by simp [h]
      cases hL : L i
      · simp only [Bool.false_eq_true, if_false]
        rw [e l hlt] at hl
        rw [e l hlt]
        exact hl
      · simp [hlt]
    · have hkr : k ∈ r := by
        rcases List.mem_cons.1 h with h | h
        · exact absurd h.symm e
        · exact h
      simp only [marks]
      refine marks_getD k d r _ hn.2 hkr ?_
      cases L i
      · exact hl
      · exact (getD_set_ne true e).trans hl
theorem put_getD_ne (a : Act) (d : Option Tmp) (v : Value) (t : Tmp) (h : d ≠ some t) : (a.put d v).tmps.getD t undef = a.tmps.getD t undef := by
  cases d with
  | none => rfl
  | some x =>
    have : x ≠ t := fun e => h (by rw [e])
    simp [Act.put, Array.getElem?_setIfInBounds_ne this]
theorem puts_getD_not {L : Nat → Bool} {vals : Nat → Value} (t : Tmp) : ∀ (r : List Nat) (a : Act), (∀ j ∈ r, dstOf ops j ≠ some t) → (puts ops L vals r a).tmps.getD t undef = a.tmps.getD t undef
  | [], _, _ => rfl
  | i :: r, a, h => by
    simp only [puts]
    rw [puts_getD_not t r _ (fun j hj => h j (List.mem_cons_of_mem _ hj))]
    split
    · exact put_getD_ne a _ _ t (h i (by simp))
    · rfl
theorem put_size (a : Act) (d : Option Tmp) (v : Value) : (a.put d v).tmps.size = a.tmps.size := by
  cases d <;> simp [Act.put]
theorem puts_getD {L : Nat → Bool} {vals : Nat → Value} (k : Nat) (t : Tmp) (hk : dstOf ops k = some t) (hL : L k = true) : ∀ (r : List Nat) (a : Act), apartB ops r = true → k ∈ r → t < a.tmps.size → (puts ops L vals r a).tmps.getD t undef = vals k
  | [], _, _, h, _ => by cases h
  | i :: r, a, hb, h, ht => by
    simp only [apartB, Bool.and_eq_true, List.all_eq_true, bne_iff_ne, Bool.or_eq_true, beq_iff_eq] at hb
    obtain ⟨hi, hr⟩ := hb
    by_cases e : i = k
    · subst e
      simp only [puts, hL, if_true]
      rw [puts_getD_not t r _ (fun j hj e => by
        rcases (hi j hj).2 with h0 | h0
        · rw [h0] at hk; cases hk
        · rw [hk, e] at h0; exact h0 rfl), hk]
      simp [Act.put, ht]
    · have hkr : k ∈ r := by
        rcases List.mem_cons.1 h with h | h
        · exact absurd h.symm e
        · exact h
      simp only [puts]
      refine puts_getD k t hk hL r _ hr hkr ?_
      split
      · rw [put_size]; exact ht
      · exact ht
/-- Each of the row waits for what is listed, or stands ahead of it. -/
def topoB (md : Region.Mode) (ops : Array Oper) (listed : Array Bool) : List Nat → List Nat → Bool
  | _, [] => true
  | done, i :: r => (match ops[i]? with | some o => o.after.all (fun e => !Region.binds md e || listed.getD e.on false || done.contains e.on) | none => false) && topoB md ops listed (i :: done) r
theorem topo_ready {L : Nat → Bool} {listed0 listed : Array Bool} (h0 : ∀ k, listed0.getD k false = true → listed.getD k false = true) : ∀ (r done : List Nat), topoB md ops listed0 done r = true → (∀ j ∈ done, listed.getD j false = true) →
    (∀ j ∈ r, (L j = true → listed.getD j false = true) ∧ (L j = false → listed.getD j true = false)) → (∃ i ∈ r, L i = false) → ∃ i, i ∈ Region.ready md ops listed
  | [], _, _, _, _, h => by obtain ⟨_, h, _⟩ := h; cases h
  | i :: r, done, ht, hd, hr, h => by
    simp only [topoB, Bool.and_eq_true] at ht
    obtain ⟨ht1, ht2⟩ := ht
    cases hL : L i
    · cases ho : ops[i]? with
      | none => rw [ho] at ht1; cases ht1
      | some o =>
        rw [ho] at ht1
        simp only [Array.all_eq_true'] at ht1
        refine ⟨i, mem_ready.2 ⟨(hr i (by simp)).2 hL, o, ho, fun e he hb => ?_⟩⟩
        have := ht1 e he
        simp only [hb, Bool.not_true, Bool.false_or, Bool.or_eq_true] at this
        rcases this with h | h
        · exact h0 _ h
        · exact hd _ (by simpa using h)
    · refine topo_ready h0 r (i :: done) ht2 (fun j hj => ?_) (fun j hj => hr j (List.mem_cons_of_mem _ hj)) ?_
      · rcases List.mem_cons.1 hj with e | hj
        · rw [e]; exact (hr i (by simp)).1 hL
        · exact hd j hj
      · obtain ⟨k, hk, hLk⟩ := h
        rcases List.mem_cons.1 hk with e | hk
        · rw [e, hL] at hLk; cases hLk
        · exact ⟨k, hk, hLk⟩
theorem waits_listed {k i : Nat} {listed : Array Bool} (hw : waitsB md ops k i = true) (hk : k ∈ Region.ready md ops listed) : listed.getD i false = true := by
  unfold waitsB at hw
  obtain ⟨_, o, ho, hall⟩ := mem_ready.1 hk
  rw [ho] at hw
  simp only [Array.any_eq_true', Bool.and_eq_true, beq_iff_eq] at hw
  obtain ⟨e, he, hb, heq⟩ := hw
  have := hall e he hb
  rwa [heq] at this
/-- How many aren't done yet. -/
def left (L : Nat → Bool) (r : List Nat) : Nat := (r.filter (fun i => !L i)).length
theorem left_set {L : Nat → Bool} {i : Nat} (hi : L i = false) : ∀ {r : List Nat}, r.Nodup → i ∈ r → left (setL L i) r + 1 = left L r
  | [], _, h => by cases h
  | k :: r, hn, h => by
    rw [List.nodup_cons] at hn
    by_cases e : k = i
    · subst e
      have hs : (r.filter (fun j => !setL L k j)) = r.filter (fun j => !L j) := List.filter_congr (fun j hj => by
        have : j ≠ k := fun e => hn.1 (e ▸ hj)
        simp [setL, this])
      simp only [left, List.filter_cons, setL, if_true, Bool.not_true, Bool.false_eq_true, if_false, hi, Bool.not_false, List.length_cons]
      have hs' : (r.filter (fun j => !(if j = k then true else L j))) = r.filter (fun j => !L j) := hs
      rw [hs']
    · have hir : i ∈ r := by
        rcases List.mem_cons.1 h with h | h
        · exact absurd h.symm e
        · exact h
      have ih := left_set hi hn.2 hir
      have hk : setL L i k = L k := by simp [setL, e]
      unfold left at ih ⊢
      rw [List.filter_cons, List.filter_cons, hk]
      split
      · simp only [List.length_cons]; omega
      · exact ih
end
end Go.Proofs.YtjdclgnlnehjlaaDoor
namespace Go.Proofs.YtjdclgnlnehjlaaDoor
open Go Go.RowKit
section
variable {P : Program} {md : Region.Mode} {ops : Array Oper} {Q : Exit → Act → World → Prop}
/-- One waits for another one, by way of others of the row. -/
def reachB (md : Region.Mode) (ops : Array Oper) (rem : List Nat) : Nat → Nat → Nat → Bool
  | 0, j, i => waitsB md ops j i
  | n + 1, j, i => waitsB md ops j i || rem.any (fun m => waitsB md ops j m && reachB md ops rem n m i)
theorem reach_done {rem : List Nat} {L : Nat → Bool} (hc : ∀ j ∈ rem, L j = true → ∀ i ∈ rem, waitsB md ops j i = true → L i = true) : ∀ (n j i : Nat), j ∈ rem → i ∈ rem → L j = true → reachB md ops rem n j i = true → L i = true
  | 0, j, i, hj, hi, hL, h => hc j hj hL i hi h
  | n + 1, j, i, hj, hi, hL, h => by
    simp only [reachB, Bool.or_eq_true, List.any_eq_true, Bool.and_eq_true] at h
    rcases h with h | ⟨m, hm, h1, h2⟩
    · exact hc j hj hL i hi h
    · exact reach_done hc n m i hm hi (hc j hj hL m hm h1) h2
/-- What the row must be for the law: none is listed, no two write to one slot, and all others are listed or wait for each of the row. -/
def potB (md : Region.Mode) (ops : Array Oper) (listed : Array Bool) (rem : List Nat) : Bool :=
  apartB ops rem && rem.all (fun i => (ops[i]?).isSome && !listed.getD i true) && (List.range ops.size).all (fun k => listed.getD k false || rem.contains k || (List.range ops.size).any (fun m => waitsB md ops k m && !rem.contains m && !listed.getD m false) || rem.all (fun i => reachB md ops rem rem.length k i)) && topoB md ops listed [] rem
structure Pot (md : Region.Mode) (ops : Array Oper) (rem : List Nat) (F : Nat → Value → World → Prop) (G : Nat → Nat → Value → Value → Prop) (I : World → Prop) (listed0 : Array Bool) (a0 : Act) (L : Nat → Bool) (listed : Array Bool) (a : Act) (w : World) : Prop where
  hl : listed = marks L rem listed0
  hI : I w
  hc : ∀ j ∈ rem, L j = true → ∀ i ∈ rem, waitsB md ops j i = true → L i = true
  ha : ∃ vals, a = puts ops L vals rem a0 ∧ (∀ j ∈ rem, L j = true → F j (vals j) w) ∧ ∀ j ∈ rem, ∀ k ∈ rem, j ≠ k → L j = true → L k = true → G j k (vals j) (vals k)
theorem wpAny_pot_go {rem : List Nat} {F : Nat → Value → World → Prop} {G : Nat → Nat → Value → Value → Prop} {I : World → Prop} {listed0 : Array Bool} {a0 : Act} {Fu : Nat} (hchk : potB md ops listed0 rem = true)
    (hsize : ∀ i ∈ rem, ∀ t, dstOf ops i = some t → t < a0.tmps.size)
    (hstep : ∀ i ∈ rem, ∀ a w, I w → (∀ t, (∀ j ∈ rem, dstOf ops j ≠ some t) → a.tmps.getD t undef = a0.tmps.getD t undef) →
      (∀ j ∈ rem, waitsB md ops i j = true → ∃ v, (∀ t, dstOf ops j = some t → a.tmps.getD t undef = v) ∧ F j v w) →
      wpOp P ops Q i (fun a' w' => ∃ v, a' = a.put (dstOf ops i) v ∧ F i v w' ∧ I w' ∧ ∀ j ∈ rem, ∀ u, j ≠ i → F j u w → F j u w' ∧ G j i u v ∧ G i j v u) a w)
    (hend : ∀ (vals : Nat → Value) w, I w → (∀ j ∈ rem, F j (vals j) w) → (∀ j ∈ rem, ∀ k ∈ rem, j ≠ k → G j k (vals j) (vals k)) → wpAny P md ops Q Fu (marks (fun _ => true) rem listed0) (puts ops (fun _ => true) vals rem a0) w) :
    ∀ (n : Nat) (L : Nat → Bool) (listed : Array Bool) (a : Act) (w : World), left L rem = n → Pot md ops rem F G I listed0 a0 L listed a w → wpAny P md ops Q (Fu + n) listed a w := by
  simp only [potB, Bool.and_eq_true, List.all_eq_true, Bool.or_eq_true, List.mem_range] at hchk
  obtain ⟨⟨⟨hap, hrem⟩, hoth⟩, htopo⟩ := hchk
  have hnd := apart_nodup rem hap
  intro n
  induction n with
  | zero =>
    intro L listed a w hn B
    have hall : ∀ j ∈ rem, L j = true := fun j hj => by
      cases hL : L j
      · have : j ∈ rem.filter (fun i => !L i) := List.mem_filter.2 ⟨hj, by simp [hL]⟩
        rw [List.eq_nil_of_length_eq_zero hn] at this
        cases this
      · rfl
    obtain ⟨vals, ha, hF, hG⟩ := B.ha
    rw [B.hl, ha, marks_congr (L' := fun _ => true) rem listed0 (fun j hj => hall j hj), puts_congr (L' := fun _ => true) (vals' := vals) rem a0 (fun j hj => ⟨hall j hj, rfl⟩)]
    exact hend vals w B.hI (fun j hj => hF j hj (hall j hj)) (fun j hj k hk hjk => hG j hj k hk hjk (hall j hj) (hall k hk))
  | succ n ih =>
    intro L listed a w hn B
    have hsome : ∃ i ∈ rem, L i = false := by
      have : (rem.filter (fun i => !L i)) ≠ [] := fun e => by unfold left at hn; rw [e] at hn; simp at hn
      obtain ⟨i, hi⟩ := List.exists_mem_of_ne_nil _ this
      rw [List.mem_filter] at hi
      exact ⟨i, hi.1, by simpa using hi.2⟩
    have hlist : ∀ j ∈ rem, ∀ d, listed.getD j d = L j := fun j hj d => by
      rw [B.hl]
      exact marks_getD j d rem listed0 hnd hj (by simpa using (hrem j hj).2)
    have hin : ∀ k ∈ Region.ready md ops listed, k ∈ rem ∧ L k = false := fun k hk => by
      obtain ⟨hkl, o, ho, _⟩ := mem_ready.1 hk
      have hks : k < ops.size := (Array.getElem?_eq_some_iff.1 ho).1
      by_cases hkr : k ∈ rem
      · exact ⟨hkr, by rw [← hlist k hkr true]; exact hkl⟩
      · exfalso
        rcases hoth k hks with ((h | h) | h) | h
        · have h1 : listed.getD k true = listed0.getD k true := by rw [B.hl]; exact marks_getD_not k true rem listed0 hkr
          rw [hkl] at h1
          rcases Nat.lt_or_ge k listed0.size with h' | h'
          · simp [h'] at h h1; rw [h] at h1; cases h1
          · simp [Array.getElem?_eq_none h'] at h1
        · exact hkr (by simpa using h)
        · simp only [List.any_eq_true, Bool.and_eq_true, Bool.not_eq_true', List.mem_range] at h
          obtain ⟨m, _, ⟨h1, h2⟩, h3⟩ := h
          have h4 := waits_listed h1 hk
          have hmr : m ∉ rem := fun hm => by
            have : rem.contains m = true := by simpa using hm
            rw [this] at h2; cases h2
          rw [B.hl, marks_getD_not m false rem listed0 hmr, h3] at h4
          cases h4
        · obtain ⟨i, hi, hLi⟩ := hsome
          have hd : ∀ m ∈ rem, waitsB md ops k m = true → L m = true := fun m hm hw => by
            have := waits_listed hw hk
            rwa [hlist m hm false] at this
          have hLi' : L i = true := by
            have hr := h i hi
            cases hrl : rem.length with
            | zero => rw [hrl] at hr; exact hd i hi hr
            | succ n =>
              rw [hrl] at hr
              simp only [reachB, Bool.or_eq_true, List.any_eq_true, Bool.and_eq_true] at hr
              rcases hr with h | ⟨m, hm, h1, h2⟩
              · exact hd i hi h
              · exact reach_done B.hc n m i hm hi (hd m hm h1) h2
          rw [hLi] at hLi'
          cases hLi'
    show wpAny P md ops Q (Fu + n + 1) listed a w
    have hsub : ∀ k, listed0.getD k false = true → listed.getD k false = true := fun k hk => by
      by_cases hkr : k ∈ rem
      · have := (hrem k hkr).2
        rcases Nat.lt_or_ge k listed0.size with h' | h'
        · simp [h'] at hk this; rw [hk] at this; cases this
        · simp [Array.getElem?_eq_none h'] at hk
      · rw [B.hl, marks_getD_not k false rem listed0 hkr]; exact hk
    refine ⟨fun he => ?_, fun i hi => ?_⟩
    · exfalso
      obtain ⟨i, hi⟩ := topo_ready (L := L) hsub rem [] htopo (fun _ h => by cases h) (fun j hj => ⟨fun h => by rw [hlist j hj false]; exact h, fun h => by rw [hlist j hj true]; exact h⟩) hsome
      rw [he] at hi
      cases hi
    · obtain ⟨hir, hLi⟩ := hin i hi
      obtain ⟨vals, ha, hF, hG⟩ := B.ha
      refine wpOp_mono (fun a' w' h => ?_) (hstep i hir a w B.hI (fun t ht => by rw [ha]; exact puts_getD_not t rem a0 ht) (fun j hj hw => ?_))
      · obtain ⟨v, rfl, hFi, hI', hst⟩ := h
        refine ih (setL L i) _ _ _ (by have := left_set hLi hnd hir; omega) ⟨?_, hI', fun j hj hLj k hk hw => ?_, setV vals i v, ?_, fun j hj hLj => ?_, fun j hj k hk hjk hLj hLk => ?_⟩
        · rw [B.hl]; exact marks_set i hLi rem listed0 hnd hir
        · by_cases e : j = i
          · subst e
            have : L k = true := by rw [← hlist k hk false]; exact waits_listed hw hi
            simp [setL, this]
          · simp only [setL, if_neg e] at hLj
            have := B.hc j hj hLj k hk hw
            simp [setL, this]
        · rw [ha]; exact puts_set i v hLi rem a0 hap hir
        · by_cases e : j = i
          · subst e; simp only [setV, if_true]; exact hFi
          · simp only [setV, if_neg e]
            simp only [setL, if_neg e] at hLj
            exact (hst j hj _ e (hF j hj hLj)).1
        · by_cases e : j = i
          · subst e
            have e2 : k ≠ j := fun h => hjk h.symm
            simp only [setL, if_neg e2] at hLk
            simp only [setV, if_true, if_neg e2]
            exact (hst k hk _ e2 (hF k hk hLk)).2.2
          · simp only [setL, if_neg e] at hLj
            by_cases e2 : k = i
            · subst e2
              simp only [setV, if_true, if_neg e]
              exact (hst j hj _ e (hF j hj hLj)).2.1
            · simp only [setL, if_neg e2] at hLk
              simp only [setV, if_neg e, if_neg e2]
              exact hG j hj k hk hjk hLj hLk
      · have hLj : L j = true := by rw [← hlist j hj false]; exact waits_listed hw hi
        exact ⟨vals j, fun t ht => by rw [ha]; exact puts_getD j t ht hLj rem a0 hap hj (hsize j hj t ht), hF j hj hLj⟩
theorem wpAny_pot {rem : List Nat} (F : Nat → Value → World → Prop) (G : Nat → Nat → Value → Value → Prop) (I : World → Prop) (Fu : Nat) (listed0 : Array Bool) (a0 : Act) (w0 : World) (hchk : (potB md ops listed0 rem && decide (rem.length ≤ Fu)) = true)
    (hsize : ∀ i ∈ rem, ∀ t, dstOf ops i = some t → t < a0.tmps.size) (hI : I w0)
    (hstep : ∀ i ∈ rem, ∀ a w, I w → (∀ t, (∀ j ∈ rem, dstOf ops j ≠ some t) → a.tmps.getD t undef = a0.tmps.getD t undef) →
      (∀ j ∈ rem, waitsB md ops i j = true → ∃ v, (∀ t, dstOf ops j = some t → a.tmps.getD t undef = v) ∧ F j v w) →
      wpOp P ops Q i (fun a' w' => ∃ v, a' = a.put (dstOf ops i) v ∧ F i v w' ∧ I w' ∧ ∀ j ∈ rem, ∀ u, j ≠ i → F j u w → F j u w' ∧ G j i u v ∧ G i j v u) a w)
    (hend : ∀ (vals : Nat → Value) w, I w → (∀ j ∈ rem, F j (vals j) w) → (∀ j ∈ rem, ∀ k ∈ rem, j ≠ k → G j k (vals j) (vals k)) → wpAny P md ops Q (Fu - rem.length) (rem.foldl (fun l i => l.setIfInBounds i true) listed0) (rem.foldl (fun a i => a.put (dstOf ops i) (vals i)) a0) w) : wpAny P md ops Q Fu listed0 a0 w0 := by
  simp only [Bool.and_eq_true, decide_eq_true_eq] at hchk
  have m : ∀ (r : List Nat) (l : Array Bool), marks (fun _ => true) r l = r.foldl (fun l i => l.setIfInBounds i true) l := fun r => by
    induction r with
    | nil => intro l; rfl
    | cons i r ih => intro l; simp only [marks, if_true, List.foldl_cons]; exact ih _
  have q : ∀ (vals : Nat → Value) (r : List Nat) (a : Act), puts ops (fun _ => true) vals r a = r.foldl (fun a i => a.put (dstOf ops i) (vals i)) a := fun vals r => by
    induction r with
    | nil => intro l; rfl
    | cons i r ih => intro l; simp only [puts, if_true, List.foldl_cons]; exact ih _
  have n0 : ∀ (r : List Nat) (l : Array Bool), marks (fun _ => false) r l = l := fun r => by
    induction r with
    | nil => intro l; rfl
    | cons i r ih => intro l; simp only [marks, Bool.false_eq_true, if_false]; exact ih l
  have n1 : ∀ (vals : Nat → Value) (r : List Nat) (a : Act), puts ops (fun _ => false) vals r a = a := fun vals r => by
    induction r with
    | nil => intro l; rfl
    | cons i r ih => intro l; simp only [puts, Bool.false_eq_true, if_false]; exact ih l
  have lf : left (fun _ => false) rem = rem.length := by unfold left; simp
  have := wpAny_pot_go (P := P) (Q := Q) (md := md) (ops := ops) (F := F) (G := G) (I := I) (listed0 := listed0) (a0 := a0) (Fu := Fu - rem.length) hchk.1 hsize hstep
    (fun vals w hw hf hg => by rw [m, q]; exact hend vals w hw hf hg) rem.length (fun _ => false) listed0 a0 w0 lf ⟨(n0 rem listed0).symm, hI, (fun j _ h => Bool.noConfusion h), ⟨fun _ => undef, (n1 _ rem a0).symm, ⟨(fun j _ h => Bool.noConfusion h), (fun j _ k _ _ h _ => Bool.noConfusion h)⟩⟩⟩
  rwa [Nat.sub_add_cancel hchk.2] at this
end
end Go.Proofs.YtjdclgnlnehjlaaDoor
namespace Go.Proofs.YtjdclgnlnehjlaaDoor
open Go Go.RowKit
section
variable {N M : Nat} {V : Nat → Option Value} {A : Nat → TypeId × Nat × (Nat → Value)} {j : Nat} {u v : Value} {w w' : World}
end
theorem size_dstG {ops : Array Oper} {rem : List Nat} {n : Nat} (h : (rem.all fun j => match dstOf ops j with | some t => decide (t < n) | none => true) = true) : ∀ i ∈ rem, ∀ t, dstOf ops i = some t → t < n := fun i hi t ht => by
  have := List.all_eq_true.1 h i hi
  rw [ht] at this
  simpa using this
section
variable {P : Program} {ops : Array Oper} {Q : Exit → Act → World → Prop} {i : Nat} {o : Oper} {a : Act} {w w0 : World} {N : Nat} {V : Nat → Option Value} {A : Nat → TypeId × Nat × (Nat → Value)} {rem : List Nat}
end
end Go.Proofs.YtjdclgnlnehjlaaDoor
namespace Go.Proofs.YtjdclgnlnehjlaaDoor
open Go Go.RowKit
section
variable {P : Program} {md : Region.Mode} {ops : Array Oper} {Q : Exit → Act → World → Prop}
end
end Go.Proofs.YtjdclgnlnehjlaaDoor
namespace Go.Proofs.YtjdclgnlnehjlaaDoor
open Go Go.RowKit
end Go.Proofs.YtjdclgnlnehjlaaDoor
namespace Go.Proofs.YtjdclgnlnehjlaaDoor
open Go Go.RowKit
/- What a slot's being written makes of the frame, by short names. -/
theorem pA : (∀ (l : List Value) (ds : List Deferred) (d : Nat) (v : Value), Act.put { tmps := l.toArray, defers := ds } (some d) v = { tmps := (l.set d v).toArray, defers := ds }) ∧ (∀ (a : Act) (v : Value), Act.put a none v = a) ∧
    (∀ (a : Value) (l : List Value) (n : Nat) (b : Value), (a :: l).set (n + 1) b = a :: l.set n b) ∧ (∀ (a : Value) (l : List Value) (b : Value), (a :: l).set 0 b = b :: l) :=
  ⟨fun l ds d v => by simp [Act.put], fun _ _ => rfl, fun _ _ _ _ => rfl, fun _ _ _ => rfl⟩
end Go.Proofs.YtjdclgnlnehjlaaDoor
