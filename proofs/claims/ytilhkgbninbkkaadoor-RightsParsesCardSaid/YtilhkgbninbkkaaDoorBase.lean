/- Plain words on worlds, blocks of cells, regions that draw their order. Nothing of the program. -/
import Derived.WalkKit
import Derived.Deep.MidRow
import Derived.Deep.Quiet
import Derived.Deep.WholeRow
import Derived.Laws.CopyOwn
import Derived.StillTailTactics
import Derived.Deep.RegionWith
import Derived.BigQuiet
import Derived.Laws.StructEq
namespace Go.Proofs.YtilhkgbninbkkaaDoor
open Go Go.RowKit
theorem hid {p : Prop} (h : p) : Hid p := h
/-- n cells, by a function of the place. -/
def cellsOf (f : Nat → Value) (n : Nat) : Array Value := ((List.range n).map f).toArray
/-- The same as a list. -/
def lst (f : Nat → Value) (n : Nat) : List Value := (List.range n).map f
theorem length_lst (f : Nat → Value) (n : Nat) : (lst f n).length = n := by simp [lst]
theorem size_cellsOf (f : Nat → Value) (n : Nat) : (cellsOf f n).size = n := by simp [cellsOf]
theorem get_cellsOf (f : Nat → Value) (n j : Nat) (h : j < n) : (cellsOf f n)[j]? = some (f j) := by simp [cellsOf, h]
theorem cellsOf_congr {f g : Nat → Value} {n : Nat} (h : ∀ j, j < n → f j = g j) : cellsOf f n = cellsOf g n := by
  simp only [cellsOf]; congr 1; exact List.map_congr_left (fun j hj => h j (by simpa using hj))
def upd (f : Nat → Value) (k : Nat) (v : Value) : Nat → Value := fun j => if j = k then v else f j
theorem set_cellsOf (f : Nat → Value) (n k : Nat) (v : Value) : (cellsOf f n).setIfInBounds k v = cellsOf (upd f k v) n := by
  apply Array.ext_getElem?
  intro j
  rw [Array.getElem?_setIfInBounds]
  by_cases hj : j < n
  · by_cases h : k = j
    · subst h; simp [cellsOf, hj, upd]
    · have h' : ¬ j = k := fun e => h e.symm
      simp [cellsOf, hj, upd, h, h']
  · by_cases h : k = j
    · subst h; simp [cellsOf, hj]
    · simp [cellsOf, hj, h]
/-- Block b is n cells of type T, cell j being f j; none is frozen. -/
def Has (w : World) (b : Nat) (T : TypeId) (n : Nat) (f : Nat → Value) : Prop := w.heap[b]? = some (.cells (cellsOf f n) T (0, 0))
section
variable {w w' : World} {b : Nat} {T : TypeId} {n : Nat} {f g : Nat → Value}
theorem Has.out (h : Has w b T n f) : w.heap[b]? = some (.cells (cellsOf f n) T (0, 0)) := h
theorem Has.lt (h : Has w b T n f) : b < w.heap.size := (Array.getElem?_eq_some_iff.1 h).1
theorem Has.cell (h : Has w b T n f) {j : Nat} (hj : j < n) : w.cell? ⟨b, j, none⟩ = some (f j) := by
  rw [cell_of_row w b j _ T (0, 0) h, get_cellsOf f n j hj]
theorem Has.free (h : Has w b T n f) (j : Nat) : w.frozen? ⟨b, j, none⟩ = false := by
  unfold Has at h
  simp [World.frozen?, h]
theorem Has.congr (h : Has w b T n f) (e : ∀ j, j < n → f j = g j) : Has w b T n g := by
  unfold Has at h ⊢; rw [h, cellsOf_congr e]
theorem Has.same (h : Has w b T n f) (e : w'.heap[b]? = w.heap[b]?) : Has w' b T n f := e.trans h
theorem Has.below {B : Nat} (h : Has w b T n f) (hb : Below B w w') (hlt : b < B) : Has w' b T n f := h.same (hb.block b hlt)
theorem Has.drew (h : Has w b T n f) : Has w.drew b T n f := h
theorem Has.drewN (h : Has w b T n f) (k : Nat) : Has (w.drewN k) b T n f := by
  exact h
theorem Has.alloc (h : Has w b T n f) (o : Obj) : Has (w.alloc o) b T n f := by
  unfold Has; rw [Below.heap_alloc w o b h.lt]; exact h
theorem Has.new (w : World) (T : TypeId) (n : Nat) (f : Nat → Value) : Has (w.alloc (.cells (cellsOf f n) T (0, 0))) w.heap.size T n f := heap_alloc_new w _
theorem Has.other (h : Has w b T n f) {p : Addr} (v : Value) (hne : b ≠ p.block) : Has (w.setCell p v) b T n f := h.same (Below.heap_setCell w p v b hne)
theorem Has.set (h : Has w b T n f) (k : Nat) (v : Value) : Has (w.setCell ⟨b, k, none⟩ v) b T n (upd f k v) := by
  unfold Has at h ⊢
  rw [← set_cellsOf]
  simp [World.setCell, Array.getElem?_modify, h]
theorem Has.row (h : Has w b T n f) (g : Nat → Value) : Has (w.setRow b (cellsOf g n)) b T n g := setRow_heap w b _ _ T _ h
end
theorem below_drewN {B : Nat} {a w : World} (h : Below B a w) (k : Nat) : Below B a (w.drewN k) := h.trans ⟨rfl, rfl, rfl, Nat.le_refl _, fun _ _ => rfl⟩
/-- A table: a block of n cells, by a function of the place, of whatever mark. -/
def Tab (w : World) (b n : Nat) (f : Nat → Value) : Prop := ∃ T fr, w.heap[b]? = some (.cells (cellsOf f n) T fr)
section
variable {w w' : World} {b n : Nat} {f : Nat → Value}
theorem Tab.lt (h : Tab w b n f) : b < w.heap.size := by obtain ⟨_, _, h⟩ := h; exact (Array.getElem?_eq_some_iff.1 h).1
theorem Tab.cell (h : Tab w b n f) {j : Nat} (hj : j < n) : w.cell? ⟨b, j, none⟩ = some (f j) := by
  obtain ⟨T, fr, h⟩ := h
  rw [cell_of_row w b j _ T fr h, get_cellsOf f n j hj]
theorem Tab.same (h : Tab w b n f) (e : w'.heap[b]? = w.heap[b]?) : Tab w' b n f := by obtain ⟨T, fr, h⟩ := h; exact ⟨T, fr, e.trans h⟩
theorem Tab.below {B : Nat} (h : Tab w b n f) (hb : Below B w w') (hlt : b < B) : Tab w' b n f := h.same (hb.block b hlt)
theorem Tab.drew (h : Tab w b n f) : Tab w.drew b n f := h
theorem Tab.drewN (h : Tab w b n f) (k : Nat) : Tab (w.drewN k) b n f := h
end
/-- The heap has so many blocks. -/
def Sz (w : World) (n : Nat) : Prop := w.heap.size = n
/-- Block b alone may have turned. -/
structure Touch (b : Nat) (w w' : World) : Prop where
  os : w'.os = w.os
  tape : w'.tape = w.tape
  output : w'.output = w.output
  size : w'.heap.size = w.heap.size
  block : ∀ k, k ≠ b → w'.heap[k]? = w.heap[k]?
theorem Touch.below {b B : Nat} {a w w' : World} (h : Touch b w w') (k : Below B a w) (hb : B ≤ b) : Below B a w' :=
  k.trans ⟨h.os, h.tape, h.output, Nat.le_of_eq h.size.symm, fun i hi => h.block i (by omega)⟩
theorem Touch.sz {b n : Nat} {w w' : World} (h : Touch b w w') (k : Sz w n) : Sz w' n := h.size.trans k
theorem Has.touch {w w' : World} {b c : Nat} {T : TypeId} {n : Nat} {f : Nat → Value} (h : Has w b T n f) (t : Touch c w w') (hne : b ≠ c) : Has w' b T n f := h.same (t.block b hne)
theorem touch_setCell (w : World) (p : Addr) (v : Value) : Touch p.block w (w.setCell p v) :=
  ⟨rfl, rfl, rfl, by simp [World.setCell], fun k hk => Below.heap_setCell w p v k hk⟩
theorem touch_setRow (w : World) (g : Nat) (cs : Array Value) : Touch g w (w.setRow g cs) :=
  ⟨rfl, rfl, rfl, by simp [World.setRow], fun k hk => setRow_other w g k cs hk⟩
theorem below_new (w : World) (o : Obj) (N : Nat) (hN : Sz w N) : Below N w (w.alloc o) := by
  have := (Below.refl N w).alloc (Nat.le_of_eq hN.symm) o
  exact this
theorem sz_alloc {w : World} {N : Nat} (hN : Sz w N) (o : Obj) : Sz (w.alloc o) (N + 1) := by
  show (w.heap.push o).size = N + 1
  rw [Array.size_push, show w.heap.size = N from hN]
theorem has_new {w : World} {N : Nat} (hN : Sz w N) (T : TypeId) (n : Nat) (f : Nat → Value) : Has (w.alloc (.cells (cellsOf f n) T (0, 0))) N T n f := by
  have := Has.new w T n f
  rwa [show w.heap.size = N from hN] at this
theorem below_sz {B n m : Nat} {w w' : World} (h : Below B w w') (a : Sz w n) (b : Sz w' m) : n ≤ m := by
  have h1 := h.size
  have h2 : w.heap.size = n := a
  have h3 : w'.heap.size = m := b
  omega
theorem sz_some (w : World) : ∃ n, Sz w n := ⟨_, rfl⟩
theorem Has.ltN {w : World} {b : Nat} {T : TypeId} {n : Nat} {f : Nat → Value} (h : Has w b T n f) {N : Nat} (hN : Sz w N) : b < N := by have := h.lt; rwa [show w.heap.size = N from hN] at this
section laws
variable {P : Program} {ops : Array Oper} {rest : List Oper} {o : Oper} {a : Act} {w : World} {Q : Exit → Act → World → Prop}
/-- A new variable of many cells. -/
theorem wpl_alloc (hg : o.guard = none) (T : TypeId) (ho : o.op = .alloc T) (n : Nat) (f : Nat → Value) (hz : (P.info? T).map (fun i => (i.zero, i.size)) = some (some (.agg (cellsOf f n)), n))
    (N : Nat) (hN : Sz w N) (h : ∀ w1, Sz w1 (N + 1) → Below N w w1 → Has w1 N T n f → wpList P ops Q rest (a.put o.dst (.pointer (some ⟨N, 0, none⟩))) w1) : wpList P ops Q (o :: rest) a w := by
  refine wpList_plain hg fun K hK => ?_
  have hz' := (zero_of_info hz).1 w
  have e : w.heap.size = N := hN
  subst e
  unfold Oper.wp execOp
  simp only [ho, Sem.run_bind, Instr.alloc, newVar, newRow, hz', Result.andThen_ok, run_newObj_alloc, Sem.run_pure]
  exact hK _ _ (h _ (sz_alloc rfl _) (below_new _ _ _ rfl) (has_new rfl T n f))
/-- A new variable that holds a value of many cells. -/
theorem wpl_box (hg : o.guard = none) (T : TypeId) (x : Operand) (ho : o.op = .box T x) (n : Nat) (f : Nat → Value) (hx : a.eval x = .agg (cellsOf f n))
    (N : Nat) (hN : Sz w N) (h : ∀ w1, Sz w1 (N + 1) → Below N w w1 → Has w1 N T n f → wpList P ops Q rest (a.put o.dst (.pointer (some ⟨N, 0, none⟩))) w1) : wpList P ops Q (o :: rest) a w := by
  refine wpList_plain hg fun K hK => ?_
  have e : w.heap.size = N := hN
  subst e
  unfold Oper.wp execOp
  simp only [ho, hx, Value.cells, Sem.run_bind, Instr.box, newVar, newRow, run_newObj_alloc, Sem.run_pure, Result.andThen_ok]
  exact hK _ _ (h _ (sz_alloc rfl _) (below_new _ _ _ rfl) (has_new rfl T n f))
/-- A whole array is read. -/
theorem wpl_load (hg : o.guard = none) (ty : TypeId) (x : Operand) (ho : o.op = .load ty x) (b : Nat) (hx : a.eval x = .pointer (some ⟨b, 0, none⟩)) (T : TypeId) (n : Nat) (f : Nat → Value) (hh : Has w b T n f)
    (d : TypeDesc) (hu : P.underlying ty = some d) (hd : d.isRow = true) (hi : (P.info? ty).map (·.size) = some n) (h : wpList P ops Q rest (a.put o.dst (.agg (cellsOf f n))) w) : wpList P ops Q (o :: rest) a w :=
  wpList_load_row hg ty x ho b hx T (cellsOf f n) (0, 0) d hh.out hu (by cases d <;> simp_all) (by rw [hi, size_cellsOf]) h
theorem wpl_load_tab (hg : o.guard = none) (ty : TypeId) (x : Operand) (ho : o.op = .load ty x) (b : Nat) (hx : a.eval x = .pointer (some ⟨b, 0, none⟩)) (n : Nat) (f : Nat → Value) (hh : Tab w b n f)
    (d : TypeDesc) (hu : P.underlying ty = some d) (hd : d.isRow = true) (hi : (P.info? ty).map (·.size) = some n) (h : wpList P ops Q rest (a.put o.dst (.agg (cellsOf f n))) w) : wpList P ops Q (o :: rest) a w := by
  obtain ⟨T, fr, hh⟩ := hh
  exact wpList_load_row hg ty x ho b hx T (cellsOf f n) fr d hh hu (by cases d <;> simp_all) (by rw [hi, size_cellsOf]) h
/-- A whole array is written. -/
theorem wpl_store (hg : o.guard = none) (ty : TypeId) (x y : Operand) (ho : o.op = .store ty x y) (b : Nat) (n : Nat) (g : Nat → Value) (hx : a.eval x = .pointer (some ⟨b, 0, none⟩)) (hy : a.eval y = .agg (cellsOf g n))
    (T : TypeId) (f : Nat → Value) (hh : Has w b T n f) (hi : (P.info? ty).map (·.size) = some n) (h1 : ∀ j, j < n → (g j).oneCell' = true)
    (h : ∀ w1, Touch b w w1 → Has w1 b T n g → wpList P ops Q rest (a.put o.dst undef) w1) : wpList P ops Q (o :: rest) a w :=
  wpList_store_row hg ty x y ho b (cellsOf g n) hx hy T (cellsOf f n) hh.out (by rw [hi, size_cellsOf]) (by rw [size_cellsOf, size_cellsOf])
    (by rw [Array.all_eq_true_iff_forall_mem]; intro v hv; simp only [cellsOf, List.mem_toArray, List.mem_map, List.mem_range] at hv; obtain ⟨j, hj, rfl⟩ := hv; exact h1 j hj)
    (h _ (touch_setRow w b _) (hh.row g))
theorem post_cell {fn : Func} {R : Ending → World → Prop} {p : Tmp} {T : TypeId} (hr : fn.results = #[.cell p T]) (b : Nat) (hp : a.tmps.getD p undef = .pointer (some ⟨b, 0, none⟩))
    {n : Nat} {f : Nat → Value} (hh : Has w b T n f) (d : TypeDesc) (hu : P.underlying T = some d) (hd : d.isRow = true) (hi : (P.info? T).map (·.size) = some n)
    (hdef : a.defers = []) (hR : R (.returned (.agg (cellsOf f n))) w) : bodyPost P fn R .ret a w :=
  bodyPost_ret (results_cell_row hr a.tmps w b T (cellsOf f n) (0, 0) d hp hh.out hu (by cases d <;> simp_all) (by rw [hi, size_cellsOf])) hdef hR
theorem run_index_cells (xT e len : Nat) (f : Nat → Value) (n k : Nat) (d : TypeDesc) (hu : P.underlying xT = some (.array len e)) (he : P.underlying e = some d) (hd : (match d with | .struct _ | .array _ _ => false | _ => true) = true)
    (hs : (P.info? e).map (·.size) = some 1) (hk : k < len) (hn : k < n) (w : World) :
    (Instr.index xT (.agg (cellsOf f n)) (.int .i64 (k : Int))).run P w = .ok (f k) w := by
  cases hq : P.info? e with
  | none => simp [hq] at hs
  | some i =>
    have hi : i.size = 1 := by simpa [hq] using hs
    have hagg : (isAgg e).run P w = .ok false w := by
      unfold isAgg
      rw [Sem.run_bind, run_underlying he w]
      cases d <;> simp_all
    simp [Instr.index, asIntOf, Sem.run_bind, run_underlying hu w, sizeOf, typeInfo, hq, hi, part, hagg, get_cellsOf f n k hn]
    intro hle; omega
end laws
end Go.Proofs.YtilhkgbninbkkaaDoor
namespace Go.Proofs.YtilhkgbninbkkaaDoor
open Go Go.RowKit
/-- A slice's length, for a measure. -/
def lenOf : Value → Nat | .slice _ n _ => n | _ => 0
/-- g, m long, laid over f from place o on. -/
def lay (f : Nat → Value) (o m : Nat) (g : Nat → Value) : Nat → Value := fun j => if o ≤ j ∧ j < o + m then g (j - o) else f j
/-- Block R has turned, and there may be new ones. -/
structure Mod (R : Nat) (w w' : World) : Prop where
  os : w'.os = w.os
  tape : w'.tape = w.tape
  output : w'.output = w.output
  size : w.heap.size ≤ w'.heap.size
  block : ∀ k, k < w.heap.size → k ≠ R → w'.heap[k]? = w.heap[k]?
theorem Mod.refl (R : Nat) (w : World) : Mod R w w := ⟨rfl, rfl, rfl, Nat.le_refl _, fun _ _ _ => rfl⟩
theorem Mod.trans {R : Nat} {a b c : World} (h : Mod R a b) (k : Mod R b c) : Mod R a c :=
  ⟨k.os.trans h.os, k.tape.trans h.tape, k.output.trans h.output, Nat.le_trans h.size k.size, fun i hi hr => (k.block i (Nat.lt_of_lt_of_le hi h.size) hr).trans (h.block i hi hr)⟩
theorem Touch.mod {R : Nat} {w w' : World} (h : Touch R w w') : Mod R w w' := ⟨h.os, h.tape, h.output, Nat.le_of_eq h.size.symm, fun k _ hk => h.block k hk⟩
theorem Mod.below {R B : Nat} {a w w' : World} (h : Mod R w w') (k : Below B a w) (hR : B ≤ R) (hB : B ≤ w.heap.size) : Below B a w' :=
  k.trans ⟨h.os, h.tape, h.output, h.size, fun i hi => h.block i (by omega) (by omega)⟩
theorem Has.mod {w w' : World} {b R : Nat} {T : TypeId} {n : Nat} {f : Nat → Value} (h : Has w b T n f) (m : Mod R w w') (hne : b ≠ R) : Has w' b T n f := h.same (m.block b h.lt hne)
theorem Tab.mod {w w' : World} {b R n : Nat} {f : Nat → Value} (h : Tab w b n f) (m : Mod R w w') (hne : b ≠ R) : Tab w' b n f := h.same (m.block b h.lt hne)
theorem Mod.cell {w w' : World} {R : Nat} (m : Mod R w w') {p : Addr} {v : Value} (h : w.cell? p = some v) (hne : p.block ≠ R) : w'.cell? p = some v := by
  rw [World.cell?_of_block (w := w) (m.block p.block (World.block_lt_of_cell? w p h) hne)]; exact h
theorem Touch.cell {w w' : World} {R : Nat} (m : Touch R w w') {p : Addr} {v : Value} (h : w.cell? p = some v) (hne : p.block ≠ R) : w'.cell? p = some v := m.mod.cell h hne
section
variable {w : World} {b : Nat} {T : TypeId} {n : Nat} {f g : Nat → Value}
theorem Has.rangeAt (h : Has w b T n f) (o m : Nat) (hm : o + m ≤ n) : w.rangeAt b o (cellsOf (fun j => f (o + j)) m).toList := fun j v hv => by
  have hj : j < m := by
    have := (List.getElem?_eq_some_iff.1 hv).1
    simpa [cellsOf] using this
  rw [h.cell (by omega), ← hv]
  simp [cellsOf, hj]
theorem Has.there (h : Has w b T n f) (o m : Nat) (hm : o + m ≤ n) : w.there b o m := fun j hj => ⟨by rw [h.cell (by omega)]; rfl, h.free _⟩
theorem Has.setCells : ∀ (m o : Nat) (g : Nat → Value) {w : World} {f : Nat → Value}, Has w b T n f → Has (w.setCells b o ((List.range m).map g)) b T n (lay f o m g)
  | 0, o, g, w, f, h => h.congr (fun j _ => by simp only [lay]; rw [if_neg (by omega)])
  | m + 1, o, g, w, f, h => by
    rw [List.range_succ_eq_map, List.map_cons, List.map_map]
    have h1 := Has.setCells m (o + 1) (g ∘ Nat.succ) (h.set o (g 0))
    refine Has.congr h1 (fun j _ => ?_)
    simp only [lay, upd, Function.comp]
    by_cases e : j = o
    · subst e; rw [if_neg (by omega), if_pos rfl, if_pos (by omega), Nat.sub_self]
    · by_cases e2 : o ≤ j ∧ j < o + (m + 1)
      · rw [if_pos (by omega), if_pos e2, show (j - (o + 1)).succ = j - o from by omega]
      · rw [if_neg (by omega), if_neg e, if_neg e2]
variable {P : Program}
theorem run_load_part (h : Has w b T n f) (o m : Nat) (hm : o + m ≤ n) (ty : TypeId) (d : TypeDesc) (hu : P.underlying ty = some d) (hd : d.isRow = true) (hi : (P.info? ty).map (·.size) = some m) :
    (Instr.loadAt ty (.pointer (some ⟨b, o, none⟩))).run P w = .ok (.agg (cellsOf (fun j => f (o + j)) m)) w := by
  have := run_loadAt_mid (P := P) w b o ty (cellsOf (fun j => f (o + j)) m).toList d (h.rangeAt o m hm) hu hd (by rw [hi]; simp [cellsOf])
  simpa using this
end
section
variable {P : Program}
theorem run_sliceArr_from (t e : TypeId) (k : Nat) (hu : P.underlying t = some (.array k e)) (hs : (P.info? e).map (·.size) = some 1) (b o n : Nat) (h : n < k) (w : World) :
    (Instr.sliceAt t (.pointer (some ⟨b, o, none⟩)) (some (.int .i64 (n : Int))) none none).run P w = .ok (.slice (some ⟨b, o + n, none⟩) (k - n) (k - n)) w := by
  cases hq : P.info? e with
  | none => simp [hq] at hs
  | some i =>
    have hi : i.size = 1 := by simpa [hq] using hs
    have h' : n ≤ k := Nat.le_of_lt h
    have h'' : ¬ k = n := by omega
    simp [Instr.sliceAt, Instr.sureAddr, run_underlying hu, Instr.sliceBounds, Instr.sliceBound, asIntOf, sizeOf, typeInfo, hq, hi, Sem.run_bind, h', h'', Addr.add_mid]
end
section laws
variable {P : Program} {ops : Array Oper} {rest : List Oper} {o : Oper} {a : Act} {w : World} {Q : Exit → Act → World → Prop}
theorem wpl_build (hg : o.guard = none) (t : TypeId) (parts : Array (Nat × Operand)) (ho : o.op = .build t parts) (cells : Array Value)
    (hb : P.built t (parts.map fun (i, x) => (i, a.eval x)).toList = some cells) (h : wpList P ops Q rest (a.put o.dst (.agg cells)) w) : wpList P ops Q (o :: rest) a w :=
  wpList_build hg t parts ho (by rw [hb]; rfl) (by rw [hb]; exact h)
theorem run_store_one {b k T n : Nat} {f : Nat → Value} (hh : Has w b T n f) (hk : k < n) (ty : TypeId) (v : Value) (hi : (P.info? ty).map (·.size) = some 1) (hv : v.cells = #[v]) (h1 : v.oneCell' = true) :
    (Instr.storeAt ty (.pointer (some ⟨b, k, none⟩)) v).run P w = .ok () (w.setCell ⟨b, k, none⟩ v) := by
  have := run_storeCells_cells (P := P) b k [v] 0 w (fun j hj => by
      have : j = 0 := by simpa using hj
      subst this
      rw [show k + 0 = k from rfl]
      rw [hh.cell hk]; rfl) (fun j _ => hh.free _) (fun u hu => by
      have : u = v := by simpa using hu
      rw [this]; exact h1)
  cases hq : P.info? ty with
  | none => simp [hq] at hi
  | some i =>
    have hs : i.size = 1 := by simpa [hq] using hi
    simp only [Nat.add_zero, World.setCells] at this
    simp [Instr.storeAt, Instr.sureAddr, storeVar, sizeOf, typeInfo, hq, hv, hs, this]
/-- One cell is written. -/
theorem wpl_set (hg : o.guard = none) (ty : TypeId) (x y : Operand) (ho : o.op = .store ty x y) (b k : Nat) (hx : a.eval x = .pointer (some ⟨b, k, none⟩)) (v : Value) (hy : a.eval y = v)
    (hi : (P.info? ty).map (·.size) = some 1) (hv : v.cells = #[v]) (h1 : v.oneCell' = true) (T n : Nat) (f : Nat → Value) (hh : Has w b T n f) (hk : k < n)
    (h : ∀ w1, Touch b w w1 → Has w1 b T n (upd f k v) → wpList P ops Q rest (a.put o.dst undef) w1) : wpList P ops Q (o :: rest) a w := by
  refine wpList_plain hg fun K hK => ?_
  have hrun := run_store_one (P := P) hh hk ty v hi hv h1
  unfold Oper.wp execOp
  simp only [ho, hx, hy, Sem.run_bind, hrun, Result.andThen_ok]
  exact hK _ _ (h _ (touch_setCell w ⟨b, k, none⟩ v) (hh.set k v))
end laws
end Go.Proofs.YtilhkgbninbkkaaDoor
namespace Go.Proofs.YtilhkgbninbkkaaDoor
open Go Go.RowKit
/-- An operation by what it runs to. -/
theorem wpl_run {P : Program} {ops : Array Oper} {rest : List Oper} {o : Oper} {a : Act} {w : World} {Q : Exit → Act → World → Prop} (hgd : o.guard = none) (v : Value) (w' : World)
    (hrun : (execOp a.eval o).run P w = .ok (.value v) w') (h : wpList P ops Q rest (a.put o.dst v) w') : wpList P ops Q (o :: rest) a w := by
  refine wpList_plain hgd fun K hK => ?_
  unfold Oper.wp
  rw [hrun]
  exact hK _ _ h
end Go.Proofs.YtilhkgbninbkkaaDoor
namespace Go.Proofs.YtilhkgbninbkkaaDoor
open Go Go.RowKit
/-- A later world, in which nothing below N has turned. -/
structure Later (N : Nat) (w : World) where
  w' : World
  b : Below N w w'
instance (N : Nat) (w : World) : Nonempty (Later N w) := ⟨⟨w, Below.refl N w⟩⟩
section
variable {P : Program} {N : Nat} {w : World}
theorem wp_region_later {id : Nat} {Q : Exit → Act → World → Prop} {a : Act} {l : List Oper} (N : Nat) (hm : P.follows .mixedOrders = true) (hB : Region.lexB .any l.toArray = true)
    (h : wpQuiet P l.toArray (fun w' => ∃ x : Later N w, w' = x.w') (fun a' => ∀ w', (∃ x : Later N w, w' = x.w') → Q .normal a' w') l a) : (Code.region id l.toArray true).wp P Q a w :=
  wp_region_quiet (C := fun w' => ∃ x : Later N w, w' = x.w') hm hB ⟨⟨w.drew, (Below.refl N w).drew⟩, rfl⟩ (by simpa using h)
/-- One operation, by what it runs to there. -/
theorem later_val {ops : Array Oper} {Q : Act → Prop} {a : Act} {o : Oper} {rest : List Oper} {v : Value} (hr : ∀ x : Later N w, (execOp a.eval o).run P x.w' = .ok (.value v) x.w') (hw : Region.wanted o (yielded ops a.tmps) = true)
    (h : wpQuiet P ops (fun w' => ∃ x : Later N w, w' = x.w') Q rest (a.put o.dst v)) : wpQuiet P ops (fun w' => ∃ x : Later N w, w' = x.w') Q (o :: rest) a :=
  wpQuiet_step fun K hK => by
    rw [if_pos hw]
    exact ⟨v, fun w1 ⟨x, e⟩ => by subst e; unfold Oper.quietAt; rw [hr x]; exact ⟨rfl, rfl⟩, hK _ h⟩
/-- A callee's contract there. -/
theorem later_of {f : FuncId} {args : Array Value} {v : Value} (hN : Sz w N) (x : Later N w) (h : ∀ M, Sz x.w' M → N ≤ M → Calls P f args x.w' fun e w' => e = .returned v ∧ Below M x.w' w') :
    Calls P f args x.w' fun e w'' => e = .returned v ∧ ∃ y : Later N w, w'' = y.w' :=
  have hNM := below_sz x.b hN (m := x.w'.heap.size) rfl
  (h _ rfl hNM).mono fun e w'' ⟨he, hb⟩ => ⟨he, ⟨w'', x.b.trans (hb.mono hNM)⟩, rfl⟩
theorem laterE {F : World → Prop} (hN : Sz w N) (h : ∀ x M, Below N w x → Sz x M → N ≤ M → F x) : ∀ x, (∃ y : Later N w, x = y.w') → F x := fun x ⟨y, e⟩ => by
  subst e
  exact h _ _ y.b rfl (below_sz y.b hN rfl)
theorem Later.cell {b o : Nat} {v : Value} (hN : Sz w N) (h : w.cell? ⟨b, o, none⟩ = some v) (x : Later N w) : x.w'.cell? ⟨b, o, none⟩ = some v := by
  rw [x.b.cell (p := ⟨b, o, none⟩) (by have := World.block_lt_of_cell? w _ h; have e : w.heap.size = N := hN; simp only at this ⊢; omega)]; exact h
theorem Later.has {b T n : Nat} {f : Nat → Value} (hN : Sz w N) (h : Has w b T n f) (x : Later N w) : Has x.w' b T n f := h.below x.b (h.ltN hN)
end
end Go.Proofs.YtilhkgbninbkkaaDoor
namespace Go.Proofs.YtilhkgbninbkkaaDoor
open Go Go.RowKit
section
variable {P : Program} {ops : Array Oper} {rest : List Oper} {o : Oper} {a : Act} {w : World} {Q : Exit → Act → World → Prop}
end
end Go.Proofs.YtilhkgbninbkkaaDoor
namespace Go.Proofs.YtilhkgbninbkkaaDoor
open Go Go.RowKit
/-- Q, but R where the code goes on. -/
def behind (Q : Exit → Act → World → Prop) (R : Act → World → Prop) : Exit → Act → World → Prop
  | .normal, a, w => R a w
  | .exit i, a, w => Q (.exit i) a w
  | .goto l, a, w => Q (.goto l) a w
  | .ret, a, w => Q .ret a w
  | .panic c, a, w => Q (.panic c) a w
  | .outgrown, a, w => Q .outgrown a w
section
variable {P : Program} {ops : Array Oper} {rest : List Oper} {o : Oper} {a : Act} {w : World} {Q : Exit → Act → World → Prop}
theorem wpl_want (hw : Region.wanted o (yielded ops a.tmps) = true) (h : wpList P ops Q ({ o with guard := none } :: rest) a w) : wpList P ops Q (o :: rest) a w := by
  unfold wpList at h ⊢
  rw [if_pos (by simp [Region.wanted])] at h
  rw [if_pos hw]
  exact h
end
end Go.Proofs.YtilhkgbninbkkaaDoor
namespace Go.Proofs.YtilhkgbninbkkaaDoor
open Go Go.RowKit
section
variable {P : Program} {a : Act} {w : World}
/-- What a load of a whole array runs to. -/
theorem run_ld {o : Oper} (ty : TypeId) (x : Operand) (ho : o.op = .load ty x) (b : Nat) (hx : a.eval x = .pointer (some ⟨b, 0, none⟩)) (T : TypeId) (n : Nat) (f : Nat → Value) (hh : Has w b T n f)
    (d : TypeDesc) (hu : P.underlying ty = some d) (hd : d.isRow = true) (hi : (P.info? ty).map (·.size) = some n) : (execOp a.eval o).run P w = .ok (.value (.agg (cellsOf f n))) w := by
  have hrun := run_load_part (P := P) hh 0 n (by omega) ty d hu hd hi
  simp only [Nat.zero_add] at hrun
  unfold execOp
  simp only [ho, hx, Sem.run_bind, hrun, Result.andThen_ok, Sem.run_pure]
end
section
variable {P : Program} {ops : Array Oper} {rest : List Oper} {o : Oper} {a : Act} {w : World} {Q : Exit → Act → World → Prop}
/-- A conversion, by what it runs to. -/
theorem wpl_conv (hgd : o.guard = none) (src dst : TypeId) (x : Operand) (ho : o.op = .convert src dst x) (u v : Value) (hx : a.eval x = u) (hrun : (convert src dst u).run P w = .ok v w) (h : wpList P ops Q rest (a.put o.dst v) w) : wpList P ops Q (o :: rest) a w := by
  refine wpl_run hgd v w ?_ h
  unfold execOp
  simp only [ho, hx, Sem.run_bind, hrun, Result.andThen_ok, Sem.run_pure]
end
end Go.Proofs.YtilhkgbninbkkaaDoor
namespace Go.Proofs.YtilhkgbninbkkaaDoor
open Go Go.RowKit
section
variable {P : Program} {Q : Exit → Act → World → Prop}
end
end Go.Proofs.YtilhkgbninbkkaaDoor
namespace Go.Proofs.YtilhkgbninbkkaaDoor
open Go Go.RowKit
section
variable {P : Program} {md : Region.Mode} {ops : Array Oper} {Q : Exit → Act → World → Prop}
end
end Go.Proofs.YtilhkgbninbkkaaDoor
namespace Go.Proofs.YtilhkgbninbkkaaDoor
open Go Go.RowKit
section
variable {P : Program} {md : Region.Mode} {ops : Array Oper} {Q : Exit → Act → World → Prop}
end
end Go.Proofs.YtilhkgbninbkkaaDoor
namespace Go.Proofs.YtilhkgbninbkkaaDoor
open Go Go.RowKit
section
variable {N M : Nat} {V : Nat → Option Value} {A : Nat → TypeId × Nat × (Nat → Value)} {j : Nat} {u v : Value} {w w' : World}
end
section
variable {P : Program} {ops : Array Oper} {Q : Exit → Act → World → Prop} {i : Nat} {o : Oper} {a : Act} {w w0 : World} {N : Nat} {V : Nat → Option Value} {A : Nat → TypeId × Nat × (Nat → Value)} {rem : List Nat}
end
end Go.Proofs.YtilhkgbninbkkaaDoor
namespace Go.Proofs.YtilhkgbninbkkaaDoor
open Go Go.RowKit
section
variable {P : Program} {md : Region.Mode} {ops : Array Oper} {Q : Exit → Act → World → Prop}
end
end Go.Proofs.YtilhkgbninbkkaaDoor
namespace Go.Proofs.YtilhkgbninbkkaaDoor
open Go Go.RowKit
end Go.Proofs.YtilhkgbninbkkaaDoor
namespace Go.Proofs.YtilhkgbninbkkaaDoor
open Go Go.RowKit
/- What a slot's being written makes of the frame, by short names. -/
theorem pA : (∀ (l : List Value) (ds : List Deferred) (d : Nat) (v : Value), Act.put { tmps := l.toArray, defers := ds } (some d) v = { tmps := (l.set d v).toArray, defers := ds }) ∧ (∀ (a : Act) (v : Value), Act.put a none v = a) ∧
    (∀ (a : Value) (l : List Value) (n : Nat) (b : Value), (a :: l).set (n + 1) b = a :: l.set n b) ∧ (∀ (a : Value) (l : List Value) (b : Value), (a :: l).set 0 b = b :: l) :=
  ⟨fun l ds d v => by simp [Act.put], fun _ _ => rfl, fun _ _ _ _ => rfl, fun _ _ _ => rfl⟩
end Go.Proofs.YtilhkgbninbkkaaDoor
