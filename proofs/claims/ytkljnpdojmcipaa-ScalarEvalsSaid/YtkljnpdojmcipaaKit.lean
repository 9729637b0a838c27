/- Plain words on worlds: a block that holds a row of cells, told by a function of the place. Nothing of the program. -/
import Derived.WalkKit
import Derived.Deep.MidRow
import Derived.Deep.Quiet
import Derived.Deep.WholeRow
namespace Go.Proofs.Ytkljnpdojmcipaa
open Go Go.RowKit
theorem hid {p : Prop} (h : p) : Hid p := h
/-- n cells, by a function of the place. -/
def cellsOf (f : Nat → Value) (n : Nat) : Array Value := ((List.range n).map f).toArray
/-- The same as a list. -/
def lst (f : Nat → Value) (n : Nat) : List Value := (List.range n).map f
theorem lst_toArray (f : Nat → Value) (n : Nat) : (lst f n).toArray = cellsOf f n := rfl
theorem length_lst (f : Nat → Value) (n : Nat) : (lst f n).length = n := by simp [lst]
theorem size_cellsOf (f : Nat → Value) (n : Nat) : (cellsOf f n).size = n := by simp [cellsOf]
theorem get_cellsOf (f : Nat → Value) (n j : Nat) (h : j < n) : (cellsOf f n)[j]? = some (f j) := by simp [cellsOf, h]
theorem cellsOf_congr {f g : Nat → Value} {n : Nat} (h : ∀ j, j < n → f j = g j) : cellsOf f n = cellsOf g n := by
  simp only [cellsOf]; congr 1; exact List.map_congr_left (fun j hj => h j (by simpa using hj))
def upd (f : Nat → Value) (k : Nat) (v : Value) : Nat → Value := fun j => if j = k then v else f j
theorem set_cellsOf (f : Nat → Value) (n k : Nat) (v : Value) : (cellsOf f n).setIfInBounds k v = cellsOf (upd f k v) n := by
  apply Array.ext_getElem?
  intro j
  rw [Array.getElem?_setIfInBounds]
  by_cases hj : j < n
  · by_cases h : k = j
    · subst h; simp [cellsOf, hj, upd]
    · have h' : ¬ j = k := fun e => h e.symm
      simp [cellsOf, hj, upd, h, h']
  · by_cases h : k = j
    · subst h; simp [cellsOf, hj]
    · simp [cellsOf, hj, h]
/-- Block b is n cells of type T, cell j being f j; none is frozen. -/
def Has (w : World) (b : Nat) (T : TypeId) (n : Nat) (f : Nat → Value) : Prop := w.heap[b]? = some (.cells (cellsOf f n) T (0, 0))
section
variable {w w' : World} {b : Nat} {T : TypeId} {n : Nat} {f g : Nat → Value}
theorem Has.out (h : Has w b T n f) : w.heap[b]? = some (.cells (cellsOf f n) T (0, 0)) := h
theorem Has.lt (h : Has w b T n f) : b < w.heap.size := (Array.getElem?_eq_some_iff.1 h).1
theorem Has.cell (h : Has w b T n f) {j : Nat} (hj : j < n) : w.cell? ⟨b, j, none⟩ = some (f j) := by
  rw [cell_of_row w b j _ T (0, 0) h, get_cellsOf f n j hj]
theorem Has.free (h : Has w b T n f) (j : Nat) : w.frozen? ⟨b, j, none⟩ = false := by
  unfold Has at h
  simp [World.frozen?, h]
theorem Has.congr (h : Has w b T n f) (e : ∀ j, j < n → f j = g j) : Has w b T n g := by
  unfold Has at h ⊢; rw [h, cellsOf_congr e]
theorem Has.same (h : Has w b T n f) (e : w'.heap[b]? = w.heap[b]?) : Has w' b T n f := e.trans h
theorem Has.below {B : Nat} (h : Has w b T n f) (hb : Below B w w') (hlt : b < B) : Has w' b T n f := h.same (hb.block b hlt)
theorem Has.drew (h : Has w b T n f) : Has w.drew b T n f := h
theorem Has.drewN (h : Has w b T n f) (k : Nat) : Has (w.drewN k) b T n f := by
  exact h
theorem Has.alloc (h : Has w b T n f) (o : Obj) : Has (w.alloc o) b T n f := by
  unfold Has; rw [Below.heap_alloc w o b h.lt]; exact h
theorem Has.new (w : World) (T : TypeId) (n : Nat) (f : Nat → Value) : Has (w.alloc (.cells (cellsOf f n) T (0, 0))) w.heap.size T n f := heap_alloc_new w _
theorem Has.other (h : Has w b T n f) {p : Addr} (v : Value) (hne : b ≠ p.block) : Has (w.setCell p v) b T n f := h.same (Below.heap_setCell w p v b hne)
theorem Has.set (h : Has w b T n f) (k : Nat) (v : Value) : Has (w.setCell ⟨b, k, none⟩ v) b T n (upd f k v) := by
  unfold Has at h ⊢
  rw [← set_cellsOf]
  simp [World.setCell, Array.getElem?_modify, h]
theorem Has.row (h : Has w b T n f) (g : Nat → Value) : Has (w.setRow b (cellsOf g n)) b T n g := setRow_heap w b _ _ T _ h
theorem Has.rowOther (h : Has w b T n f) {k : Nat} (cs : Array Value) (hne : b ≠ k) : Has (w.setRow k cs) b T n f := h.same (setRow_other w k b cs hne)
end
theorem below_drewN {B : Nat} {a w : World} (h : Below B a w) (k : Nat) : Below B a (w.drewN k) := h.trans ⟨rfl, rfl, rfl, Nat.le_refl _, fun _ _ => rfl⟩
/-- A table: a block of n cells, by a function of the place, of whatever mark. -/
def Tab (w : World) (b n : Nat) (f : Nat → Value) : Prop := ∃ T fr, w.heap[b]? = some (.cells (cellsOf f n) T fr)
section
variable {w w' : World} {b n : Nat} {f : Nat → Value}
theorem Tab.lt (h : Tab w b n f) : b < w.heap.size := by obtain ⟨_, _, h⟩ := h; exact (Array.getElem?_eq_some_iff.1 h).1
theorem Tab.cell (h : Tab w b n f) {j : Nat} (hj : j < n) : w.cell? ⟨b, j, none⟩ = some (f j) := by
  obtain ⟨T, fr, h⟩ := h
  rw [cell_of_row w b j _ T fr h, get_cellsOf f n j hj]
theorem Tab.same (h : Tab w b n f) (e : w'.heap[b]? = w.heap[b]?) : Tab w' b n f := by obtain ⟨T, fr, h⟩ := h; exact ⟨T, fr, e.trans h⟩
theorem Tab.below {B : Nat} (h : Tab w b n f) (hb : Below B w w') (hlt : b < B) : Tab w' b n f := h.same (hb.block b hlt)
theorem Tab.drew (h : Tab w b n f) : Tab w.drew b n f := h
theorem Tab.drewN (h : Tab w b n f) (k : Nat) : Tab (w.drewN k) b n f := h
end
/-- The heap has so many blocks. -/
def Sz (w : World) (n : Nat) : Prop := w.heap.size = n
/-- Block b alone may have turned. -/
structure Touch (b : Nat) (w w' : World) : Prop where
  os : w'.os = w.os
  tape : w'.tape = w.tape
  output : w'.output = w.output
  size : w'.heap.size = w.heap.size
  block : ∀ k, k ≠ b → w'.heap[k]? = w.heap[k]?
theorem Touch.below {b B : Nat} {a w w' : World} (h : Touch b w w') (k : Below B a w) (hb : B ≤ b) : Below B a w' :=
  k.trans ⟨h.os, h.tape, h.output, Nat.le_of_eq h.size.symm, fun i hi => h.block i (by omega)⟩
theorem Touch.sz {b n : Nat} {w w' : World} (h : Touch b w w') (k : Sz w n) : Sz w' n := h.size.trans k
theorem Has.touch {w w' : World} {b c : Nat} {T : TypeId} {n : Nat} {f : Nat → Value} (h : Has w b T n f) (t : Touch c w w') (hne : b ≠ c) : Has w' b T n f := h.same (t.block b hne)
theorem touch_setCell (w : World) (p : Addr) (v : Value) : Touch p.block w (w.setCell p v) :=
  ⟨rfl, rfl, rfl, by simp [World.setCell], fun k hk => Below.heap_setCell w p v k hk⟩
theorem touch_setRow (w : World) (g : Nat) (cs : Array Value) : Touch g w (w.setRow g cs) :=
  ⟨rfl, rfl, rfl, by simp [World.setRow], fun k hk => setRow_other w g k cs hk⟩
theorem below_new (w : World) (o : Obj) (N : Nat) (hN : Sz w N) : Below N w (w.alloc o) := by
  have := (Below.refl N w).alloc (Nat.le_of_eq hN.symm) o
  exact this
theorem sz_alloc {w : World} {N : Nat} (hN : Sz w N) (o : Obj) : Sz (w.alloc o) (N + 1) := by
  show (w.heap.push o).size = N + 1
  rw [Array.size_push, show w.heap.size = N from hN]
theorem has_new {w : World} {N : Nat} (hN : Sz w N) (T : TypeId) (n : Nat) (f : Nat → Value) : Has (w.alloc (.cells (cellsOf f n) T (0, 0))) N T n f := by
  have := Has.new w T n f
  rwa [show w.heap.size = N from hN] at this
theorem below_sz {B n m : Nat} {w w' : World} (h : Below B w w') (a : Sz w n) (b : Sz w' m) : n ≤ m := by
  have h1 := h.size
  have h2 : w.heap.size = n := a
  have h3 : w'.heap.size = m := b
  omega
theorem sz_some (w : World) : ∃ n, Sz w n := ⟨_, rfl⟩
theorem Has.ltN {w : World} {b : Nat} {T : TypeId} {n : Nat} {f : Nat → Value} (h : Has w b T n f) {N : Nat} (hN : Sz w N) : b < N := by have := h.lt; rwa [show w.heap.size = N from hN] at this
section laws
variable {P : Program} {ops : Array Oper} {rest : List Oper} {o : Oper} {a : Act} {w : World} {Q : Exit → Act → World → Prop}
/-- A new variable of many cells. -/
theorem wpl_alloc (hg : o.guard = none) (T : TypeId) (ho : o.op = .alloc T) (n : Nat) (f : Nat → Value) (hz : (P.info? T).map (fun i => (i.zero, i.size)) = some (some (.agg (cellsOf f n)), n))
    (N : Nat) (hN : Sz w N) (h : ∀ w1, Sz w1 (N + 1) → Below N w w1 → Has w1 N T n f → wpList P ops Q rest (a.put o.dst (.pointer (some ⟨N, 0, none⟩))) w1) : wpList P ops Q (o :: rest) a w := by
  refine wpList_plain hg fun K hK => ?_
  have hz' := (zero_of_info hz).1 w
  have e : w.heap.size = N := hN
  subst e
  unfold Oper.wp execOp
  simp only [ho, Sem.run_bind, Instr.alloc, newVar, newRow, hz', Result.andThen_ok, run_newObj_alloc, Sem.run_pure]
  exact hK _ _ (h _ (sz_alloc rfl _) (below_new _ _ _ rfl) (has_new rfl T n f))
/-- A new variable that holds a value of many cells. -/
theorem wpl_box (hg : o.guard = none) (T : TypeId) (x : Operand) (ho : o.op = .box T x) (n : Nat) (f : Nat → Value) (hx : a.eval x = .agg (cellsOf f n))
    (N : Nat) (hN : Sz w N) (h : ∀ w1, Sz w1 (N + 1) → Below N w w1 → Has w1 N T n f → wpList P ops Q rest (a.put o.dst (.pointer (some ⟨N, 0, none⟩))) w1) : wpList P ops Q (o :: rest) a w := by
  refine wpList_plain hg fun K hK => ?_
  have e : w.heap.size = N := hN
  subst e
  unfold Oper.wp execOp
  simp only [ho, hx, Value.cells, Sem.run_bind, Instr.box, newVar, newRow, run_newObj_alloc, Sem.run_pure, Result.andThen_ok]
  exact hK _ _ (h _ (sz_alloc rfl _) (below_new _ _ _ rfl) (has_new rfl T n f))
/-- A whole array is read. -/
theorem wpl_load (hg : o.guard = none) (ty : TypeId) (x : Operand) (ho : o.op = .load ty x) (b : Nat) (hx : a.eval x = .pointer (some ⟨b, 0, none⟩)) (T : TypeId) (n : Nat) (f : Nat → Value) (hh : Has w b T n f)
    (d : TypeDesc) (hu : P.underlying ty = some d) (hd : d.isRow = true) (hi : (P.info? ty).map (·.size) = some n) (h : wpList P ops Q rest (a.put o.dst (.agg (cellsOf f n))) w) : wpList P ops Q (o :: rest) a w :=
  wpList_load_row hg ty x ho b hx T (cellsOf f n) (0, 0) d hh.out hu (by cases d <;> simp_all) (by rw [hi, size_cellsOf]) h
theorem wpl_load_tab (hg : o.guard = none) (ty : TypeId) (x : Operand) (ho : o.op = .load ty x) (b : Nat) (hx : a.eval x = .pointer (some ⟨b, 0, none⟩)) (n : Nat) (f : Nat → Value) (hh : Tab w b n f)
    (d : TypeDesc) (hu : P.underlying ty = some d) (hd : d.isRow = true) (hi : (P.info? ty).map (·.size) = some n) (h : wpList P ops Q rest (a.put o.dst (.agg (cellsOf f n))) w) : wpList P ops Q (o :: rest) a w := by
  obtain ⟨T, fr, hh⟩ := hh
  exact wpList_load_row hg ty x ho b hx T (cellsOf f n) fr d hh hu (by cases d <;> simp_all) (by rw [hi, size_cellsOf]) h
/-- A whole array is written. -/
theorem wpl_store (hg : o.guard = none) (ty : TypeId) (x y : Operand) (ho : o.op = .store ty x y) (b : Nat) (n : Nat) (g : Nat → Value) (hx : a.eval x = .pointer (some ⟨b, 0, none⟩)) (hy : a.eval y = .agg (cellsOf g n))
    (T : TypeId) (f : Nat → Value) (hh : Has w b T n f) (hi : (P.info? ty).map (·.size) = some n) (h1 : ∀ j, j < n → (g j).oneCell' = true)
    (h : ∀ w1, Touch b w w1 → Has w1 b T n g → wpList P ops Q rest (a.put o.dst undef) w1) : wpList P ops Q (o :: rest) a w :=
  wpList_store_row hg ty x y ho b (cellsOf g n) hx hy T (cellsOf f n) hh.out (by rw [hi, size_cellsOf]) (by rw [size_cellsOf, size_cellsOf])
    (by rw [Array.all_eq_true_iff_forall_mem]; intro v hv; simp only [cellsOf, List.mem_toArray, List.mem_map, List.mem_range] at hv; obtain ⟨j, hj, rfl⟩ := hv; exact h1 j hj)
    (h _ (touch_setRow w b _) (hh.row g))
theorem post_cell {fn : Func} {R : Ending → World → Prop} {p : Tmp} {T : TypeId} (hr : fn.results = #[.cell p T]) (b : Nat) (hp : a.tmps.getD p undef = .pointer (some ⟨b, 0, none⟩))
    {n : Nat} {f : Nat → Value} (hh : Has w b T n f) (d : TypeDesc) (hu : P.underlying T = some d) (hd : d.isRow = true) (hi : (P.info? T).map (·.size) = some n)
    (hdef : a.defers = []) (hR : R (.returned (.agg (cellsOf f n))) w) : bodyPost P fn R .ret a w :=
  bodyPost_ret (results_cell_row hr a.tmps w b T (cellsOf f n) (0, 0) d hp hh.out hu (by cases d <;> simp_all) (by rw [hi, size_cellsOf])) hdef hR
theorem run_index_cells (xT e len : Nat) (f : Nat → Value) (n k : Nat) (d : TypeDesc) (hu : P.underlying xT = some (.array len e)) (he : P.underlying e = some d) (hd : (match d with | .struct _ | .array _ _ => false | _ => true) = true)
    (hs : (P.info? e).map (·.size) = some 1) (hk : k < len) (hn : k < n) (w : World) :
    (Instr.index xT (.agg (cellsOf f n)) (.int .i64 (k : Int))).run P w = .ok (f k) w := by
  cases hq : P.info? e with
  | none => simp [hq] at hs
  | some i =>
    have hi : i.size = 1 := by simpa [hq] using hs
    have hagg : (isAgg e).run P w = .ok false w := by
      unfold isAgg
      rw [Sem.run_bind, run_underlying he w]
      cases d <;> simp_all
    simp [Instr.index, asIntOf, Sem.run_bind, run_underlying hu w, sizeOf, typeInfo, hq, hi, part, hagg, get_cellsOf f n k hn]
    intro hle; omega
end laws
end Go.Proofs.Ytkljnpdojmcipaa
