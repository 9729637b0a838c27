/- Plain words on worlds, more: parts of a row, a row that is touched beside new blocks, copies. Nothing of the program. -/
import Derived.Test.YtkljnpdojmcipaaKit
import Derived.Laws.CopyOwn
import Derived.StillTailTactics
namespace Go.Proofs.Ytkljnpdojmcipaa
open Go Go.RowKit
/-- A slice's length, for a measure. -/
def lenOf : Value → Nat | .slice _ n _ => n | _ => 0
/-- g, m long, laid over f from place o on. -/
def lay (f : Nat → Value) (o m : Nat) (g : Nat → Value) : Nat → Value := fun j => if o ≤ j ∧ j < o + m then g (j - o) else f j
/-- Block R has turned, and there may be new ones. -/
structure Mod (R : Nat) (w w' : World) : Prop where
  os : w'.os = w.os
  tape : w'.tape = w.tape
  output : w'.output = w.output
  size : w.heap.size ≤ w'.heap.size
  block : ∀ k, k < w.heap.size → k ≠ R → w'.heap[k]? = w.heap[k]?
theorem Mod.refl (R : Nat) (w : World) : Mod R w w := ⟨rfl, rfl, rfl, Nat.le_refl _, fun _ _ _ => rfl⟩
theorem Mod.trans {R : Nat} {a b c : World} (h : Mod R a b) (k : Mod R b c) : Mod R a c :=
  ⟨k.os.trans h.os, k.tape.trans h.tape, k.output.trans h.output, Nat.le_trans h.size k.size, fun i hi hr => (k.block i (Nat.lt_of_lt_of_le hi h.size) hr).trans (h.block i hi hr)⟩
theorem Touch.mod {R : Nat} {w w' : World} (h : Touch R w w') : Mod R w w' := ⟨h.os, h.tape, h.output, Nat.le_of_eq h.size.symm, fun k _ hk => h.block k hk⟩
theorem mod_of_below {R N : Nat} {w w' : World} (hN : Sz w N) (h : Below N w w') : Mod R w w' := ⟨h.os, h.tape, h.output, h.size, fun k hk _ => h.block k (by have e : w.heap.size = N := hN; omega)⟩
theorem mod_drew (R : Nat) (w : World) : Mod R w w.drew := ⟨rfl, rfl, rfl, Nat.le_refl _, fun _ _ _ => rfl⟩
theorem mod_drewN (R : Nat) (w : World) (n : Nat) : Mod R w (w.drewN n) := ⟨rfl, rfl, rfl, Nat.le_refl _, fun _ _ _ => rfl⟩
theorem Mod.below {R B : Nat} {a w w' : World} (h : Mod R w w') (k : Below B a w) (hR : B ≤ R) (hB : B ≤ w.heap.size) : Below B a w' :=
  k.trans ⟨h.os, h.tape, h.output, h.size, fun i hi => h.block i (by omega) (by omega)⟩
theorem Has.mod {w w' : World} {b R : Nat} {T : TypeId} {n : Nat} {f : Nat → Value} (h : Has w b T n f) (m : Mod R w w') (hne : b ≠ R) : Has w' b T n f := h.same (m.block b h.lt hne)
theorem Tab.mod {w w' : World} {b R n : Nat} {f : Nat → Value} (h : Tab w b n f) (m : Mod R w w') (hne : b ≠ R) : Tab w' b n f := h.same (m.block b h.lt hne)
theorem sz_le {w w' : World} {R n : Nat} (h : Mod R w w') (a : Sz w n) : n ≤ w'.heap.size := by
  have e : w.heap.size = n := a
  have := h.size
  omega
theorem Mod.cell {w w' : World} {R : Nat} (m : Mod R w w') {p : Addr} {v : Value} (h : w.cell? p = some v) (hne : p.block ≠ R) : w'.cell? p = some v := by
  rw [World.cell?_of_block (w := w) (m.block p.block (World.block_lt_of_cell? w p h) hne)]; exact h
theorem Touch.cell {w w' : World} {R : Nat} (m : Touch R w w') {p : Addr} {v : Value} (h : w.cell? p = some v) (hne : p.block ≠ R) : w'.cell? p = some v := m.mod.cell h hne
section
variable {w : World} {b : Nat} {T : TypeId} {n : Nat} {f g : Nat → Value}
theorem Has.rangeAt (h : Has w b T n f) (o m : Nat) (hm : o + m ≤ n) : w.rangeAt b o (cellsOf (fun j => f (o + j)) m).toList := fun j v hv => by
  have hj : j < m := by
    have := (List.getElem?_eq_some_iff.1 hv).1
    simpa [cellsOf] using this
  rw [h.cell (by omega), ← hv]
  simp [cellsOf, hj]
theorem Has.there (h : Has w b T n f) (o m : Nat) (hm : o + m ≤ n) : w.there b o m := fun j hj => ⟨by rw [h.cell (by omega)]; rfl, h.free _⟩
theorem touch_setCells (b : Nat) : ∀ (vs : List Value) (o : Nat) (w : World), Touch b w (w.setCells b o vs)
  | [], _, _ => ⟨rfl, rfl, rfl, rfl, fun _ _ => rfl⟩
  | v :: vs, o, w => by
    have h1 := touch_setCell w ⟨b, o, none⟩ v
    have h2 := touch_setCells b vs (o + 1) (w.setCell ⟨b, o, none⟩ v)
    exact ⟨h2.os.trans h1.os, h2.tape.trans h1.tape, h2.output.trans h1.output, h2.size.trans h1.size, fun k hk => (h2.block k hk).trans (h1.block k hk)⟩
theorem Has.setCells : ∀ (m o : Nat) (g : Nat → Value) {w : World} {f : Nat → Value}, Has w b T n f → Has (w.setCells b o ((List.range m).map g)) b T n (lay f o m g)
  | 0, o, g, w, f, h => h.congr (fun j _ => by simp only [lay]; rw [if_neg (by omega)])
  | m + 1, o, g, w, f, h => by
    rw [List.range_succ_eq_map, List.map_cons, List.map_map]
    have h1 := Has.setCells m (o + 1) (g ∘ Nat.succ) (h.set o (g 0))
    refine Has.congr h1 (fun j _ => ?_)
    simp only [lay, upd, Function.comp]
    by_cases e : j = o
    · subst e; rw [if_neg (by omega), if_pos rfl, if_pos (by omega), Nat.sub_self]
    · by_cases e2 : o ≤ j ∧ j < o + (m + 1)
      · rw [if_pos (by omega), if_pos e2, show (j - (o + 1)).succ = j - o from by omega]
      · rw [if_neg (by omega), if_neg e, if_neg e2]
variable {P : Program}
theorem run_load_part (h : Has w b T n f) (o m : Nat) (hm : o + m ≤ n) (ty : TypeId) (d : TypeDesc) (hu : P.underlying ty = some d) (hd : d.isRow = true) (hi : (P.info? ty).map (·.size) = some m) :
    (Instr.loadAt ty (.pointer (some ⟨b, o, none⟩))).run P w = .ok (.agg (cellsOf (fun j => f (o + j)) m)) w := by
  have := run_loadAt_mid (P := P) w b o ty (cellsOf (fun j => f (o + j)) m).toList d (h.rangeAt o m hm) hu hd (by rw [hi]; simp [cellsOf])
  simpa using this
theorem run_store_part (h : Has w b T n f) (o m : Nat) (hm : o + m ≤ n) (ty : TypeId) (g : Nat → Value) (hi : (P.info? ty).map (·.size) = some m) (h1 : ∀ j, j < m → (g j).oneCell' = true) :
    (Instr.storeAt ty (.pointer (some ⟨b, o, none⟩)) (.agg (cellsOf g m))).run P w = .ok () (w.setCells b o ((List.range m).map g)) := by
  have := run_storeAt_mid (P := P) w b o ty (cellsOf g m) (by rw [size_cellsOf]; exact h.there o m hm) (by rw [hi, size_cellsOf])
    (by rw [Array.all_eq_true_iff_forall_mem]; intro v hv; simp only [cellsOf, List.mem_toArray, List.mem_map, List.mem_range] at hv; obtain ⟨j, hj, rfl⟩ := hv; exact h1 j hj)
  simpa [cellsOf] using this
end
/-- Where a slice begins that was cut at n. -/
def cutAt (a : Option Addr) (cap n : Nat) : Option Addr := if cap = n then a else a.map (·.add n)
theorem cutAt_lt (b o cap n : Nat) (h : n < cap) : cutAt (some ⟨b, o, none⟩) cap n = some ⟨b, o + n, none⟩ := by
  unfold cutAt; rw [if_neg (by omega)]; simp [Addr.add_mid]
section
variable {P : Program}
theorem run_slice_from (t e : TypeId) (hu : P.underlying t = some (.slice e)) (hs : (P.info? e).map (·.size) = some 1) (a : Option Addr) (len cap n : Nat) (h : n ≤ len) (w : World) :
    (Instr.sliceAt t (.slice a len cap) (some (.int .i64 (n : Int))) none none).run P w = .ok (.slice (cutAt a cap n) (len - n) (cap - n)) w := by
  cases hq : P.info? e with
  | none => simp [hq] at hs
  | some i =>
    have hi : i.size = 1 := by simpa [hq] using hs
    simp [Instr.sliceAt, Instr.slice, run_underlying hu, Instr.sliceBounds, Instr.sliceBound, asIntOf, sizeOf, typeInfo, hq, hi, Sem.run_bind, h, cutAt]
theorem run_sliceArr_from (t e : TypeId) (k : Nat) (hu : P.underlying t = some (.array k e)) (hs : (P.info? e).map (·.size) = some 1) (b o n : Nat) (h : n < k) (w : World) :
    (Instr.sliceAt t (.pointer (some ⟨b, o, none⟩)) (some (.int .i64 (n : Int))) none none).run P w = .ok (.slice (some ⟨b, o + n, none⟩) (k - n) (k - n)) w := by
  cases hq : P.info? e with
  | none => simp [hq] at hs
  | some i =>
    have hi : i.size = 1 := by simpa [hq] using hs
    have h' : n ≤ k := Nat.le_of_lt h
    have h'' : ¬ k = n := by omega
    simp [Instr.sliceAt, Instr.sureAddr, run_underlying hu, Instr.sliceBounds, Instr.sliceBound, asIntOf, sizeOf, typeInfo, hq, hi, Sem.run_bind, h', h'', Addr.add_mid]
theorem run_sliceArr_all (t e : TypeId) (k : Nat) (hu : P.underlying t = some (.array k e)) (hs : (P.info? e).map (·.size) = some 1) (b o : Nat) (w : World) :
    (Instr.sliceAt t (.pointer (some ⟨b, o, none⟩)) none none none).run P w = .ok (.slice (some ⟨b, o, none⟩) k k) w := by
  cases hq : P.info? e with
  | none => simp [hq] at hs
  | some i =>
    simp [Instr.sliceAt, Instr.sureAddr, run_underlying hu, Instr.sliceBounds, sizeOf, typeInfo, hq, Sem.run_bind, Addr.add]
end
section laws
variable {P : Program} {ops : Array Oper} {rest : List Oper} {o : Oper} {a : Act} {w : World} {Q : Exit → Act → World → Prop}
/-- A copy of m cells, one or more, into a row. -/
theorem wpl_copy (hg : o.guard = none) (d s : Operand) (dT sT : TypeId) (ho : o.op = .call { callee := .builtin .copy, args := #[d, s], argTypes := #[dT, sT] })
    (elem : TypeId) (hu : P.underlying dT = some (.slice elem)) (hsz : (P.info? elem).map (·.size) = some 1)
    (b off dLen dCap : Nat) (hd : a.eval d = .slice (some ⟨b, off, none⟩) dLen dCap) (ad : Addr) (sLen sCap : Nat) (hs : a.eval s = .slice (some ad) sLen sCap)
    (T n : Nat) (f : Nat → Value) (hh : Has w b T n f) (m : Nat) (g : Nat → Value) (hm : m = Nat.min sLen dLen) (hsrc : ∀ j, j < m → w.cell? (ad.add j) = some (g j)) (hfit : off + m ≤ n)
    (h1 : ∀ j, j < m → (g j).oneCell' = true)
    (h : ∀ w1, Touch b w w1 → Has w1 b T n (lay f off m g) → wpList P ops Q rest (a.put o.dst (.int .i64 (m : Int))) w1) : wpList P ops Q (o :: rest) a w := by
  refine wpList_plain hg fun K hK => ?_
  have hrun := run_copy_row (P := P) w dT sT o.type elem b off dLen dCap ad sLen sCap (cellsOf f n) T ((List.range m).map g) hu hsz hh.out (by simp [hm])
    (fun j v hv => by
      have hj : j < m := by
        have := (List.getElem?_eq_some_iff.1 hv).1
        simpa using this
      rw [hsrc j hj, ← hv]; simp [hj])
    (by simpa [size_cellsOf] using hfit)
    (fun v hv => by simp only [List.mem_map, List.mem_range] at hv; obtain ⟨j, hj, rfl⟩ := hv; exact h1 j hj)
  have hrow : ((cellsOf f n).toList.take off ++ (List.range m).map g ++ (cellsOf f n).toList.drop (off + ((List.range m).map g).length)).toArray = cellsOf (lay f off m g) n := by
    apply Array.ext_getElem?
    intro j
    simp only [cellsOf, List.getElem?_toArray, List.length_map, List.length_range, List.append_assoc]
    by_cases h0 : j < off
    · rw [List.getElem?_append_left (by simp; omega)]
      have hjn : j < n := by omega
      simp [h0, hjn, lay]
      intro; omega
    · rw [List.getElem?_append_right (by simp; omega)]
      have e0 : (List.take off ((List.range n).map f)).length = off := by simp; omega
      rw [e0]
      by_cases h2 : j < off + m
      · rw [List.getElem?_append_left (by simp; omega)]
        have hjn : j < n := by omega
        have hjm : j - off < m := by omega
        simp [hjn, hjm, lay]
        intro hlt; omega
      · rw [List.getElem?_append_right (by simp; omega)]
        have e1 : off + m + (j - off - m) = j := by omega
        by_cases hjn : j < n
        · simp [e1, hjn, lay]
          intro; omega
        · simp [e1, hjn]
  rw [hrow] at hrun
  unfold Oper.wp
  simp only [List.length_map, List.length_range] at hrun
  simp [execOp, ho, resolve, invoke, builtin, hd, hs, hrun, Result.andThen]
  exact hK _ _ (h _ (touch_setRow w b _) (hh.row _))
theorem wpl_build (hg : o.guard = none) (t : TypeId) (parts : Array (Nat × Operand)) (ho : o.op = .build t parts) (cells : Array Value)
    (hb : P.built t (parts.map fun (i, x) => (i, a.eval x)).toList = some cells) (h : wpList P ops Q rest (a.put o.dst (.agg cells)) w) : wpList P ops Q (o :: rest) a w :=
  wpList_build hg t parts ho (by rw [hb]; rfl) (by rw [hb]; exact h)
theorem run_store_one {b k T n : Nat} {f : Nat → Value} (hh : Has w b T n f) (hk : k < n) (ty : TypeId) (v : Value) (hi : (P.info? ty).map (·.size) = some 1) (hv : v.cells = #[v]) (h1 : v.oneCell' = true) :
    (Instr.storeAt ty (.pointer (some ⟨b, k, none⟩)) v).run P w = .ok () (w.setCell ⟨b, k, none⟩ v) := by
  have := run_storeCells_cells (P := P) b k [v] 0 w (fun j hj => by
      have : j = 0 := by simpa using hj
      subst this
      rw [show k + 0 = k from rfl]
      rw [hh.cell hk]; rfl) (fun j _ => hh.free _) (fun u hu => by
      have : u = v := by simpa using hu
      rw [this]; exact h1)
  cases hq : P.info? ty with
  | none => simp [hq] at hi
  | some i =>
    have hs : i.size = 1 := by simpa [hq] using hi
    simp only [Nat.add_zero, World.setCells] at this
    simp [Instr.storeAt, Instr.sureAddr, storeVar, sizeOf, typeInfo, hq, hv, hs, this]
/-- One cell is written. -/
theorem wpl_set (hg : o.guard = none) (ty : TypeId) (x y : Operand) (ho : o.op = .store ty x y) (b k : Nat) (hx : a.eval x = .pointer (some ⟨b, k, none⟩)) (v : Value) (hy : a.eval y = v)
    (hi : (P.info? ty).map (·.size) = some 1) (hv : v.cells = #[v]) (h1 : v.oneCell' = true) (T n : Nat) (f : Nat → Value) (hh : Has w b T n f) (hk : k < n)
    (h : ∀ w1, Touch b w w1 → Has w1 b T n (upd f k v) → wpList P ops Q rest (a.put o.dst undef) w1) : wpList P ops Q (o :: rest) a w := by
  refine wpList_plain hg fun K hK => ?_
  have hrun := run_store_one (P := P) hh hk ty v hi hv h1
  unfold Oper.wp execOp
  simp only [ho, hx, hy, Sem.run_bind, hrun, Result.andThen_ok]
  exact hK _ _ (h _ (touch_setCell w ⟨b, k, none⟩ v) (hh.set k v))
/-- A part of a row is read, whole. -/
theorem wp_load_part {K : Act → World → Prop} (ty : TypeId) (x : Operand) (ho : o.op = .load ty x) (b off : Nat) (hx : a.eval x = .pointer (some ⟨b, off, none⟩)) (T : TypeId) (n : Nat) (f : Nat → Value) (hh : Has w b T n f)
    (m : Nat) (hm : off + m ≤ n) (g : Nat → Value) (hg : ∀ j, j < m → f (off + j) = g j) (d : TypeDesc) (hu : P.underlying ty = some d) (hd : d.isRow = true) (hi : (P.info? ty).map (·.size) = some m) (h : K (a.put o.dst (.agg (cellsOf g m))) w) : o.wp P a w K Q := by
  have hrun := run_load_part (P := P) hh off m hm ty d hu hd hi
  rw [cellsOf_congr hg] at hrun
  unfold Oper.wp execOp
  simp only [ho, hx, Sem.run_bind, hrun, Result.andThen_ok]
  exact h
theorem wpl_load_part (hgd : o.guard = none) (ty : TypeId) (x : Operand) (ho : o.op = .load ty x) (b off : Nat) (hx : a.eval x = .pointer (some ⟨b, off, none⟩)) (T : TypeId) (n : Nat) (f : Nat → Value) (hh : Has w b T n f)
    (m : Nat) (hm : off + m ≤ n) (g : Nat → Value) (hg : ∀ j, j < m → f (off + j) = g j) (d : TypeDesc) (hu : P.underlying ty = some d) (hd : d.isRow = true) (hi : (P.info? ty).map (·.size) = some m) (h : wpList P ops Q rest (a.put o.dst (.agg (cellsOf g m))) w) :
    wpList P ops Q (o :: rest) a w := wpList_plain hgd fun _ hK => wp_load_part ty x ho b off hx T n f hh m hm g hg d hu hd hi (hK _ _ h)
/-- A part of a row is written, whole. -/
theorem wpl_store_part (hgd : o.guard = none) (ty : TypeId) (x y : Operand) (ho : o.op = .store ty x y) (b off : Nat) (hx : a.eval x = .pointer (some ⟨b, off, none⟩)) (m : Nat) (g : Nat → Value) (hy : a.eval y = .agg (cellsOf g m))
    (T : TypeId) (n : Nat) (f : Nat → Value) (hh : Has w b T n f) (hm : off + m ≤ n) (hi : (P.info? ty).map (·.size) = some m) (h1 : ∀ j, j < m → (g j).oneCell' = true)
    (h : ∀ w1, Touch b w w1 → Has w1 b T n (lay f off m g) → wpList P ops Q rest (a.put o.dst undef) w1) : wpList P ops Q (o :: rest) a w := by
  refine wpList_plain hgd fun K hK => ?_
  have hrun := run_store_part (P := P) hh off m hm ty g hi h1
  unfold Oper.wp execOp
  simp only [ho, hx, hy, Sem.run_bind, hrun, Result.andThen_ok]
  exact hK _ _ (h _ (touch_setCells b _ off w) (Has.setCells m off g hh))
/-- An operation that asks nothing of the world. -/
theorem wpl_pure (hgd : o.guard = none) {v : Value} (hrun : ∀ w, (execOp a.eval o).run P w = .ok (.value v) w) (h : wpList P ops Q rest (a.put o.dst v) w) : wpList P ops Q (o :: rest) a w := by
  refine wpList_plain hgd fun K hK => ?_
  unfold Oper.wp
  rw [hrun w]
  exact hK _ _ h
end laws
end Go.Proofs.Ytkljnpdojmcipaa
