/- A slice of the call's own, by a function of the place; append to it. Nothing of the program. A slice of the call's own whose elements have s cells each, by a function of the cell's place; append to it; cells read from anywhere. Nothing of the program. -/
import Derived.Test.YtjdclgnlnehjlaaDoorBase
namespace Go.Proofs.YtjdclgnlnehjlaaDoor
open Go Go.RowKit
/-- f's first n, then g. -/
def cat (f : Nat → Value) (n : Nat) (g : Nat → Value) : Nat → Value := fun j => if j < n then f j else g (j - n)
/-- A slice of n cells, in a block of its own from that block's head on, or nil. -/
def Own (w : World) (E : TypeId) (p : Option Addr) (n cap : Nat) (f : Nat → Value) : Prop :=
  (p = none ∧ n = 0 ∧ cap = 0) ∨ ∃ g C, p = some ⟨g, 0, none⟩ ∧ w.heap[g]? = some (.cells C E (0, 0)) ∧ n ≤ cap ∧ C.size = cap ∧ ∀ j, j < n → C[j]? = some (f j)
def blk (p : Option Addr) : Option Nat := p.map (·.block)
/-- That block alone may have turned, and there may be new ones. -/
structure Grew (b : Option Nat) (w w' : World) : Prop where
  os : w'.os = w.os
  tape : w'.tape = w.tape
  output : w'.output = w.output
  size : w.heap.size ≤ w'.heap.size
  block : ∀ k, k < w.heap.size → some k ≠ b → w'.heap[k]? = w.heap[k]?
theorem Own.nil (w : World) (E : TypeId) (f : Nat → Value) : Own w E none 0 0 f := .inl ⟨rfl, rfl, rfl⟩
theorem Own.le {w : World} {E : TypeId} {p : Option Addr} {n cap : Nat} {f : Nat → Value} (h : Own w E p n cap f) : n ≤ cap := by
  rcases h with ⟨_, rfl, rfl⟩ | ⟨_, _, _, _, h, _⟩
  · exact Nat.le_refl _
  · exact h
theorem Own.cell {w : World} {E : TypeId} {p : Option Addr} {n cap : Nat} {f : Nat → Value} (h : Own w E p n cap f) (h0 : 0 < n) : ∃ g, p = some ⟨g, 0, none⟩ ∧ ∀ j, j < n → w.cell? ⟨g, 0 + j, none⟩ = some (f j) := by
  rcases h with ⟨_, rfl, _⟩ | ⟨g, C, rfl, hg, _, _, hc⟩
  · omega
  · exact ⟨g, rfl, fun j hj => by rw [Nat.zero_add, cell_of_row w g j C E (0, 0) hg]; exact hc j hj⟩
theorem Own.lt {w : World} {E : TypeId} {p : Option Addr} {n cap : Nat} {f : Nat → Value} (h : Own w E p n cap f) : ∀ k, blk p = some k → k < w.heap.size := by
  rcases h with ⟨rfl, _, _⟩ | ⟨g, C, rfl, hg, _⟩
  · intro k hk; cases hk
  · intro k hk
    obtain rfl : g = k := by simpa [blk] using hk
    exact (Array.getElem?_eq_some_iff.1 hg).1
theorem Own.same {w w' : World} {E : TypeId} {p : Option Addr} {n cap : Nat} {f : Nat → Value} (h : Own w E p n cap f) (e : ∀ k, blk p = some k → w'.heap[k]? = w.heap[k]?) : Own w' E p n cap f := by
  rcases h with h | ⟨g, C, rfl, hg, h⟩
  · exact .inl h
  · exact .inr ⟨g, C, rfl, by rw [e g rfl]; exact hg, h⟩
theorem Own.grew {w w' : World} {E : TypeId} {p : Option Addr} {n cap : Nat} {f : Nat → Value} {b : Option Nat} (h : Own w E p n cap f) (g : Grew b w w') (hne : blk p = none ∨ blk p ≠ b) : Own w' E p n cap f :=
  h.same (fun k hk => g.block k (h.lt k hk) (by rcases hne with hne | hne; rw [hne] at hk; cases hk; rw [← hk]; exact hne))
theorem Own.below {w w' : World} {E : TypeId} {p : Option Addr} {n cap : Nat} {f : Nat → Value} {B : Nat} (h : Own w E p n cap f) (g : Below B w w') (hB : w.heap.size ≤ B) : Own w' E p n cap f :=
  h.same (fun k hk => g.block k (Nat.lt_of_lt_of_le (h.lt k hk) hB))
theorem Own.touch {w w' : World} {E : TypeId} {p : Option Addr} {n cap : Nat} {f : Nat → Value} {b : Nat} (h : Own w E p n cap f) (t : Touch b w w') (hne : ∀ g, blk p = some g → g ≠ b) : Own w' E p n cap f :=
  h.same (fun k hk => t.block k (hne k hk))
theorem Has.grew {w w' : World} {b : Nat} {T : TypeId} {n : Nat} {f : Nat → Value} {bl : Option Nat} (h : Has w b T n f) (g : Grew bl w w') (hne : some b ≠ bl) : Has w' b T n f := h.same (g.block b h.lt hne)
theorem Own.alloc {w : World} {E : TypeId} {p : Option Addr} {n cap : Nat} {f : Nat → Value} (h : Own w E p n cap f) (o : Obj) : Own (w.alloc o) E p n cap f :=
  h.same (fun k hk => Below.heap_alloc w o k (h.lt k hk))
theorem Own.congr {w : World} {E : TypeId} {p : Option Addr} {n cap : Nat} {f f' : Nat → Value} (h : Own w E p n cap f) (e : ∀ j, j < n → f j = f' j) : Own w E p n cap f' := by
  rcases h with h | ⟨g, C, rfl, hg, h1, h2, h3⟩
  · exact .inl h
  · exact .inr ⟨g, C, rfl, hg, h1, h2, fun j hj => by rw [h3 j hj, e j hj]⟩
theorem Grew.below {b : Option Nat} {B : Nat} {a w w' : World} (h : Grew b w w') (k : Below B a w) (hB : B ≤ w.heap.size) (hb : ∀ g, b = some g → B ≤ g) : Below B a w' :=
  k.trans ⟨h.os, h.tape, h.output, h.size, fun i hi => h.block i (by omega) (fun e => by have := hb i e.symm; omega)⟩
theorem Grew.trans {b : Option Nat} {a w w' : World} (h : Grew b a w) (k : Grew b w w') : Grew b a w' :=
  ⟨k.os.trans h.os, k.tape.trans h.tape, k.output.trans h.output, Nat.le_trans h.size k.size, fun i hi hb => (k.block i (Nat.lt_of_lt_of_le hi h.size) hb).trans (h.block i hi hb)⟩
/-- What is to be appended: m cells from some place on. -/
def Cells (w : World) (q : Option Addr) (m : Nat) (g : Nat → Value) : Prop := 0 < m → ∃ ad : Addr, q = some ad ∧ ∀ j, j < m → w.cell? (ad.add j) = some (g j)
theorem Has.cells {w : World} {b : Nat} {T : TypeId} {n : Nat} {f : Nat → Value} (h : Has w b T n f) : Cells w (some ⟨b, 0, none⟩) n f := fun _ => ⟨_, rfl, fun j hj => by rw [Addr.add_mid, Nat.zero_add]; exact h.cell hj⟩
theorem below_le {w w' : World} {N : Nat} (h : Below N w w') (hN : Sz w N) : N ≤ w'.heap.size := by have := h.size; have e : w.heap.size = N := hN; omega
theorem ge_step {a a' : Option Nat} {N n : Nat} (h : ∀ g, a = some g → N ≤ g) (hk : a' = a ∨ a' = some n) (hn : N ≤ n) : ∀ g, a' = some g → N ≤ g := fun g hg => by
  rcases hk with rfl | rfl
  · exact h g hg
  · rw [Option.some.injEq] at hg; omega
theorem lst_get {g : Nat → Value} {m j : Nat} {v : Value} (h : (lst g m)[j]? = some v) : j < m ∧ g j = v := by
  have hj : j < m := by
    have := (List.getElem?_eq_some_iff.1 h).1
    rwa [length_lst] at this
  refine ⟨hj, ?_⟩
  unfold lst at h
  simpa [hj] using h
section
variable {P : Program}
theorem run_append_Own (w : World) (t ty E : TypeId) (i : TypeInfo) (z : Value) (ht : P.underlying t = some (.slice E)) (hi : P.info? E = some i) (hz : i.zero = some z) (hs : i.size = 1) (hb : i.bytes ≤ 1000) (hz1 : z.cells.size = 1)
    (p : Option Addr) (n cap : Nat) (f : Nat → Value) (hown : Own w E p n cap f) (q : Option Addr) (m c : Nat) (g : Nat → Value) (hq : Cells w q m g) (h1 : ∀ j, j < m → (g j).oneCell' = true) (hsmall : n + m ≤ 10000000) :
    ∃ p' cap' w', (Builtin.append_ #[t, t] ty #[.slice p n cap, .slice q m c]).run P w = .ok (.slice p' (n + m) cap') w' ∧ Own w' E p' (n + m) cap' (cat f n g) ∧ Grew (blk p) w w' ∧
      (blk p' = blk p ∨ blk p' = some w.heap.size) ∧ (0 < n + m → blk p' ≠ none) := by
  have hbytes : (n + m) * i.bytes ≤ 140737488355328 := Nat.le_trans (Nat.mul_le_mul hsmall hb) (by omega)
  by_cases hm : m = 0
  · subst hm
    refine ⟨p, cap, w, ?_, hown.congr (fun j hj => by simp only [cat]; rw [if_pos (by omega)]), ⟨rfl, rfl, rfl, Nat.le_refl _, fun _ _ _ => rfl⟩, .inl rfl, fun h0 => ?_⟩
    · have hle := hown.le
      rcases hown with ⟨rfl, rfl, rfl⟩ | ⟨b, C, rfl, hg, hnc, hcs, hc⟩
      · cases q <;> simp [Builtin.append_, run_underlying ht, sizeOf, typeInfo, hi, Builtin.lenOf, Builtin.firstCells, loadCells, loadCellsFrom]
      · cases q <;> simp [Builtin.append_, run_underlying ht, sizeOf, typeInfo, hi, Builtin.lenOf, Builtin.firstCells, loadCells, loadCellsFrom, storeCells, hle]
    · rcases hown with ⟨_, rfl, _⟩ | ⟨b, C, rfl, _⟩
      · omega
      · simp [blk]
  · obtain ⟨ad, rfl, hcells⟩ := hq (by omega)
    have hnews : ∀ j v, (lst g m)[j]? = some v → w.cell? (ad.add j) = some v := fun j v hv => by
      obtain ⟨hj, rfl⟩ := lst_get hv
      exact hcells j hj
    have hone : ∀ v ∈ lst g m, v.oneCell' = true := fun v hv => by
      obtain ⟨j, hj, rfl⟩ : ∃ j, j < m ∧ g j = v := by simpa [lst] using hv
      exact h1 j hj
    have hl : (lst g m).length = m * i.size := by rw [length_lst, hs, Nat.mul_one]
    have grown : ∀ (k : Nat) (olds : List Value), olds = lst f n → k = grownCap w (n + m) cap E → n + m ≤ k →
        Own (w.drew.alloc (.cells (olds.toArray ++ (lst g m).toArray ++ Builtin.zeroCells z.cells (k - (n + m))) E)) E (some ⟨w.heap.size, 0, none⟩) (n + m) k (cat f n g) := by
      intro k olds ho _ hk
      refine .inr ⟨w.heap.size, _, rfl, heap_alloc_new w.drew _, hk, ?_, fun j hj => ?_⟩
      · simp only [Array.size_append, List.size_toArray, size_zeroCells, hz1, ho, length_lst]; omega
      · rw [Array.getElem?_append_left (by simp only [Array.size_append, List.size_toArray, ho, length_lst]; omega)]
        simp only [cat]
        by_cases hjn : j < n
        · rw [Array.getElem?_append_left (by simpa [ho, length_lst] using hjn), if_pos hjn]
          simp [ho, lst, hjn]
        · rw [Array.getElem?_append_right (by simp [ho, length_lst]; omega), if_neg hjn]
          have hjm : j - n < m := by omega
          simp [ho, lst, hjm]
    rcases hown with ⟨rfl, rfl, rfl⟩ | ⟨b, C, rfl, hg, hnc, hcs, hc⟩
    · have hr := run_append_nil (P := P) w t ty E i z ht hi hz ad m c (lst g m) hl hnews (by omega) (by omega) (by rw [Nat.zero_add] at hbytes; omega)
      have hgr := grown (grownCap w m 0 E) [] rfl (by rw [Nat.zero_add]) (by rw [Nat.zero_add]; exact grownCap_ge w m 0 E)
      rw [Nat.zero_add] at hgr ⊢
      simp only [Array.empty_append] at hgr
      exact ⟨_, _, _, hr, hgr, ⟨rfl, rfl, rfl, by show w.heap.size ≤ (w.heap.push _).size; simp, fun k hk _ => Below.heap_alloc w.drew _ k hk⟩, .inr rfl, fun _ => by simp [blk]⟩
    · have holds : ∀ j v, (lst f n)[j]? = some v → w.cell? ((⟨b, 0, none⟩ : Addr).add j) = some v := fun j v hv => by
        obtain ⟨hj, rfl⟩ := lst_get hv
        rw [Addr.add_mid, Nat.zero_add, cell_of_row w b j C E (0, 0) hg]
        exact hc j hj
      by_cases hroom : n + m ≤ cap
      · have hr := run_append_room (P := P) w t ty E i ht hi b n cap C hg ad m c (lst g m) hl hnews hone hroom (by rw [hs, Nat.mul_one, length_lst, hcs]; exact hroom)
        refine ⟨_, _, _, hr, .inr ⟨b, _, rfl, setRow_heap w b C _ E _ hg, hroom, ?_, fun j hj => ?_⟩, ⟨rfl, rfl, rfl, by simp, fun k _ hk => setRow_other w b k _ (fun e => hk (by simp [blk, e]))⟩, .inl rfl, fun _ => by simp [blk]⟩
        · simp only [List.size_toArray, List.length_append, List.length_take, List.length_drop, Array.length_toList, length_lst, hs]; omega
        · simp only [hs, Nat.mul_one, length_lst, List.append_assoc, List.getElem?_toArray, cat]
          by_cases hjn : j < n
          · rw [List.getElem?_append_left (by simp; omega), if_pos hjn]
            simpa [hjn] using hc j hjn
          · rw [List.getElem?_append_right (by simp; omega), if_neg hjn]
            have e0 : (List.take n C.toList).length = n := by simp; omega
            rw [e0, List.getElem?_append_left (by rw [length_lst]; omega)]
            have hjm : j - n < m := by omega
            simp [lst, hjm]
      · have hr := run_append_grow (P := P) w t ty E i z ht hi hz ⟨b, 0, none⟩ n cap (lst f n) (by rw [length_lst, hs, Nat.mul_one]) holds ad m c (lst g m) hl hnews (by omega) (by omega) (growslice_fits (by omega) hbytes)
        have hgr := grown (grownCap w (n + m) cap E) (lst f n) rfl rfl (grownCap_ge w (n + m) cap E)
        exact ⟨_, _, _, hr, hgr, ⟨rfl, rfl, rfl, by show w.heap.size ≤ (w.heap.push _).size; simp, fun k hk _ => Below.heap_alloc w.drew _ k hk⟩, .inr rfl, fun _ => by simp [blk]⟩
variable {ops : Array Oper} {rest : List Oper} {o : Oper} {a : Act} {w : World} {Q : Exit → Act → World → Prop}
theorem wpl_append (hgd : o.guard = none) (s x : Operand) (t : TypeId) (ho : o.op = .call { callee := .builtin .append, args := #[s, x], argTypes := #[t, t] })
    (E : TypeId) (i : TypeInfo) (z : Value) (ht : P.underlying t = some (.slice E)) (hi : P.info? E = some i) (hz : i.zero = some z) (hs : i.size = 1) (hb : i.bytes ≤ 1000) (hz1 : z.cells.size = 1)
    (p : Option Addr) (n cap : Nat) (hsv : a.eval s = .slice p n cap) (f : Nat → Value) (hown : Own w E p n cap f) (q : Option Addr) (m c : Nat) (hxv : a.eval x = .slice q m c) (g : Nat → Value) (hq : Cells w q m g)
    (h1 : ∀ j, j < m → (g j).oneCell' = true) (hsmall : n + m ≤ 10000000)
    (h : ∀ p' cap' w', Own w' E p' (n + m) cap' (cat f n g) → Grew (blk p) w w' → (blk p' = blk p ∨ blk p' = some w.heap.size) → (0 < n + m → blk p' ≠ none) → wpList P ops Q rest (a.put o.dst (.slice p' (n + m) cap')) w') : wpList P ops Q (o :: rest) a w := by
  refine wpList_plain hgd fun K hK => ?_
  obtain ⟨p', cap', w', hrun, k1, k2, k3, k4⟩ := run_append_Own (P := P) w t o.type E i z ht hi hz hs hb hz1 p n cap f hown q m c g hq h1 hsmall
  unfold Oper.wp
  simp [execOp, ho, resolve, invoke, builtin, hsv, hxv, hrun, Result.andThen]
  exact hK _ _ (h p' cap' w' k1 k2 k3 k4)
/-- A type of one cell and few bytes. -/
def OneCell (P : Program) (E : TypeId) : Prop := ∃ i z, P.info? E = some i ∧ i.zero = some z ∧ i.size = 1 ∧ i.bytes ≤ 1000 ∧ z.cells.size = 1
theorem oneCell_of {P : Program} {E : TypeId} {k : Nat} {v : Value} (h : (P.info? E).map (fun i => (i.zero, i.size, i.bytes)) = some (some v, 1, k)) (hk : k ≤ 1000) (hv : v.cells.size = 1) : OneCell P E := by
  cases hq : P.info? E with
  | none => simp [hq] at h
  | some i =>
    simp [hq] at h
    exact ⟨i, v, hq, h.1, h.2.1, by omega, hv⟩
theorem wpl_app (hgd : o.guard = none) (s x : Operand) (t : TypeId) (ho : o.op = .call { callee := .builtin .append, args := #[s, x], argTypes := #[t, t] })
    (E : TypeId) (ht : P.underlying t = some (.slice E)) (hi : OneCell P E)
    (p : Option Addr) (n cap : Nat) (hsv : a.eval s = .slice p n cap) (f : Nat → Value) (hown : Own w E p n cap f) (q : Option Addr) (m c : Nat) (hxv : a.eval x = .slice q m c) (g : Nat → Value) (hq : Cells w q m g)
    (h1 : ∀ j, j < m → (g j).oneCell' = true) (hsmall : n + m ≤ 10000000)
    (h : ∀ p' cap' w', Own w' E p' (n + m) cap' (cat f n g) → Grew (blk p) w w' → (blk p' = blk p ∨ blk p' = some w.heap.size) → (0 < n + m → blk p' ≠ none) → wpList P ops Q rest (a.put o.dst (.slice p' (n + m) cap')) w') : wpList P ops Q (o :: rest) a w := by
  obtain ⟨i, z, h2, h3, h4, h5, h6⟩ := hi
  exact wpl_append hgd s x t ho E i z ht h2 h3 h4 h5 h6 p n cap hsv f hown q m c hxv g hq h1 hsmall h
end
end Go.Proofs.YtjdclgnlnehjlaaDoor
namespace Go.Proofs.YtjdclgnlnehjlaaDoor
open Go Go.RowKit
/-- A slice of n elements of s cells, in a block of its own from that block's head on, or nil. -/
def OwnK (w : World) (E : TypeId) (s : Nat) (p : Option Addr) (n cap : Nat) (f : Nat → Value) : Prop :=
  (p = none ∧ n = 0 ∧ cap = 0) ∨ ∃ g C, p = some ⟨g, 0, none⟩ ∧ w.heap[g]? = some (.cells C E (0, 0)) ∧ n ≤ cap ∧ C.size = cap * s ∧ ∀ j, j < n * s → C[j]? = some (f j)
section
variable {w w' : World} {E s : Nat} {p : Option Addr} {n cap : Nat} {f : Nat → Value}
theorem OwnK.nil (w : World) (E : TypeId) (s : Nat) (f : Nat → Value) : OwnK w E s none 0 0 f := .inl ⟨rfl, rfl, rfl⟩
theorem OwnK.le (h : OwnK w E s p n cap f) : n ≤ cap := by
  rcases h with ⟨_, rfl, rfl⟩ | ⟨_, _, _, _, h, _⟩
  · exact Nat.le_refl _
  · exact h
theorem OwnK.cell (h : OwnK w E s p n cap f) (h0 : 0 < n) : ∃ g, p = some ⟨g, 0, none⟩ ∧ ∀ j, j < n * s → w.cell? ⟨g, 0 + j, none⟩ = some (f j) := by
  rcases h with ⟨_, rfl, _⟩ | ⟨g, C, rfl, hg, _, _, hc⟩
  · omega
  · exact ⟨g, rfl, fun j hj => by rw [Nat.zero_add, cell_of_row w g j C E (0, 0) hg]; exact hc j hj⟩
theorem OwnK.lt (h : OwnK w E s p n cap f) : ∀ k, blk p = some k → k < w.heap.size := by
  rcases h with ⟨rfl, _, _⟩ | ⟨g, C, rfl, hg, _⟩
  · intro k hk; cases hk
  · intro k hk
    obtain rfl : g = k := by simpa [blk] using hk
    exact (Array.getElem?_eq_some_iff.1 hg).1
theorem OwnK.same (h : OwnK w E s p n cap f) (e : ∀ k, blk p = some k → w'.heap[k]? = w.heap[k]?) : OwnK w' E s p n cap f := by
  rcases h with h | ⟨g, C, rfl, hg, h⟩
  · exact .inl h
  · exact .inr ⟨g, C, rfl, by rw [e g rfl]; exact hg, h⟩
theorem OwnK.grew {b : Option Nat} (h : OwnK w E s p n cap f) (g : Grew b w w') (hne : blk p = none ∨ blk p ≠ b) : OwnK w' E s p n cap f :=
  h.same (fun k hk => g.block k (h.lt k hk) (by rcases hne with hne | hne; rw [hne] at hk; cases hk; rw [← hk]; exact hne))
theorem OwnK.below {B : Nat} (h : OwnK w E s p n cap f) (g : Below B w w') (hB : w.heap.size ≤ B) : OwnK w' E s p n cap f :=
  h.same (fun k hk => g.block k (Nat.lt_of_lt_of_le (h.lt k hk) hB))
theorem OwnK.touch {b : Nat} (h : OwnK w E s p n cap f) (t : Touch b w w') (hne : ∀ g, blk p = some g → g ≠ b) : OwnK w' E s p n cap f :=
  h.same (fun k hk => t.block k (hne k hk))
theorem OwnK.alloc (h : OwnK w E s p n cap f) (o : Obj) : OwnK (w.alloc o) E s p n cap f :=
  h.same (fun k hk => Below.heap_alloc w o k (h.lt k hk))
theorem OwnK.drew (h : OwnK w E s p n cap f) : OwnK w.drew E s p n cap f := h
theorem OwnK.congr {f' : Nat → Value} (h : OwnK w E s p n cap f) (e : ∀ j, j < n * s → f j = f' j) : OwnK w E s p n cap f' := by
  rcases h with h | ⟨g, C, rfl, hg, h1, h2, h3⟩
  · exact .inl h
  · exact .inr ⟨g, C, rfl, hg, h1, h2, fun j hj => by rw [h3 j hj, e j hj]⟩
theorem OwnK.free (h : OwnK w E s p n cap f) (h0 : 0 < n) : ∃ g, p = some ⟨g, 0, none⟩ ∧ ∀ j, w.frozen? ⟨g, j, none⟩ = false := by
  rcases h with ⟨_, rfl, _⟩ | ⟨g, C, rfl, hg, _, _, hc⟩
  · omega
  · exact ⟨g, rfl, fun j => by simp [World.frozen?, hg]⟩
theorem OwnK.set {g : Nat} (h : OwnK w E s (some ⟨g, 0, none⟩) n cap f) (k : Nat) (v : Value) : OwnK (w.setCell ⟨g, k, none⟩ v) E s (some ⟨g, 0, none⟩) n cap (upd f k v) := by
  rcases h with ⟨h, _⟩ | ⟨g', C, e, hg, h1, h2, h3⟩
  · cases h
  · obtain rfl : g = g' := by injection e with e; injection e
    refine .inr ⟨g, C.setIfInBounds k v, rfl, by simp [World.setCell, Array.getElem?_modify, hg], h1, by simpa using h2, fun j hj => ?_⟩
    rw [Array.getElem?_setIfInBounds]
    have := h3 j hj
    have hlt := (Array.getElem?_eq_some_iff.1 this).1
    by_cases e : k = j
    · subst e; simp [hlt, upd]
    · rw [if_neg e, this]; simp only [upd]; rw [if_neg (fun e' => e e'.symm)]
end
/-- A type of s cells and few bytes. -/
def KCell (P : Program) (E : TypeId) (s : Nat) : Prop := ∃ i z, P.info? E = some i ∧ i.zero = some z ∧ i.size = s ∧ i.bytes ≤ 1000 ∧ z.cells.size = s
theorem kCell_of {P : Program} {E : TypeId} {s k : Nat} {v : Value} (h : (P.info? E).map (fun i => (i.zero, i.size, i.bytes)) = some (some v, s, k)) (hk : k ≤ 1000) (hv : v.cells.size = s) : KCell P E s := by
  cases hq : P.info? E with
  | none => simp [hq] at h
  | some i =>
    simp [hq] at h
    exact ⟨i, v, hq, h.1, h.2.1, by omega, hv⟩
section
variable {P : Program}
theorem run_append_OwnK (w : World) (t ty E : TypeId) (s : Nat) (hs0 : 0 < s) (hk : KCell P E s) (ht : P.underlying t = some (.slice E))
    (p : Option Addr) (n cap : Nat) (f : Nat → Value) (hown : OwnK w E s p n cap f) (q : Option Addr) (m c : Nat) (g : Nat → Value) (hq : Cells w q (m * s) g) (h1 : ∀ j, j < m * s → (g j).oneCell' = true) (hsmall : n + m ≤ 10000000) :
    ∃ p' cap' w', (Builtin.append_ #[t, t] ty #[.slice p n cap, .slice q m c]).run P w = .ok (.slice p' (n + m) cap') w' ∧ OwnK w' E s p' (n + m) cap' (cat f (n * s) g) ∧ Grew (blk p) w w' ∧
      (blk p' = blk p ∨ blk p' = some w.heap.size) ∧ (0 < n + m → blk p' ≠ none) := by
  obtain ⟨i, z, hi, hz, hs, hb, hz1⟩ := hk
  have hbytes : (n + m) * i.bytes ≤ 140737488355328 := Nat.le_trans (Nat.mul_le_mul hsmall hb) (by omega)
  by_cases hm : m = 0
  · subst hm
    refine ⟨p, cap, w, ?_, hown.congr (fun j hj => by simp only [cat]; rw [if_pos (by simpa using hj)]), ⟨rfl, rfl, rfl, Nat.le_refl _, fun _ _ _ => rfl⟩, .inl rfl, fun h0 => ?_⟩
    · have hle := hown.le
      rcases hown with ⟨rfl, rfl, rfl⟩ | ⟨b, C, rfl, hg, hnc, hcs, hc⟩
      · cases q <;> simp [Builtin.append_, run_underlying ht, sizeOf, typeInfo, hi, Builtin.lenOf, Builtin.firstCells, loadCells, loadCellsFrom]
      · cases q <;> simp [Builtin.append_, run_underlying ht, sizeOf, typeInfo, hi, Builtin.lenOf, Builtin.firstCells, loadCells, loadCellsFrom, storeCells, hle]
    · rcases hown with ⟨_, rfl, _⟩ | ⟨b, C, rfl, _⟩
      · omega
      · simp [blk]
  · have hms : 0 < m * s := Nat.mul_pos (by omega) hs0
    obtain ⟨ad, rfl, hcells⟩ := hq hms
    have hnews : ∀ j v, (lst g (m * s))[j]? = some v → w.cell? (ad.add j) = some v := fun j v hv => by
      obtain ⟨hj, rfl⟩ := lst_get hv
      exact hcells j hj
    have hone : ∀ v ∈ lst g (m * s), v.oneCell' = true := fun v hv => by
      obtain ⟨j, hj, rfl⟩ : ∃ j, j < m * s ∧ g j = v := by simpa [lst] using hv
      exact h1 j hj
    have hl : (lst g (m * s)).length = m * i.size := by rw [length_lst, hs]
    have grown : ∀ (k : Nat) (olds : List Value), olds = lst f (n * s) → n + m ≤ k →
        OwnK (w.drew.alloc (.cells (olds.toArray ++ (lst g (m * s)).toArray ++ Builtin.zeroCells z.cells (k - (n + m))) E)) E s (some ⟨w.heap.size, 0, none⟩) (n + m) k (cat f (n * s) g) := by
      intro k olds ho hk
      refine .inr ⟨w.heap.size, _, rfl, heap_alloc_new w.drew _, hk, ?_, fun j hj => ?_⟩
      · simp only [Array.size_append, List.size_toArray, size_zeroCells, hz1, ho, length_lst]
        rw [← Nat.add_mul, ← Nat.add_mul]; congr 1; omega
      · rw [Nat.add_mul] at hj
        rw [Array.getElem?_append_left (by simp only [Array.size_append, List.size_toArray, ho, length_lst]; omega)]
        simp only [cat]
        by_cases hjn : j < n * s
        · rw [Array.getElem?_append_left (by simpa [ho, length_lst] using hjn), if_pos hjn]
          simp [ho, lst, hjn]
        · rw [Array.getElem?_append_right (by simp [ho, length_lst]; omega), if_neg hjn]
          have hjm : j - n * s < m * s := by omega
          simp [ho, lst, hjm]
    rcases hown with ⟨rfl, rfl, rfl⟩ | ⟨b, C, rfl, hg, hnc, hcs, hc⟩
    · have hr := run_append_nil (P := P) w t ty E i z ht hi hz ad m c (lst g (m * s)) hl hnews (by omega) (by omega) (by rw [Nat.zero_add] at hbytes; omega)
      have hgr := grown (grownCap w m 0 E) [] (by simp [lst]) (by rw [Nat.zero_add]; exact grownCap_ge w m 0 E)
      rw [Nat.zero_add] at hgr ⊢
      simp only [Array.empty_append] at hgr
      exact ⟨_, _, _, hr, hgr, ⟨rfl, rfl, rfl, by show w.heap.size ≤ (w.heap.push _).size; simp, fun k hk _ => Below.heap_alloc w.drew _ k hk⟩, .inr rfl, fun _ => by simp [blk]⟩
    · have holds : ∀ j v, (lst f (n * s))[j]? = some v → w.cell? ((⟨b, 0, none⟩ : Addr).add j) = some v := fun j v hv => by
        obtain ⟨hj, rfl⟩ := lst_get hv
        rw [Addr.add_mid, Nat.zero_add, cell_of_row w b j C E (0, 0) hg]
        exact hc j hj
      have hns : n * s ≤ C.size := by rw [hcs]; exact Nat.mul_le_mul_right _ hnc
      by_cases hroom : n + m ≤ cap
      · have hfit : n * s + m * s ≤ C.size := by rw [hcs, ← Nat.add_mul]; exact Nat.mul_le_mul_right _ hroom
        have hr := run_append_room (P := P) w t ty E i ht hi b n cap C hg ad m c (lst g (m * s)) hl hnews hone hroom (by rw [hs, length_lst]; exact hfit)
        refine ⟨_, _, _, hr, .inr ⟨b, _, rfl, setRow_heap w b C _ E _ hg, hroom, ?_, fun j hj => ?_⟩, ⟨rfl, rfl, rfl, by simp, fun k _ hk => setRow_other w b k _ (fun e => hk (by simp [blk, e]))⟩, .inl rfl, fun _ => by simp [blk]⟩
        · simp only [List.size_toArray, List.length_append, List.length_take, List.length_drop, Array.length_toList, length_lst, hs]; omega
        · rw [Nat.add_mul] at hj
          simp only [hs, length_lst, List.append_assoc, List.getElem?_toArray, cat]
          by_cases hjn : j < n * s
          · rw [List.getElem?_append_left (by simp; omega), if_pos hjn]
            simpa [hjn] using hc j hjn
          · rw [List.getElem?_append_right (by simp; omega), if_neg hjn]
            have e0 : (List.take (n * s) C.toList).length = n * s := by simp; omega
            rw [e0, List.getElem?_append_left (by rw [length_lst]; omega)]
            have hjm : j - n * s < m * s := by omega
            simp [lst, hjm]
      · have hr := run_append_grow (P := P) w t ty E i z ht hi hz ⟨b, 0, none⟩ n cap (lst f (n * s)) (by rw [length_lst, hs]) holds ad m c (lst g (m * s)) hl hnews (by omega) (by omega) (growslice_fits (by omega) hbytes)
        have hgr := grown (grownCap w (n + m) cap E) (lst f (n * s)) rfl (grownCap_ge w (n + m) cap E)
        exact ⟨_, _, _, hr, hgr, ⟨rfl, rfl, rfl, by show w.heap.size ≤ (w.heap.push _).size; simp, fun k hk _ => Below.heap_alloc w.drew _ k hk⟩, .inr rfl, fun _ => by simp [blk]⟩
variable {ops : Array Oper} {rest : List Oper} {o : Oper} {a : Act} {w : World} {Q : Exit → Act → World → Prop}
theorem wpl_appK (hgd : o.guard = none) (x y : Operand) (t : TypeId) (ho : o.op = .call { callee := .builtin .append, args := #[x, y], argTypes := #[t, t] })
    (E : TypeId) (s : Nat) (hs0 : 0 < s) (ht : P.underlying t = some (.slice E)) (hi : KCell P E s)
    (p : Option Addr) (n cap : Nat) (hsv : a.eval x = .slice p n cap) (f : Nat → Value) (hown : OwnK w E s p n cap f) (q : Option Addr) (m c : Nat) (hxv : a.eval y = .slice q m c) (g : Nat → Value) (hq : Cells w q (m * s) g)
    (h1 : ∀ j, j < m * s → (g j).oneCell' = true) (hsmall : n + m ≤ 10000000)
    (h : ∀ p' cap' w', OwnK w' E s p' (n + m) cap' (cat f (n * s) g) → Grew (blk p) w w' → (blk p' = blk p ∨ blk p' = some w.heap.size) → (0 < n + m → blk p' ≠ none) → wpList P ops Q rest (a.put o.dst (.slice p' (n + m) cap')) w') : wpList P ops Q (o :: rest) a w := by
  refine wpList_plain hgd fun K hK => ?_
  obtain ⟨p', cap', w', hrun, k1, k2, k3, k4⟩ := run_append_OwnK (P := P) w t o.type E s hs0 hi ht p n cap f hown q m c g hq h1 hsmall
  unfold Oper.wp
  simp [execOp, ho, resolve, invoke, builtin, hsv, hxv, hrun, Result.andThen]
  exact hK _ _ (h p' cap' w' k1 k2 k3 k4)
theorem run_load_cells {b off m : Nat} {g : Nat → Value} (hc : ∀ j, j < m → w.cell? ⟨b, off + j, none⟩ = some (g j)) (ty : TypeId) (d : TypeDesc) (hu : P.underlying ty = some d) (hd : d.isRow = true) (hi : (P.info? ty).map (·.size) = some m) :
    (Instr.loadAt ty (.pointer (some ⟨b, off, none⟩))).run P w = .ok (.agg (cellsOf g m)) w := by
  have := run_loadAt_mid (P := P) w b off ty (cellsOf g m).toList d (fun j v hv => by
    have hj : j < m := by
      have := (List.getElem?_eq_some_iff.1 hv).1
      simpa [cellsOf] using this
    rw [hc j hj, ← hv]
    simp [cellsOf, hj]) hu hd (by rw [hi]; simp [cellsOf])
  simpa using this
/-- A struct or an array is read, whole, from cells that are known. -/
theorem wpl_load_cells (hgd : o.guard = none) (ty : TypeId) (x : Operand) (ho : o.op = .load ty x) (b off : Nat) (hx : a.eval x = .pointer (some ⟨b, off, none⟩)) (m : Nat) (g : Nat → Value) (hc : ∀ j, j < m → w.cell? ⟨b, off + j, none⟩ = some (g j))
    (d : TypeDesc) (hu : P.underlying ty = some d) (hd : d.isRow = true) (hi : (P.info? ty).map (·.size) = some m) (h : wpList P ops Q rest (a.put o.dst (.agg (cellsOf g m))) w) : wpList P ops Q (o :: rest) a w := by
  refine wpList_plain hgd fun K hK => ?_
  have hrun := run_load_cells (P := P) hc ty d hu hd hi
  unfold Oper.wp execOp
  simp only [ho, hx, Sem.run_bind, hrun, Result.andThen_ok]
  exact hK _ _ h
/-- One cell of a slice of the call's own is written. -/
theorem wpl_setK (hg : o.guard = none) (ty : TypeId) (x y : Operand) (ho : o.op = .store ty x y) (b k : Nat) (hx : a.eval x = .pointer (some ⟨b, k, none⟩)) (v : Value) (hy : a.eval y = v)
    (hi : (P.info? ty).map (·.size) = some 1) (hv : v.cells = #[v]) (h1 : v.oneCell' = true) (E s n cap : Nat) (f : Nat → Value) (hh : OwnK w E s (some ⟨b, 0, none⟩) n cap f) (hk : k < n * s)
    (h : ∀ w1, Touch b w w1 → OwnK w1 E s (some ⟨b, 0, none⟩) n cap (upd f k v) → wpList P ops Q rest (a.put o.dst undef) w1) : wpList P ops Q (o :: rest) a w := by
  refine wpList_plain hg fun K hK => ?_
  have hn : 0 < n := by rcases Nat.eq_zero_or_pos n with rfl | h; (rw [Nat.zero_mul] at hk; omega); exact h
  have hc : w.cell? ⟨b, k, none⟩ = some (f k) := by
    obtain ⟨g, e, hc⟩ := hh.cell hn
    obtain rfl : b = g := by injection e with e; injection e
    have := hc k hk
    rwa [Nat.zero_add] at this
  have hf : w.frozen? ⟨b, k, none⟩ = false := by
    obtain ⟨g, e, hc⟩ := hh.free hn
    obtain rfl : b = g := by injection e with e; injection e
    exact hc k
  have hrun : (Instr.storeAt ty (.pointer (some ⟨b, k, none⟩)) v).run P w = .ok () (w.setCell ⟨b, k, none⟩ v) := by
    have := run_storeCells_cells (P := P) b k [v] 0 w (fun j hj => by
        have : j = 0 := by simpa using hj
        subst this
        rw [show k + 0 + 0 = k from rfl, hc]; rfl) (fun j hj => by
        have : j = 0 := by simpa using hj
        subst this
        exact hf) (fun u hu => by
        have : u = v := by simpa using hu
        rw [this]; exact h1)
    cases hq : P.info? ty with
    | none => simp [hq] at hi
    | some i =>
      have hs : i.size = 1 := by simpa [hq] using hi
      simp only [Nat.add_zero, World.setCells] at this
      simp [Instr.storeAt, Instr.sureAddr, storeVar, sizeOf, typeInfo, hq, hv, hs, this]
  unfold Oper.wp execOp
  simp only [ho, hx, hy, Sem.run_bind, hrun, Result.andThen_ok]
  exact hK _ _ (h _ (touch_setCell w ⟨b, k, none⟩ v) (hh.set k v))
end
end Go.Proofs.YtjdclgnlnehjlaaDoor
