/- A new slice of n noughts; a new block of one cell as what is appended; an operation by what it runs to. Nothing of the program. Which blocks may have turned; a slice that is cut; append where there is room; clear. Nothing of the program. -/
import Derived.Test.YtjdclgnlnehjlaaDoorOw
import Derived.Laws.MakeOwn
namespace Go.Proofs.YtjdclgnlnehjlaaDoor
open Go Go.RowKit
theorem made_one (z : Value) (n : Nat) (hz : z.cells = #[z]) : madeCells z.cells n = cellsOf (fun _ => z) n := by
  apply Array.ext_getElem?
  intro j
  rw [hz]
  by_cases hj : j < n
  · simp [madeCells, cellsOf, hj, Nat.mod_one]
  · simp [madeCells, cellsOf, hj]
section
variable {P : Program} {ops : Array Oper} {rest : List Oper} {o : Oper} {a : Act} {w : World} {Q : Exit → Act → World → Prop}
/-- make of n, all noughts. -/
theorem wpl_make_full (hgd : o.guard = none) (T : TypeId) (x y : Operand) (ho : o.op = .makeSlice T x y) (n : Nat) (hx : a.eval x = .int .i64 (n : Int)) (hy : a.eval y = .int .i64 (n : Int)) (E : TypeId) (z : Value) (k : Nat)
    (ht : P.underlying T = some (.slice E)) (hi : (P.info? E).map (fun i => (i.zero, i.size, i.bytes)) = some (some z, 1, k)) (hk : k ≤ 1000) (hz : z.cells = #[z]) (hn : n ≤ 1000000)
    (N : Nat) (hN : Sz w N) (h : ∀ w1, Sz w1 (N + 1) → Below N w w1 → Has w1 N E n (fun _ => z) → wpList P ops Q rest (a.put o.dst (.slice (some ⟨N, 0, none⟩) n n)) w1) : wpList P ops Q (o :: rest) a w := by
  refine wpList_plain hgd fun K hK => ?_
  have e : w.heap.size = N := hN
  subst e
  cases hq : P.info? E with
  | none => simp [hq] at hi
  | some i =>
    simp [hq] at hi
    obtain ⟨h1, h2, h3⟩ := hi
    have hb : (i.bytes : Int) * (n : Int) ≤ 281474976710656 := by
      have := Nat.mul_le_mul (show i.bytes ≤ 1000 by omega) hn
      have h' : ((i.bytes * n : Nat) : Int) ≤ 281474976710656 := by omega
      rwa [Int.natCast_mul] at h'
    have hr := run_make (P := P) w T E i z ht hq h1 .i64 .i64 n n (by omega) (Int.le_refl _) hb (by omega)
    simp only [Int.toNat_natCast, h2, Nat.mul_one] at hr
    rw [made_one z n hz] at hr
    unfold Oper.wp execOp
    simp only [ho, hx, hy, Sem.run_bind, hr, Result.andThen_ok, Sem.run_pure]
    exact hK _ _ (h _ (sz_alloc rfl _) (below_new _ _ _ rfl) (has_new rfl E n _))
/-- An operation by what it runs to. -/
theorem wpl_runs (hgd : o.guard = none) (v : Value) (w' : World) (hrun : (execOp a.eval o).run P w = .ok (.value v) w') (h : wpList P ops Q rest (a.put o.dst v) w') : wpList P ops Q (o :: rest) a w := by
  refine wpList_plain hgd fun K hK => ?_
  unfold Oper.wp
  rw [hrun]
  exact hK _ _ h
end
/-- What a load of one cell runs to. -/
theorem ld_one {P : Program} {a : Act} {w : World} {o : Oper} (ty : TypeId) (x : Operand) (ho : o.op = .load ty x) (p : Addr) (hx : a.eval x = .pointer (some p)) (v : Value) (hrun : (Instr.loadAt ty (.pointer (some p))).run P w = .ok v w) : (execOp a.eval o).run P w = .ok (.value v) w := by
  unfold execOp
  simp only [ho, hx, Sem.run_bind, hrun, Result.andThen_ok, Sem.run_pure]
end Go.Proofs.YtjdclgnlnehjlaaDoor
namespace Go.Proofs.YtjdclgnlnehjlaaDoor
open Go Go.RowKit
/-- Blocks of S may have turned, and there may be new ones. -/
structure Turn (S : Nat → Prop) (w w' : World) : Prop where
  os : w'.os = w.os
  tape : w'.tape = w.tape
  output : w'.output = w.output
  size : w.heap.size ≤ w'.heap.size
  block : ∀ k, k < w.heap.size → ¬ S k → w'.heap[k]? = w.heap[k]?
section
variable {S R : Nat → Prop} {a b c w w' : World}
theorem Turn.refl (S : Nat → Prop) (w : World) : Turn S w w := ⟨rfl, rfl, rfl, Nat.le_refl _, fun _ _ _ => rfl⟩
theorem Turn.trans (h : Turn S a b) (k : Turn R b c) (e : ∀ j, R j → j < a.heap.size → S j) : Turn S a c :=
  ⟨k.os.trans h.os, k.tape.trans h.tape, k.output.trans h.output, Nat.le_trans h.size k.size, fun i hi hS => (k.block i (Nat.lt_of_lt_of_le hi h.size) (fun hR => hS (e i hR hi))).trans (h.block i hi hS)⟩
theorem Turn.mono (h : Turn S w w') (e : ∀ k, S k → R k) : Turn R w w' := ⟨h.os, h.tape, h.output, h.size, fun k hk hR => h.block k hk (fun hS => hR (e k hS))⟩
theorem Turn.below {B : Nat} (h : Turn S w w') (k : Below B a w) (hS : ∀ j, S j → B ≤ j) (hB : B ≤ w.heap.size) : Below B a w' :=
  k.trans ⟨h.os, h.tape, h.output, h.size, fun i hi => h.block i (by omega) (fun hs => by have := hS i hs; omega)⟩
theorem turn_below {N : Nat} (hN : Sz w N) (h : Below N w w') (S : Nat → Prop) : Turn S w w' := ⟨h.os, h.tape, h.output, h.size, fun k hk _ => h.block k (by have e : w.heap.size = N := hN; omega)⟩
theorem Touch.turn {d : Nat} (h : Touch d w w') : Turn (fun k => k = d) w w' := ⟨h.os, h.tape, h.output, Nat.le_of_eq h.size.symm, fun k _ hk => h.block k hk⟩
theorem Grew.turn {d : Option Nat} (h : Grew d w w') : Turn (fun k => d = some k) w w' := ⟨h.os, h.tape, h.output, h.size, fun k hk hn => h.block k hk (fun e => hn e.symm)⟩
theorem turn_drew (S : Nat → Prop) (w : World) : Turn S w w.drew := ⟨rfl, rfl, rfl, Nat.le_refl _, fun _ _ _ => rfl⟩
theorem turn_alloc (S : Nat → Prop) (w : World) (o : Obj) : Turn S w (w.alloc o) := ⟨rfl, rfl, rfl, by show w.heap.size ≤ (w.heap.push o).size; simp, fun k hk _ => Below.heap_alloc w o k hk⟩
theorem Has.turn {d T n : Nat} {f : Nat → Value} (h : Has w d T n f) (t : Turn S w w') (hn : ¬ S d) : Has w' d T n f := h.same (t.block d h.lt hn)
theorem OwnK.turn {E s n cap : Nat} {p : Option Addr} {f : Nat → Value} (h : OwnK w E s p n cap f) (t : Turn S w w') (hn : ∀ g, blk p = some g → ¬ S g) : OwnK w' E s p n cap f :=
  h.same (fun k hk => t.block k (h.lt k hk) (hn k hk))
theorem Own.turn {E n cap : Nat} {p : Option Addr} {f : Nat → Value} (h : Own w E p n cap f) (t : Turn S w w') (hn : ∀ g, blk p = some g → ¬ S g) : Own w' E p n cap f :=
  h.same (fun k hk => t.block k (h.lt k hk) (hn k hk))
theorem sz_turn {N M : Nat} (t : Turn S w w') (hN : Sz w N) (hM : Sz w' M) : N ≤ M := by have h := t.size; have e : w.heap.size = N := hN; have e' : w'.heap.size = M := hM; omega
end
section
variable {w : World} {E s g n m cap : Nat} {p : Option Addr} {f : Nat → Value}
theorem OwnK.cut (h : OwnK w E s p n cap f) (hm : m ≤ n) : OwnK w E s p m cap f := by
  rcases h with ⟨h1, h2, h3⟩ | ⟨g, C, e, hg, h1, h2, h3⟩
  · exact .inl ⟨h1, by omega, h3⟩
  · exact .inr ⟨g, C, e, hg, by omega, h2, fun j hj => h3 j (by have := Nat.mul_le_mul_right s hm; omega)⟩
theorem OwnK.setBeyond : ∀ (vs : List Value) (k : Nat) {w : World}, OwnK w E s (some ⟨g, 0, none⟩) n cap f → n * s ≤ k → OwnK (w.setCells g k vs) E s (some ⟨g, 0, none⟩) n cap f
  | [], _, _, h, _ => h
  | v :: vs, k, w, h, hk => OwnK.setBeyond vs (k + 1) (((h.set k v).congr (f' := f) (fun j hj => by unfold upd; rw [if_neg (by omega)]))) (by omega)
theorem OwnK.allCells (h : OwnK w E s (some ⟨g, 0, none⟩) n cap f) (j : Nat) (hj : j < cap * s) : (w.cell? ⟨g, j, none⟩).isSome = true ∧ w.frozen? ⟨g, j, none⟩ = false := by
  rcases h with ⟨h1, _⟩ | ⟨g', C, e, hg, h1, h2, h3⟩
  · cases h1
  · obtain rfl : g = g' := by injection e with e; injection e
    refine ⟨?_, by simp [World.frozen?, hg]⟩
    rw [cell_of_row w g j C E (0, 0) hg]
    simp [h2, hj]
end
section
variable {P : Program}
theorem size_of {E s : Nat} (hs : (P.info? E).map (·.size) = some s) : ∃ i, P.info? E = some i ∧ i.size = s := by
  cases hq : P.info? E with
  | none => simp [hq] at hs
  | some i => exact ⟨i, rfl, by simpa [hq] using hs⟩
/-- x[n:] -/
theorem run_cut_tail (t e s : TypeId) (hu : P.underlying t = some (.slice e)) (hs : (P.info? e).map (·.size) = some s) (a : Option Addr) (len cap n : Nat) (h : n ≤ len) (w : World) :
    (Instr.sliceAt t (.slice a len cap) (some (.int .i64 (n : Int))) none none).run P w = .ok (.slice (if cap = n then a else a.map (·.add (n * s))) (len - n) (cap - n)) w := by
  obtain ⟨i, hq, hi⟩ := size_of hs
  simp [Instr.sliceAt, Instr.slice, run_underlying hu, Instr.sliceBounds, Instr.sliceBound, asIntOf, sizeOf, typeInfo, hq, hi, Sem.run_bind, h]
/-- x[:n] -/
theorem run_cut_front (t e s : TypeId) (hu : P.underlying t = some (.slice e)) (hs : (P.info? e).map (·.size) = some s) (g len cap n : Nat) (h : n ≤ cap) (w : World) :
    (Instr.sliceAt t (.slice (some ⟨g, 0, none⟩) len cap) none (some (.int .i64 (n : Int))) none).run P w = .ok (.slice (some ⟨g, 0, none⟩) n cap) w := by
  obtain ⟨i, hq, hi⟩ := size_of hs
  simp [Instr.sliceAt, Instr.slice, run_underlying hu, Instr.sliceBounds, Instr.sliceBound, asIntOf, sizeOf, typeInfo, hq, hi, Sem.run_bind, h, Addr.add_mid]
/-- x[l:h] -/
theorem run_cut_mid (t e s : TypeId) (hu : P.underlying t = some (.slice e)) (hs : (P.info? e).map (·.size) = some s) (g len cap l h : Nat) (hl : l ≤ h) (hh : h ≤ cap) (hlt : l < cap) (w : World) :
    (Instr.sliceAt t (.slice (some ⟨g, 0, none⟩) len cap) (some (.int .i64 (l : Int))) (some (.int .i64 (h : Int))) none).run P w = .ok (.slice (some ⟨g, l * s, none⟩) (h - l) (cap - l)) w := by
  obtain ⟨i, hq, hi⟩ := size_of hs
  have hne : ¬ cap = l := by omega
  simp [Instr.sliceAt, Instr.slice, run_underlying hu, Instr.sliceBounds, Instr.sliceBound, asIntOf, sizeOf, typeInfo, hq, hi, Sem.run_bind, hl, hh, hne, Addr.add_mid]
/-- x[l:h:m] -/
theorem run_cut_three (t e s : TypeId) (hu : P.underlying t = some (.slice e)) (hs : (P.info? e).map (·.size) = some s) (g len cap l h m : Nat) (hl : l ≤ h) (hh : h ≤ m) (hm : m ≤ cap) (hlt : l < m) (w : World) :
    (Instr.sliceAt t (.slice (some ⟨g, 0, none⟩) len cap) (some (.int .i64 (l : Int))) (some (.int .i64 (h : Int))) (some (.int .i64 (m : Int)))).run P w = .ok (.slice (some ⟨g, l * s, none⟩) (h - l) (m - l)) w := by
  obtain ⟨i, hq, hi⟩ := size_of hs
  have hne : ¬ m = l := by omega
  simp [Instr.sliceAt, Instr.slice, run_underlying hu, Instr.sliceBounds, Instr.sliceBound, asIntOf, sizeOf, typeInfo, hq, hi, Sem.run_bind, hl, hh, hm, hne, Addr.add_mid]
theorem run_append_roomK (w : World) (t ty E : TypeId) (s : Nat) (hs0 : 0 < s) (hk : KCell P E s) (ht : P.underlying t = some (.slice E))
    (g n cap : Nat) (f : Nat → Value) (hown : OwnK w E s (some ⟨g, 0, none⟩) n cap f) (q : Option Addr) (m c : Nat) (h : Nat → Value) (hq : Cells w q (m * s) h) (h1 : ∀ j, j < m * s → (h j).oneCell' = true) (hroom : n + m ≤ cap) :
    ∃ w', (Builtin.append_ #[t, t] ty #[.slice (some ⟨g, 0, none⟩) n cap, .slice q m c]).run P w = .ok (.slice (some ⟨g, 0, none⟩) (n + m) cap) w' ∧ OwnK w' E s (some ⟨g, 0, none⟩) (n + m) cap (cat f (n * s) h) ∧ Touch g w w' := by
  obtain ⟨i, z, hi, hz, hs, hb, hz1⟩ := hk
  rcases hown with ⟨h0, _⟩ | ⟨g', C, e, hg, hnc, hcs, hc⟩
  · cases h0
  obtain rfl : g = g' := by injection e with e; injection e
  by_cases hm : m = 0
  · subst hm
    refine ⟨w, ?_, .inr ⟨g, C, rfl, hg, hnc, hcs, fun j hj => by rw [hc j hj]; simp only [cat]; rw [if_pos (by simpa using hj)]⟩, ⟨rfl, rfl, rfl, rfl, fun _ _ => rfl⟩⟩
    cases q <;> simp [Builtin.append_, run_underlying ht, sizeOf, typeInfo, hi, Builtin.lenOf, Builtin.firstCells, loadCells, loadCellsFrom, storeCells, hnc]
  · have hms : 0 < m * s := Nat.mul_pos (by omega) hs0
    obtain ⟨ad, rfl, hcells⟩ := hq hms
    have hnews : ∀ j v, (lst h (m * s))[j]? = some v → w.cell? (ad.add j) = some v := fun j v hv => by
      obtain ⟨hj, rfl⟩ := lst_get hv
      exact hcells j hj
    have hone : ∀ v ∈ lst h (m * s), v.oneCell' = true := fun v hv => by
      obtain ⟨j, hj, rfl⟩ : ∃ j, j < m * s ∧ h j = v := by simpa [lst] using hv
      exact h1 j hj
    have hl : (lst h (m * s)).length = m * i.size := by rw [length_lst, hs]
    have hns : n * s ≤ C.size := by rw [hcs]; exact Nat.mul_le_mul_right _ hnc
    have hfit : n * s + m * s ≤ C.size := by rw [hcs, ← Nat.add_mul]; exact Nat.mul_le_mul_right _ hroom
    have hr := run_append_room (P := P) w t ty E i ht hi g n cap C hg ad m c (lst h (m * s)) hl hnews hone hroom (by rw [hs, length_lst]; exact hfit)
    refine ⟨_, hr, .inr ⟨g, _, rfl, setRow_heap w g C _ E _ hg, hroom, ?_, fun j hj => ?_⟩, touch_setRow w g _⟩
    · simp only [List.size_toArray, List.length_append, List.length_take, List.length_drop, Array.length_toList, length_lst, hs]; omega
    · rw [Nat.add_mul] at hj
      simp only [hs, length_lst, List.append_assoc, List.getElem?_toArray, cat]
      by_cases hjn : j < n * s
      · rw [List.getElem?_append_left (by simp; omega), if_pos hjn]
        simpa [hjn] using hc j hjn
      · rw [List.getElem?_append_right (by simp; omega), if_neg hjn]
        have e0 : (List.take (n * s) C.toList).length = n * s := by simp; omega
        rw [e0, List.getElem?_append_left (by rw [length_lst]; omega)]
        have hjm : j - n * s < m * s := by omega
        simp [lst, hjm]
theorem run_clearK (w : World) (t E ty : TypeId) (s : Nat) (z : Value) (ht : P.underlying t = some (.slice E)) (hz : (P.info? E).map (fun i => (i.zero, i.size)) = some (some z, s)) (hs : z.cells.size = s) (hs0 : 0 < s) (h1 : ∀ j (h : j < z.cells.size), z.cells[j].oneCell' = true)
    (g o n c : Nat) (hn : 0 < n) (hc : ∀ j, j < n * s → (w.cell? ⟨g, o + j, none⟩).isSome = true) (hf : ∀ j, j < n * s → w.frozen? ⟨g, o + j, none⟩ = false) :
    (Builtin.clear_ #[t] ty #[.slice (some ⟨g, o, none⟩) n c]).run P w = .ok (.tuple #[]) (w.setCells g o (Builtin.zeroCells z.cells n).toList) := by
  have hlen : (Builtin.zeroCells z.cells n).toList.length = n * s := by rw [Array.length_toList, size_zeroCells, hs]
  have hst := run_storeCells_cells (P := P) g o (Builtin.zeroCells z.cells n).toList 0 w (by rw [hlen]; simpa using hc) (by rw [hlen]; simpa using hf) (by
    intro v hv
    simp only [Builtin.zeroCells, Array.toList_map, List.mem_map] at hv
    obtain ⟨j, _, rfl⟩ := hv
    have hj : j % z.cells.size < z.cells.size := Nat.mod_lt _ (by omega)
    rw [getElem!_pos z.cells (j % z.cells.size) hj]
    exact h1 _ hj)
  simp only [Nat.add_zero] at hst
  obtain ⟨m, rfl⟩ : ∃ m, n = m + 1 := ⟨n - 1, by omega⟩
  have hv := (zero_of_info hz).1
  simp [Builtin.clear_, run_underlying ht, hv, hst]
variable {ops : Array Oper} {rest : List Oper} {o : Oper} {a : Act} {w : World} {Q : Exit → Act → World → Prop}
theorem wpl_app_room (hgd : o.guard = none) (x y : Operand) (t : TypeId) (ho : o.op = .call { callee := .builtin .append, args := #[x, y], argTypes := #[t, t] })
    (E : TypeId) (s : Nat) (hs0 : 0 < s) (ht : P.underlying t = some (.slice E)) (hi : KCell P E s)
    (g n cap : Nat) (hsv : a.eval x = .slice (some ⟨g, 0, none⟩) n cap) (f : Nat → Value) (hown : OwnK w E s (some ⟨g, 0, none⟩) n cap f) (q : Option Addr) (m c : Nat) (hxv : a.eval y = .slice q m c) (h : Nat → Value) (hq : Cells w q (m * s) h)
    (h1 : ∀ j, j < m * s → (h j).oneCell' = true) (r : Nat) (hr : r = n + m) (hroom : n + m ≤ cap)
    (H : ∀ w', OwnK w' E s (some ⟨g, 0, none⟩) r cap (cat f (n * s) h) → Touch g w w' → wpList P ops Q rest (a.put o.dst (.slice (some ⟨g, 0, none⟩) r cap)) w') : wpList P ops Q (o :: rest) a w := by
  refine wpList_plain hgd fun K hK => ?_
  subst hr
  obtain ⟨w', hrun, k1, k2⟩ := run_append_roomK (P := P) w t o.type E s hs0 hi ht g n cap f hown q m c h hq h1 hroom
  unfold Oper.wp
  simp [execOp, ho, resolve, invoke, builtin, hsv, hxv, hrun, Result.andThen]
  exact hK _ _ (H w' k1 k2)
/-- The last one of n + 1 is cleared, seen as a slice of n. -/
theorem wpl_clear_last (hgd : o.guard = none) (x : Operand) (t : TypeId) (ho : o.op = .call { callee := .builtin .clear, args := #[x], argTypes := #[t] })
    (E : TypeId) (s : Nat) (z : Value) (ht : P.underlying t = some (.slice E)) (hz : (P.info? E).map (fun i => (i.zero, i.size)) = some (some z, s)) (hs : z.cells.size = s) (hs0 : 0 < s) (h1 : ∀ j (h : j < z.cells.size), z.cells[j].oneCell' = true)
    (g n cap c : Nat) (hx : a.eval x = .slice (some ⟨g, n * s, none⟩) 1 c) (f : Nat → Value) (hown : OwnK w E s (some ⟨g, 0, none⟩) n cap f) (hcap : n + 1 ≤ cap)
    (H : ∀ w', OwnK w' E s (some ⟨g, 0, none⟩) n cap f → Touch g w w' → wpList P ops Q rest (a.put o.dst (.tuple #[])) w') : wpList P ops Q (o :: rest) a w := by
  refine wpList_plain hgd fun K hK => ?_
  have hin : ∀ j, j < 1 * s → n * s + j < cap * s := fun j hj => by
    have := Nat.mul_le_mul_right s hcap
    rw [Nat.add_mul] at this
    omega
  have hrun := run_clearK (P := P) w t E o.type s z ht hz hs hs0 h1 g (n * s) 1 c (by omega) (fun j hj => (hown.allCells _ (hin j hj)).1) (fun j hj => (hown.allCells _ (hin j hj)).2)
  unfold Oper.wp
  simp [execOp, ho, resolve, invoke, builtin, hx, hrun, Result.andThen]
  exact hK _ _ (H _ (OwnK.setBeyond _ _ hown (Nat.le_refl _)) (touch_setCells g _ _ w))
end
end Go.Proofs.YtjdclgnlnehjlaaDoor
