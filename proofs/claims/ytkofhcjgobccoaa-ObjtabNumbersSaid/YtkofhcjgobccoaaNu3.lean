/- ObjtabNumbers: rows that grow and rows with one gone, laid anew; slices; what the state is behind them. -/
import Derived.Test.YtkofhcjgobccoaaNu1
import Derived.Test.YtkofhcjgobccoaaNl
namespace Go.Proofs.Ytkofhcjgobccoaa
open Go Go.RowKit
theorem own_hasN {w : World} {E g n : Nat} {f : Nat → Value} (h : Has w g E n f) : Own w E (some ⟨g, 0, none⟩) n n f := .inr ⟨g, cellsOf f n, rfl, h, Nat.le_refl _, by simp [cellsOf], fun j hj => by simp [cellsOf, hj]⟩
section
variable {ops : Array Oper} {rest : List Oper} {o : Oper} {a : Act} {w : World} {Q : Exit → Act → World → Prop}
theorem wpl_bsI1 (hgd : o.guard = none) (x : Operand) (ho : o.op = .buildSlice 23 1 #[(0, x)]) (r : Int) (hx : a.eval x = .int .i64 r) (N : Nat) (hN : Sz w N)
    (h : ∀ w1, Sz w1 (N + 1) → Below N w w1 → Own w1 3 (some ⟨N, 0, none⟩) 1 1 (fun _ => .int .i64 r) → wpList Try.prog ops Q rest (a.put o.dst (.slice (some ⟨N, 0, none⟩) 1 1)) w1) : wpList Try.prog ops Q (o :: rest) a w := by
  have e : w.heap.size = N := hN
  subst e
  refine wpl_run hgd (.slice (some ⟨w.heap.size, 0, none⟩) 1 1) (w.alloc (.cells (cellsOf (fun _ => .int .i64 r) 1) 3)) ?_ (h _ (sz_alloc rfl _) (below_new _ _ _ rfl) ?_)
  · clear h hN
    generalize a.eval = ev at *
    unfold execOp
    simp only [ho]
    go_simp
    kernel_rfl
  · exact own_hasN (has_new rfl 3 1 _)
theorem wpl_bsS1 (hgd : o.guard = none) (x : Operand) (ho : o.op = .buildSlice 22 1 #[(0, x)]) (r : ByteArray) (hx : a.eval x = Value.string r) (N : Nat) (hN : Sz w N)
    (h : ∀ w1, Sz w1 (N + 1) → Below N w w1 → Own w1 9 (some ⟨N, 0, none⟩) 1 1 (fun _ => Value.string r) → wpList Try.prog ops Q rest (a.put o.dst (.slice (some ⟨N, 0, none⟩) 1 1)) w1) : wpList Try.prog ops Q (o :: rest) a w := by
  have e : w.heap.size = N := hN
  subst e
  refine wpl_run hgd (.slice (some ⟨w.heap.size, 0, none⟩) 1 1) (w.alloc (.cells (cellsOf (fun _ => Value.string r) 1) 9)) ?_ (h _ (sz_alloc rfl _) (below_new _ _ _ rfl) ?_)
  · clear h hN
    generalize a.eval = ev at *
    unfold execOp
    simp only [ho]
    go_simp
    kernel_rfl
  · exact own_hasN (has_new rfl 9 1 _)
theorem wpl_bsI0 (hgd : o.guard = none) (ho : o.op = .buildSlice 23 0 #[]) (N : Nat) (hN : Sz w N)
    (h : ∀ w1, Sz w1 (N + 1) → Below N w w1 → Own w1 3 (some ⟨N, 0, none⟩) 0 0 (fun _ => .int .i64 0) → wpList Try.prog ops Q rest (a.put o.dst (.slice (some ⟨N, 0, none⟩) 0 0)) w1) : wpList Try.prog ops Q (o :: rest) a w := by
  have e : w.heap.size = N := hN
  subst e
  refine wpl_run hgd (.slice (some ⟨w.heap.size, 0, none⟩) 0 0) (w.alloc (.cells (cellsOf (fun _ => .int .i64 0) 0) 3)) ?_ (h _ (sz_alloc rfl _) (below_new _ _ _ rfl) ?_)
  · clear h hN
    generalize a.eval = ev at *
    unfold execOp
    simp only [ho]
    go_simp
    kernel_rfl
  · exact own_hasN (has_new rfl 3 0 _)
theorem wpl_bsS0 (hgd : o.guard = none) (ho : o.op = .buildSlice 22 0 #[]) (N : Nat) (hN : Sz w N)
    (h : ∀ w1, Sz w1 (N + 1) → Below N w w1 → Own w1 9 (some ⟨N, 0, none⟩) 0 0 (fun _ => Value.string ⟨#[]⟩) → wpList Try.prog ops Q rest (a.put o.dst (.slice (some ⟨N, 0, none⟩) 0 0)) w1) : wpList Try.prog ops Q (o :: rest) a w := by
  have e : w.heap.size = N := hN
  subst e
  refine wpl_run hgd (.slice (some ⟨w.heap.size, 0, none⟩) 0 0) (w.alloc (.cells (cellsOf (fun _ => Value.string ⟨#[]⟩) 0) 9)) ?_ (h _ (sz_alloc rfl _) (below_new _ _ _ rfl) ?_)
  · clear h hN
    generalize a.eval = ev at *
    unfold execOp
    simp only [ho]
    go_simp
    kernel_rfl
  · exact own_hasN (has_new rfl 9 0 _)
end
theorem undIsN : Try.prog.underlying 23 = some (.slice 3) := by kernel_rfl
theorem undSsN : Try.prog.underlying 22 = some (.slice 9) := by kernel_rfl
theorem szIN : (Try.prog.info? 3).map (·.size) = some 1 := by kernel_rfl
theorem szSN : (Try.prog.info? 9).map (·.size) = some 1 := by kernel_rfl
theorem undStrN : Try.prog.underlying 9 = some .string := by kernel_rfl
theorem oneIN : OneCell Try.prog 3 := oneCell_of (v := .int .i64 0) (k := 8) (by kernel_rfl) (by omega) rfl
theorem oneSN : OneCell Try.prog 9 := oneCell_of (v := Value.string ⟨#[]⟩) (k := 16) (by kernel_rfl) (by omega) rfl
theorem Own.cellsN {w : World} {T n c : Nat} {p : Option Addr} {f : Nat → Value} (h : Own w T p n c f) : Cells w p n f := fun h0 => by
  obtain ⟨g, hg, hc⟩ := h.cell h0
  exact ⟨⟨g, 0, none⟩, hg, fun j hj => by rw [Addr.add_mid]; exact hc j hj⟩
def sofN (o l cap : Nat) : Nat := if cap = l then o else o + l
/-- The cells behind a place. -/
theorem Own.cellsF {w : World} {T n c l : Nat} {g : Nat} {f : Nat → Value} (h : Own w T (some ⟨g, 0, none⟩) n c f) (hl : l ≤ n) : Cells w (some ⟨g, sofN 0 l c, none⟩) (n - l) (fun j => f (l + j)) := fun h0 => by
  obtain ⟨g', hg, hc⟩ := h.cell (by omega)
  have hle := h.le
  cases hg
  refine ⟨⟨g, sofN 0 l c, none⟩, rfl, fun j hj => ?_⟩
  rw [Addr.add_mid]
  have e : sofN 0 l c = 0 + l := by unfold sofN; rw [if_neg (by omega)]
  rw [e, Nat.add_assoc]
  exact hc (l + j) (by omega)
theorem run_ixN {P : Program} {a : Act} {o : Oper} (T E : TypeId) (hu : P.underlying T = some (.slice E)) (hs : (P.info? E).map (·.size) = some 1) (x y : Operand) (ho : o.op = .indexAddr T x y) {q off cap k n : Nat} (hx : a.eval x = .slice (some ⟨q, off, none⟩) n cap) (hy : a.eval y = .int .i64 (k : Int)) (hk : k < n) (w : World) : (execOp a.eval o).run P w = .ok (.value (.pointer (some ⟨q, off + k, none⟩))) w := by
  cases hq : P.info? E with
  | none => simp [hq] at hs
  | some i =>
    have hi : i.size = 1 := by simpa [hq] using hs
    have h1 : ¬ (n ≤ k) := by omega
    unfold execOp
    simp only [ho, hx, hy]
    simp [Instr.indexAt, Instr.sureAddr, asIntOf, Sem.run_bind, run_underlying hu, sizeOf, typeInfo, hq, hi, Addr.add, h1, hk]
theorem run_slToN {P : Program} {a : Act} {o : Oper} (T E : TypeId) (hu : P.underlying T = some (.slice E)) (hs : (P.info? E).map (·.size) = some 1) (x y : Operand) (ho : o.op = .slice T x none (some y) none) {p : Option Addr} {cap k n : Nat} (hx : a.eval x = .slice p n cap) (hy : a.eval y = .int .i64 (k : Int)) (hk : k ≤ cap) (w : World) : (execOp a.eval o).run P w = .ok (.value (.slice p k cap)) w := by
  cases hq : P.info? E with
  | none => simp [hq] at hs
  | some i =>
    have hi : i.size = 1 := by simpa [hq] using hs
    have az : ∀ q : Addr, q.add 0 = q := fun q => by simp [Addr.add]
    unfold execOp
    simp only [ho, Option.map, hx, hy]
    cases p <;> simp [Instr.sliceAt, Instr.slice, run_underlying hu, Instr.sliceBounds, Instr.sliceBound, asIntOf, sizeOf, typeInfo, hq, hi, Sem.run_bind, hk, az]
theorem run_slFN {P : Program} {a : Act} {o : Oper} (t e : TypeId) (hu : P.underlying t = some (.slice e)) (hi : (P.info? e).map (·.size) = some 1) (x y : Operand) (ho : o.op = .slice t x (some y) none none) {b off n cap l : Nat} (hx : a.eval x = .slice (some ⟨b, off, none⟩) n cap) (hy : a.eval y = .int .i64 (l : Int)) (hl : l ≤ n) (hh : n ≤ cap) (w : World) :
    (execOp a.eval o).run P w = .ok (.value (.slice (some ⟨b, sofN off l cap, none⟩) (n - l) (cap - l))) w := by
  cases hq : P.info? e with
  | none => simp [hq] at hi
  | some i =>
    have hi : i.size = 1 := by simpa [hq] using hi
    unfold execOp sofN
    simp only [ho, Option.map, hx, hy]
    by_cases e5 : cap = l
    · subst e5
      obtain rfl : n = cap := by omega
      simp [Instr.sliceAt, Instr.slice, run_underlying hu, Instr.sliceBounds, Instr.sliceBound, asIntOf, sizeOf, typeInfo, hq, hi, Sem.run_bind, Addr.add_mid]
    · simp [Instr.sliceAt, Instr.slice, run_underlying hu, Instr.sliceBounds, Instr.sliceBound, asIntOf, sizeOf, typeInfo, hq, hi, Sem.run_bind, hl, hh, e5, Addr.add_mid]
theorem below_turnN {M : Nat} {w w' : World} (h : Below M w w') (hM : Sz w M) : Turn (fun _ => False) w w' := ⟨h.os, h.tape, h.output, h.size, fun k hk _ => h.block k (by have e : w.heap.size = M := hM; omega)⟩
theorem Turn.belowN {S : Nat → Prop} {M : Nat} {a w w' : World} (h : Turn S a w) (hM : Sz w M) (hb : Below M w w') : Turn S a w' := h.trans (below_turnN hb hM) (fun _ h _ => h.elim)
/-- Numbers and texts with one more. -/
theorem cat_setI (E : Nat → En ByteArray) (n : Nat) (z : Int) (x : ByteArray) (j : Nat) (hj : j < n + 1) : cat (fun j => .int .i64 ((E j).id)) n (fun _ => .int .i64 z) j = .int .i64 ((setE E n ⟨z, 1, x⟩ j).id) := by
  unfold cat setE
  by_cases h : j < n
  · rw [if_pos h, if_neg (by omega)]
  · rw [if_neg h, if_pos (by omega)]
theorem cat_setS (E : Nat → En ByteArray) (n : Nat) (z : Int) (x : ByteArray) (j : Nat) (hj : j < n + 1) : cat (fun j => Value.string ((E j).x)) n (fun _ => Value.string x) j = Value.string ((setE E n ⟨z, 1, x⟩ j).x) := by
  unfold cat setE
  by_cases h : j < n
  · rw [if_pos h, if_neg (by omega)]
  · rw [if_neg h, if_pos (by omega)]
/-- Numbers and texts with one gone. -/
theorem cat_delN {α : Type} (v : α → Value) (F : Nat → α) (G : Nat → α) (z : Value) (k n : Nat) (hk : k < n) (hG : ∀ j, G j = if j < k then F j else F (j + 1)) (j : Nat) (hj : j < n - 1) : cat (cat (fun _ => z) 0 (fun j => v (F j))) (0 + k) (fun j => v (F (k + 1 + j))) j = v (G j) := by
  unfold cat
  rw [hG]
  by_cases h : j < k
  · rw [if_pos (by omega), if_neg (by omega), if_pos h, Nat.sub_zero]
  · rw [if_neg (by omega), if_neg h]
    show v (F (k + 1 + (j - (0 + k)))) = v (F (j + 1))
    rw [show k + 1 + (j - (0 + k)) = j + 1 by omega]
section
variable {w0 wc u1 u2 u3 u4 : World} {N b M M1 M2 M3 : Nat} {last : Int} {p q r q' r' : Option Addr} {n cap m capq m' capq' k capr k' capr' : Nat} {E : Nat → En ByteArray} {Z Z' : Nat → Int} {X X' : Nat → ByteArray}
/-- Both rows were appended to, the numbers' first. -/
theorem Nu.app2 (h : Nu w0 N b last p n cap E q m capq Z r k capr X wc) (hN : Sz w0 N) (hM : Sz wc M) (t1 : Turn (fun _ => False) wc u1) (g1 : Grew (blk q) u1 u2) (n1 : blk q' = blk q ∨ blk q' = some u1.heap.size)
    (t2 : Turn (fun _ => False) u2 u3) (g2 : Grew (blk r) u3 u4) (n2 : blk r' = blk r ∨ blk r' = some u3.heap.size)
    (L : Own u2 3 q' m' capq' (fun j => .int .i64 (Z' j))) (A : Own u4 9 r' k' capr' (fun j => Value.string (X' j))) : Nu w0 N b last p n cap E q' m' capq' Z' r' k' capr' X' u4 := by
  obtain ⟨bM, pM, qM, rM⟩ := h.lt hM
  have eM : wc.heap.size = M := hM
  have s1 := t1.size
  have s2 := t2.size
  have s3 := g1.size
  have s4 := g2.size
  have lq : ∀ g, blk q' = some g → g < u2.heap.size := fun g hg => L.lt g hg
  have T : Turn (fun j => blk q = some j ∨ blk r = some j) wc u4 := (((t1.mono (fun _ h => h.elim)).trans g1.turn (fun j hj _ => .inl hj)).trans t2 (fun _ h _ => h.elim)).trans g2.turn (fun j hj _ => .inr hj)
  refine h.rows hN hM T (fun g hg => ?_) (fun g hg => ?_) (fun g hg e => ?_) ((L.turn t2 (fun _ _ h => h)).turn g2.turn (fun g hg e => ?_)) A
  · rcases n1 with e | e
    · exact .inl (e ▸ hg)
    · rw [e] at hg; have e2 := Option.some.inj hg; exact .inr (by omega)
  · rcases n2 with e | e
    · exact .inl (e ▸ hg)
    · rw [e] at hg; have e2 := Option.some.inj hg; exact .inr (by omega)
  · rcases n2 with e2 | e2
    · rw [e2] at e
      rcases n1 with e1 | e1
      · rw [e1] at hg; exact h.qr g hg e
      · rw [e1] at hg; have e3 := Option.some.inj hg; have := rM g e; omega
    · rw [e2] at e; have e3 := Option.some.inj e; have := lq g hg; omega
  · rcases n1 with e1 | e1
    · rw [e1] at hg; exact h.qr g hg e
    · rw [e1] at hg; have e3 := Option.some.inj hg; have := rM g e; omega
/-- Both rows are new. -/
theorem Nu.new2 (h : Nu w0 N b last p n cap E q m capq Z r k capr X wc) (hN : Sz w0 N) (hM : Sz wc M) (hb : Below M wc u4) (hq : ∀ g, blk q' = some g → M ≤ g) (hr : ∀ g, blk r' = some g → M ≤ g) (hqr : ∀ g, blk q' = some g → blk r' ≠ some g)
    (L : Own u4 3 q' m' capq' (fun j => .int .i64 (Z' j))) (A : Own u4 9 r' k' capr' (fun j => Value.string (X' j))) : Nu w0 N b last p n cap E q' m' capq' Z' r' k' capr' X' u4 :=
  h.rows hN hM ((below_turnN hb hM).mono (fun _ h => h.elim)) (fun g hg => .inr (hq g hg)) (fun g hg => .inr (hr g hg)) hqr L A
end
end Go.Proofs.Ytkofhcjgobccoaa
