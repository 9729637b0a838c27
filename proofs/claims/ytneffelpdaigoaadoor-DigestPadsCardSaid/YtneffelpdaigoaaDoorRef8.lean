/- What sum of the document's answer for layer 1 keeps; two laws on slices. -/
import Derived.Test.YtneffelpdaigoaaDoorRef7
import Derived.Test.YtneffelpdaigoaaDoorMsg
import Derived.Test.YtneffelpdaigoaaDoorQTail
namespace Go.Proofs.YtneffelpdaigoaaDoor
open Go Go.RowKit Sha
theorem bytes_cells {w : World} {p : Option Addr} {n : Nat} {D : Nat → BitVec 8} (h : Bytes w p n D) : Cells w p n (fun j => By (D j)) := fun h0 => by
  obtain ⟨b, off, e, hc⟩ := h h0
  exact ⟨_, e, fun j hj => by rw [Addr.add_mid]; exact hc j hj⟩
/-- A slice literal without elements. -/
theorem wpl_lit0 {P : Program} {ops : Array Oper} {rest : List Oper} {o : Oper} {a : Act} {w : World} {Q : Exit → Act → World → Prop} (hgd : o.guard = none) (T E : TypeId) (ho : o.op = .buildSlice T 0 #[]) (ht : P.underlying T = some (.slice E)) (hs : (P.info? E).map (·.size) = some 1)
    (N : Nat) (hN : Sz w N) (f : Nat → Value) (h : ∀ w1, Sz w1 (N + 1) → Below N w w1 → Own w1 E (some ⟨N, 0, none⟩) 0 0 f → wpList P ops Q rest (a.put o.dst (.slice (some ⟨N, 0, none⟩) 0 0)) w1) : wpList P ops Q (o :: rest) a w := by
  cases hq : P.info? E with
  | none => simp [hq] at hs
  | some i =>
    have hi : i.size = 1 := by simpa [hq] using hs
    have e : w.heap.size = N := hN
    subst e
    have hz : Array.map (fun x : Nat => (default : Value)) (Array.range 0) = #[] := by simp
    refine wpl_run hgd (.slice (some ⟨w.heap.size, 0, none⟩) 0 0) (w.alloc (.cells #[] E)) ?_ (h _ (sz_alloc hN _) (below_new w _ _ hN) (.inr ⟨_, #[], rfl, heap_alloc_new w _, Nat.le_refl _, rfl, fun j hj => by omega⟩))
    unfold execOp
    simp [ho, Instr.buildSlice, Sem.run_bind, run_underlying ht, sizeOf, typeInfo, hq, hi, Instr.fill, newRow, run_newObj_alloc, hz]
/-- What sum keeps: the constants, the words so far, the result, the text with what stands behind it. -/
structure SumW (w : World) (N : Nat) (wr : World) (H : Nat → W32) (pt : Option Addr) (len ct : Nat) (E : Nat → BitVec 8) : Prop where
  k : Has wr N 36 64 (fun j => U (Kc j))
  h : Has wr (N + 1) 37 8 (fun j => U (H j))
  o : Has wr (N + 1 + 1) 23 32 (fun _ => By 0)
  m : Own wr 5 pt len ct (fun j => By (E j))
  b : Below N w wr
  p : ∀ g, blk pt = some g → N + 3 ≤ g
section
variable {w wr w' : World} {N : Nat} {H : Nat → W32} {pt : Option Addr} {len ct : Nat} {E : Nat → BitVec 8}
theorem SumW.lt (s : SumW w N wr H pt len ct E) : N + 2 < wr.heap.size := s.o.lt
theorem SumW.drewN (s : SumW w N wr H pt len ct E) (k : Nat) : SumW w N (wr.drewN k) H pt len ct E := ⟨s.k.drewN k, s.h.drewN k, s.o.drewN k, s.m.same (fun _ _ => rfl), below_drewN s.b k, s.p⟩
theorem SumW.drew (s : SumW w N wr H pt len ct E) : SumW w N wr.drew H pt len ct E := s.drewN 1
theorem SumW.touch (s : SumW w N wr H pt len ct E) {M : Nat} (t : Touch M wr w') (hM : N + 3 ≤ M) (hne : ∀ g, blk pt = some g → g ≠ M) : SumW w N w' H pt len ct E :=
  ⟨s.k.touch t (by omega), s.h.touch t (by omega), s.o.touch t (by omega), s.m.touch t hne, t.below s.b (by omega), s.p⟩
theorem SumW.below (s : SumW w N wr H pt len ct E) {B : Nat} (t : Below B wr w') (hB : wr.heap.size ≤ B) : SumW w N w' H pt len ct E := by
  have := s.lt
  exact ⟨s.k.below t (by omega), s.h.below t (by omega), s.o.below t (by omega), s.m.below t hB, s.b.trans (t.mono (by omega)), s.p⟩
theorem SumW.turn (s : SumW w N wr H pt len ct E) {H' : Nat → W32} (t : Touch (N + 1) wr w') (h' : Has w' (N + 1) 37 8 (fun j => U (H' j))) : SumW w N w' H' pt len ct E :=
  ⟨s.k.touch t (by omega), h', s.o.touch t (by omega), s.m.touch t (fun g hg => by have := s.p g hg; omega), t.below s.b (by omega), s.p⟩
theorem SumW.congr (s : SumW w N wr H pt len ct E) {H' : Nat → W32} (e : ∀ j, j < 8 → H j = H' j) : SumW w N wr H' pt len ct E :=
  ⟨s.k, s.h.congr (fun j hj => by rw [e j hj]), s.o, s.m, s.b, s.p⟩
/-- More is appended. -/
theorem SumW.grew (s : SumW w N wr H pt len ct E) {pt' : Option Addr} {len' ct' : Nat} (g : Grew (blk pt) wr w') (m : Own w' 5 pt' len' ct' (fun j => By (E j))) (hp : blk pt' = blk pt ∨ blk pt' = some wr.heap.size) : SumW w N w' H pt' len' ct' E := by
  have hl := s.lt
  have hne : ∀ k, k ≤ N + 2 → some k ≠ blk pt := fun k hk e => by have := s.p k e.symm; omega
  exact ⟨s.k.grew g (hne _ (by omega)), s.h.grew g (hne _ (by omega)), s.o.grew g (hne _ (by omega)), m, g.below s.b (by omega) (fun b hb => by have := s.p b hb; omega), fun b hb => by
    rcases hp with e | e
    · exact s.p b (e ▸ hb)
    · rw [e, Option.some.injEq] at hb; omega⟩
theorem SumW.alloc (s : SumW w N wr H pt len ct E) (o : Obj) : SumW w N (wr.alloc o) H pt len ct E := s.below (below_new wr o _ rfl) (Nat.le_refl _)
end
end Go.Proofs.YtneffelpdaigoaaDoor
