/- DocAdd of the document's answer for layer 3. -/
import Derived.Test.YtcampjgemedhlaaDoorRg7
import Derived.Test.YtcampjgemedhlaaDoorTill
namespace Go.Proofs.YtcampjgemedhlaaDoor
open Go Go.RowKit Sha
/-- These blocks alone may have turned, and there may be new ones. -/
structure Gr3 (d : Nat) (p q : Option Nat) (w w' : World) : Prop where
  os : w'.os = w.os
  tape : w'.tape = w.tape
  output : w'.output = w.output
  size : w.heap.size ≤ w'.heap.size
  block : ∀ k, k < w.heap.size → k ≠ d → some k ≠ p → some k ≠ q → w'.heap[k]? = w.heap[k]?
theorem Gr3.trans {d : Nat} {p q : Option Nat} {a w w' : World} (h : Gr3 d p q a w) (k : Gr3 d p q w w') : Gr3 d p q a w' :=
  ⟨k.os.trans h.os, k.tape.trans h.tape, k.output.trans h.output, Nat.le_trans h.size k.size, fun i hi h1 h2 h3 => (k.block i (Nat.lt_of_lt_of_le hi h.size) h1 h2 h3).trans (h.block i hi h1 h2 h3)⟩
theorem Gr3.of_below {d : Nat} {p q : Option Nat} {w w' : World} {N : Nat} (hN : Sz w N) (h : Below N w w') : Gr3 d p q w w' :=
  ⟨h.os, h.tape, h.output, h.size, fun k hk _ _ _ => h.block k (by have e : w.heap.size = N := hN; omega)⟩
theorem Gr3.of_touch {d : Nat} {p q : Option Nat} {w w' : World} (h : Touch d w w') : Gr3 d p q w w' := ⟨h.os, h.tape, h.output, Nat.le_of_eq h.size.symm, fun k _ hk _ _ => h.block k hk⟩
theorem Gr3.of_p {d : Nat} {p q : Option Nat} {w w' : World} (h : Grew p w w') : Gr3 d p q w w' := ⟨h.os, h.tape, h.output, h.size, fun k hk _ h2 _ => h.block k hk h2⟩
theorem Gr3.of_q {d : Nat} {p q : Option Nat} {w w' : World} (h : Grew q w w') : Gr3 d p q w w' := ⟨h.os, h.tape, h.output, h.size, fun k hk _ _ h3 => h.block k hk h3⟩
theorem Gr3.below {d : Nat} {p q : Option Nat} {a w w' : World} {B : Nat} (h : Gr3 d p q w w') (k : Below B a w) (hd : B ≤ d) (hp : ∀ g, p = some g → B ≤ g) (hq : ∀ g, q = some g → B ≤ g) (hB : B ≤ w.heap.size) : Below B a w' :=
  k.trans ⟨h.os, h.tape, h.output, h.size, fun i hi => h.block i (by omega) (by omega) (fun e => by have := hp i e.symm; omega) (fun e => by have := hq i e.symm; omega)⟩
theorem Has.gr3 {d : Nat} {p q : Option Nat} {w w' : World} {b T n : Nat} {f : Nat → Value} (h : Has w b T n f) (g : Gr3 d p q w w') (h1 : b ≠ d) (h2 : p ≠ some b) (h3 : q ≠ some b) : Has w' b T n f :=
  h.same (g.block b h.lt h1 (fun e => h2 e.symm) (fun e => h3 e.symm))
theorem und65 : Tryd.prog.underlying 65 = some (.slice 23) := by kernel_rfl
theorem und66 : Tryd.prog.underlying 66 = some (.slice 4) := by kernel_rfl
theorem keyCell : KCell Tryd.prog 23 32 := kCell_of (k := 32) (v := .agg (cellsOf (fun _ => .int .u8 0) 32)) (by kernel_rfl) (by omega) (by show (cellsOf (fun _ => Value.int .u8 0) 32).size = 32; rfl)
theorem boolCell : OneCell Tryd.prog 4 := oneCell_of (k := 1) (v := .bool false) (by kernel_rfl) (by omega) rfl
theorem boolLit : (Tryd.prog.info? 4).map (fun i => (i.zero, i.size, i.bytes)) = some (some (.bool false), 1, 1) := by kernel_rfl
theorem inf65 : (Tryd.prog.info? 65).map (·.size) = some 1 := by kernel_rfl
theorem inf66 : (Tryd.prog.info? 66).map (·.size) = some 1 := by kernel_rfl
/-- A slice of one array. -/
theorem wpl_lit32 {ops : Array Oper} {rest : List Oper} {o : Oper} {a : Act} {w : World} {Q : Exit → Act → World → Prop} (hgd : o.guard = none) (x : Operand) (ho : o.op = .buildSlice 65 1 #[(0, x)]) (f : Nat → Value) (hx : a.eval x = .agg (cellsOf f 32))
    (N : Nat) (hN : Sz w N) (h : ∀ w1, Sz w1 (N + 1) → Below N w w1 → Has w1 N 23 32 f → wpList Tryd.prog ops Q rest (a.put o.dst (.slice (some ⟨N, 0, none⟩) 1 1)) w1) : wpList Tryd.prog ops Q (o :: rest) a w := by
  have hi : (Tryd.prog.info? 23).map (fun i => (i.zero, i.size)) = some (some (.agg (cellsOf (fun _ => .int .u8 0) 32)), 32) := by kernel_rfl
  cases hq : Tryd.prog.info? 23 with
  | none => simp [hq] at hi
  | some i =>
    simp [hq] at hi
    obtain ⟨h1, h2⟩ := hi
    have e : w.heap.size = N := hN
    refine wpList_buildSlice hgd 65 23 1 _ ho (cellsOf f 32) i _ und65 hq h1 (by rw [h2]; omega) (by rw [h2]; omega) (by
      rw [h2, show ((#[(0, x)] : Array (Nat × Operand)).map fun (i, x) => (i, a.eval x)).toList = [(0, .agg (cellsOf f 32))] from by simp [hx]]
      kernel_rfl) ?_
    rw [e]
    exact h _ (sz_alloc hN _) (below_new w _ N hN) (has_new hN _ 32 f)
/-- What DocAdd leaves where the key is let in. -/
def Added (d : Nat) (R : Rg) (pk ps : Option Addr) (key : Nat → BitVec 8) (w w' : World) : Prop :=
  ∃ (pk' : Option Addr) (ck' : Nat) (ps' : Option Addr) (cs' : Nat), Dc w' d (addR R key) pk' ck' ps' cs' ∧ Gr3 d (blk pk) (blk ps) w w' ∧ (blk pk' = blk pk ∨ ∃ g, blk pk' = some g ∧ w.heap.size ≤ g) ∧ (blk ps' = blk ps ∨ ∃ g, blk ps' = some g ∧ w.heap.size ≤ g)
theorem keys_add (R : Rg) (key : Nat → BitVec 8) (j : Nat) (hj : j < (R.c + 1) * 32) : cat (keysC R) (R.c * 32) (fun j => By (key j)) j = keysC (addR R key) j := by
  unfold cat keysC addR
  simp only
  by_cases h : j < R.c * 32
  · rw [if_pos h, if_neg (by omega)]
  · rw [if_neg h, if_pos (by omega), show j - R.c * 32 = j % 32 from by omega]
theorem sp_add (R : Rg) (key : Nat → BitVec 8) (j : Nat) (hj : j < R.c + 1) : cat (spC R) R.c (fun _ => .bool false) j = spC (addR R key) j := by
  unfold cat spC addR
  simp only
  by_cases h : j < R.c
  · rw [if_pos h, if_neg (by omega)]
  · rw [if_neg h, if_pos (by omega)]
/-- Both appends and both stores lie behind. -/
theorem added_fin {d M : Nat} {R : Rg} {pk ps pk' ps' : Option Addr} {ck cs ck' cs' : Nat} {key : Nat → BitVec 8} {wr wa w5 w6 : World} (hM : Sz wr M) (h0 : Dc wr d R pk ck ps cs) (g : Gr3 d (blk pk) (blk ps) wr wa)
    (ok : OwnK wa 23 32 pk' (R.c + 1) ck' (cat (keysC R) (R.c * 32) (fun j => By (key j)))) (os : Own wa 4 ps' (R.c + 1) cs' (cat (spC R) R.c (fun _ => .bool false)))
    (n1 n2 : Nat) (hn : M ≤ n2) (hn1 : M ≤ n1) (kp : blk pk' = blk pk ∨ (blk pk' = some n1 ∧ n1 < n2)) (kq : blk ps' = blk ps ∨ blk ps' = some n2)
    (t1 : Touch d wa w5) (t2 : Touch d w5 w6) (h6 : Has w6 d 68 74 (upd (upd (dcC pk R.c ck ps cs) 72 (.slice pk' (R.c + 1) ck')) 73 (.slice ps' (R.c + 1) cs'))) : Added d R pk ps key wr w6 := by
  have eM : wr.heap.size = M := hM
  have ld : d < M := h0.h.ltN hM
  have lp : ∀ g, blk pk = some g → g < M := fun g hg => by have := h0.k.lt g hg; omega
  have lq : ∀ g, blk ps = some g → g < M := fun g hg => by have := h0.s.lt g hg; omega
  have kd : ∀ g, blk pk' = some g → g ≠ d := fun g hg => by
    rcases kp with e | ⟨e, _⟩
    · exact h0.kd g (e ▸ hg)
    · rw [e, Option.some.injEq] at hg; omega
  have sd : ∀ g, blk ps' = some g → g ≠ d := fun g hg => by
    rcases kq with e | e
    · exact h0.sd g (e ▸ hg)
    · rw [e, Option.some.injEq] at hg; omega
  refine ⟨pk', ck', ps', cs', ⟨h6.congr (fun j hj => ?_), ((ok.touch t1 kd).touch t2 kd).congr (fun j hj => keys_add R key j hj), ((os.touch t1 sd).touch t2 sd).congr (fun j hj => sp_add R key j hj), kd, sd, fun x hx hy => ?_⟩, (g.trans (Gr3.of_touch t1)).trans (Gr3.of_touch t2), ?_, ?_⟩
  · unfold upd dcC addR
    by_cases e : j = 73
    · rw [if_pos e, if_pos e]
    · rw [if_neg e, if_neg e]
      by_cases e2 : j = 72
      · rw [if_pos e2, if_neg e, if_pos e2]
      · rw [if_neg e2, if_neg e2, if_neg e, if_neg e2]
  · rcases kp with e | ⟨e, el⟩ <;> rcases kq with e' | e'
    · exact h0.ks x (e ▸ hx) (e' ▸ hy)
    · have := lp x (e ▸ hx); rw [e', Option.some.injEq] at hy; omega
    · have := lq x (e' ▸ hy); rw [e, Option.some.injEq] at hx; omega
    · rw [e, Option.some.injEq] at hx; rw [e', Option.some.injEq] at hy; omega
  · rcases kp with e | ⟨e, _⟩
    · exact .inl e
    · exact .inr ⟨n1, e, by omega⟩
  · rcases kq with e | e
    · exact .inl e
    · exact .inr ⟨n2, e, by omega⟩
theorem Added.from {d N : Nat} {R : Rg} {pk ps : Option Addr} {key : Nat → BitVec 8} {w wr w' : World} (hN : Sz w N) (b : Below N w wr) (h : Added d R pk ps key wr w') : Added d R pk ps key w w' := by
  obtain ⟨a, b1, c, e, h1, h2, h3, h4⟩ := h
  exact ⟨a, b1, c, e, h1, (Gr3.of_below hN b).trans h2, h3.imp id (fun ⟨g, hg, hl⟩ => ⟨g, hg, Nat.le_trans b.size hl⟩), h4.imp id (fun ⟨g, hg, hl⟩ => ⟨g, hg, Nat.le_trans b.size hl⟩)⟩
end Go.Proofs.YtcampjgemedhlaaDoor
