/- ObjtabNumbers' state: a table of texts, the numbers of its objects, their texts, each in blocks of its own. -/
import Derived.Test.YtkofhcjgobccoaaObLS
import Derived.Test.YtkofhcjgobccoaaObTS
import Derived.Test.YtkofhcjgobccoaaObDS
import Derived.Test.YtkofhcjgobccoaaOl1
import Derived.Test.YtkofhcjgobccoaaInns
namespace Go.Proofs.Ytkofhcjgobccoaa
open Go Go.RowKit
structure Nu (w0 : World) (N b : Nat) (last : Int) (p : Option Addr) (n cap : Nat) (E : Nat → En ByteArray) (q : Option Addr) (m capq : Nat) (Z : Nat → Int) (r : Option Addr) (k capr : Nat) (X : Nat → ByteArray) (w : World) : Prop where
  o : ObS w b 8 last p n cap E
  l : Own w 3 q m capq (fun j => .int .i64 (Z j))
  a : Own w 9 r k capr (fun j => Value.string (X j))
  bn : N ≤ b
  pn : ∀ g, blk p = some g → N ≤ g
  qn : ∀ g, blk q = some g → N ≤ g ∧ g ≠ b
  rn : ∀ g, blk r = some g → N ≤ g ∧ g ≠ b
  pq : ∀ g, blk p = some g → blk q ≠ some g
  pr : ∀ g, blk p = some g → blk r ≠ some g
  qr : ∀ g, blk q = some g → blk r ≠ some g
  bel : Below N w0 w
section
variable {w0 w w' : World} {N b M : Nat} {last last' : Int} {p p' q q' r r' : Option Addr} {n cap n' cap' m capq m' capq' k capr k' capr' : Nat} {E E' : Nat → En ByteArray} {Z Z' : Nat → Int} {X X' : Nat → ByteArray}
theorem Nu.lt (h : Nu w0 N b last p n cap E q m capq Z r k capr X w) (hM : Sz w M) : b < M ∧ (∀ g, blk p = some g → g < M) ∧ (∀ g, blk q = some g → g < M) ∧ (∀ g, blk r = some g → g < M) := by
  have e : w.heap.size = M := hM
  exact ⟨h.o.h.ltN hM, fun g hg => by have := h.o.e.lt g hg; omega, fun g hg => by have := h.l.lt g hg; omega, fun g hg => by have := h.a.lt g hg; omega⟩
/-- The table has turned, and nothing else. -/
theorem Nu.table (h : Nu w0 N b last p n cap E q m capq Z r k capr X w) (hN : Sz w0 N) (hM : Sz w M) (T : Turn (fun j => j = b ∨ blk p = some j) w w') (hp : ∀ g, blk p' = some g → blk p = some g ∨ M ≤ g) (O : ObS w' b 8 last' p' n' cap' E') :
    Nu w0 N b last' p' n' cap' E' q m capq Z r k capr X w' := by
  obtain ⟨bM, pM, qM, rM⟩ := h.lt hM
  have hNM := below_sz h.bel hN hM
  refine ⟨O, h.l.turn T (fun g hg e => ?_), h.a.turn T (fun g hg e => ?_), h.bn, fun g hg => ?_, h.qn, h.rn, fun g hg e => ?_, fun g hg e => ?_, h.qr, T.below h.bel (fun j hj => ?_) (below_le h.bel hN)⟩
  · rcases e with e | e
    · exact (h.qn g hg).2 e
    · exact h.pq g e hg
  · rcases e with e | e
    · exact (h.rn g hg).2 e
    · exact h.pr g e hg
  · rcases hp g hg with e | e
    · exact h.pn g e
    · omega
  · rcases hp g hg with e' | e'
    · exact h.pq g e' e
    · have := qM g e; omega
  · rcases hp g hg with e' | e'
    · exact h.pr g e' e
    · have := rM g e; omega
  · rcases hj with e | e
    · rw [e]; exact h.bn
    · exact h.pn j e
theorem Nu.below (h : Nu w0 N b last p n cap E q m capq Z r k capr X w) (hN : Sz w0 N) (hM : Sz w M) (hb : Below M w w') : Nu w0 N b last p n cap E q m capq Z r k capr X w' :=
  ⟨h.o.below hM hb, h.l.below hb (Nat.le_of_eq hM), h.a.below hb (Nat.le_of_eq hM), h.bn, h.pn, h.qn, h.rn, h.pq, h.pr, h.qr, h.bel.trans (hb.mono (below_sz h.bel hN hM))⟩
/-- Both rows have turned, each in its block or in a new one. -/
theorem Nu.rows (h : Nu w0 N b last p n cap E q m capq Z r k capr X w) (hN : Sz w0 N) (hM : Sz w M) (T : Turn (fun j => blk q = some j ∨ blk r = some j) w w') (hq : ∀ g, blk q' = some g → blk q = some g ∨ M ≤ g) (hr : ∀ g, blk r' = some g → blk r = some g ∨ M ≤ g)
    (hqr : ∀ g, blk q' = some g → blk r' ≠ some g) (L : Own w' 3 q' m' capq' (fun j => .int .i64 (Z' j))) (A : Own w' 9 r' k' capr' (fun j => Value.string (X' j))) :
    Nu w0 N b last p n cap E q' m' capq' Z' r' k' capr' X' w' := by
  obtain ⟨bM, pM, qM, rM⟩ := h.lt hM
  have hNM := below_sz h.bel hN hM
  refine ⟨⟨h.o.h.turn T (fun e => ?_), h.o.e.turn T (fun g hg e => ?_), h.o.ne⟩, L, A, h.bn, h.pn, fun g hg => ?_, fun g hg => ?_, fun g hg e => ?_, fun g hg e => ?_, hqr, T.below h.bel (fun j hj => ?_) (below_le h.bel hN)⟩
  · rcases e with e | e
    · exact (h.qn b e).2 rfl
    · exact (h.rn b e).2 rfl
  · rcases e with e | e
    · exact h.pq g hg e
    · exact h.pr g hg e
  · rcases hq g hg with e | e
    · exact h.qn g e
    · exact ⟨by omega, by omega⟩
  · rcases hr g hg with e | e
    · exact h.rn g e
    · exact ⟨by omega, by omega⟩
  · rcases hq g e with e' | e'
    · exact h.pq g hg e'
    · have := pM g hg; omega
  · rcases hr g e with e' | e'
    · exact h.pr g hg e'
    · have := pM g hg; omega
  · rcases hj with e | e
    · exact (h.qn j e).1
    · exact (h.rn j e).1
end
/-- The objects' numbers rise; each is held once. -/
structure Nv (j last n : Nat) (E : Nat → En ByteArray) : Prop where
  ns : n ≤ 8
  lj : last ≤ j
  id : ∀ k, k < n → 1 ≤ (E k).id ∧ (E k).id ≤ (last : Int)
  held : ∀ k, k < n → (E k).held = 1
  up : ∀ a c, a < c → c < n → (E a).id < (E c).id
section
variable {j last n : Nat} {E : Nat → En ByteArray}
theorem Nv.other (h : Nv j last n E) {k i : Nat} (hk : k < n) (hi : i < k) {z : Int} (hz : (E k).id = z) : (E i).id ≠ z := by
  have := h.up i k hi hk; omega
theorem Nv.more (h : Nv j last n E) : Nv (j + 1) last n E := ⟨h.ns, Nat.le_succ_of_le h.lj, h.id, h.held, h.up⟩
theorem Nv.make (h : Nv j last n E) (hn : n < 8) (x : ByteArray) : Nv (j + 1) (last + 1) (n + 1) (setE E n ⟨(last : Int) + 1, 1, x⟩) := by
  have hlj := h.lj
  refine ⟨by omega, by omega, fun k hk => ?_, fun k hk => ?_, fun a c hac hc => ?_⟩
  · unfold setE
    by_cases e : k = n
    · rw [if_pos e]; exact ⟨by show (1 : Int) ≤ (last : Int) + 1; omega, by show (last : Int) + 1 ≤ _; omega⟩
    · rw [if_neg e]; have := h.id k (by omega); exact ⟨this.1, by omega⟩
  · unfold setE
    by_cases e : k = n
    · rw [if_pos e]
    · rw [if_neg e]; exact h.held k (by omega)
  · unfold setE
    rw [if_neg (by omega : a ≠ n)]
    by_cases e : c = n
    · rw [if_pos e]; have := (h.id a (by omega)).2; show (E a).id < (last : Int) + 1; omega
    · rw [if_neg e]; exact h.up a c hac (by omega)
/-- One goes; of the others none has its number. -/
theorem Nv.del (h : Nv j last n E) {k : Nat} (hk : k < n) : Nv j last (n - 1) (delE E k) := by
  have ns := h.ns
  refine ⟨by omega, h.lj, fun i hi => ?_, fun i hi => ?_, fun a c hac hc => ?_⟩
  · unfold delE
    split
    · exact h.id i (by omega)
    · exact h.id (i + 1) (by omega)
  · unfold delE
    split
    · exact h.held i (by omega)
    · exact h.held (i + 1) (by omega)
  · unfold delE
    split <;> split
    · exact h.up a c hac (by omega)
    · exact h.up a (c + 1) (by omega) (by omega)
    · omega
    · exact h.up (a + 1) (c + 1) (by omega) (by omega)
theorem Nv.gone (h : Nv j last n E) {k : Nat} (hk : k < n) (i : Nat) (hi : i < n - 1) : (delE E k i).id ≠ (E k).id := by
  unfold delE
  split
  · rename_i e
    have := h.up i k e hk
    omega
  · rename_i e
    have := h.up k (i + 1) (by omega) (by omega)
    omega
end
end Go.Proofs.Ytkofhcjgobccoaa
