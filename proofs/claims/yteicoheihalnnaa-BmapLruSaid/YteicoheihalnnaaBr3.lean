/- BmapLru: lists of the call's own. -/
import Derived.Test.YteicoheihalnnaaBr2
import Derived.Test.YteicoheihalnnaaBa2
import Derived.Test.YteicoheihalnnaaAts2
import Derived.Test.YteicoheihalnnaaBc1
import Derived.Deep.CutBlock
import Derived.Deep.DeepCutAuto
import Derived.Deep.LoopGhost
namespace Go.Proofs.Yteicoheihalnnaa
open Go Go.RowKit
theorem oneBy : OneCell Try.prog 5 := oneCell_of zBy (by omega) rfl
section
variable {ops : Array Oper} {rest : List Oper} {o : Oper} {a : Act} {w : World} {Q : Exit → Act → World → Prop}
/-- An empty list, written out. -/
theorem wpl_bs0 (hgd : o.guard = none) (ho : o.op = .buildSlice 22 0 #[]) (N : Nat) (hN : Sz w N)
    (h : ∀ w1, Sz w1 (N + 1) → Below N w w1 → Own w1 5 (some ⟨N, 0, none⟩) 0 0 (fun _ => By 0#8) → wpList Try.prog ops Q rest (a.put o.dst (.slice (some ⟨N, 0, none⟩) 0 0)) w1) : wpList Try.prog ops Q (o :: rest) a w := by
  have e : w.heap.size = N := hN
  subst e
  refine wpl_run hgd (.slice (some ⟨w.heap.size, 0, none⟩) 0 0) (w.alloc (.cells #[] 5)) ?_ (h _ (sz_alloc rfl _) (below_new _ _ _ rfl) (.inr ⟨w.heap.size, #[], rfl, heap_alloc_new w _, Nat.le_refl _, rfl, fun j hj => by omega⟩))
  clear h hN
  generalize a.eval = ev at *
  unfold execOp
  simp only [ho]
  go_simp
theorem wpl_appR {P : Program} (hgd : o.guard = none) (s x : Operand) (t : TypeId) (ho : o.op = .call { callee := .builtin .append, args := #[s, x], argTypes := #[t, t] })
    (E : TypeId) (ht : P.underlying t = some (.slice E)) (hi : OneCell P E)
    (p : Option Addr) (n cap : Nat) (hsv : a.eval s = .slice p n cap) (f : Nat → Value) (hown : Own w E p n cap f) (q : Option Addr) (m c : Nat) (hxv : a.eval x = .slice q m c) (g : Nat → Value) (hq : Cells w q m g)
    (h1 : ∀ j, j < m → (g j).oneCell' = true) (hsmall : n + m ≤ 10000000) (r : Nat) (hr : r = n + m)
    (h : ∀ p' cap' w', Own w' E p' r cap' (cat f n g) → Grew (blk p) w w' → (blk p' = blk p ∨ blk p' = some w.heap.size) → wpList P ops Q rest (a.put o.dst (.slice p' r cap')) w') : wpList P ops Q (o :: rest) a w := by
  subst hr
  exact wpl_app hgd s x t ho E ht hi p n cap hsv f hown q m c hxv g hq h1 hsmall (fun p' cap' w' a b c _ => h p' cap' w' a b c)
end
/-- A list of numbers below 9, of the call's own. -/
def lu (U : Nat → Nat) : Nat → Value := fun j => By (b8 (U j))
theorem Own.tail {w : World} {g nu cu a : Nat} {U : Nat → Nat} (h : Own w 5 (some ⟨g, 0, none⟩) nu cu (lu U)) (ha : a < nu) (q : Option Addr) (hq : q = (if cu = a + 1 then some ⟨g, 0, none⟩ else (some (⟨g, 0, none⟩ : Addr)).map (·.add ((a + 1) * 1)))) : Cells w q (nu - (a + 1)) (fun j => lu U (a + 1 + j)) := fun h0 => by
  have hle := h.le
  obtain ⟨g', e, hc⟩ := h.cell (by omega)
  obtain rfl : g = g' := by injection e with e; injection e
  refine ⟨⟨g, a + 1, none⟩, ?_, fun j hj => ?_⟩
  · rw [hq, if_neg (by omega)]
    simp [Addr.add_mid]
  · rw [Addr.add_mid]
    have := hc (a + 1 + j) (by omega)
    rwa [Nat.zero_add] at this
theorem Own.front {w : World} {g nu cu a : Nat} {U : Nat → Nat} (h : Own w 5 (some ⟨g, 0, none⟩) nu cu (lu U)) (ha : a ≤ nu) : Cells w (some ⟨g, 0, none⟩) a (lu U) := fun h0 => by
  obtain ⟨g', e, hc⟩ := h.cell (by omega)
  obtain rfl : g = g' := by injection e with e; injection e
  refine ⟨⟨g, 0, none⟩, rfl, fun j hj => ?_⟩
  rw [Addr.add_mid]
  exact hc j (by omega)
theorem lu_one (U : Nat → Nat) (j : Nat) : (lu U j).oneCell' = true := rfl
theorem Lr.turn {w0 w w' : World} {N M b n nn : Nat} {U : Nat → Nat} {m : Mp} {S : Nat → Prop} (h : Lr w0 N b n nn U m w) (hM : Sz w M) (hNM : N ≤ M) (T : Turn S w w') (hlo : ∀ k, S k → N ≤ k) (hF : ∀ k, Foot m k → ¬ S k) : Lr w0 N b n nn U m w' :=
  ⟨h.at_.turn T hF, h.eb, h.ety, h.ekey, h.eval, h.eent, h.efz, h.en, h.n1, h.n6, h.nnn, h.lo, T.below h.bel hlo (by have e : w.heap.size = M := hM; omega), h.u9, h.inj, h.ks, h.vs⟩
theorem cat_drop (U : Nat → Nat) (f : Nat → Value) (a j : Nat) : cat (cat f 0 (lu U)) a (fun j => lu U (a + 1 + j)) j = lu (delF U a) j := by
  unfold cat lu delF
  by_cases h : j < a
  · rw [if_pos h, if_neg (Nat.not_lt_zero j), if_pos h, Nat.sub_zero]
  · rw [if_neg h, if_neg h]
    show By (b8 (U (a + 1 + (j - a)))) = _
    rw [show a + 1 + (j - a) = j + 1 by omega]
theorem cat_front (U : Nat → Nat) (f : Nat → Value) (j : Nat) : cat f 0 (fun j => lu U (0 + 1 + j)) j = lu (delF U 0) j := by
  unfold cat lu delF
  rw [if_neg (Nat.not_lt_zero j), if_neg (Nat.not_lt_zero j), Nat.sub_zero]
  show By (b8 (U (0 + 1 + j))) = _
  rw [show 0 + 1 + j = j + 1 by omega]
theorem cat_last (U : Nat → Nat) (nn c j : Nat) (hj : j < nn + 1) : cat (lu U) nn (fun _ => By (b8 c)) j = lu (setF U nn c) j := by
  unfold cat lu setF
  by_cases h : j < nn
  · rw [if_pos h, if_neg (by omega)]
  · rw [if_neg h, if_pos (by omega)]
def atV (a jj : Nat) : Value := if a < jj then .int .i64 (a : Int) else .int .i64 (-1)
end Go.Proofs.Yteicoheihalnnaa
