/- Which blocks may have turned; a slice that is cut; append where there is room; clear. Nothing of the program. -/
import Derived.Test.YtilhkgbninbkkaaDoorOw2
namespace Go.Proofs.YtilhkgbninbkkaaDoor
open Go Go.RowKit
/-- Blocks of S may have turned, and there may be new ones. -/
structure Turn (S : Nat → Prop) (w w' : World) : Prop where
  os : w'.os = w.os
  tape : w'.tape = w.tape
  output : w'.output = w.output
  size : w.heap.size ≤ w'.heap.size
  block : ∀ k, k < w.heap.size → ¬ S k → w'.heap[k]? = w.heap[k]?
section
variable {S R : Nat → Prop} {a b c w w' : World}
theorem Turn.refl (S : Nat → Prop) (w : World) : Turn S w w := ⟨rfl, rfl, rfl, Nat.le_refl _, fun _ _ _ => rfl⟩
theorem Turn.trans (h : Turn S a b) (k : Turn R b c) (e : ∀ j, R j → j < a.heap.size → S j) : Turn S a c :=
  ⟨k.os.trans h.os, k.tape.trans h.tape, k.output.trans h.output, Nat.le_trans h.size k.size, fun i hi hS => (k.block i (Nat.lt_of_lt_of_le hi h.size) (fun hR => hS (e i hR hi))).trans (h.block i hi hS)⟩
theorem Turn.mono (h : Turn S w w') (e : ∀ k, S k → R k) : Turn R w w' := ⟨h.os, h.tape, h.output, h.size, fun k hk hR => h.block k hk (fun hS => hR (e k hS))⟩
theorem Turn.below {B : Nat} (h : Turn S w w') (k : Below B a w) (hS : ∀ j, S j → B ≤ j) (hB : B ≤ w.heap.size) : Below B a w' :=
  k.trans ⟨h.os, h.tape, h.output, h.size, fun i hi => h.block i (by omega) (fun hs => by have := hS i hs; omega)⟩
theorem turn_below {N : Nat} (hN : Sz w N) (h : Below N w w') (S : Nat → Prop) : Turn S w w' := ⟨h.os, h.tape, h.output, h.size, fun k hk _ => h.block k (by have e : w.heap.size = N := hN; omega)⟩
theorem Touch.turn {d : Nat} (h : Touch d w w') : Turn (fun k => k = d) w w' := ⟨h.os, h.tape, h.output, Nat.le_of_eq h.size.symm, fun k _ hk => h.block k hk⟩
theorem Grew.turn {d : Option Nat} (h : Grew d w w') : Turn (fun k => d = some k) w w' := ⟨h.os, h.tape, h.output, h.size, fun k hk hn => h.block k hk (fun e => hn e.symm)⟩
theorem Has.turn {d T n : Nat} {f : Nat → Value} (h : Has w d T n f) (t : Turn S w w') (hn : ¬ S d) : Has w' d T n f := h.same (t.block d h.lt hn)
theorem OwnK.turn {E s n cap : Nat} {p : Option Addr} {f : Nat → Value} (h : OwnK w E s p n cap f) (t : Turn S w w') (hn : ∀ g, blk p = some g → ¬ S g) : OwnK w' E s p n cap f :=
  h.same (fun k hk => t.block k (h.lt k hk) (hn k hk))
theorem Own.turn {E n cap : Nat} {p : Option Addr} {f : Nat → Value} (h : Own w E p n cap f) (t : Turn S w w') (hn : ∀ g, blk p = some g → ¬ S g) : Own w' E p n cap f :=
  h.same (fun k hk => t.block k (h.lt k hk) (hn k hk))
end
section
variable {w : World} {E s g n m cap : Nat} {p : Option Addr} {f : Nat → Value}
theorem OwnK.cut (h : OwnK w E s p n cap f) (hm : m ≤ n) : OwnK w E s p m cap f := by
  rcases h with ⟨h1, h2, h3⟩ | ⟨g, C, e, hg, h1, h2, h3⟩
  · exact .inl ⟨h1, by omega, h3⟩
  · exact .inr ⟨g, C, e, hg, by omega, h2, fun j hj => h3 j (by have := Nat.mul_le_mul_right s hm; omega)⟩
end
section
variable {P : Program}
theorem size_of {E s : Nat} (hs : (P.info? E).map (·.size) = some s) : ∃ i, P.info? E = some i ∧ i.size = s := by
  cases hq : P.info? E with
  | none => simp [hq] at hs
  | some i => exact ⟨i, rfl, by simpa [hq] using hs⟩
variable {ops : Array Oper} {rest : List Oper} {o : Oper} {a : Act} {w : World} {Q : Exit → Act → World → Prop}
end
end Go.Proofs.YtilhkgbninbkkaaDoor
