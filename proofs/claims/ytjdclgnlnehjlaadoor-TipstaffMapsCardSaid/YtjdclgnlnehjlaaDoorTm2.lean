/- TipstaffMaps: six maps beside each other, and what was put into them. -/
import Derived.Test.YtjdclgnlnehjlaaDoorTm1
namespace Go.Proofs.YtjdclgnlnehjlaaDoor
open Go Go.RowKit
/-- The i-th type: an Array's, a Hash's, an LRU's; then again. -/
def ty3 (i : Nat) : Nat := i % 3
/-- A row of wanted values. -/
def rowV (rows : Nat → Option Nat) : Nat → Value := fun k => match rows k with | none => .slice none 0 0 | some b => .slice (some ⟨b, 0, none⟩) 2 2
/-- The six maps; the law's own rows. -/
structure SixW (w : World) (N : Nat) (B : Nat → Nat) (TH : Nat → Nat → Bool) (VV : Nat → Nat → Nat → BitVec 8) (wb : Nat) (rows : Nat → Option Nat) (V : Nat → Nat → BitVec 8) (Mf : Nat → Mp) (wr : World) : Prop where
  lo : Below N w wr
  mh : ∀ i, i < 6 → (Mf i).b = B i ∧ MH (ty3 i) (Mf i) (TH i) (VV i) wr
  dis : ∀ i j, i < 6 → j < 6 → i ≠ j → ∀ x, Foot (Mf i) x → ¬ Foot (Mf j) x
  own : ∀ i, i < 6 → ∀ x, Foot (Mf i) x → N + 2 ≤ x ∧ x ≠ wb ∧ ∀ k, k < 8 → rows k ≠ some x
  wN : N + 2 ≤ wb
  ha : Has wr N 51 3 (fun j => .pointer (some ⟨B j, 0, none⟩))
  hb : Has wr (N + 1) 51 3 (fun j => .pointer (some ⟨B (3 + j), 0, none⟩))
  hw : Has wr wb 53 8 (rowV rows)
  rw : ∀ k, k < 8 → ∀ b, rows k = some b → b ≠ wb ∧ N + 2 ≤ b ∧ Has wr b 5 2 (fun j => By (V k j))
section
variable {w wr w2 : World} {N M wb : Nat} {B : Nat → Nat} {TH : Nat → Nat → Bool} {VV : Nat → Nat → Nat → BitVec 8} {rows : Nat → Option Nat} {V : Nat → Nat → BitVec 8} {Mf : Nat → Mp}
theorem SixW.lt (F : SixW w N B TH VV wb rows V Mf wr) (hM : Sz wr M) {i x : Nat} (hi : i < 6) (h : Foot (Mf i) x) : x < M := (F.mh i hi).2.at_.lt hM x h
theorem SixW.below (F : SixW w N B TH VV wb rows V Mf wr) (hM : Sz wr M) (b : Below M wr w2) : SixW w N B TH VV wb rows V Mf w2 := by
  have hr := F.ha.ltN hM
  have t := turn_below hM b (fun _ => False)
  exact ⟨F.lo.trans (b.mono (by omega)), fun i hi => ⟨(F.mh i hi).1, (F.mh i hi).2.turn t (fun _ _ h => h)⟩, F.dis, F.own, F.wN, F.ha.below b hr, F.hb.below b (F.hb.ltN hM), F.hw.below b (F.hw.ltN hM), fun k hk c hc => ⟨(F.rw k hk c hc).1, (F.rw k hk c hc).2.1, (F.rw k hk c hc).2.2.below b ((F.rw k hk c hc).2.2.ltN hM)⟩⟩
theorem SixW.congr {TH' : Nat → Nat → Bool} {VV' : Nat → Nat → Nat → BitVec 8} (F : SixW w N B TH VV wb rows V Mf wr) (h1 : ∀ i, i < 6 → ∀ x, x < 8 → TH' i x = TH i x) (h2 : ∀ i, i < 6 → ∀ x, x < 8 → ∀ j, j < 2 → VV' i x j = VV i x j) : SixW w N B TH' VV' wb rows V Mf wr :=
  ⟨F.lo, fun i hi => ⟨(F.mh i hi).1, (F.mh i hi).2.congr (h1 i hi) (h2 i hi)⟩, F.dis, F.own, F.wN, F.ha, F.hb, F.hw, F.rw⟩
def setN {α : Type} (f : Nat → α) (i : Nat) (a : α) : Nat → α := fun j => if j = i then a else f j
theorem setN_eq {α : Type} (f : Nat → α) (i : Nat) (a : α) : setN f i a i = a := if_pos rfl
theorem setN_ne {α : Type} (f : Nat → α) {i j : Nat} (a : α) (h : j ≠ i) : setN f i a j = f j := if_neg h
/-- One of the maps has turned. -/
theorem SixW.step {m' : Mp} {th' : Nat → Bool} {V' : Nat → Nat → BitVec 8} {i : Nat} (F : SixW w N B TH VV wb rows V Mf wr) (hM : Sz wr M) (hi : i < 6) (eb : m'.b = (Mf i).b) (h : MH (ty3 i) m' th' V' w2) (t : Turn (Foot (Mf i)) wr w2) (hf : ∀ x, Foot m' x → Foot (Mf i) x ∨ M ≤ x) :
    SixW w N B (setN TH i th') (setN VV i V') wb rows V (setN Mf i m') w2 := by
  have ltM : ∀ {x}, x < wr.heap.size → x < M := fun h => by have e : wr.heap.size = M := hM; omega
  have keep : ∀ {b T n : Nat} {f : Nat → Value}, Has wr b T n f → (Foot (Mf i) b → False) → Has w2 b T n f := fun h hn => h.turn t hn
  have hNM : N + 2 ≤ M := by have := F.hb.ltN hM; omega
  refine ⟨t.below F.lo (fun j hj => by have := (F.own i hi j hj).1; omega) (by have e : wr.heap.size = M := hM; omega), fun j hj => ?_, fun j k hj hk hne x hx hy => ?_, fun j hj x hx => ?_, F.wN, keep F.ha (fun h => by have := (F.own i hi _ h).1; omega), keep F.hb (fun h => by have := (F.own i hi _ h).1; omega), keep F.hw (fun h => (F.own i hi _ h).2.1 rfl), fun k hk b hb => ⟨(F.rw k hk b hb).1, (F.rw k hk b hb).2.1, keep (F.rw k hk b hb).2.2 (fun h => (F.own i hi _ h).2.2 k hk hb)⟩⟩
  · by_cases e : j = i
    · subst e
      rw [setN_eq, setN_eq, setN_eq]
      exact ⟨eb.trans (F.mh j hi).1, h⟩
    · rw [setN_ne _ _ e, setN_ne _ _ e, setN_ne _ _ e]
      exact ⟨(F.mh j hj).1, (F.mh j hj).2.turn t (fun x hx => F.dis j i hj hi e x hx)⟩
  · by_cases e1 : j = i
    · subst e1
      rw [setN_eq] at hx
      rw [setN_ne _ _ (fun e => hne e.symm)] at hy
      rcases hf x hx with h1 | h1
      · exact F.dis j k hj hk hne x h1 hy
      · have := F.lt hM hk hy; omega
    · rw [setN_ne _ _ e1] at hx
      by_cases e2 : k = i
      · subst e2
        rw [setN_eq] at hy
        rcases hf x hy with h1 | h1
        · exact F.dis j k hj hk hne x hx h1
        · have := F.lt hM hj hx; omega
      · rw [setN_ne _ _ e2] at hy
        exact F.dis j k hj hk hne x hx hy
  · by_cases e : j = i
    · subst e
      rw [setN_eq] at hx
      rcases hf x hx with h1 | h1
      · exact F.own j hj x h1
      · refine ⟨by omega, fun e => ?_, fun k hk e => ?_⟩
        · have := F.hw.ltN hM; omega
        · have := (F.rw k hk x e).2.2.ltN hM; omega
    · rw [setN_ne _ _ e] at hx
      exact F.own j hj x hx
/-- A wanted value more: its row stands there already. -/
theorem SixW.want {k b : Nat} {D : Nat → BitVec 8} {w3 : World} (F : SixW w N B TH VV wb rows V Mf w2) (hk : k < 8) (hM : Sz w2 M) (hb : Has w2 b 5 2 (fun j => By (D j))) (nb : b ≠ wb) (n2 : N + 2 ≤ b) (nf : ∀ i, i < 6 → ¬ Foot (Mf i) b)
    (t : Touch wb w2 w3) (hh : Has w3 wb 53 8 (upd (rowV rows) k (.slice (some ⟨b, 0, none⟩) 2 2))) : SixW w N B TH VV wb (setN rows k (some b)) (vS V k D) Mf w3 := by
  have wN := F.wN
  have keep : ∀ {c T n : Nat} {f : Nat → Value}, Has w2 c T n f → c ≠ wb → Has w3 c T n f := fun h hn => h.touch t hn
  have tt : Turn (fun x => x = wb) w2 w3 := ⟨t.os, t.tape, t.output, Nat.le_of_eq t.size.symm, fun x _ hx => t.block x hx⟩
  refine ⟨t.below F.lo (by omega), fun i hi => ⟨(F.mh i hi).1, (F.mh i hi).2.turn tt (fun x hx e => (F.own i hi x hx).2.1 e)⟩, F.dis, fun i hi x hx => ?_, F.wN, keep F.ha (by omega), keep F.hb (by omega), hh.congr (fun j hj => ?_), fun k' hk' c hc => ?_⟩
  · obtain ⟨h1, h2, h3⟩ := F.own i hi x hx
    refine ⟨h1, h2, fun k' hk' e => ?_⟩
    by_cases e' : k' = k
    · subst e'
      rw [setN_eq] at e
      injection e with e
      subst e
      exact nf i hi hx
    · rw [setN_ne _ _ e'] at e
      exact h3 k' hk' e
  · unfold upd rowV
    by_cases e : j = k
    · subst e; rw [if_pos rfl, setN_eq]
    · rw [if_neg e, setN_ne _ _ e]
  · by_cases e' : k' = k
    · subst e'
      rw [setN_eq] at hc
      injection hc with hc
      subst hc
      unfold vS
      rw [if_pos rfl]
      exact ⟨nb, n2, keep hb nb⟩
    · rw [setN_ne _ _ e'] at hc
      obtain ⟨h1, h2, h3⟩ := F.rw k' hk' c hc
      refine ⟨h1, h2, ?_⟩
      have e9 : vS V k D k' = V k' := by unfold vS; rw [if_neg e']
      rw [e9]
      exact keep h3 h1
end
end Go.Proofs.YtjdclgnlnehjlaaDoor
