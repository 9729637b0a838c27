/- Both registries hold the same: what each call leaves. -/
import Derived.Test.YtcampjgemedhlaaDoorRg11
namespace Go.Proofs.YtcampjgemedhlaaDoor
open Go Go.RowKit Sha
/-- Both registries hold R, each where it lies. -/
def LS (w : World) (N r d : Nat) (R : Rg) (wr : World) : Prop :=
  R.c ≤ 32 ∧ Below N w wr ∧ Has wr r 98 1057 (rgC R) ∧ ∃ (pk : Option Addr) (ck : Nat) (ps : Option Addr) (cs : Nat), Dc wr d R pk ck ps cs ∧ (∀ g, blk pk = some g → N ≤ g ∧ g ≠ r) ∧ (∀ g, blk ps = some g → N ≤ g ∧ g ≠ r)
theorem LS.below {w wr w' : World} {N M r d : Nat} {R : Rg} (h : LS w N r d R wr) (b : Below M wr w') (hM : Sz wr M) (hNM : N ≤ M) : LS w N r d R w' := by
  obtain ⟨h1, h2, h3, pk, ck, ps, cs, h4, h5, h6⟩ := h
  exact ⟨h1, h2.trans (b.mono hNM), h3.below b (h3.ltN hM), pk, ck, ps, cs, h4.below b hM, h5, h6⟩
theorem Dc.mod {w w' : World} {d r : Nat} {R : Rg} {pk ps : Option Addr} {ck cs : Nat} (h : Dc w d R pk ck ps cs) (m : Mod r w w') (hd : d ≠ r) (hp : ∀ g, blk pk = some g → g ≠ r) (hq : ∀ g, blk ps = some g → g ≠ r) : Dc w' d R pk ck ps cs :=
  ⟨h.h.mod m hd, h.k.same (fun k hk => m.block k (h.k.lt k hk) (hp k hk)), h.s.same (fun k hk => m.block k (h.s.lt k hk) (hq k hk)), h.kd, h.sd, h.ks⟩
/-- The document's registry has come to R', the other one holds it: both hold R'. -/
theorem LS.moved {w wr w' : World} {N M r d : Nat} {R' : Rg} {pk ps : Option Addr} (hM : Sz wr M) (hN : Below N w wr) (hNM : N ≤ M) (hrN : N ≤ r) (hdN : N ≤ d) (hrd : r ≠ d) (hc : R'.c ≤ 32) (hr : Has wr r 98 1057 (rgC R'))
    (hp : ∀ g, blk pk = some g → N ≤ g ∧ g ≠ r) (hq : ∀ g, blk ps = some g → N ≤ g ∧ g ≠ r) (h : Moved d pk ps R' wr w') : LS w N r d R' w' := by
  obtain ⟨pk', ck', ps', cs', hD, g, kp, kq⟩ := h
  have e : wr.heap.size = M := hM
  have lr := hr.ltN hM
  refine ⟨hc, g.below hN hdN (fun x hx => (hp x hx).1) (fun x hx => (hq x hx).1) (by omega), hr.gr3 g hrd (fun e => (hp r e).2 rfl) (fun e => (hq r e).2 rfl), pk', ck', ps', cs', hD, fun x hx => ?_, fun x hx => ?_⟩
  · rcases kp with k | ⟨y, k, hy⟩
    · exact hp x (k ▸ hx)
    · rw [k, Option.some.injEq] at hx; omega
  · rcases kq with k | ⟨y, k, hy⟩
    · exact hq x (k ▸ hx)
    · rw [k, Option.some.injEq] at hx; omega
/-- The document's registry has come to R' first. -/
theorem LS.moved2 {w wr w' w'' : World} {N M r d : Nat} {R' : Rg} {pk ps : Option Addr} (hM : Sz wr M) (hN : Below N w wr) (hNM : N ≤ M) (hrN : N ≤ r) (hdN : N ≤ d) (hrd : r ≠ d) (hrM : r < M) (hc : R'.c ≤ 32)
    (hp : ∀ g, blk pk = some g → N ≤ g ∧ g ≠ r) (hq : ∀ g, blk ps = some g → N ≤ g ∧ g ≠ r) (h : Moved d pk ps R' wr w') (m : Mod r w' w'') (hr : Has w'' r 98 1057 (rgC R')) : LS w N r d R' w'' := by
  obtain ⟨pk', ck', ps', cs', hD, g, kp, kq⟩ := h
  have e : wr.heap.size = M := hM
  have hp' : ∀ x, blk pk' = some x → N ≤ x ∧ x ≠ r := fun x hx => by
    rcases kp with k | ⟨y, k, hy⟩
    · exact hp x (k ▸ hx)
    · rw [k, Option.some.injEq] at hx; omega
  have hq' : ∀ x, blk ps' = some x → N ≤ x ∧ x ≠ r := fun x hx => by
    rcases kq with k | ⟨y, k, hy⟩
    · exact hq x (k ▸ hx)
    · rw [k, Option.some.injEq] at hx; omega
  have b1 := g.below hN hdN (fun x hx => (hp x hx).1) (fun x hx => (hq x hx).1) (by omega)
  exact ⟨hc, m.below b1 hrN (by have := g.size; omega), hr, pk', ck', ps', cs', hD.mod m (Ne.symm hrd) (fun x hx => (hp' x hx).2) (fun x hx => (hq' x hx).2), hp', hq'⟩
theorem Moved.has {w w' : World} {d M : Nat} {R : Rg} {pk ps : Option Addr} {b T n : Nat} {f : Nat → Value} (h : Moved d pk ps R w w') (hb : Has w b T n f) (h1 : b ≠ d) (h2 : blk pk ≠ some b) (h3 : blk ps ≠ some b) : Has w' b T n f := by
  obtain ⟨_, _, _, _, _, g, _, _⟩ := h
  exact hb.gr3 g h1 h2 h3
theorem Moved.size {w w' : World} {d : Nat} {R : Rg} {pk ps : Option Addr} (h : Moved d pk ps R w w') : w.heap.size ≤ w'.heap.size := by
  obtain ⟨_, _, _, _, _, g, _, _⟩ := h
  exact g.size
end Go.Proofs.YtcampjgemedhlaaDoor
