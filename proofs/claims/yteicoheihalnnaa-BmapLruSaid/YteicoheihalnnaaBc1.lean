/- BmapCells: the map of the law. -/
import Derived.Test.YteicoheihalnnaaBk
import Derived.Test.YteicoheihalnnaaBl1
import Derived.Test.YteicoheihalnnaaTill
import Derived.Laws.BitsAllLaws
namespace Go.Proofs.Yteicoheihalnnaa
open Go Go.RowKit
theorem anyI_true {P : Program} {md : Region.Mode} {ops : Array Oper} {Q : Exit → Act → World → Prop} : ∀ (fuel : Nat) (listed : Array Bool) (a : Act) (w : World), wpAny P md ops Q fuel listed a w → anyI P md ops Q (fun _ => True) fuel listed a w
  | 0, _, _, _, h => h
  | fuel + 1, listed, _, _, h => ⟨h.1, fun i hi => wpOp_mono (fun a' w' h' => ⟨trivial, anyI_true fuel _ a' w' h'⟩) (h.2 i hi)⟩
theorem xor_seven (x : BitVec 8) : bits .xor .u8 (v8 x) 7 = v8 (x ^^^ 7#8) := by
  unfold v8; rw [BitVec.toNat_xor]; exact u8_xor_nat _ 7 x.isLt (by omega)
/-- A map of one entry, with its key, its cell, its byte. -/
structure Ce (w0 : World) (N b cb bb kb : Nat) (K : Nat → BitVec 8) (t : ByteArray) (x : BitVec 8) (m : Mp) (w : World) : Prop where
  at_ : MpAt w m
  b : m.b = b
  ty : m.ty = 1
  key : m.key = 4
  val : m.val = 1
  ent : m.ent = 4
  fz : m.fz = false
  n : m.n = 1
  k : (m.E 0).k = t
  t : t = strOf K 4
  c : (m.E 0).c = cb
  bb : (m.E 0).b = bb
  v : (m.E 0).v 0 = x
  kh : Has w kb 5 4 (fun j => By (K j))
  kf : ¬ Foot m kb
  lo : ∀ k, Foot m k → N ≤ k
  bel : Below N w0 w
section
variable {w0 w w' : World} {N M b cb bb kb : Nat} {K : Nat → BitVec 8} {t : ByteArray} {x : BitVec 8} {m : Mp}
theorem Ce.kat (h : Ce w0 N b cb bb kb K t x m w) : KAt m t 0 := ⟨by rw [h.n]; omega, h.k, fun i hi => by omega⟩
theorem Ce.low (h : Ce w0 N b cb bb kb K t x m w) (hM : Sz w M) (hb : Below M w w') (hNM : N ≤ M) : Ce w0 N b cb bb kb K t x m w' :=
  ⟨h.at_.below hM hb, h.b, h.ty, h.key, h.val, h.ent, h.fz, h.n, h.k, h.t, h.c, h.bb, h.v, h.kh.below hb (h.kh.ltN hM), h.kf, h.lo, h.bel.trans (hb.mono hNM)⟩
theorem Ce.drewN (h : Ce w0 N b cb bb kb K t x m w) (y : Nat) : Ce w0 N b cb bb kb K t x m (w.drewN y) :=
  ⟨h.at_.drewN y, h.b, h.ty, h.key, h.val, h.ent, h.fz, h.n, h.k, h.t, h.c, h.bb, h.v, h.kh, h.kf, h.lo, below_drewN h.bel y⟩
theorem Ce.cell (h : Ce w0 N b cb bb kb K t x m w) : Has w cb 36 1 (fun _ => .slice (some ⟨bb, 0, none⟩) 1 1) := by
  have := h.at_.c 0 (by rw [h.n]; omega)
  rw [h.c, h.bb, h.val] at this
  exact this
theorem Ce.byte (h : Ce w0 N b cb bb kb K t x m w) : Has w bb 5 1 (fun _ => By x) := by
  have := h.at_.v 0 (by rw [h.n]; omega)
  rw [h.bb, h.val] at this
  exact one_congr this h.v
theorem Ce.set (h : Ce w0 N b cb bb kb K t x m w) (hM : Sz w M) (hNM : N ≤ M) (X : Nat → BitVec 8) (T : Turn (fun j => j = (m.E 0).b) w w') (A : MpAt w' (m.set 0 X)) : Ce w0 N b cb bb kb K t (X 0) (m.set 0 X) w' := by
  have h1 : 0 < m.n := by rw [h.n]; omega
  have hF : ∀ j, j = (m.E 0).b → Foot m j := fun j hj => .inr (.inr ⟨0, h1, .inr hj⟩)
  refine ⟨A, h.b, h.ty, h.key, h.val, h.ent, h.fz, h.n, h.k, h.t, h.c, h.bb, rfl, h.kh.turn T (fun hj => h.kf (hF _ hj)), fun hf => h.kf (foot_set hf), fun j hj => h.lo j (foot_set hj), ?_⟩
  exact T.below h.bel (fun j hj => h.lo j (hF j hj)) (by have e : w.heap.size = M := hM; omega)
/-- The cell's byte is written from outside. -/
theorem Ce.poke (h : Ce w0 N b cb bb kb K t x m w) (y : BitVec 8) (hM : Sz w M) (hNM : N ≤ M) (T : Touch bb w w') (k : Has w' bb 5 1 (fun _ => By y)) : Ce w0 N b cb bb kb K t y (m.set 0 (fun _ => y)) w' := by
  refine h.set hM hNM (fun _ => y) (by rw [h.bb]; exact T.turn) (h.at_.setv 0 (by rw [h.n]; omega) (fun _ => y) (by rw [h.bb]; exact T) ?_)
  rw [h.bb, h.val]
  exact k
end
theorem Ce_upd (w0 w : World) (N M b cb bb kb : Nat) (K : Nat → BitVec 8) (t : ByteArray) (x y : BitVec 8) (m : Mp) (h : Ce w0 N b cb bb kb K t x m w) (hM : Sz w M) (hNM : N ≤ M) (kc : Nat) (q : Option Addr) (cq : Nat) (hq : Ats w q 1 (fun _ => By y)) :
    Calls Try.prog 10 #[.pointer (some ⟨b, 0, none⟩), .slice (some ⟨kb, 0, none⟩) 4 kc, .slice q 1 cq, .int .u64 0] w fun e w' => e = .returned (.int .i64 0) ∧ ∃ m', Ce w0 N b cb bb kb K t y m' w' := by
  have hk := h.kat
  have hv := h.val
  have hn := h.n
  have ht := h.ty
  have hK : KeyIs m K t := by have := keyIs_of m 1 4 h.ty h.key (by decide) K; rw [← h.t] at this; exact this
  have U := Upd_set m K t hK h.fz (by omega) 0 hk 0 (by omega) (by omega) (by omega) (by omega) (by omega) (some ⟨kb, 0, none⟩) kc q cq (fun _ => y) w M hM h.at_ (by rw [h.key]; exact h.kh.ats) (by rw [h.val]; exact hq)
  rw [h.key, h.val, h.b] at U
  exact U.mono (fun e w' ⟨e1, T, A⟩ => ⟨e1, _, h.set hM hNM (fun _ => y) T A⟩)
theorem Ce_look (w0 w : World) (N M b cb bb kb : Nat) (K : Nat → BitVec 8) (t : ByteArray) (x : BitVec 8) (m : Mp) (h : Ce w0 N b cb bb kb K t x m w) (hM : Sz w M) (hNM : N ≤ M) (kc : Nat) :
    Calls Try.prog 12 #[.pointer (some ⟨b, 0, none⟩), .slice (some ⟨kb, 0, none⟩) 4 kc] w fun e w' => (∃ K1, M ≤ K1 ∧ e = .returned (.tuple #[.slice (some ⟨K1, 0, none⟩) 1 1, .int .i64 0]) ∧ Has w' K1 5 1 (fun _ => By x)) ∧ Below M w w' ∧ Ce w0 N b cb bb kb K t x m w' := by
  have hk := h.kat
  have hv := h.val
  have hn := h.n
  have ht := h.ty
  have hK : KeyIs m K t := by have := keyIs_of m 1 4 h.ty h.key (by decide) K; rw [← h.t] at this; exact this
  have U := Look_at m K t hK (by omega) 0 hk (by omega) 1 h.val (by omega) (by omega) (some ⟨kb, 0, none⟩) kc w M hM h.at_ (by rw [h.key]; exact h.kh.ats)
  rw [h.key, h.b] at U
  exact U.mono (fun e w' ⟨⟨K1, hK1, e1, hh⟩, e2⟩ => ⟨⟨K1, hK1, e1, one_congr hh h.v⟩, e2, h.low hM e2 hNM⟩)
end Go.Proofs.Yteicoheihalnnaa
