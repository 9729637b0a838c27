/- BmapCells: the entry is gone; another one comes. -/
import Derived.Test.YteicoheihalnnaaBc1
namespace Go.Proofs.Yteicoheihalnnaa
open Go Go.RowKit
/-- The map without entries, and the old one's cell. -/
structure Em (w0 : World) (N b cb bb kb : Nat) (K : Nat → BitVec 8) (t : ByteArray) (x : BitVec 8) (m : Mp) (w : World) : Prop where
  at_ : MpAt w m
  b : m.b = b
  ty : m.ty = 1
  key : m.key = 4
  val : m.val = 1
  ent : m.ent = 4
  fz : m.fz = false
  n : m.n = 0
  t : t = strOf K 4
  kh : Has w kb 5 4 (fun j => By (K j))
  kf : ¬ Foot m kb
  kb : kb ≠ bb
  oc : Has w cb 36 1 (fun _ => .slice (some ⟨bb, 0, none⟩) 1 1)
  ob : Has w bb 5 1 (fun _ => By x)
  cf : ¬ Foot m cb
  bf : ¬ Foot m bb
  lob : N ≤ bb
  lo : ∀ k, Foot m k → N ≤ k
  bel : Below N w0 w
section
variable {w0 w w' : World} {N M b cb bb kb : Nat} {K : Nat → BitVec 8} {t : ByteArray} {x : BitVec 8} {m : Mp}
theorem Em.low (h : Em w0 N b cb bb kb K t x m w) (hM : Sz w M) (hb : Below M w w') (hNM : N ≤ M) : Em w0 N b cb bb kb K t x m w' :=
  ⟨h.at_.below hM hb, h.b, h.ty, h.key, h.val, h.ent, h.fz, h.n, h.t, h.kh.below hb (h.kh.ltN hM), h.kf, h.kb, h.oc.below hb (h.oc.ltN hM), h.ob.below hb (h.ob.ltN hM), h.cf, h.bf, h.lob, h.lo, h.bel.trans (hb.mono hNM)⟩
theorem Ce.touch (h : Ce w0 N b cb bb kb K t x m w) {d : Nat} (T : Touch d w w') (hd : ¬ Foot m d) (hk : kb ≠ d) (hN : N ≤ d) : Ce w0 N b cb bb kb K t x m w' :=
  ⟨h.at_.turn T.turn (fun j hj e => hd (by rw [← e]; exact hj)), h.b, h.ty, h.key, h.val, h.ent, h.fz, h.n, h.k, h.t, h.c, h.bb, h.v, h.kh.touch T hk, h.kf, h.lo, T.below h.bel hN⟩
end
theorem Ce_del (w0 w : World) (N M b cb bb kb : Nat) (K : Nat → BitVec 8) (t : ByteArray) (x : BitVec 8) (m : Mp) (h : Ce w0 N b cb bb kb K t x m w) (hM : Sz w M) (hNM : N ≤ M) (kc : Nat) :
    Calls Try.prog 13 #[.pointer (some ⟨b, 0, none⟩), .slice (some ⟨kb, 0, none⟩) 4 kc] w fun e w' => e = .returned (.int .i64 0) ∧ ∃ m', Em w0 N b cb bb kb K t x m' w' := by
  have hk := h.kat
  have hn := h.n
  have h1 : 0 < m.n := by omega
  have ht := h.ty
  have hK : KeyIs m K t := by have := keyIs_of m 1 4 h.ty h.key (by decide) K; rw [← h.t] at this; exact this
  have U := Del_at m K t hK h.fz (by omega) 0 hk (by omega) (some ⟨kb, 0, none⟩) kc w M hM h.at_ (by rw [h.key]; exact h.kh.ats)
  rw [h.key, h.b] at U
  refine U.mono (fun e w' ⟨e1, T, A⟩ => ⟨e1, m.del 0, A, h.b, h.ty, h.key, h.val, h.ent, h.fz, by show m.n - 1 = 0; omega, h.t, h.kh.turn T (fun hj => h.kf (top_foot hj)), fun hf => h.kf (foot_del hf h1), ?_, h.cell.turn T ?_, h.byte.turn T ?_, ?_, ?_, h.lo bb (.inr (.inr ⟨0, h1, .inr h.bb.symm⟩)), fun j hj => h.lo j (foot_del hj h1), ?_⟩)
  · rintro rfl
    exact h.kf (.inr (.inr ⟨0, h1, .inr h.bb.symm⟩))
  · rw [← h.c]
    exact fun hT => hT.elim (h.at_.cb 0 h1).1 (fun hT => (h.at_.cp 0 h1 _ hT).1 rfl)
  · rw [← h.bb]
    exact fun hT => hT.elim (h.at_.cb 0 h1).2 (fun hT => (h.at_.cp 0 h1 _ hT).2 rfl)
  · rw [← h.c]
    rintro (hT | hT | ⟨i, hi, _⟩)
    · exact (h.at_.cb 0 h1).1 hT
    · exact (h.at_.cp 0 h1 _ hT).1 rfl
    · have hi : i < m.n - 1 := hi
      omega
  · rw [← h.bb]
    rintro (hT | hT | ⟨i, hi, _⟩)
    · exact (h.at_.cb 0 h1).2 hT
    · exact (h.at_.cp 0 h1 _ hT).2 rfl
    · have hi : i < m.n - 1 := hi
      omega
  · exact T.below h.bel (fun j hj => h.lo j (top_foot hj)) (by have e : w.heap.size = M := hM; omega)
theorem Em_new (w0 w : World) (N M b cb bb kb : Nat) (K : Nat → BitVec 8) (t : ByteArray) (x y : BitVec 8) (m : Mp) (h : Em w0 N b cb bb kb K t x m w) (hM : Sz w M) (hNM : N ≤ M) (kc : Nat) (q : Option Addr) (cq : Nat) (hq : Ats w q 1 (fun _ => By y)) :
    Calls Try.prog 10 #[.pointer (some ⟨b, 0, none⟩), .slice (some ⟨kb, 0, none⟩) 4 kc, .slice q 1 cq, .int .u64 1] w fun e w' => e = .returned (.int .i64 0) ∧ ∃ m' cb' bb', Ce w0 N b cb' bb' kb K t y m' w' ∧ Has w' cb 36 1 (fun _ => .slice (some ⟨bb, 0, none⟩) 1 1) ∧ Has w' bb 5 1 (fun _ => By x) ∧ ¬ Foot m' bb ∧ kb ≠ bb ∧ N ≤ bb := by
  have hn := h.n
  have ht := h.ty
  have he := h.ent
  have hv := h.val
  have hK : KeyIs m K t := by have := keyIs_of m 1 4 h.ty h.key (by decide) K; rw [← h.t] at this; exact this
  have U := Upd_new m K t hK h.fz (by omega) (fun i hi => by omega) 1 (by omega) (by omega) (by omega) (by omega) (by omega) (some ⟨kb, 0, none⟩) kc q cq (fun _ => y) w M hM h.at_ (by rw [h.key]; exact h.kh.ats) (by rw [h.val]; exact hq)
  rw [h.key, h.val, h.b] at U
  have hkM := h.kh.ltN hM
  have hbM := h.ob.ltN hM
  refine U.mono (fun e w' ⟨e1, G, hG, T, p', cap', A, hp⟩ => ⟨e1, m.put p' cap' G t (fun _ => y), G, G + 1, ⟨A, h.b, h.ty, h.key, h.val, h.ent, h.fz, by show m.n + 1 = 1; omega, ?_, h.t, ?_, ?_, ?_, h.kh.turn T (fun hj => h.kf (top_foot hj)), fun hf => ?_, fun j hj => ?_, ?_⟩, h.oc.turn T (fun hj => h.cf (top_foot hj)), h.ob.turn T (fun hj => h.bf (top_foot hj)), fun hf => ?_, h.kb, h.lob⟩)
  · show (setF m.E m.n ⟨t, G, G + 1, fun _ => y⟩ 0).k = t
    rw [hn, setF_self]
  · show (setF m.E m.n ⟨t, G, G + 1, fun _ => y⟩ 0).c = G
    rw [hn, setF_self]
  · show (setF m.E m.n ⟨t, G, G + 1, fun _ => y⟩ 0).b = G + 1
    rw [hn, setF_self]
  · show (setF m.E m.n ⟨t, G, G + 1, fun _ => y⟩ 0).v 0 = y
    rw [hn, setF_self]
  · rcases foot_put hf hp with hf | hf
    · exact h.kf hf
    · omega
  · rcases foot_put hj hp with hj | hj
    · exact h.lo j hj
    · omega
  · exact T.below h.bel (fun j hj => h.lo j (top_foot hj)) (by have e : w.heap.size = M := hM; omega)
  · rcases foot_put hf hp with hf | hf
    · exact h.bf hf
    · omega
end Go.Proofs.Yteicoheihalnnaa
