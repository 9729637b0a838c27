/- BmapFlags: the map of the law, and what Update does to it. -/
import Derived.Test.YteicoheihalnnabBk
namespace Go.Proofs.Yteicoheihalnnab
open Go Go.RowKit
/-- Behind some rounds: a map of nn entries, and which keys it has. -/
structure Fl (w0 : World) (N TH nn : Nat) (th S : Nat → Bool) (m : Mp) (w : World) : Prop where
  at_ : MpAt w m
  ty : m.ty = 1
  key : m.key = 1
  val : m.val = 1
  ent : m.ent = 3
  fz : m.fz = false
  n : m.n = nn
  n3 : nn ≤ 3
  t : Has w TH 30 6 (fun j => .bool (th j))
  apart : ¬ Foot m TH
  lo : ∀ k, Foot m k → N ≤ k
  tlo : N ≤ TH
  bel : Below N w0 w
  yes : ∀ c, c < 6 → S c = true → ∃ i, i < m.n ∧ (m.E i).k = key1 c
  no : ∀ i, i < m.n → ∃ c, c < 6 ∧ (m.E i).k = key1 c ∧ S c = true
section
variable {w0 w w' : World} {N M TH nn : Nat} {th S : Nat → Bool} {m : Mp}
theorem Fl.kyes (h : Fl w0 N TH nn th S m w) {c : Nat} (hc : c < 6) (ht : S c = true) : ∃ k, KAt m (key1 c) k := by
  rcases kAt_or m (key1 c) with h1 | h1
  · exact h1
  · obtain ⟨i, hi, e⟩ := h.yes c hc ht
    exact absurd e (h1 i hi)
theorem Fl.kno (h : Fl w0 N TH nn th S m w) {c : Nat} (hc : c < 6) (ht : S c = false) : KNo m (key1 c) := fun i hi e => by
  obtain ⟨d, hd, e', ht'⟩ := h.no i hi
  have := key1_inj (by omega) (by omega) (e'.symm.trans e)
  subst this
  rw [ht] at ht'
  cases ht'
theorem Fl.low (h : Fl w0 N TH nn th S m w) (hM : Sz w M) (hb : Below M w w') (hNM : N ≤ M) : Fl w0 N TH nn th S m w' :=
  ⟨h.at_.below hM hb, h.ty, h.key, h.val, h.ent, h.fz, h.n, h.n3, h.t.below hb (h.t.ltN hM), h.apart, h.lo, h.tlo, h.bel.trans (hb.mono hNM), h.yes, h.no⟩
theorem Fl.set (h : Fl w0 N TH nn th S m w) (hM : Sz w M) (hNM : N ≤ M) (k : Nat) (hk : k < m.n) (X : Nat → BitVec 8) (T : Turn (fun j => j = (m.E k).b) w w') (A : MpAt w' (m.set k X)) : Fl w0 N TH nn th S (m.set k X) w' := by
  have e : ∀ i, ((m.set k X).E i).k = (m.E i).k := fun i => by
    simp only [Mp.set, setF]
    by_cases hik : i = k
    · rw [if_pos hik, hik]
    · rw [if_neg hik]
  have hF : ∀ j, j = (m.E k).b → Foot m j := fun j hj => .inr (.inr ⟨k, hk, .inr hj⟩)
  refine ⟨A, h.ty, h.key, h.val, h.ent, h.fz, h.n, h.n3, h.t.turn T (fun hj => h.apart (hF _ hj)), fun hf => h.apart (foot_set hf), fun j hj => h.lo j (foot_set hj), h.tlo, ?_, fun c hc ht => ?_, fun i hi => ?_⟩
  · exact T.below h.bel (fun j hj => h.lo j (hF j hj)) (by have e : w.heap.size = M := hM; omega)
  · obtain ⟨i, hi, hx⟩ := h.yes c hc ht
    exact ⟨i, hi, (e i).trans hx⟩
  · obtain ⟨c, hc, hx, ht⟩ := h.no i hi
    exact ⟨c, hc, (e i).trans hx, ht⟩
def addS (S : Nat → Bool) (c : Nat) : Nat → Bool := fun d => if d = c then true else S d
theorem Fl.put (h : Fl w0 N TH nn th S m w) (hM : Sz w M) (hNM : N ≤ M) (hn : nn < 3) (c : Nat) (hc : c < 6) (X : Nat → BitVec 8) (P : PutLater m M (key1 c) X w w') :
    ∃ m', m'.b = m.b ∧ Fl w0 N TH (nn + 1) th (addS S c) m' w' := by
  obtain ⟨K, hK, T, p', cap', A, hp⟩ := P
  have hTM : TH < M := h.t.ltN hM
  refine ⟨m.put p' cap' K (key1 c) X, rfl, A, h.ty, h.key, h.val, h.ent, h.fz, by show m.n + 1 = nn + 1; rw [h.n], by omega, h.t.turn T (fun hj => h.apart (top_foot hj)), fun hf => ?_, fun j hj => ?_, h.tlo, ?_, fun d hd ht => ?_, fun i hi => ?_⟩
  · rcases foot_put hf hp with hf | hf
    · exact h.apart hf
    · omega
  · rcases foot_put hj hp with hj | hj
    · exact h.lo j hj
    · omega
  · exact T.below h.bel (fun j hj => h.lo j (top_foot hj)) (by have e : w.heap.size = M := hM; omega)
  · show ∃ i, i < m.n + 1 ∧ (setF m.E m.n ⟨key1 c, K, K + 1, X⟩ i).k = key1 d
    unfold addS at ht
    by_cases hdc : d = c
    · exact ⟨m.n, by omega, by rw [setF_self, hdc]⟩
    · rw [if_neg hdc] at ht
      obtain ⟨i, hi, hx⟩ := h.yes d hd ht
      exact ⟨i, by omega, by rw [setF_ne _ _ _ (by omega)]; exact hx⟩
  · have hi : i < m.n + 1 := hi
    show ∃ d, d < 6 ∧ (setF m.E m.n ⟨key1 c, K, K + 1, X⟩ i).k = key1 d ∧ addS S c d = true
    by_cases hin : i = m.n
    · exact ⟨c, hc, by rw [hin, setF_self], if_pos rfl⟩
    · obtain ⟨d, hd, hx, ht⟩ := h.no i (by omega)
      refine ⟨d, hd, by rw [setF_ne _ _ _ hin]; exact hx, ?_⟩
      unfold addS
      split
      · rfl
      · exact ht
theorem Fl.mark (h : Fl w0 N TH nn th S m w) (c : Nat) (t : Touch TH w w') (k : Has w' TH 30 6 (upd (fun j => .bool (th j)) c (.bool true))) : Fl w0 N TH nn (addS th c) S m w' :=
  ⟨h.at_.turn t.turn (fun j hj e => h.apart (by rw [← e]; exact hj)), h.ty, h.key, h.val, h.ent, h.fz, h.n, h.n3, k.congr (fun j _ => by unfold upd addS; split <;> rfl), h.apart, h.lo, h.tlo, t.below h.bel h.tlo, h.yes, h.no⟩
end
/-- An Update that takes in no key. -/
theorem Fl_keep (w0 w : World) (N M TH nn : Nat) (th S : Nat → Bool) (m : Mp) (b : Nat) (hb : m.b = b) (h : Fl w0 N TH nn th S m w) (hM : Sz w M) (hNM : N ≤ M) (c : Nat) (hc : c < 6) (f r : Nat)
    (hr : S c = true ∧ f = 1 ∧ r = 17 ∨ S c = true ∧ f ≠ 1 ∧ f ≤ 2 ∧ r = 0 ∨ S c = false ∧ f = 2 ∧ r = 2 ∨ S c = false ∧ f ≤ 1 ∧ nn = 3 ∧ r = 7)
    (q : Option Addr) (cq : Nat) (hq : Ats w q 1 (fun _ => By (b8 c))) (x : Option Addr) (cx : Nat) (X : Nat → BitVec 8) (hx : Ats w x 1 (fun j => By (X j))) :
    Calls Try.prog 6 #[.pointer (some ⟨b, 0, none⟩), .slice q 1 cq, .slice x 1 cx, .int .u64 (f : Int)] w fun e w' => e = .returned (.int .i64 (r : Int)) ∧ ∃ m', m'.b = b ∧ Fl w0 N TH nn th S m' w' := by
  subst hb
  have hK := keyIs_of m 1 1 h.ty h.key (by decide) (fun _ => b8 c)
  have hq' : Ats w q m.key (fun j => By ((fun _ => b8 c) j)) := by rw [h.key]; exact hq
  have hx' : Ats w x m.val (fun j => By (X j)) := by rw [h.val]; exact hx
  have hn := h.n
  have n3 := h.n3
  have hv := h.val
  have ht := h.ty
  have he := h.ent
  rcases hr with ⟨hS, rfl, rfl⟩ | ⟨hS, hf1, hf2, rfl⟩ | ⟨hS, rfl, rfl⟩ | ⟨hS, hf, h3, rfl⟩
  · obtain ⟨k, hk⟩ := h.kyes hc hS
    have U := Upd_exist m _ (key1 c) hK h.fz k hk (by omega) q cq x cx w M hM h.at_ hq'
    rw [h.key, h.val] at U
    exact U.mono (fun e w' ⟨e1, e2⟩ => ⟨e1, m, rfl, h.low hM e2 hNM⟩)
  · obtain ⟨k, hk⟩ := h.kyes hc hS
    have U := Upd_set m _ (key1 c) hK h.fz (by omega) k hk f hf2 hf1 (by omega) (by omega) (by omega) q cq x cx X w M hM h.at_ hq' hx'
    rw [h.key, h.val] at U
    exact U.mono (fun e w' ⟨e1, e2, e3⟩ => ⟨e1, m.set k X, rfl, h.set hM hNM k hk.1 X e2 e3⟩)
  · have U := Upd_none m _ (key1 c) hK h.fz (by omega) (h.kno hc hS) (by omega) q cq x cx w M hM h.at_ hq'
    rw [h.key, h.val] at U
    exact U.mono (fun e w' ⟨e1, e2⟩ => ⟨e1, m, rfl, h.low hM e2 hNM⟩)
  · have U := Upd_full m _ (key1 c) hK h.fz (by omega) (by omega) (h.kno hc hS) f hf (by omega) (by omega) q cq x cx w M hM h.at_ hq'
    rw [h.key, h.val] at U
    exact U.mono (fun e w' ⟨e1, e2⟩ => ⟨e1, m, rfl, h.low hM e2 hNM⟩)
/-- An Update that takes in a key. -/
theorem Fl_new (w0 w : World) (N M TH nn : Nat) (th S : Nat → Bool) (m : Mp) (b : Nat) (hb : m.b = b) (h : Fl w0 N TH nn th S m w) (hM : Sz w M) (hNM : N ≤ M) (c : Nat) (hc : c < 6) (f : Nat) (hf : f ≤ 1) (hS : S c = false) (hn3 : nn < 3)
    (q : Option Addr) (cq : Nat) (hq : Ats w q 1 (fun _ => By (b8 c))) (x : Option Addr) (cx : Nat) (X : Nat → BitVec 8) (hx : Ats w x 1 (fun j => By (X j))) :
    Calls Try.prog 6 #[.pointer (some ⟨b, 0, none⟩), .slice q 1 cq, .slice x 1 cx, .int .u64 (f : Int)] w fun e w' => e = .returned (.int .i64 0) ∧ ∃ m', m'.b = b ∧ Fl w0 N TH (nn + 1) th (addS S c) m' w' := by
  subst hb
  have hK := keyIs_of m 1 1 h.ty h.key (by decide) (fun _ => b8 c)
  have hq' : Ats w q m.key (fun j => By ((fun _ => b8 c) j)) := by rw [h.key]; exact hq
  have hx' : Ats w x m.val (fun j => By (X j)) := by rw [h.val]; exact hx
  have hn := h.n
  have hv := h.val
  have ht := h.ty
  have he := h.ent
  have U := Upd_new m _ (key1 c) hK h.fz (by omega) (h.kno hc hS) f hf (by omega) (by omega) (by omega) (by omega) q cq x cx X w M hM h.at_ hq' hx'
  rw [h.key, h.val] at U
  exact U.mono (fun e w' ⟨e1, e2⟩ => ⟨e1, h.put hM hNM hn3 c hc X e2⟩)
end Go.Proofs.Yteicoheihalnnab
