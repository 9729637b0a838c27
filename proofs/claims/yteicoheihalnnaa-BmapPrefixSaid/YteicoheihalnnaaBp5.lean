/- BmapPrefix: the Prefix of the law, round by round. -/
import Derived.Test.YteicoheihalnnaaBp4
namespace Go.Proofs.Yteicoheihalnnaa
open Go Go.RowKit
/-- Behind some rounds: a Prefix of nn entries, and which lengths it has. -/
structure Px (w0 : World) (N TH nn : Nat) (word : BitVec 8) (th S : Nat → Bool) (m : Mp) (w : World) : Prop where
  at_ : MpAt w m
  ty : m.ty = 5
  key : m.key = 5
  val : m.val = 1
  ent : m.ent = 9
  fz : m.fz = false
  n : m.n = nn
  t : Has w TH 44 9 (fun j => .bool (th j))
  apart : ¬ Foot m TH
  lo : ∀ k, Foot m k → N ≤ k
  tlo : N ≤ TH
  bel : Below N w0 w
  yes : ∀ c, c < 9 → S c = true → ∃ i, i < m.n ∧ (m.E i).k = key5 c (msk c word)
  no : ∀ i, i < m.n → ∃ c, c < 9 ∧ (m.E i).k = key5 c (msk c word) ∧ (m.E i).v 0 = b8 c ∧ S c = true
def addP (S : Nat → Bool) (c : Nat) : Nat → Bool := fun d => if d = c then true else S d
section
variable {w0 w w' : World} {N M TH nn : Nat} {word : BitVec 8} {th S : Nat → Bool} {m : Mp}
theorem Px.kyes (h : Px w0 N TH nn word th S m w) {c : Nat} (hc : c < 9) (ht : S c = true) : ∃ k, KAt m (key5 c (msk c word)) k := by
  rcases kAt_or m (key5 c (msk c word)) with h1 | h1
  · exact h1
  · obtain ⟨i, hi, e⟩ := h.yes c hc ht
    exact absurd e (h1 i hi)
theorem Px.kval (h : Px w0 N TH nn word th S m w) {c : Nat} (hc : c < 9) {k : Nat} (hk : KAt m (key5 c (msk c word)) k) : (m.E k).v 0 = b8 c := by
  obtain ⟨d, hd, e, hv, _⟩ := h.no k hk.1
  obtain ⟨rfl, _⟩ := key5_inj (by omega) (by omega) (e.symm.trans hk.2.1)
  exact hv
theorem Px.kno (h : Px w0 N TH nn word th S m w) {c : Nat} (hc : c < 9) (x : BitVec 8) (ht : S c = false ∨ x ≠ msk c word) : KNo m (key5 c x) := fun i hi e => by
  obtain ⟨d, hd, e', _, ht'⟩ := h.no i hi
  obtain ⟨rfl, rfl⟩ := key5_inj (by omega) (by omega) (e'.symm.trans e)
  rcases ht with ht | ht
  · rw [ht] at ht'; cases ht'
  · exact ht rfl
theorem Px.low (h : Px w0 N TH nn word th S m w) (hM : Sz w M) (hb : Below M w w') (hNM : N ≤ M) : Px w0 N TH nn word th S m w' :=
  ⟨h.at_.below hM hb, h.ty, h.key, h.val, h.ent, h.fz, h.n, h.t.below hb (h.t.ltN hM), h.apart, h.lo, h.tlo, h.bel.trans (hb.mono hNM), h.yes, h.no⟩
theorem Px.drewN (h : Px w0 N TH nn word th S m w) (x : Nat) : Px w0 N TH nn word th S m (w.drewN x) :=
  ⟨h.at_.drewN x, h.ty, h.key, h.val, h.ent, h.fz, h.n, h.t.drewN x, h.apart, h.lo, h.tlo, below_drewN h.bel x, h.yes, h.no⟩
theorem Px.set (h : Px w0 N TH nn word th S m w) (hM : Sz w M) (hNM : N ≤ M) (c : Nat) (hc : c < 9) (hS : S c = true) (k : Nat) (hk : KAt m (key5 c (msk c word)) k) (X : Nat → BitVec 8) (hX : X 0 = b8 c) (T : Turn (fun j => j = (m.E k).b) w w') (A : MpAt w' (m.set k X)) : Px w0 N TH nn word th (addP S c) (m.set k X) w' := by
  have e : ∀ i, ((m.set k X).E i).k = (m.E i).k := fun i => by
    simp only [Mp.set, setF]
    by_cases hik : i = k
    · rw [if_pos hik, hik]
    · rw [if_neg hik]
  have eS : addP S c = S := by
    funext d
    unfold addP
    split
    · rename_i h; rw [h, hS]
    · rfl
  rw [eS]
  have hF : ∀ j, j = (m.E k).b → Foot m j := fun j hj => .inr (.inr ⟨k, hk.1, .inr hj⟩)
  refine ⟨A, h.ty, h.key, h.val, h.ent, h.fz, h.n, h.t.turn T (fun hj => h.apart (hF _ hj)), fun hf => h.apart (foot_set hf), fun j hj => h.lo j (foot_set hj), h.tlo, ?_, fun c hc ht => ?_, fun i hi => ?_⟩
  · exact T.below h.bel (fun j hj => h.lo j (hF j hj)) (by have e : w.heap.size = M := hM; omega)
  · obtain ⟨i, hi, hx⟩ := h.yes c hc ht
    exact ⟨i, hi, (e i).trans hx⟩
  · obtain ⟨d, hd, hx, hv, ht⟩ := h.no i hi
    refine ⟨d, hd, (e i).trans hx, ?_, ht⟩
    show (setF m.E k ⟨(m.E k).k, (m.E k).c, (m.E k).b, X⟩ i).v 0 = b8 d
    by_cases hik : i = k
    · subst hik
      rw [setF_self]
      obtain ⟨rfl, _⟩ := key5_inj (by omega) (by omega) (hx.symm.trans hk.2.1)
      exact hX
    · rw [setF_ne _ _ _ hik]; exact hv
theorem Px.put (h : Px w0 N TH nn word th S m w) (hM : Sz w M) (hNM : N ≤ M) (c : Nat) (hc : c < 9) (X : Nat → BitVec 8) (hX : X 0 = b8 c) (P : PutLater m M (key5 c (msk c word)) X w w') :
    ∃ m', m'.b = m.b ∧ Px w0 N TH (nn + 1) word th (addP S c) m' w' := by
  obtain ⟨K, hK, T, p', cap', A, hp⟩ := P
  have hTM : TH < M := h.t.ltN hM
  refine ⟨m.put p' cap' K (key5 c (msk c word)) X, rfl, A, h.ty, h.key, h.val, h.ent, h.fz, by show m.n + 1 = nn + 1; rw [h.n], h.t.turn T (fun hj => h.apart (top_foot hj)), fun hf => ?_, fun j hj => ?_, h.tlo, ?_, fun d hd ht => ?_, fun i hi => ?_⟩
  · rcases foot_put hf hp with hf | hf
    · exact h.apart hf
    · omega
  · rcases foot_put hj hp with hj | hj
    · exact h.lo j hj
    · omega
  · exact T.below h.bel (fun j hj => h.lo j (top_foot hj)) (by have e : w.heap.size = M := hM; omega)
  · show ∃ i, i < m.n + 1 ∧ (setF m.E m.n ⟨key5 c (msk c word), K, K + 1, X⟩ i).k = key5 d (msk d word)
    unfold addP at ht
    by_cases hdc : d = c
    · exact ⟨m.n, by omega, by rw [setF_self, hdc]⟩
    · rw [if_neg hdc] at ht
      obtain ⟨i, hi, hx⟩ := h.yes d hd ht
      exact ⟨i, by omega, by rw [setF_ne _ _ _ (by omega)]; exact hx⟩
  · have hi : i < m.n + 1 := hi
    show ∃ d, d < 9 ∧ (setF m.E m.n ⟨key5 c (msk c word), K, K + 1, X⟩ i).k = key5 d (msk d word) ∧ (setF m.E m.n ⟨key5 c (msk c word), K, K + 1, X⟩ i).v 0 = b8 d ∧ addP S c d = true
    by_cases hin : i = m.n
    · exact ⟨c, hc, by rw [hin, setF_self], by rw [hin, setF_self]; exact hX, if_pos rfl⟩
    · obtain ⟨d, hd, hx, hv, ht⟩ := h.no i (by omega)
      refine ⟨d, hd, by rw [setF_ne _ _ _ hin]; exact hx, by rw [setF_ne _ _ _ hin]; exact hv, ?_⟩
      unfold addP
      split
      · rfl
      · exact ht
theorem Px.mark (h : Px w0 N TH nn word th S m w) (c : Nat) (t : Touch TH w w') (k : Has w' TH 44 9 (upd (fun j => .bool (th j)) c (.bool true))) : Px w0 N TH nn word (addP th c) S m w' :=
  ⟨h.at_.turn t.turn (fun j hj e => h.apart (by rw [← e]; exact hj)), h.ty, h.key, h.val, h.ent, h.fz, h.n, k.congr (fun j _ => by unfold upd addP; split <;> rfl), h.apart, h.lo, h.tlo, t.below h.bel h.tlo, h.yes, h.no⟩
end
/-- An Update of the law. -/
theorem Px_upd (w0 w : World) (N M TH nn : Nat) (word : BitVec 8) (th S : Nat → Bool) (m : Mp) (b : Nat) (hb : m.b = b) (h : Px w0 N TH nn word th S m w) (hM : Sz w M) (hNM : N ≤ M) (c : Nat) (hc : c < 9) (hn9 : nn < 9)
    (q : Option Addr) (cq : Nat) (hq : Ats w q 5 (fun j => By (k5 c word j))) (x : Option Addr) (cx : Nat) (hx : Ats w x 1 (fun _ => By (b8 c))) :
    Calls Try.prog 10 #[.pointer (some ⟨b, 0, none⟩), .slice q 5 cq, .slice x 1 cx, .int .u64 0] w fun e w' => e = .returned (.int .i64 0) ∧ ∃ m' nn', nn' ≤ nn + 1 ∧ m'.b = b ∧ Px w0 N TH nn' word th (addP S c) m' w' := by
  subst hb
  have hK : KeyP m (k5 c word) (key5 c (msk c word)) := ⟨h.ty, h.key, c, word, by omega, rfl, rfl⟩
  have hq' : Ats w q m.key (fun j => By (k5 c word j)) := by rw [h.key]; exact hq
  have hx' : Ats w x m.val (fun j => By ((fun _ => b8 c) j)) := by rw [h.val]; exact hx
  have hn := h.n
  have hv := h.val
  have ht := h.ty
  have he := h.ent
  cases hS : S c with
  | true =>
    obtain ⟨k, hk⟩ := h.kyes hc hS
    have U := Upd_pset m _ _ hK h.fz (by omega) k hk 0 (by omega) (by omega) (by omega) (by omega) (by omega) q cq x cx (fun _ => b8 c) w M hM h.at_ hq' hx'
    rw [h.key, h.val] at U
    exact U.mono (fun e w' ⟨e1, e2, e3⟩ => ⟨e1, m.set k (fun _ => b8 c), nn, by omega, rfl, h.set hM hNM c hc hS k hk _ rfl e2 e3⟩)
  | false =>
    have U := Upd_pnew m _ _ hK h.fz (by omega) (h.kno hc _ (.inl hS)) 0 (by omega) (by omega) (by omega) (by omega) (by omega) q cq x cx (fun _ => b8 c) w M hM h.at_ hq' hx'
    rw [h.key, h.val] at U
    refine U.mono (fun e w' ⟨e1, e2⟩ => ⟨e1, ?_⟩)
    obtain ⟨m', hm', P⟩ := h.put hM hNM c hc (fun _ => b8 c) rfl e2
    exact ⟨m', nn + 1, by omega, hm', P⟩
theorem msk_eq (j : Nat) (hj : j ≤ 8) (x y : BitVec 8) : (v8 x / 2 ^ (8 - j) = v8 y / 2 ^ (8 - j)) ↔ msk j x = msk j y := by
  have h : ∀ z : BitVec 8, v8 (msk j z) = v8 z / 2 ^ (8 - j) * 2 ^ (8 - j) := fun z => by
    have : ∀ y : Fin 9, ∀ x : Fin 256, v8 (msk y.val (BitVec.ofFin x)) = v8 (BitVec.ofFin x) / 2 ^ (8 - y.val) * 2 ^ (8 - y.val) := by decide +kernel
    exact this ⟨j, by omega⟩ z.toFin
  have hp : (2 : Int) ^ (8 - j) ≠ 0 := by
    have : ∀ y : Fin 9, (2 : Int) ^ (8 - y.val) ≠ 0 := by decide +kernel
    exact this ⟨j, by omega⟩
  constructor
  · intro e
    have : v8 (msk j x) = v8 (msk j y) := by rw [h, h, e]
    unfold v8 at this
    exact BitVec.eq_of_toNat_eq (by omega)
  · intro e
    have : v8 (msk j x) = v8 (msk j y) := by rw [e]
    rw [h, h] at this
    exact Int.eq_of_mul_eq_mul_right hp this
/-- The longest so far. -/
def Wn (P : Nat → Prop) (j : Nat) : Option Nat → Prop
  | none => ∀ n, n < j → ¬ P n
  | some n => n < j ∧ P n ∧ ∀ i, n < i → i < j → ¬ P i
def wv : Option Nat → Value
  | none => .int .i64 (-1)
  | some n => .int .i64 (n : Int)
theorem Wn.yes {P : Nat → Prop} {j : Nat} (h : P j) : Wn P (j + 1) (some j) := ⟨by omega, h, fun i h1 h2 => by omega⟩
theorem Wn.no {P : Nat → Prop} {j : Nat} {o : Option Nat} (h : ¬ P j) (hw : Wn P j o) : Wn P (j + 1) o := by
  cases o with
  | none =>
    intro n hn
    by_cases e : n = j
    · rw [e]; exact h
    · exact hw n (by omega)
  | some n =>
    refine ⟨by have := hw.1; omega, hw.2.1, fun i h1 h2 => ?_⟩
    by_cases e : i = j
    · rw [e]; exact h
    · exact hw.2.2 i h1 (by omega)
end Go.Proofs.Yteicoheihalnnaa
