/- BmapLru: the map of the law, in the order of use. -/
import Derived.Test.YteicoheihalnnaaBk
import Derived.Test.YteicoheihalnnaaBl1
namespace Go.Proofs.Yteicoheihalnnaa
open Go Go.RowKit
/-- An LRU of nn keys, the one used last behind the others. -/
structure Lr (w0 : World) (N b n nn : Nat) (U : Nat → Nat) (m : Mp) (w : World) : Prop where
  at_ : MpAt w m
  eb : m.b = b
  ety : m.ty = 2
  ekey : m.key = 1
  eval : m.val = 1
  eent : m.ent = n
  efz : m.fz = false
  en : m.n = nn
  n1 : 1 ≤ n
  n6 : n ≤ 6
  nnn : nn ≤ n
  lo : ∀ k, Foot m k → N ≤ k
  bel : Below N w0 w
  u9 : ∀ i, i < nn → U i < 9
  inj : ∀ i j, i < nn → j < nn → U i = U j → i = j
  ks : ∀ i, i < nn → (m.E i).k = key1 (U i)
  vs : ∀ i, i < nn → (m.E i).v 0 = b8 (U i + 1)
/-- What has been used is the last one. -/
def useU (U : Nat → Nat) (nn a : Nat) : Nat → Nat := setF (delF U a) (nn - 1) (U a)
section
variable {w0 w w' : World} {N M b n nn : Nat} {U : Nat → Nat} {m : Mp}
theorem Lr.low (h : Lr w0 N b n nn U m w) (hM : Sz w M) (hb : Below M w w') (hNM : N ≤ M) : Lr w0 N b n nn U m w' :=
  ⟨h.at_.below hM hb, h.eb, h.ety, h.ekey, h.eval, h.eent, h.efz, h.en, h.n1, h.n6, h.nnn, h.lo, h.bel.trans (hb.mono hNM), h.u9, h.inj, h.ks, h.vs⟩
theorem Lr.kat (h : Lr w0 N b n nn U m w) (a : Nat) (ha : a < nn) : KAt m (key1 (U a)) a := by
  have hn := h.en
  refine ⟨by omega, h.ks a ha, fun i hi e => ?_⟩
  have := key1_inj (by have := h.u9 i (by omega); omega) (by have := h.u9 a ha; omega) ((h.ks i (by omega)).symm.trans e)
  have := h.inj i a (by omega) ha this
  omega
theorem Lr.kno (h : Lr w0 N b n nn U m w) (c : Nat) (hc : c < 9) (hno : ∀ i, i < nn → U i ≠ c) : KNo m (key1 c) := fun i hi e => by
  have hn := h.en
  exact hno i (by omega) (key1_inj (by have := h.u9 i (by omega); omega) (by omega) ((h.ks i (by omega)).symm.trans e))
theorem useU_of (U : Nat → Nat) (nn a i : Nat) (hi : i < nn) : ∃ x, useU U nn a i = U x ∧ (i = nn - 1 → x = a) ∧ (i ≠ nn - 1 → x = if i < a then i else i + 1) := by
  unfold useU setF delF
  by_cases hin : i = nn - 1
  · exact ⟨a, by rw [if_pos hin], fun _ => rfl, fun h => absurd hin h⟩
  · rw [if_neg hin]
    by_cases hia : i < a
    · exact ⟨i, by rw [if_pos hia], fun h => absurd h hin, fun _ => by rw [if_pos hia]⟩
    · exact ⟨i + 1, by rw [if_neg hia], fun h => absurd h hin, fun _ => by rw [if_neg hia]⟩
theorem use_E (m : Mp) (a i : Nat) : ((m.use a).E i) = if i = m.n - 1 then m.E a else if i < a then m.E i else m.E (i + 1) := rfl
theorem useU_E (U : Nat → Nat) (nn a i : Nat) : useU U nn a i = if i = nn - 1 then U a else if i < a then U i else U (i + 1) := rfl
theorem Lr.use (h : Lr w0 N b n nn U m w) (a : Nat) (ha : a < nn) (hM : Sz w M) (hNM : N ≤ M) (T : Turn (Foot m) w w') (m' : Mp) (A : MpAt w' m') (e1 : m'.b = m.b) (e2 : m'.ty = m.ty) (e3 : m'.key = m.key) (e4 : m'.val = m.val) (e5 : m'.ent = m.ent) (e6 : m'.fz = m.fz) (e7 : m'.n = m.n) (hF : ∀ k, Foot m' k → Foot m k)
    (hk : ∀ i, i < nn → (m'.E i).k = ((m.use a).E i).k) (hv : ∀ i, i < nn → (m'.E i).v 0 = ((m.use a).E i).v 0) : Lr w0 N b n nn (useU U nn a) m' w' := by
  have hn := h.en
  refine ⟨A, e1.trans h.eb, e2.trans h.ety, e3.trans h.ekey, e4.trans h.eval, e5.trans h.eent, e6.trans h.efz, e7.trans h.en, h.n1, h.n6, h.nnn, fun k hk => h.lo k (hF k hk), ?_, fun i hi => ?_, fun i j hi hj e => ?_, fun i hi => ?_, fun i hi => ?_⟩
  · exact T.below h.bel (fun j hj => h.lo j hj) (by have e : w.heap.size = M := hM; omega)
  · rw [useU_E]; split
    · exact h.u9 a ha
    · split <;> exact h.u9 _ (by omega)
  · rw [useU_E, useU_E] at e
    split at e <;> split at e <;> (try split at e) <;> (try split at e) <;> first | omega | (have := h.inj _ _ (by omega) (by omega) e; omega)
  · rw [hk i hi, use_E, useU_E, hn]; split
    · exact h.ks a ha
    · split <;> exact h.ks _ (by omega)
  · rw [hv i hi, use_E, useU_E, hn]; split
    · exact h.vs a ha
    · split <;> exact h.vs _ (by omega)
end
end Go.Proofs.Yteicoheihalnnaa
