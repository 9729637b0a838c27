/- BmapLines: the line of the law, and what Push and Pop do to it. -/
import Derived.Test.YteicoheihalnnaaBk
import Derived.Test.YteicoheihalnnaaBm11
import Derived.Test.YteicoheihalnnaaMin
import Derived.Deep.LoopGhost
import Derived.Deep.CutBlock
import Derived.Deep.DeepCutAuto
namespace Go.Proofs.Yteicoheihalnnaa
open Go Go.RowKit
theorem run_cut_at {P : Program} (t e s : TypeId) (hu : P.underlying t = some (.slice e)) (hs : (P.info? e).map (·.size) = some s) (b o len cap l h : Nat) (hl : l ≤ h) (hh : h ≤ cap) (hlt : l < cap) (w : World) :
    (Instr.sliceAt t (.slice (some ⟨b, o, none⟩) len cap) (some (.int .i64 (l : Int))) (some (.int .i64 (h : Int))) none).run P w = .ok (.slice (some ⟨b, o + l * s, none⟩) (h - l) (cap - l)) w := by
  obtain ⟨i, hq, hi⟩ := size_of hs
  have hne : ¬ cap = l := by omega
  simp [Instr.sliceAt, Instr.slice, run_underlying hu, Instr.sliceBounds, Instr.sliceBound, asIntOf, sizeOf, typeInfo, hq, hi, Sem.run_bind, hl, hh, hne, Addr.add_mid]
theorem one_congr {w : World} {K : Nat} {v : Nat → BitVec 8} {x : BitVec 8} (h : Has w K 5 1 (fun j => By (v j))) (e : v 0 = x) : Has w K 5 1 (fun _ => By x) := h.congr (fun j hj => by
  obtain rfl : j = 0 := by omega
  rw [e])
/-- A line of nn values of one byte, which F tells. -/
structure Ln (w0 : World) (N T nn : Nat) (F : Nat → BitVec 8) (m : Mp) (w : World) : Prop where
  at_ : MpAt w m
  ty : m.ty = T
  t34 : T = 3 ∨ T = 4
  val : m.val = 1
  ent : m.ent = 8
  fz : m.fz = false
  n : m.n = nn
  n8 : nn ≤ 8
  lo : ∀ k, Foot m k → N ≤ k
  bel : Below N w0 w
  vals : ∀ j, j < nn → (m.E j).v 0 = F j
section
variable {w0 w w' : World} {N M T nn : Nat} {F : Nat → BitVec 8} {m : Mp}
theorem Ln.low (h : Ln w0 N T nn F m w) (hM : Sz w M) (hb : Below M w w') (hNM : N ≤ M) : Ln w0 N T nn F m w' :=
  ⟨h.at_.below hM hb, h.ty, h.t34, h.val, h.ent, h.fz, h.n, h.n8, h.lo, h.bel.trans (hb.mono hNM), h.vals⟩
theorem Ln.drewN (h : Ln w0 N T nn F m w) (x : Nat) : Ln w0 N T nn F m (w.drewN x) :=
  ⟨h.at_.drewN x, h.ty, h.t34, h.val, h.ent, h.fz, h.n, h.n8, h.lo, below_drewN h.bel x, h.vals⟩
end
theorem Ln_push (w0 w : World) (N M T nn : Nat) (F : Nat → BitVec 8) (m : Mp) (b : Nat) (hb : m.b = b) (h : Ln w0 N T nn F m w) (hM : Sz w M) (hNM : N ≤ M) (hn : nn < 8) (x : Option Addr) (cx : Nat) (hx : Ats w x 1 (fun _ => By (F nn))) :
    Calls Try.prog 15 #[.pointer (some ⟨b, 0, none⟩), .slice x 1 cx, .int .u64 0] w fun e w' => e = .returned (.int .i64 0) ∧ ∃ m', m'.b = b ∧ Ln w0 N T (nn + 1) F m' w' := by
  subst hb
  have hn' := h.n
  have he := h.ent
  have hv := h.val
  have hx' : Ats w x m.val (fun j => By ((fun _ => F nn) j)) := by rw [h.val]; exact hx
  have U := Push_ok m (by rw [h.ty]; exact h.t34) h.fz (by omega) (by omega) (by omega) (by omega) x cx (fun _ => F nn) w M hM h.at_ hx'
  rw [h.val] at U
  refine U.mono (fun e w' ⟨e1, K, hK, t, p', cap', A, hp⟩ => ⟨e1, m.put p' cap' K ⟨#[]⟩ (fun _ => F nn), rfl, A, h.ty, h.t34, h.val, h.ent, h.fz, by show m.n + 1 = nn + 1; omega, by omega, fun j hj => ?_, ?_, fun j hj => ?_⟩)
  · rcases foot_put hj hp with hj | hj
    · exact h.lo j hj
    · omega
  · exact t.below h.bel (fun j hj => h.lo j (top_foot hj)) (by have e : w.heap.size = M := hM; omega)
  · show (setF m.E m.n ⟨⟨#[]⟩, K, K + 1, fun _ => F nn⟩ j).v 0 = F j
    by_cases hjn : j = m.n
    · rw [hjn, setF_self]; show F nn = F m.n; rw [hn']
    · rw [setF_ne _ _ _ hjn]; exact h.vals j (by omega)
theorem Ln_full (w0 w : World) (N M T nn : Nat) (F : Nat → BitVec 8) (m : Mp) (b : Nat) (hb : m.b = b) (h : Ln w0 N T nn F m w) (hM : Sz w M) (hNM : N ≤ M) (hn : nn = 8) (x : Option Addr) (cx : Nat) :
    Calls Try.prog 15 #[.pointer (some ⟨b, 0, none⟩), .slice x 1 cx, .int .u64 0] w fun e w' => e = .returned (.int .i64 7) ∧ Ln w0 N T nn F m w' := by
  subst hb
  have hn' := h.n
  have he := h.ent
  have U := Push_full m (by rw [h.ty]; exact h.t34) h.fz (by omega) x cx w M hM h.at_
  rw [h.val] at U
  exact U.mono (fun e w' ⟨e1, e2⟩ => ⟨e1, h.low hM e2 hNM⟩)
theorem Ln_peek (w0 w : World) (N M T nn : Nat) (F : Nat → BitVec 8) (m : Mp) (b : Nat) (hb : m.b = b) (h : Ln w0 N T nn F m w) (hM : Sz w M) (hNM : N ≤ M) (i : Nat) (hi : i < nn) (hx : T = 3 ∧ i = 0 ∨ T = 4 ∧ i + 1 = nn) :
    Calls Try.prog 16 #[.pointer (some ⟨b, 0, none⟩)] w fun e w' => (∃ K, M ≤ K ∧ e = .returned (.tuple #[.slice (some ⟨K, 0, none⟩) 1 1, .int .i64 0]) ∧ Has w' K 5 1 (fun _ => By (F i))) ∧ Below M w w' ∧ Ln w0 N T nn F m w' := by
  subst hb
  have hn' := h.n
  have n8 := h.n8
  have hv := h.val
  have ht := h.ty
  have U := Peek_ok m i ⟨by omega, by rcases hx with hx | hx; exact .inl ⟨by omega, hx.2⟩; exact .inr ⟨by omega, by omega⟩⟩ (by omega) (by omega) (by omega) w M hM h.at_
  rw [h.val] at U
  exact U.mono (fun e w' ⟨⟨K, hK, e1, hh⟩, e2⟩ => ⟨⟨K, hK, e1, one_congr hh (h.vals i hi)⟩, e2, h.low hM e2 hNM⟩)
theorem Ln_pop (w0 w : World) (N M T nn : Nat) (F : Nat → BitVec 8) (m : Mp) (b : Nat) (hb : m.b = b) (h : Ln w0 N T nn F m w) (hM : Sz w M) (hNM : N ≤ M) (i : Nat) (hi : i < nn) (hx : T = 3 ∧ i = 0 ∨ T = 4 ∧ i + 1 = nn) (d : Nat) (TD : TypeId) (nd : Nat) (fd : Nat → Value) (hd : Has w d TD nd fd) (hdF : ¬ Foot m d) :
    Calls Try.prog 17 #[.pointer (some ⟨b, 0, none⟩)] w fun e w' => (∃ K, M ≤ K ∧ e = .returned (.tuple #[.slice (some ⟨K, 0, none⟩) 1 1, .int .i64 0]) ∧ Has w' K 5 1 (fun _ => By (F i))) ∧ Has w' d TD nd fd ∧ ∃ m', m'.b = b ∧ Ln w0 N T (nn - 1) (delF F i) m' w' := by
  subst hb
  have hn' := h.n
  have n8 := h.n8
  have hv := h.val
  have ht := h.ty
  have U := Pop_ok m i ⟨by omega, by rcases hx with hx | hx; exact .inl ⟨by omega, hx.2⟩; exact .inr ⟨by omega, by omega⟩⟩ h.fz (by omega) (by omega) (by omega) w M hM h.at_
  rw [h.val] at U
  refine U.mono (fun e w' ⟨⟨K, hK, e1, hh⟩, t, A⟩ => ⟨⟨K, hK, e1, one_congr hh (h.vals i hi)⟩, hd.turn t (fun hT => hdF (top_foot hT)), m.del i, rfl, A, h.ty, h.t34, h.val, h.ent, h.fz, by show m.n - 1 = nn - 1; omega, by omega, fun j hj => h.lo j (foot_del hj (by omega)), ?_, fun j hj => ?_⟩)
  · exact t.below h.bel (fun j hj => h.lo j (top_foot hj)) (by have e : w.heap.size = M := hM; omega)
  · show (delF m.E i j).v 0 = delF F i j
    unfold delF
    split
    · exact h.vals j (by omega)
    · exact h.vals (j + 1) (by omega)
end Go.Proofs.Yteicoheihalnnaa
