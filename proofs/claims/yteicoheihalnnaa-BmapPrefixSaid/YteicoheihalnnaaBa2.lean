/- BmapArrays: what is done to an Array of bytes. -/
import Derived.Test.YteicoheihalnnaaBa1
import Derived.Test.YteicoheihalnnaaBl1
namespace Go.Proofs.Yteicoheihalnnaa
open Go Go.RowKit
theorem key4_inj {i j : Nat} (hi : i < 256) (hj : j < 256) (h : key4 i = key4 j) : i = j := by
  have := congrArg BitVec.toNat (strOf_inj h 0 (by omega))
  unfold num4 b8 at this
  rw [if_pos rfl, if_pos rfl, BitVec.toNat_ofNat, BitVec.toNat_ofNat, Nat.mod_eq_of_lt (by omega), Nat.mod_eq_of_lt (by omega)] at this
  exact this
theorem four_ats {w : World} {q : Option Addr} {k : Nat} (h : Ats w q 4 (fun j => By (four (b8 k) 0#8 0#8 0#8 j))) : Ats w q 4 (fun j => By (num4 k (fun _ => 0#8) j)) := h.congr (fun j hj => by
  rcases (show j = 0 ∨ j = 1 ∨ j = 2 ∨ j = 3 by omega) with rfl | rfl | rfl | rfl <;> rfl)
section
variable {w0 w w' : World} {N M b ent nn : Nat} {V : Nat → Nat → BitVec 8} {m : Mp}
theorem Ar.kat (h : Ar w0 N b 1 ent nn V m w) (h64 : nn ≤ 64) (k : Nat) (hk : k < nn) : KAt m (key4 k) k := by
  have hn := h.en
  exact ⟨by omega, h.ks k hk, fun i hi e => by have := key4_inj (by omega) (by omega) ((h.ks i (by omega)).symm.trans e); omega⟩
theorem Ar.kno (h : Ar w0 N b 1 ent nn V m w) (h64 : nn ≤ 64) (k : Nat) (hk : nn ≤ k) (hk2 : k < 256) : KNo m (key4 k) := fun i hi e => by
  have hn := h.en
  have := key4_inj (by omega) (by omega) ((h.ks i (by omega)).symm.trans e)
  omega
theorem Ar.kno2 (h : Ar w0 N b 1 ent nn V m w) (k : Nat) : KNo m (strOf (four (b8 k) 1#8 0#8 0#8) 4) := fun i hi e => by
  have hn := h.en
  have := congrArg BitVec.toNat (strOf_inj ((h.ks i (by omega)).symm.trans e) 1 (by omega))
  unfold num4 four at this
  rw [if_neg (by omega), if_pos (by omega), if_neg (by omega), if_pos rfl] at this
  cases this
theorem Ar.set (h : Ar w0 N b 1 ent nn V m w) (hM : Sz w M) (hNM : N ≤ M) (k : Nat) (hk : k < nn) (y : BitVec 8) (T : Turn (fun j => j = (m.E k).b) w w') (A : MpAt w' (m.set k (fun _ => y))) : Ar w0 N b 1 ent nn (fun i j => if i = k then y else V i j) (m.set k (fun _ => y)) w' := by
  have hn := h.en
  have hF : ∀ j, j = (m.E k).b → Foot m j := fun j hj => .inr (.inr ⟨k, by omega, .inr hj⟩)
  refine ⟨A, h.eb, h.ety, h.ekey, h.eval, h.eent, h.efz, h.en, fun j hj => h.lo j (foot_set hj), ?_, fun i hi => ?_, fun i hi j hj => ?_⟩
  · exact T.below h.bel (fun j hj => h.lo j (hF j hj)) (by have e : w.heap.size = M := hM; omega)
  · show (setF m.E k ⟨(m.E k).k, (m.E k).c, (m.E k).b, fun _ => y⟩ i).k = key4 i
    by_cases hik : i = k
    · rw [hik, setF_self]; exact h.ks k hk
    · rw [setF_ne _ _ _ hik]; exact h.ks i hi
  · show (setF m.E k ⟨(m.E k).k, (m.E k).c, (m.E k).b, fun _ => y⟩ i).v j = if i = k then y else V i j
    by_cases hik : i = k
    · rw [if_pos hik, hik, setF_self]
    · rw [if_neg hik, setF_ne _ _ _ hik]; exact h.vs i hi j hj
end
section
variable (w0 w : World) (N M b ent nn : Nat) (V : Nat → Nat → BitVec 8) (m : Mp) (h : Ar w0 N b 1 ent nn V m w) (h64 : nn ≤ 64) (hM : Sz w M) (hNM : N ≤ M)
include h h64 hM hNM
theorem Ar_set (k : Nat) (hk : k < nn) (y : BitVec 8) (q : Option Addr) (cq : Nat) (hq : Ats w q 4 (fun j => By (four (b8 k) 0#8 0#8 0#8 j))) (x : Option Addr) (cx : Nat) (hx : Ats w x 1 (fun _ => By y)) :
    Calls Try.prog 10 #[.pointer (some ⟨b, 0, none⟩), .slice q 4 cq, .slice x 1 cx, .int .u64 2] w fun e w' => e = .returned (.int .i64 0) ∧ ∃ m', Ar w0 N b 1 ent nn (fun i j => if i = k then y else V i j) m' w' := by
  have hn := h.en
  have ht := h.ety
  have hv := h.eval
  have U := Upd_set m (num4 k (fun _ => 0#8)) (key4 k) (keyIs_of m 0 4 h.ety h.ekey (by decide) _) h.efz (by omega) k (h.kat h64 k hk) 2 (by omega) (by omega) (by omega) (by omega) (by omega) q cq x cx (fun _ => y) w M hM h.at_ (by rw [h.ekey]; exact four_ats hq) (by rw [h.eval]; exact hx)
  rw [h.ekey, h.eval, h.eb] at U
  exact U.mono (fun e w' ⟨e1, T, A⟩ => ⟨e1, _, h.set hM hNM k hk y T A⟩)
theorem Ar_exist (k : Nat) (hk : k < nn) (q : Option Addr) (cq : Nat) (hq : Ats w q 4 (fun j => By (four (b8 k) 0#8 0#8 0#8 j))) (x : Option Addr) (cx : Nat) :
    Calls Try.prog 10 #[.pointer (some ⟨b, 0, none⟩), .slice q 4 cq, .slice x 1 cx, .int .u64 1] w fun e w' => e = .returned (.int .i64 17) ∧ Ar w0 N b 1 ent nn V m w' := by
  have hn := h.en
  have U := Upd_exist m (num4 k (fun _ => 0#8)) (key4 k) (keyIs_of m 0 4 h.ety h.ekey (by decide) _) h.efz k (h.kat h64 k hk) (by omega) q cq x cx w M hM h.at_ (by rw [h.ekey]; exact four_ats hq)
  rw [h.ekey, h.eval, h.eb] at U
  exact U.mono (fun e w' ⟨e1, e2⟩ => ⟨e1, h.low hM e2 hNM⟩)
theorem Ar_beyond (k : Nat) (hk : nn ≤ k) (hk2 : k < 256) (q : Option Addr) (cq : Nat) (hq : Ats w q 4 (fun j => By (four (b8 k) 0#8 0#8 0#8 j))) (x : Option Addr) (cx : Nat) :
    Calls Try.prog 10 #[.pointer (some ⟨b, 0, none⟩), .slice q 4 cq, .slice x 1 cx, .int .u64 0] w fun e w' => e = .returned (.int .i64 7) ∧ Ar w0 N b 1 ent nn V m w' := by
  have hn := h.en
  have U := Upd_array m (num4 k (fun _ => 0#8)) (key4 k) (keyIs_of m 0 4 h.ety h.ekey (by decide) _) h.efz h.ety (h.kno h64 k hk hk2) 0 (by omega) (by omega) q cq x cx w M hM h.at_ (by rw [h.ekey]; exact four_ats hq)
  rw [h.ekey, h.eval, h.eb] at U
  exact U.mono (fun e w' ⟨e1, e2⟩ => ⟨e1, h.low hM e2 hNM⟩)
theorem Ar_del (k : Nat) (q : Option Addr) (cq : Nat) (hq : Ats w q 4 (fun j => By (four (b8 k) 0#8 0#8 0#8 j))) :
    Calls Try.prog 13 #[.pointer (some ⟨b, 0, none⟩), .slice q 4 cq] w fun e w' => e = .returned (.int .i64 22) ∧ Ar w0 N b 1 ent nn V m w' := by
  have _h := h64
  have U := Del_array m (num4 k (fun _ => 0#8)) (key4 k) (keyIs_of m 0 4 h.ety h.ekey (by decide) _) h.efz h.ety q cq w M hM h.at_ (by rw [h.ekey]; exact four_ats hq)
  rw [h.ekey, h.eb] at U
  exact U.mono (fun e w' ⟨e1, e2⟩ => ⟨e1, h.low hM e2 hNM⟩)
theorem Ar_look (k : Nat) (hk : k < nn) (q : Option Addr) (cq : Nat) (hq : Ats w q 4 (fun j => By (four (b8 k) 0#8 0#8 0#8 j))) :
    Calls Try.prog 12 #[.pointer (some ⟨b, 0, none⟩), .slice q 4 cq] w fun e w' => (∃ K1, M ≤ K1 ∧ e = .returned (.tuple #[.slice (some ⟨K1, 0, none⟩) 1 1, .int .i64 0]) ∧ Has w' K1 5 1 (fun _ => By (V k 0))) ∧ Ar w0 N b 1 ent nn V m w' := by
  have hn := h.en
  have ht := h.ety
  have U := Look_at m (num4 k (fun _ => 0#8)) (key4 k) (keyIs_of m 0 4 h.ety h.ekey (by decide) _) (by omega) k (h.kat h64 k hk) (by omega) 1 h.eval (by omega) (by omega) q cq w M hM h.at_ (by rw [h.ekey]; exact four_ats hq)
  rw [h.ekey, h.eb] at U
  exact U.mono (fun e w' ⟨⟨K1, hK1, e1, hh⟩, e2⟩ => ⟨⟨K1, hK1, e1, one_congr hh (h.vs k hk 0 (by omega))⟩, h.low hM e2 hNM⟩)
theorem Ar_none (k : Nat) (hk : nn ≤ k) (hk2 : k < 256) (q : Option Addr) (cq : Nat) (hq : Ats w q 4 (fun j => By (four (b8 k) 0#8 0#8 0#8 j))) :
    Calls Try.prog 12 #[.pointer (some ⟨b, 0, none⟩), .slice q 4 cq] w fun e w' => e = .returned (.tuple #[.slice none 0 0, .int .i64 2]) ∧ Ar w0 N b 1 ent nn V m w' := by
  have hn := h.en
  have U := Look_no m (num4 k (fun _ => 0#8)) (key4 k) (keyIs_of m 0 4 h.ety h.ekey (by decide) _) (h.kno h64 k hk hk2) (by omega) q cq w M hM h.at_ (by rw [h.ekey]; exact four_ats hq)
  rw [h.ekey, h.eb] at U
  exact U.mono (fun e w' ⟨e1, e2⟩ => ⟨e1, h.low hM e2 hNM⟩)
theorem Ar_none2 (k : Nat) (q : Option Addr) (cq : Nat) (hq : Ats w q 4 (fun j => By (four (b8 k) 1#8 0#8 0#8 j))) :
    Calls Try.prog 12 #[.pointer (some ⟨b, 0, none⟩), .slice q 4 cq] w fun e w' => e = .returned (.tuple #[.slice none 0 0, .int .i64 2]) ∧ Ar w0 N b 1 ent nn V m w' := by
  have hn := h.en
  have U := Look_no m (four (b8 k) 1#8 0#8 0#8) _ (keyIs_of m 0 4 h.ety h.ekey (by decide) _) (h.kno2 k) (by omega) q cq w M hM h.at_ (by rw [h.ekey]; exact hq)
  rw [h.ekey, h.eb] at U
  exact U.mono (fun e w' ⟨e1, e2⟩ => ⟨e1, h.low hM e2 hNM⟩)
end
section
variable {ops : Array Oper} {rest : List Oper} {o : Oper} {a : Act} {w : World} {Q : Exit → Act → World → Prop}
/-- The rest of a number of 64 bits. -/
theorem wpl_remU (hgd : o.guard = none) (x y : Operand) (ho : o.op = .binOp .rem 31 x y 31) (u : Int) (m : Nat) (hx : a.eval x = .int .u64 u) (hy : a.eval y = .int .u64 (m : Int)) (hu : 0 ≤ u) (h0 : 0 < m) (hm : m < 1000000)
    (h : ∀ c : Nat, c < m → Hid ((c : Int) = u % (m : Int)) → wpList Try.prog ops Q rest (a.put o.dst (.int .u64 (c : Int))) w) : wpList Try.prog ops Q (o :: rest) a w := by
  have e1 : u.tmod (m : Int) = u % (m : Int) := Int.tmod_eq_emod_of_nonneg hu
  have e2 := Int.emod_nonneg u (b := (m : Int)) (by omega)
  have e3 := Int.emod_lt_of_pos u (b := (m : Int)) (by omega)
  obtain ⟨c, hc⟩ : ∃ c : Nat, (c : Int) = u % (m : Int) := ⟨(u % (m : Int)).toNat, by omega⟩
  refine wpl_run hgd (.int .u64 (c : Int)) w ?_ (h c (by omega) (hid hc))
  have e4 : u.tmod (m : Int) = (c : Int) := by omega
  have c0 : (c : Int) < 18446744073709551616 := by omega
  clear h e1 e2 e3 hc
  generalize a.eval = ev at *
  unfold execOp
  simp only [ho]
  go_simp
  omega
end
end Go.Proofs.Yteicoheihalnnaa
