/- RegionCells: an array of one entry, its words. -/
import Derived.Test.YtjcjmlmdcjkceaaRcl4
namespace Go.Proofs.Ytjcjmlmdcjkceaa
open Go Go.RowKit
/-- A byte as a word. -/
def xt (x : BitVec 8) : W := BitVec.ofNat 64 x.toNat
theorem xt_lt (x : BitVec 8) : (xt x).toNat < 256 := by unfold xt; rw [BitVec.toNat_ofNat]; have := x.isLt; omega
theorem by_yv (x : BitVec 8) : By x = Yv (xt x) := by
  unfold By v8 Yv qn xt
  rw [BitVec.toNat_ofNat, Nat.mod_eq_of_lt (by have := x.isLt; omega)]
/-- A map of one entry, whose bytes C tells; its blocks are new since N. -/
structure Cm (w : World) (N mb l : Nat) (fz : Bool) (cb db : Nat) (C : Nat → BitVec 8) (m : Mp) : Prop where
  a : MpAt w m
  eb : m.b = mb
  ety : m.ty = 0
  ekey : m.key = 4
  eval : m.val = l
  efz : m.fz = fz
  en : m.n = 1
  ek : (m.E 0).k = key4 0
  ec : (m.E 0).c = cb
  ed : (m.E 0).b = db
  ev : ∀ j, j < l → (m.E 0).v j = C j
  lo : ∀ k, Foot m k → N ≤ k
section
variable {w w' : World} {N M mb l cb db : Nat} {fz : Bool} {C : Nat → BitVec 8} {m : Mp}
theorem Cm.below (h : Cm w N mb l fz cb db C m) (hM : Sz w M) (hb : Below M w w') : Cm w' N mb l fz cb db C m := { h with a := h.a.below hM hb }
theorem Cm.n0 (h : Cm w N mb l fz cb db C m) : 0 < m.n := by rw [h.en]; omega
theorem Cm.kat (h : Cm w N mb l fz cb db C m) : KAt m (key4 0) 0 := ⟨h.n0, h.ek, fun i hi => absurd hi (by omega)⟩
theorem Cm.cell (h : Cm w N mb l fz cb db C m) : w.cell? ⟨cb, 0, none⟩ = some (.slice (some ⟨db, 0, none⟩) l l) := by
  have := (h.a.c 0 h.n0).cell (j := 0) (by omega)
  rw [h.ec, h.ed, h.eval] at this; exact this
theorem Cm.bytes (h : Cm w N mb l fz cb db C m) : Has w db 5 l (fun j => Yv (xt (C j))) := by
  have := h.a.v 0 h.n0
  rw [h.ed, h.eval] at this
  exact this.congr (fun j hj => by rw [h.ev j hj, by_yv])
theorem Cm.key (h : Cm w N mb l fz cb db C m) : KeyIs m (num4 0 (fun _ => 0#8)) (key4 0) := keyIs_of m 0 4 h.ety h.ekey (by decide) _
theorem zero_four {q : Option Addr} (h : Ats w q 4 (fun j => By (four 0#8 0#8 0#8 0#8 j))) : Ats w q 4 (fun j => By (num4 0 (fun _ => 0#8) j)) := h.congr (fun j hj => by
  rcases (show j = 0 ∨ j = 1 ∨ j = 2 ∨ j = 3 by omega) with rfl | rfl | rfl | rfl <;> rfl)
/-- Its bytes have turned: nothing else has. -/
theorem Cm.turn (h : Cm w N mb l fz cb db C m) {C' : Nat → BitVec 8} (t : Touch db w w') (hd : Has w' db 5 l (fun j => By (C' j))) : Cm w' N mb l fz cb db C' (m.set 0 C') := by
  have A := h.a.setv 0 h.n0 C' (by rw [h.ed]; exact t) (by rw [h.ed, h.eval]; exact hd)
  exact ⟨A, h.eb, h.ety, h.ekey, h.eval, h.efz, h.en, h.ek, h.ec, h.ed, fun j _ => rfl, fun k hk => h.lo k (foot_set hk)⟩
theorem Cm.upd (h : Cm w N mb l false cb db C m) (hM : Sz w M) (h1 : 1 ≤ l) (h2 : l ≤ 64) (X : Nat → BitVec 8) (q : Option Addr) (c : Nat) (x : Option Addr) (cx : Nat) (hq : Ats w q 4 (fun j => By (four 0#8 0#8 0#8 0#8 j))) (hx : Ats w x l (fun j => By (X j))) :
    Calls Try.prog 21 #[.pointer (some ⟨mb, 0, none⟩), .slice q 4 c, .slice x l cx, .int .u64 0] w fun e w' => e = .returned (.int .i64 0) ∧ Turn (fun j => j = db) w w' ∧ Cm w' N mb l false cb db X (m.set 0 X) := by
  have U := Upd_set m _ _ h.key h.efz (by rw [h.ety]; decide) 0 h.kat 0 (by omega) (by omega) (by rw [h.en]; omega) (by rw [h.eval]; exact h1) (by rw [h.eval]; exact h2) q c x cx X w M hM h.a (by rw [h.ekey]; exact zero_four hq) (by rw [h.eval]; exact hx)
  rw [h.eb, h.ekey, h.eval] at U
  refine U.mono ?_
  rintro e w' ⟨rfl, T, A⟩
  refine ⟨rfl, T.mono (fun j hj => by rw [hj, h.ed]), A, h.eb, h.ety, h.ekey, h.eval, h.efz, h.en, h.ek, h.ec, h.ed, fun j _ => rfl, fun k hk => h.lo k (foot_set hk)⟩
theorem Cm.get (h : Cm w N mb l fz cb db C m) (hM : Sz w M) (q : Option Addr) (c : Nat) (hq : Ats w q 4 (fun j => By (four 0#8 0#8 0#8 0#8 j))) :
    Calls Try.prog 22 #[.pointer (some ⟨mb, 0, none⟩), .slice q 4 c] w fun e w' => e = .returned (.tuple #[.pointer (some ⟨cb, 0, none⟩), .int .i64 0]) ∧ Below M w w' := by
  have U := Cell_at m _ _ h.key (by rw [h.ety]; decide) 0 h.kat (by rw [h.en]; omega) q c w M hM h.a (by rw [h.ekey]; exact zero_four hq)
  rw [h.eb, h.ekey, h.ec] at U
  exact U
theorem Cm.look (h : Cm w N mb l fz cb db C m) (hM : Sz w M) (h1 : 1 ≤ l) (h2 : l ≤ 64) (q : Option Addr) (c : Nat) (hq : Ats w q 4 (fun j => By (four 0#8 0#8 0#8 0#8 j))) :
    Calls Try.prog 23 #[.pointer (some ⟨mb, 0, none⟩), .slice q 4 c] w fun e w' => (∃ K, M ≤ K ∧ e = .returned (.tuple #[.slice (some ⟨K, 0, none⟩) l l, .int .i64 0]) ∧ Has w' K 5 l (fun j => By (C j))) ∧ Below M w w' := by
  have U := Look_at m _ _ h.key (by rw [h.ety]; decide) 0 h.kat (by rw [h.en]; omega) l h.eval h1 h2 q c w M hM h.a (by rw [h.ekey]; exact zero_four hq)
  rw [h.eb, h.ekey] at U
  refine U.mono ?_
  rintro e w' ⟨⟨K, hK, e1, hh⟩, hb⟩
  exact ⟨⟨K, hK, e1, hh.congr (fun j hj => by rw [h.ev j hj])⟩, hb⟩
theorem Cm.freeze (h : Cm w N mb l false cb db C m) :
    Calls Try.prog 24 #[.pointer (some ⟨mb, 0, none⟩)] w fun e w' => e = .returned (.int .i64 0) ∧ Touch mb w w' ∧ Cm w' N mb l true cb db C { m with fz := true } := by
  have eb := h.eb
  subst eb
  refine (Freeze_ok m h.efz w h.a).mono ?_
  rintro e w' ⟨rfl, T, A⟩
  exact ⟨rfl, T, A, rfl, h.ety, h.ekey, h.eval, rfl, h.en, h.ek, h.ec, h.ed, h.ev, fun k hk => h.lo k hk⟩
end
/-- New: an array of one entry. -/
theorem New_cell (l : Nat) (h1 : 1 ≤ l) (h2 : l ≤ 64) (w : World) (N : Nat) (hN : Sz w N) :
    Calls Try.prog 20 #[spV 0 4 l 1] w fun e w' => ∃ mb m cb db, N ≤ mb ∧ e = .returned (.tuple #[.pointer (some ⟨mb, 0, none⟩), .int .i64 0]) ∧ Below N w w' ∧ Cm w' N mb l false cb db (fun _ => 0#8) m := by
  refine (New_array l 1 h1 h2 (by omega) (by omega) w N hN).mono ?_
  rintro e w' ⟨mb, m, hb, rfl, A⟩
  exact ⟨mb, m, _, _, hb, rfl, A.bel, A.at_, A.eb, A.ety, A.ekey, A.eval, A.efz, A.en, A.ks 0 (by omega), rfl, rfl, fun j hj => A.vs 0 (by omega) j hj, A.lo⟩
end Go.Proofs.Ytjcjmlmdcjkceaa
