/- RegionCells: what its walk calls, for places of one class. -/
import Derived.Test.YtjcjmlmdcjkceaaRcl5
import Derived.Test.YtjcjmlmdcjkceaaRs6
namespace Go.Proofs.Ytjcjmlmdcjkceaa
open Go Go.RowKit
/-- A number, by its bytes from the highest on. -/
def accC (D : Nat → W) (k : Nat) : Nat → W
  | 0 => 0#64
  | d + 1 => (accC D k d <<< 8) ||| D (k - 1 - d)
def smallC (D : Nat → W) (k : Nat) : Prop := ∀ j, j < k → ∀ i, 8 ≤ i → (D j).getLsbD i = false
theorem numC_bits (D : Nat → W) (i : Nat) (hi : i < 64) : ∀ (n : Nat), smallC D n → (numF D n).getLsbD i = (decide (i < 8 * n) && (D (i / 8)).getLsbD (i % 8)) := by
  intro n
  induction n with
  | zero => intro _; simp [numF]
  | succ n ih =>
    intro hD
    show (numF D n ||| (D n <<< (8 * n))).getLsbD i = _
    rw [BitVec.getLsbD_or, ih (fun j hj => hD j (by omega)), BitVec.getLsbD_shiftLeft]
    by_cases h1 : i < 8 * n
    · simp [h1, show i < 8 * (n + 1) by omega]
    · by_cases h3 : i < 8 * (n + 1)
      · have e1 : i / 8 = n := by omega
        have e2 : i - 8 * n = i % 8 := by omega
        simp [h1, h3, hi, e1, e2]
      · rw [hD n (by omega) (i - 8 * n) (by omega)]
        simp [h1, h3]
theorem accC_bits (D : Nat → W) (k : Nat) (hD : smallC D k) : ∀ (d : Nat), d ≤ k → ∀ (i : Nat), i < 64 → (accC D k d).getLsbD i = (decide (i < 8 * d) && (D (k - d + i / 8)).getLsbD (i % 8)) := by
  intro d
  induction d with
  | zero => intro _ i _; simp [accC]
  | succ d ih =>
    intro hd i hi
    show ((accC D k d <<< 8) ||| D (k - 1 - d)).getLsbD i = _
    rw [BitVec.getLsbD_or, BitVec.getLsbD_shiftLeft]
    by_cases h1 : i < 8
    · have e1 : k - (d + 1) + i / 8 = k - 1 - d := by omega
      have e2 : i % 8 = i := by omega
      simp [h1, e1, e2, show i < 8 * (d + 1) by omega]
    · rw [ih (by omega) (i - 8) (by omega), hD (k - 1 - d) (by omega) i (by omega)]
      have e1 : k - d + (i - 8) / 8 = k - (d + 1) + i / 8 := by omega
      have e2 : (i - 8) % 8 = i % 8 := by omega
      rw [e1, e2]
      by_cases h2 : i < 8 * (d + 1)
      · simp [h1, h2, hi, show i - 8 < 8 * d by omega]
      · simp [h1, h2, hi, show ¬ i - 8 < 8 * d by omega]
theorem accC_num (D : Nat → W) (k : Nat) (hD : smallC D k) : accC D k k = numF D k := by
  apply BitVec.eq_of_getLsbD_eq
  intro i hi
  rw [accC_bits D k hD k (Nat.le_refl k) i hi, numC_bits D i hi k hD, Nat.sub_self, Nat.zero_add]
def cvV (pl : Int) (cb : Nat) : Vl := ⟨5, BitVec.ofInt 64 pl, 0, some ⟨cb, 0, none⟩⟩
def cxV (pl : Int) : Vl := ⟨2, BitVec.ofInt 64 pl, 0, none⟩
def nuV (x : W) : Vl := ⟨1, x, 0, none⟩
def eB (b : Bool) : Int := if b = true then 0 else 14
def ldB (b : Bool) (x : W) : Vl := if b = true then nuV x else zeroV
def numC (C : Nat → BitVec 8) (f k : Nat) : W := numF (fun j => xt (C (f + j))) k
def abT (C : Nat → BitVec 8) (f k d : Nat) (j : Nat) : BitVec 8 := if f + (k - d) ≤ j ∧ j < f + k then 171#8 else C j
def abB (b : Bool) (C : Nat → BitVec 8) (f k : Nat) (j : Nat) : BitVec 8 := if b = true then abT C f k k j else C j
theorem xt_small (C : Nat → BitVec 8) (f k : Nat) : smallC (fun j => xt (C (f + j))) k := fun j _ i hi => by
  have h := xt_lt (C (f + j))
  show (xt (C (f + j))).getLsbD i = false
  exact Nat.testBit_lt_two_pow (Nat.lt_of_lt_of_le h (Nat.pow_le_pow_right (n := 2) (by omega) hi))
theorem cell_in (pl of : Int) (hp : -100 < pl ∧ pl < 100) (l k cb : Nat) : (inB (sn (cvV pl cb).n) of 0 l = true ∧ at0 (sn (cvV pl cb).n) of 0 + k ≤ l) ↔ (0 ≤ pl + of ∧ pl + of + (k : Int) ≤ (l : Int)) := by
  have e : sn (cvV pl cb).n = pl := sn_of pl (by omega) (by omega)
  rw [e]
  unfold inB at0
  rw [decide_eq_true_iff]
  omega
theorem ctx_in (pl of : Int) (hp : -100 < pl ∧ pl < 100) (l k : Nat) : (inB (sn (cxV pl).n) of 0 l = true ∧ at0 (sn (cxV pl).n) of 0 + k ≤ l) ↔ (0 ≤ pl + of ∧ pl + of + (k : Int) ≤ (l : Int)) := by
  have e : sn (cxV pl).n = pl := sn_of pl (by omega) (by omega)
  rw [e]
  unfold inB at0
  rw [decide_eq_true_iff]
  omega
theorem cell_at (pl of : Int) (hp : -100 < pl ∧ pl < 100) (cb : Nat) : at0 (sn (cvV pl cb).n) of 0 = (pl + of).toNat := by
  have e : sn (cvV pl cb).n = pl := sn_of pl (by omega) (by omega)
  rw [e]; unfold at0; rw [Int.sub_zero]
theorem MpAt.setg {w w' : World} {m : Mp} (hA : MpAt w m) (k : Nat) (hk : k < m.n) (D : Nat → BitVec 8) (ht : Turn (fun j => j = (m.E k).b) w w') (hb : Has w' (m.E k).b 5 m.val (fun j => By (D j))) : MpAt w' (m.set k D) := by
  have e : ∀ i, ((m.set k D).E i).c = (m.E i).c ∧ ((m.set k D).E i).b = (m.E i).b ∧ ((m.set k D).E i).k = (m.E i).k := fun i => by
    simp only [Mp.set, setF]
    by_cases hik : i = k
    · rw [if_pos hik, hik]; exact ⟨rfl, rfl, rfl⟩
    · rw [if_neg hik]; exact ⟨rfl, rfl, rfl⟩
  refine ⟨(hA.h.turn ht (hA.cb k hk).2.symm).congr (fun j _ => rfl), ?_, fun i hi => ?_, fun i hi => ?_, fun i j hi hj hij => ?_⟩
  · refine (hA.e.turn ht (fun g hg => (hA.cp k hk g hg).2.symm)).congr (fun j hj => ?_)
    show me1 (m.E (j / 2)) (j % 2) = me1 ((m.set k D).E (j / 2)) (j % 2)
    unfold me1
    rw [(e _).1, (e _).2.2]
  · rw [(e i).1, (e i).2.1]
    exact (hA.c i hi).turn ht (hA.cc i k hi hk)
  · rw [(e i).2.1]
    by_cases hik : i = k
    · subst hik
      refine hb.congr (fun j _ => ?_)
      simp only [Mp.set, setF_self]
    · refine ((hA.v i hi).turn ht (hA.inj i k hi hk hik).2).congr (fun j _ => ?_)
      simp only [Mp.set, setF_ne _ _ _ hik]
  · rw [(e i).1, (e i).2.1, (e j).1, (e j).2.1]
    exact hA.inj i j hi hj hij
section
variable {w w' : World} {N M mb l cb db : Nat} {fz : Bool} {C : Nat → BitVec 8} {m : Mp}
theorem Cm.grew (h : Cm w N mb l fz cb db C m) {C' : Nat → BitVec 8} (t : Grew (some db) w w') (hd : Has w' db 5 l (fun j => By (C' j))) : Cm w' N mb l fz cb db C' (m.set 0 C') := by
  have A := h.a.setg 0 h.n0 C' (t.turn.mono (fun j hj => by rw [h.ed]; exact (Option.some.inj hj).symm)) (by rw [h.ed, h.eval]; exact hd)
  exact ⟨A, h.eb, h.ety, h.ekey, h.eval, h.efz, h.en, h.ek, h.ec, h.ed, fun j _ => rfl, fun k hk => h.lo k (foot_set hk)⟩
theorem ab_by (C : Nat → BitVec 8) (f k : Nat) (hk : k ≤ 8) (j : Nat) : Yv (byD (fun j => xt (C j)) f k 12370169555311111083#64 j) = By (abT C f k k j) := by
  rw [by_yv]
  refine congrArg Yv ?_
  unfold byD abT
  rw [Nat.sub_self, Nat.add_zero]
  by_cases h : f ≤ j ∧ j < f + k
  · rw [if_pos h, if_pos h]
    obtain ⟨i, rfl⟩ : ∃ i, j = f + i := ⟨j - f, by omega⟩
    rw [Nat.add_sub_cancel_left]
    rcases (show i = 0 ∨ i = 1 ∨ i = 2 ∨ i = 3 ∨ i = 4 ∨ i = 5 ∨ i = 6 ∨ i = 7 by omega) with rfl | rfl | rfl | rfl | rfl | rfl | rfl | rfl <;> rfl
  · rw [if_neg h, if_neg h]
theorem Cm.loadb (b : Nat) (A : Cm w N mb l fz cb db C m) (hM : Sz w M) (h2 : l ≤ 64) (pl of fi : Int) (f : Nat) (hfi : pl + of = fi) (hf : fi.toNat = f) (hp : -100 < pl ∧ pl < 100) (ho : -100 < of ∧ of < 100) (k : Nat) (hk : sizeOk k) (bI : Bool) (hI : decide (0 ≤ fi ∧ fi + (k : Int) ≤ (l : Int)) = bI) :
    Calls Try.prog 8 #[.pointer (some ⟨b, 0, none⟩), vlV (cvV pl cb), .int .i64 of, .int .i64 ((k : Nat) : Int)] w fun e w' => e = .returned (.tuple #[vlV (ldB bI (numC C f k)), .int .i64 (eB bI)]) ∧ Below M w w' := by
  subst hfi; subst hf
  cases bI
  · exact LoadC_no b (cvV pl cb) rfl cb rfl db l l (by omega) (Nat.le_refl _) of k hk (by omega) (by rw [cell_in pl of hp]; exact of_decide_eq_false hI) w M hM A.cell
  · have h := (cell_in pl of hp l k cb).2 (of_decide_eq_true hI)
    have := LoadC_in b (cvV pl cb) rfl cb rfl db l l (by omega) (Nat.le_refl _) of k hk _ h.1 rfl h.2 (fun j => xt (C j)) w M hM A.cell A.bytes.ats
    rw [cell_at pl of hp cb] at this
    exact this
theorem Cm.wr (b : Nat) (me : Me) (ms c : Nat) (hmp : me.mp = .slice (some ⟨ms, 0, none⟩) 1 c) (pl : Int) (A : Cm w N mb l fz cb db C m) (hM : Sz w M) (hh : Has w b 83 193 (meC me)) (q : w.cell? ⟨ms, 0, none⟩ = some (.pointer (some ⟨mb, 0, none⟩))) :
    Calls Try.prog 32 #[.pointer (some ⟨b, 0, none⟩), vlV (cvV pl cb)] w fun e w' => e = .returned (.bool (!fz)) ∧ Below M w w' :=
  Writable_cell b (cvV pl cb) rfl rfl me ms c hmp m fz A.efz w M hM hh (by rw [A.eb]; exact q) A.a
/-- What a Save's test of writing asks of the world. -/
def Jw (b ms N mb l cb db : Nat) (me : Me) (fz : Bool) (C : Nat → BitVec 8) (m : Mp) (w : World) : Prop := Has w b 83 193 (meC me) ∧ w.cell? ⟨ms, 0, none⟩ = some (.pointer (some ⟨mb, 0, none⟩)) ∧ Cm w N mb l fz cb db C m
theorem Jw.bel {b ms : Nat} {me : Me} (x y : World) (K : Nat) (hK : Sz x K) (hb : Below K x y) (h : Jw b ms N mb l cb db me fz C m x) : Jw b ms N mb l cb db me fz C m y := by
  refine ⟨h.1.below hb (h.1.ltN hK), ?_, h.2.2.below hK hb⟩
  rw [hb.cell (p := ⟨ms, 0, none⟩) (by have h9 := World.block_lt_of_cell? x _ h.2.1; have e : x.heap.size = K := hK; simp only at h9 ⊢; omega)]
  exact h.2.1
theorem Cm.saveb (b : Nat) (me : Me) (ms c : Nat) (hmp : me.mp = .slice (some ⟨ms, 0, none⟩) 1 c) (A : Cm w N mb l false cb db C m) (hM : Sz w M) (hh : Has w b 83 193 (meC me)) (q : w.cell? ⟨ms, 0, none⟩ = some (.pointer (some ⟨mb, 0, none⟩))) (h2 : l ≤ 64) (pl of fi : Int) (f : Nat) (hfi : pl + of = fi) (hf : fi.toNat = f) (hp : -100 < pl ∧ pl < 100) (ho : -100 < of ∧ of < 100) (k : Nat) (hk : sizeOk k) (bI : Bool) (hI : decide (0 ≤ fi ∧ fi + (k : Int) ≤ (l : Int)) = bI) :
    Calls Try.prog 11 #[.pointer (some ⟨b, 0, none⟩), vlV (cvV pl cb), .int .i64 of, .int .i64 ((k : Nat) : Int), vlV (nuV 12370169555311111083#64)] w fun e w' => e = .returned (.int .i64 (eB bI)) ∧ Turn (fun j => j = db) w w' ∧ ∃ m', Cm w' N mb l false cb db (abB bI C f k) m' ∧ ∀ j, Foot m' j → Foot m j := by
  subst hfi; subst hf
  cases bI
  · refine (SaveC_no b (cvV pl cb) (nuV 12370169555311111083#64) rfl cb rfl db l l (by omega) (Nat.le_refl _) ⟨by decide, by decide⟩ of k hk (by omega) (by rw [cell_in pl of hp]; exact of_decide_eq_false hI) w M hM A.cell).mono ?_
    rintro e w' ⟨rfl, hb⟩
    exact ⟨rfl, (below_grew (b := some db) hb hM).turn.mono (fun j hj => (Option.some.inj hj).symm), m, A.below hM hb, fun _ h => h⟩
  · have h := (cell_in pl of hp l k cb).2 (of_decide_eq_true hI)
    have hk8 : k ≤ 8 := by rcases hk with rfl | rfl | rfl | rfl <;> omega
    refine (SaveC_num b (cvV pl cb) (nuV 12370169555311111083#64) rfl cb rfl db l l (by omega) (Nat.le_refl _) ⟨by decide, by decide⟩ of k hk _ h.1 rfl h.2 rfl (fun j => xt (C j)) (Jw b ms N mb l cb db me false C m) (fun x y K hK hb j => Jw.bel x y K hK hb j) (fun x K hK j => j.2.2.wr b me ms c hmp pl hK j.1 j.2.1) w M hM A.cell ⟨hh, q, A⟩ A.bytes).mono ?_
    rintro e w' ⟨rfl, hg, hd⟩
    rw [cell_at pl of hp cb] at hd
    exact ⟨rfl, hg.turn.mono (fun j hj => (Option.some.inj hj).symm), _, A.grew hg (hd.congr (fun j _ => ab_by C (pl + of).toNat k hk8 j)), fun j hj => foot_set hj⟩
theorem Cm.savek (b : Nat) (me : Me) (ms c : Nat) (hmp : me.mp = .slice (some ⟨ms, 0, none⟩) 1 c) (A : Cm w N mb l false cb db C m) (hM : Sz w M) (hh : Has w b 83 193 (meC me)) (q : w.cell? ⟨ms, 0, none⟩ = some (.pointer (some ⟨mb, 0, none⟩))) (h2 : l ≤ 64) (pl of : Int) (ho : -100 < of ∧ of < 100) :
    Calls Try.prog 11 #[.pointer (some ⟨b, 0, none⟩), vlV (cvV pl cb), .int .i64 of, .int .i64 8, vlV ⟨4, 0#64, 0, none⟩] w fun e w' => e = .returned (.int .i64 14) ∧ Below M w w' := by
  have hk : sizeOk 8 := .inr (.inr (.inr rfl))
  rcases Decidable.em (inB (sn (cvV pl cb).n) of 0 l = true ∧ at0 (sn (cvV pl cb).n) of 0 + 8 ≤ l) with h | h
  · exact SaveC_keep b (cvV pl cb) ⟨4, 0#64, 0, none⟩ rfl cb rfl db l l (by omega) (Nat.le_refl _) ⟨by decide, by decide⟩ of 8 hk _ h.1 rfl h.2 (by decide) (Jw b ms N mb l cb db me false C m) (fun x y K hK hb j => Jw.bel x y K hK hb j) (fun x K hK j => j.2.2.wr b me ms c hmp pl hK j.1 j.2.1) w M hM A.cell ⟨hh, q, A⟩
  · exact SaveC_no b (cvV pl cb) ⟨4, 0#64, 0, none⟩ rfl cb rfl db l l (by omega) (Nat.le_refl _) ⟨by decide, by decide⟩ of 8 hk (by omega) h w M hM A.cell
theorem Cm.shut (b : Nat) (me : Me) (ms c : Nat) (hmp : me.mp = .slice (some ⟨ms, 0, none⟩) 1 c) (A : Cm w N mb l true cb db C m) (hM : Sz w M) (hh : Has w b 83 193 (meC me)) (q : w.cell? ⟨ms, 0, none⟩ = some (.pointer (some ⟨mb, 0, none⟩))) (h2 : l ≤ 64) (pl of : Int) (ho : -100 < of ∧ of < 100) (k : Nat) (hk : sizeOk k) :
    Calls Try.prog 11 #[.pointer (some ⟨b, 0, none⟩), vlV (cvV pl cb), .int .i64 of, .int .i64 ((k : Nat) : Int), vlV (nuV 0#64)] w fun e w' => e = .returned (.int .i64 14) ∧ Below M w w' :=
  SaveC_shut b (cvV pl cb) (nuV 0#64) rfl cb rfl db l l (by omega) (Nat.le_refl _) ⟨by decide, by decide⟩ of k hk (by omega) (Jw b ms N mb l cb db me true C m) (fun x y K hK hb j => Jw.bel x y K hK hb j) (fun x K hK j => j.2.2.wr b me ms c hmp pl hK j.1 j.2.1) w M hM A.cell ⟨hh, q, A⟩
theorem Cm.fill (b : Nat) (me : Me) (ms c : Nat) (hmp : me.mp = .slice (some ⟨ms, 0, none⟩) 1 c) (A : Cm w N mb l true cb db C m) (hM : Sz w M) (hh : Has w b 83 193 (meC me)) (q : w.cell? ⟨ms, 0, none⟩ = some (.pointer (some ⟨mb, 0, none⟩))) (h2 : l ≤ 64) (pl : Int) (p : Option Addr) (n c0 : Nat) (hn : n < 1000) :
    Calls Try.prog 12 #[.pointer (some ⟨b, 0, none⟩), vlV (cvV pl cb), .slice p n c0] w fun e w' => e = .returned (.int .i64 14) ∧ Below M w w' :=
  FillC_shut b (cvV pl cb) rfl cb rfl db l l (by omega) (Nat.le_refl _) p n c0 hn (Jw b ms N mb l cb db me true C m) (fun x y K hK hb j => Jw.bel x y K hK hb j) (fun x K hK j => j.2.2.wr b me ms c hmp pl hK j.1 j.2.1) w M hM A.cell ⟨hh, q, A⟩
theorem LoadX_b (b : Nat) (me : Me) (hM : Sz w M) (hh : Has w b 83 193 (meC me)) (pl of fi : Int) (hfi : pl + of = fi) (hp : -100 < pl ∧ pl < 100) (ho : -100 < of ∧ of < 100) (bI : Bool) (hI : decide (0 ≤ fi ∧ fi < 32) = bI) :
    Calls Try.prog 8 #[.pointer (some ⟨b, 0, none⟩), vlV (cxV pl), .int .i64 of, .int .i64 1] w fun e w' => (∃ x, e = .returned (.tuple #[vlV (ldB bI x), .int .i64 (eB bI)])) ∧ Below M w w' := by
  subst hfi
  have hk : sizeOk 1 := .inl rfl
  cases bI
  · refine (LoadX_no b (cxV pl) rfl of 1 hk (by omega) (by rw [ctx_in pl of hp]; have := of_decide_eq_false hI; omega) w M hM).mono ?_
    rintro e w' ⟨rfl, hb⟩
    exact ⟨⟨0#64, rfl⟩, hb⟩
  · have h := (ctx_in pl of hp 32 1).2 (by have := of_decide_eq_true hI; omega)
    refine (Load_ctx b (cxV pl) rfl me of 1 _ hk h.1 rfl h.2 w M hM hh).mono ?_
    rintro e w' ⟨rfl, hb⟩
    exact ⟨⟨_, rfl⟩, hb⟩
theorem SaveX_b (b : Nat) (hM : Sz w M) (pl of : Int) (ho : -100 < of ∧ of < 100) :
    Calls Try.prog 11 #[.pointer (some ⟨b, 0, none⟩), vlV (cxV pl), .int .i64 of, .int .i64 1, vlV (nuV 0#64)] w fun e w' => e = .returned (.int .i64 14) ∧ Below M w w' :=
  SaveX_shut b (cxV pl) (nuV 0#64) rfl ⟨by decide, by decide⟩ of 1 (.inl rfl) (by omega) w M hM
theorem FillX_b (b : Nat) (hM : Sz w M) (pl : Int) :
    Calls Try.prog 12 #[.pointer (some ⟨b, 0, none⟩), vlV (cxV pl), .slice none 0 0] w fun e w' => e = .returned (.int .i64 14) ∧ Below M w w' :=
  FillX_shut b (cxV pl) rfl none 0 0 (by omega) w M hM
theorem Cm.touchM {d : Nat} (h : Cm w N mb l fz cb db C m) (t : Touch d w w') (hd : ¬ Foot m d) : Cm w' N mb l fz cb db C m := { h with a := h.a.turn t.turn (fun k hk e => hd (e ▸ hk)) }
theorem Own.k1 {E n cap : Nat} {p : Option Addr} {f : Nat → Value} (h : Own w E p n cap f) : OwnK w E 1 p n cap f := by unfold Own at h; unfold OwnK; simpa only [Nat.mul_one] using h
theorem OwnK.own1 {E n cap : Nat} {p : Option Addr} {f : Nat → Value} (h : OwnK w E 1 p n cap f) : Own w E p n cap f := by unfold OwnK at h; unfold Own; simpa only [Nat.mul_one] using h
theorem Own.q {E cap b : Nat} {f : Nat → Value} (h : Own w E (some ⟨b, 0, none⟩) 1 cap f) : w.cell? ⟨b, 0, none⟩ = some (f 0) := by
  obtain ⟨g, e, hc⟩ := h.cell (by omega)
  obtain rfl : b = g := by injection e with e; injection e
  have := hc 0 (by omega)
  rwa [Nat.zero_add] at this
theorem Own.at_ {E cap n b : Nat} {f : Nat → Value} (h : Own w E (some ⟨b, 0, none⟩) n cap f) (j : Nat) (hj : j < n) : w.cell? ⟨b, j, none⟩ = some (f j) := by
  obtain ⟨g, e, hc⟩ := h.cell (by omega)
  obtain rfl : b = g := by injection e with e; injection e
  have := hc j hj
  rwa [Nat.zero_add] at this
theorem Own.apart2 {E T cap cap' n k b d : Nat} {f g : Nat → Value} (h : Own w E (some ⟨b, 0, none⟩) n cap f) (h' : Own w T (some ⟨d, 0, none⟩) k cap' g) (hT : ¬ E = T) : b ≠ d := by
  rintro rfl
  rcases h with ⟨h, _⟩ | ⟨g', Cc, e, hg, _⟩
  · cases h
  · rcases h' with ⟨h', _⟩ | ⟨g2, Cd, e2, hg2, _⟩
    · cases h'
    · obtain rfl : b = g' := by injection e with e; injection e
      obtain rfl : b = g2 := by injection e2 with e2; injection e2
      have e3 := hg.symm.trans hg2
      injection e3 with e3
      injection e3 with _ e4
      exact hT e4
/-- Two blocks of two types are two. -/
theorem Own.apart {E T cap n k b d : Nat} {f g : Nat → Value} (h : Own w E (some ⟨b, 0, none⟩) n cap f) (h' : Has w d T k g) (hT : ¬ E = T) : b ≠ d := by
  rintro rfl
  rcases h with ⟨h, _⟩ | ⟨g', Cc, e, hg, _⟩
  · cases h
  · obtain rfl : b = g' := by injection e with e; injection e
    have e2 := hg.symm.trans h'
    injection e2 with e2
    injection e2 with _ e3
    exact hT e3
end
section
variable {P : Program} {a : Act} {o : Oper} {T ty : TypeId} {x y : Operand}
theorem addZ {p q r : Int} (ho : o.op = .binOp .add T x y ty) (hx : a.eval x = .int .i64 p) (hy : a.eval y = .int .i64 q) (h : p + q = r) (hb : -9223372036854775808 ≤ r ∧ r < 9223372036854775808) (w : World) : (execOp a.eval o).run P w = .ok (.value (.int .i64 r)) w := by
  have e := run_addI (P := P) ho hx hy w
  rw [h, wrap_id hb.1 hb.2] at e; exact e
theorem subZ {p q r : Int} (ho : o.op = .binOp .sub T x y ty) (hx : a.eval x = .int .i64 p) (hy : a.eval y = .int .i64 q) (h : p - q = r) (hb : -9223372036854775808 ≤ r ∧ r < 9223372036854775808) (w : World) : (execOp a.eval o).run P w = .ok (.value (.int .i64 r)) w :=
  subN ho hx hy (by rw [h]; exact wrap_id hb.1 hb.2) w
theorem run_ix0 (T E : TypeId) (hu : P.underlying T = some (.slice E)) (hs : (P.info? E).map (·.size) = some 1) (x y : Operand) (ho : o.op = .indexAddr T x y) {q cap k n : Nat} (hx : a.eval x = .slice (some ⟨q, 0, none⟩) n cap) (hy : a.eval y = .int .i64 (k : Int)) (hk : k < n) (w : World) : (execOp a.eval o).run P w = .ok (.value (.pointer (some ⟨q, k, none⟩))) w := by
  have := run_ixL T E hu hs x y ho hx hy hk w
  rwa [Nat.zero_add] at this
theorem faVl0 (b : Nat) (w : World) : (Instr.fieldAt 26 (.pointer (some ⟨b, 0, none⟩)) 0).run Try.prog w = .ok (.pointer (some ⟨b, 0, none⟩)) w := by go_simp
theorem undBo : Try.prog.underlying 4 = some .bool := by kernel_rfl
theorem undSt : Try.prog.underlying 9 = some .string := by kernel_rfl
theorem eqBo (d : Nat) (p q : Bool) (w : World) : (Op.equalIn (d + 1) 4 (.bool p) (.bool q)).run Try.prog w = .ok (p == q) w := by
  simp [Op.equalIn, run_underlying undBo]
theorem run_neqB {p q r : Bool} (ho : o.op = .binOp .neq 4 x y ty) (hx : a.eval x = .bool p) (hy : a.eval y = .bool q) (h : (p != q) = r) (w : World) : (execOp a.eval o).run Try.prog w = .ok (.value (.bool r)) w := by
  have h2 : (Op.equal 4 (.bool p) (.bool q)).run Try.prog w = .ok (p == q) w := eqBo 9999 p q w
  have e : (eqGuard .neq 4 x y (.bool p) (.bool q)).run Try.prog w = .ok () w := by unfold eqGuard; rfl
  subst h
  unfold execOp
  simp only [ho, hx, hy, Sem.run_bind, e, Result.andThen_ok, binOp, h2, Sem.run_pure]
  rfl
theorem run_eqlB {p q r : Bool} (ho : o.op = .binOp .eql 4 x y ty) (hx : a.eval x = .bool p) (hy : a.eval y = .bool q) (h : (p == q) = r) (w : World) : (execOp a.eval o).run Try.prog w = .ok (.value (.bool r)) w := by
  have h2 : (Op.equal 4 (.bool p) (.bool q)).run Try.prog w = .ok (p == q) w := eqBo 9999 p q w
  have e : (eqGuard .eql 4 x y (.bool p) (.bool q)).run Try.prog w = .ok () w := by unfold eqGuard; rfl
  subst h
  unfold execOp
  simp only [ho, hx, hy, Sem.run_bind, e, Result.andThen_ok, binOp, h2, Sem.run_pure]
theorem run_neqS {p : ByteArray} (ho : o.op = .binOp .neq 9 x y ty) (hx : a.eval x = .string p) (hy : a.eval y = .string p) (w : World) : (execOp a.eval o).run Try.prog w = .ok (.value (.bool false)) w := by
  unfold execOp
  simp only [ho, hx, hy]
  go_simp
theorem run_cvS {src dst e : TypeId} (hs : P.underlying src = some (.slice e)) (he : P.underlying e = some (.int .u8)) (hd : P.underlying dst = some .string) (ho : o.op = .convert src dst x) {p : Option Addr} {n cap : Nat} (hx : a.eval x = .slice p n cap) (w : World) (D : Nat → BitVec 8) (h : Ats w p n (fun j => By (D j))) : (execOp a.eval o).run P w = .ok (.value (.string (strOf D n))) w := by
  have h9 := run_string w src dst e hs he hd p n cap D h
  unfold execOp; simp only [ho, hx, Sem.run_bind, h9, Result.andThen_ok, Sem.run_pure]
theorem eB_eq (b : Bool) : (eB b == 0) = b := by cases b <;> rfl
theorem abT_0 (C : Nat → BitVec 8) (f k j : Nat) : abT C f k 0 j = C j := by unfold abT; rw [if_neg (by omega)]
theorem abT_step (C : Nat → BitVec 8) (f k d i : Nat) (hi : i = k - 1 - d) (hd : d < k) (j : Nat) : upd (fun j => By (abT C f k d j)) (f + i) (By 171#8) j = By (abT C f k (d + 1) j) := by
  unfold upd
  by_cases h : j = f + i
  · rw [if_pos h]; unfold abT; rw [if_pos (by omega)]
  · rw [if_neg h]
    show By (abT C f k d j) = _
    unfold abT
    by_cases h1 : f + (k - d) ≤ j ∧ j < f + k
    · rw [if_pos h1, if_pos (by omega)]
    · rw [if_neg h1, if_neg (by omega)]
theorem abT_at (C : Nat → BitVec 8) (f k d i : Nat) (hi : i = k - 1 - d) (hd : d < k) : By (abT C f k d (f + i)) = Yv (xt (C (f + i))) := by
  rw [← by_yv]; unfold abT; rw [if_neg (by omega)]
theorem shl8C (T : TypeId) (p : W) : BinRun P .shl T (Q p) (.int .u64 8) (Q (p <<< 8)) := bin_shlu T p 8#64
end
section
variable {P : Program} {ops : Array Oper} {rest : List Oper} {o : Oper} {a : Act} {w : World} {Q : Exit → Act → World → Prop}
theorem wpl_setO (hg : o.guard = none) (ty : TypeId) (x y : Operand) (ho : o.op = .store ty x y) (b k : Nat) (hx : a.eval x = .pointer (some ⟨b, k, none⟩)) (v : Value) (hy : a.eval y = v)
    (hi : (P.info? ty).map (·.size) = some 1) (hv : v.cells = #[v]) (h1 : v.oneCell' = true) (E n cap : Nat) (f : Nat → Value) (hh : Own w E (some ⟨b, 0, none⟩) n cap f) (hk : k < n)
    (h : ∀ w1, Touch b w w1 → Own w1 E (some ⟨b, 0, none⟩) n cap (upd f k v) → wpList P ops Q rest (a.put o.dst undef) w1) : wpList P ops Q (o :: rest) a w :=
  wpl_setK hg ty x y ho b k hx v hy hi hv h1 E 1 n cap f hh.k1 (by omega) (fun w1 t o1 => h w1 t o1.own1)
end
end Go.Proofs.Ytjcjmlmdcjkceaa
