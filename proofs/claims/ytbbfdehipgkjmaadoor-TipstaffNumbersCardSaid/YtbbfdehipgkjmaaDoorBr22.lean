/- Plain: what a jump tells keeps the numbers that it must, and nothing else comes in. -/
import Derived.Test.YtbbfdehipgkjmaaDoorBr20
import Derived.Test.YtbbfdehipgkjmaaDoorMgSm10
import Derived.Test.YtbbfdehipgkjmaaDoorMgSm2
namespace Go.Proofs.YtbbfdehipgkjmaaDoor
theorem sgn_eq (x : W) : BitVec.signExtend 64 (s32 (lo32 x)) = rsigF x false := by
  unfold rsigF s32 lo32
  simp only [cond_false]
  apply BitVec.eq_of_toNat_eq
  have hx : (x % 4294967296#64).toNat < 4294967296 := by rw [BitVec.toNat_umod]; exact Nat.mod_lt _ (by decide)
  generalize x % 4294967296#64 = y at hx
  rw [BitVec.signExtend, BitVec.toNat_ofInt, BitVec.toInt_eq_toNat_cond, BitVec.toNat_setWidth]
  cases h : BitVec.ule 2147483648#64 y
  · have h' : ¬ 2147483648 ≤ y.toNat := by simpa [BitVec.ule] using h
    simp only [cond_false]; split <;> omega
  · have h' : 2147483648 ≤ y.toNat := by simpa [BitVec.ule] using h
    simp only [cond_true, BitVec.toNat_sub]
    split
    · omega
    · rw [show (4294967296#64).toNat = 4294967296 from rfl]; omega
/-- What is so of two numbers. -/
def Wt (w : Int) (x y : W) : Prop := if w = 1 then x = y else if w = 2 then qn y < qn x else if w = 3 then qn y ≤ qn x else if w = 10 then qn x < qn y else if w = 11 then qn x ≤ qn y else if w = 6 then sn y < sn x else if w = 7 then sn y ≤ sn x else if w = 12 then sn x < sn y else if w = 13 then sn x ≤ sn y else if w = 5 then x ≠ y else if w = (-1) then x &&& y = 0#64 else True
theorem lo32_small {x : W} (h : qn x ≤ 4294967295) : lo32 x = x := by
  apply qn_inj; rw [qn_lo32]; have := qn_lo x; omega
theorem sx_small {x : W} (h : qn x ≤ 2147483647) : BitVec.signExtend 64 (s32 (lo32 x)) = x := by
  rw [sgn_eq]
  have e : lo32 x = x := lo32_small (by omega)
  unfold lo32 at e
  unfold rsigF
  simp only [cond_false]
  rw [e]
  have c : BitVec.ule 2147483648#64 x = false := by
    rw [ule_qn, decide_eq_false_iff_not, show qn 2147483648#64 = 2147483648 from rfl]; omega
  rw [c, cond_false]
/-- A comparison of the lower halves tells that of the whole numbers, where they are small. -/
theorem hol_long {op : Int} {a b : Rn} {x y : W} (ha : In a x) (hb : In b y) (h : aslF op a b = true) : holF op false x y = holF op true x y := by
  have g1 := ha.hi
  have g2 := hb.hi
  unfold aslF at h
  have S : ∀ {p q : W}, (bif BitVec.ule p 2147483647#64 then BitVec.ule q 2147483647#64 else false) = true → qn p ≤ 2147483647 ∧ qn q ≤ 2147483647 := fun {p q} e => by
    cases e1 : BitVec.ule p 2147483647#64
    · rw [e1] at e; cases e
    · rw [e1, cond_true] at e
      rw [ule_qn, decide_eq_true_eq] at e e1
      exact ⟨e1, e⟩
  have U : ∀ {p q : W}, (bif BitVec.ule p 4294967295#64 then BitVec.ule q 4294967295#64 else false) = true → qn p ≤ 4294967295 ∧ qn q ≤ 4294967295 := fun {p q} e => by
    cases e1 : BitVec.ule p 4294967295#64
    · rw [e1] at e; cases e
    · rw [e1, cond_true] at e
      rw [ule_qn, decide_eq_true_eq] at e e1
      exact ⟨e1, e⟩
  by_cases h6 : op = 6
  · subst h6
    have := S (p := a.hi) (q := b.hi) h
    show hol6 false x y = hol6 true x y
    unfold hol6
    rw [cond_false, cond_true, sx_small (by omega), sx_small (by omega)]
  by_cases h7 : op = 7
  · subst h7
    have := S (p := a.hi) (q := b.hi) h
    show hol7 false x y = hol7 true x y
    unfold hol7
    rw [cond_false, cond_true, sx_small (by omega), sx_small (by omega)]
  by_cases h12 : op = 12
  · subst h12
    have := S (p := a.hi) (q := b.hi) h
    show hol12 false x y = hol12 true x y
    unfold hol12
    rw [cond_false, cond_true, sx_small (by omega), sx_small (by omega)]
  by_cases h13 : op = 13
  · subst h13
    have := S (p := a.hi) (q := b.hi) h
    show hol13 false x y = hol13 true x y
    unfold hol13
    rw [cond_false, cond_true, sx_small (by omega), sx_small (by omega)]
  rw [if_neg h6, if_neg h7, if_neg h12, if_neg h13] at h
  have g := U (p := a.hi) (q := b.hi) h
  have e1 := lo32_small (x := x) (by omega)
  have e2 := lo32_small (x := y) (by omega)
  by_cases h1 : op = 1
  · subst h1; show hol1 false x y = hol1 true x y; unfold hol1; rw [cond_false, cond_true, e1, e2]
  by_cases h2 : op = 2
  · subst h2; show hol2 false x y = hol2 true x y; unfold hol2; rw [cond_false, cond_true, e1, e2]
  by_cases h3 : op = 3
  · subst h3; show hol3 false x y = hol3 true x y; unfold hol3; rw [cond_false, cond_true, e1, e2]
  by_cases h4 : op = 4
  · subst h4; show hol4 false x y = hol4 true x y; unfold hol4; rw [cond_false, cond_true, e1, e2]
  by_cases h5 : op = 5
  · subst h5; show hol5 false x y = hol5 true x y; unfold hol5; rw [cond_false, cond_true, e1, e2]
  by_cases h10 : op = 10
  · subst h10; show hol10 false x y = hol10 true x y; unfold hol10; rw [cond_false, cond_true, e1, e2]
  by_cases h11 : op = 11
  · subst h11; show hol11 false x y = hol11 true x y; unfold hol11; rw [cond_false, cond_true, e1, e2]
  unfold holF; simp only [if_neg h1, if_neg h2, if_neg h3, if_neg h4, if_neg h5, if_neg h6, if_neg h7, if_neg h10, if_neg h11, if_neg h12, if_neg h13]
/-- What a comparison tells of two numbers. -/
theorem hol_wt (op : Int) {x y : W} {t : Bool} (h : holF op true x y = t) : Wt (bif t then op else oppF op) x y := by
  by_cases h1 : op = 1
  · subst h1
    cases t
    · exact (beq_eq_false_iff_ne.1 h)
    · exact (beq_iff_eq.1 h)
  by_cases h2 : op = 2
  · subst h2
    cases t
    · exact (by rw [show holF 2 true x y = BitVec.ult y x from rfl, ult_qn, decide_eq_false_iff_not] at h; show qn x ≤ qn y; omega)
    · exact (by rw [show holF 2 true x y = BitVec.ult y x from rfl, ult_qn, decide_eq_true_eq] at h; exact h)
  by_cases h3 : op = 3
  · subst h3
    cases t
    · exact (by rw [show holF 3 true x y = BitVec.ule y x from rfl, ule_qn, decide_eq_false_iff_not] at h; show qn x < qn y; omega)
    · exact (by rw [show holF 3 true x y = BitVec.ule y x from rfl, ule_qn, decide_eq_true_eq] at h; exact h)
  by_cases h4 : op = 4
  · subst h4
    cases t
    · exact (by rw [show holF 4 true x y = (x &&& y != 0#64) from rfl, bne_eq_false_iff_eq] at h; exact h)
    · exact (trivial)
  by_cases h5 : op = 5
  · subst h5
    cases t
    · exact (by rw [show holF 5 true x y = (x != y) from rfl, bne_eq_false_iff_eq] at h; exact h)
    · exact (by rw [show holF 5 true x y = (x != y) from rfl, bne_iff_ne] at h; exact h)
  by_cases h6 : op = 6
  · subst h6
    cases t
    · exact (by rw [show holF 6 true x y = BitVec.slt y x from rfl, slt_sn, decide_eq_false_iff_not] at h; show sn x ≤ sn y; omega)
    · exact (by rw [show holF 6 true x y = BitVec.slt y x from rfl, slt_sn, decide_eq_true_eq] at h; exact h)
  by_cases h7 : op = 7
  · subst h7
    cases t
    · exact (by rw [show holF 7 true x y = BitVec.sle y x from rfl, sle_sn, decide_eq_false_iff_not] at h; show sn x < sn y; omega)
    · exact (by rw [show holF 7 true x y = BitVec.sle y x from rfl, sle_sn, decide_eq_true_eq] at h; exact h)
  by_cases h10 : op = 10
  · subst h10
    cases t
    · exact (by rw [show holF 10 true x y = BitVec.ult x y from rfl, ult_qn, decide_eq_false_iff_not] at h; show qn y ≤ qn x; omega)
    · exact (by rw [show holF 10 true x y = BitVec.ult x y from rfl, ult_qn, decide_eq_true_eq] at h; exact h)
  by_cases h11 : op = 11
  · subst h11
    cases t
    · exact (by rw [show holF 11 true x y = BitVec.ule x y from rfl, ule_qn, decide_eq_false_iff_not] at h; show qn y < qn x; omega)
    · exact (by rw [show holF 11 true x y = BitVec.ule x y from rfl, ule_qn, decide_eq_true_eq] at h; exact h)
  by_cases h12 : op = 12
  · subst h12
    cases t
    · exact (by rw [show holF 12 true x y = BitVec.slt x y from rfl, slt_sn, decide_eq_false_iff_not] at h; show sn y ≤ sn x; omega)
    · exact (by rw [show holF 12 true x y = BitVec.slt x y from rfl, slt_sn, decide_eq_true_eq] at h; exact h)
  by_cases h13 : op = 13
  · subst h13
    cases t
    · exact (by rw [show holF 13 true x y = BitVec.sle x y from rfl, sle_sn, decide_eq_false_iff_not] at h; show sn y < sn x; omega)
    · exact (by rw [show holF 13 true x y = BitVec.sle x y from rfl, sle_sn, decide_eq_true_eq] at h; exact h)
  cases t
  · rw [show oppF op = 0 by unfold oppF; simp only [if_neg h1, if_neg h2, if_neg h3, if_neg h4, if_neg h5, if_neg h6, if_neg h7, if_neg h10, if_neg h11, if_neg h12, if_neg h13]]; trivial
  · unfold holF at h; simp only [if_neg h1, if_neg h2, if_neg h3, if_neg h4, if_neg h5, if_neg h6, if_neg h7, if_neg h10, if_neg h11, if_neg h12, if_neg h13] at h; cases h
theorem hol_opp {op : Int} {l : Bool} {x y : W} (h : holF op l x y = true) : (oppF op == 0) = false := by
  by_cases h1 : op = 1
  · subst h1; rfl
  by_cases h2 : op = 2
  · subst h2; rfl
  by_cases h3 : op = 3
  · subst h3; rfl
  by_cases h4 : op = 4
  · subst h4; rfl
  by_cases h5 : op = 5
  · subst h5; rfl
  by_cases h6 : op = 6
  · subst h6; rfl
  by_cases h7 : op = 7
  · subst h7; rfl
  by_cases h10 : op = 10
  · subst h10; rfl
  by_cases h11 : op = 11
  · subst h11; rfl
  by_cases h12 : op = 12
  · subst h12; rfl
  by_cases h13 : op = 13
  · subst h13; rfl
  unfold holF at h; simp only [if_neg h1, if_neg h2, if_neg h3, if_neg h4, if_neg h5, if_neg h6, if_neg h7, if_neg h10, if_neg h11, if_neg h12, if_neg h13] at h; cases h
theorem without_in {a b : Rn} {x y : W} (ha : In a x) (hb : In b y) (h : x ≠ y) : In (withoutF a b) x := by
  obtain ⟨a0, a1, a2, a3, a4⟩ := ha
  obtain ⟨b0, b1, b2, b3, b4⟩ := hb
  have hq : qn x ≠ qn y := fun e => h (qn_inj e)
  unfold withoutF aloneF
  cases h1 : (b.lo == b.hi)
  · rw [cond_false]; exact ⟨a0, a1, a2, a3, a4⟩
  have e1 := congrArg qn (beq_iff_eq.1 h1)
  rw [cond_true]
  have L : (a.lo == b.lo) = true → qn (a.lo + 1#64) ≤ qn x := fun e => by
    have e2 := congrArg qn (beq_iff_eq.1 e)
    rw [qn_succ (z := x) (by omega)]; omega
  have H : (a.hi == b.hi) = true → qn x ≤ qn (a.hi - 1#64) := fun e => by
    have e2 := congrArg qn (beq_iff_eq.1 e)
    have := qn_lo x
    have e3 : qn 1#64 = 1 := rfl
    rw [qnSub (by omega)]; omega
  cases h2 : (a.lo == b.lo) <;> cases h3 : (a.hi == b.hi) <;> simp only [cond_true, cond_false]
  · exact ⟨a0, a1, a2, a3, a4⟩
  · exact ⟨a0, a1, H h3, a3, a4⟩
  · exact ⟨a0, L h2, a2, a3, a4⟩
  · exact ⟨a0, L h2, H h3, a3, a4⟩
theorem apart_has {n m : Nm} {x y : W} (hx : tHas n x = true) (hy : tHas m y = true) (h : x &&& y = 0#64) : tHas ⟨0#64, ~~~m.v⟩ x = true := by
  rw [has_iff]
  intro i hi
  have g := has_iff.1 hy i hi
  have g2 := congrArg (fun z => BitVec.getLsbD z i) h
  simp only [BitVec.getLsbD_and, BitVec.getLsbD_zero] at g2
  simp only [BitVec.getLsbD_zero, BitVec.getLsbD_not, hi, decide_true, Bool.true_and, g]
  cases hx' : x.getLsbD i <;> cases hy' : y.getLsbD i <;> rw [hx', hy'] at g2 <;> simp_all
theorem disjoint_in {a b : Rn} {x y : W} (ha : In a x) (hb : In b y) (h : x &&& y = 0#64) : (disjointF a b).2.2 = true ∧ In (disjointF a b).1 x ∧ In (disjointF a b).2.1 y := by
  obtain ⟨m1, m2⟩ := meet_has ha.b (apart_has ha.b hb.b h)
  obtain ⟨k1, k2⟩ := meet_has hb.b (apart_has hb.b ha.b (by rw [BitVec.and_comm]; exact h))
  unfold disjointF bothF
  rw [m1, k1]
  exact ⟨rfl, ⟨m2, ha.lo, ha.hi, ha.sl, ha.sh⟩, ⟨k2, hb.lo, hb.hi, hb.sl, hb.sh⟩⟩
/-- What is so of two numbers leaves them in what is told by it. -/
theorem bnd_in {w : Int} {a b : Rn} {x y : W} (hw : Wt w x y) (ha : In a x) (hb : In b y) : (bndF w a b).2.2 = true ∧ In (bndF w a b).1 x ∧ In (bndF w a b).2.1 y := by
  have q1 : qn 1#64 = 1 := rfl
  have q0 : qn 0#64 = 0 := rfl
  have s1 : sn 1#64 = 1 := rfl
  have s0 : sn 0#64 = 0 := rfl
  by_cases h1 : w = 1
  · subst h1
    have e : x = y := hw
    subst e; exact same_in ha hb
  by_cases h2 : w = 2
  · subst h2
    have e : qn y < qn x := hw
    exact over_in ha hb (by omega)
  by_cases h3 : w = 3
  · subst h3
    have e : qn y ≤ qn x := hw
    exact over_in ha hb (by omega)
  by_cases h10 : w = 10
  · subst h10
    have e : qn x < qn y := hw
    obtain ⟨g1, g2, g3⟩ := over_in (n := 1#64) hb ha (by omega)
    exact ⟨g1, g3, g2⟩
  by_cases h11 : w = 11
  · subst h11
    have e : qn x ≤ qn y := hw
    obtain ⟨g1, g2, g3⟩ := over_in (n := 0#64) hb ha (by omega)
    exact ⟨g1, g3, g2⟩
  by_cases h6 : w = 6
  · subst h6
    have e : sn y < sn x := hw
    exact overS_in (n := 1#64) (by omega) ha hb (by omega)
  by_cases h7 : w = 7
  · subst h7
    have e : sn y ≤ sn x := hw
    exact overS_in (n := 0#64) (by omega) ha hb (by omega)
  by_cases h12 : w = 12
  · subst h12
    have e : sn x < sn y := hw
    obtain ⟨g1, g2, g3⟩ := overS_in (n := 1#64) (by omega) hb ha (by omega)
    exact ⟨g1, g3, g2⟩
  by_cases h13 : w = 13
  · subst h13
    have e : sn x ≤ sn y := hw
    obtain ⟨g1, g2, g3⟩ := overS_in (n := 0#64) (by omega) hb ha (by omega)
    exact ⟨g1, g3, g2⟩
  by_cases h5 : w = 5
  · subst h5
    have e : x ≠ y := hw
    exact ⟨rfl, without_in ha hb e, without_in hb ha (Ne.symm e)⟩
  by_cases hn : w = (-1)
  · subst hn
    have e : x &&& y = 0#64 := hw
    exact disjoint_in ha hb e
  unfold bndF; simp only [if_neg h1, if_neg h2, if_neg h3, if_neg h10, if_neg h11, if_neg h6, if_neg h7, if_neg h12, if_neg h13, if_neg h5, if_neg hn]
  exact ⟨trivial, ha, hb⟩
theorem nar_cR {r : Rn} {x : W} (h : In r x) : Nar (cR x) r := by
  refine ⟨?_, h.lo, h.hi, h.sl, h.sh⟩
  show tWithin (tConst x) r.b = true
  unfold tWithin
  rw [tRight_iff.2 (has_rgt (const_has x)), Bool.not_true, Bool.false_or, Bool.and_eq_true]
  refine ⟨?_, h.b⟩
  show (0#64 &&& ~~~r.b.m == 0#64) = true
  rw [BitVec.zero_and]; rfl
/-- What is near a range is within it; its bounds don't cross. -/
theorem near_nar {a : Rn} (h : (nearF a).2 = true) : Nar (nearF a).1 a ∧ Rgt (nearF a).1.b ∧ Rgt a.b ∧ qn (nearF a).1.lo ≤ qn (nearF a).1.hi := by
  obtain ⟨h1, h2⟩ := near_spec h
  obtain ⟨n1, n2, n3, n4, _⟩ := settle_nar h1
  rcases h2 with e | ⟨x, e, hx⟩
  · rw [e]; exact ⟨n1, n2, n3, n4⟩
  · rw [e]
    exact ⟨(nar_cR (in_iff.1 hx)).trans n1 n2 n3, has_rgt (const_has x), n3, Int.le_refl _⟩
theorem over_nar {a b : Rn} {n : W} (ra : Rgt a.b) (rb : Rgt b.b) (h : (overF a b n).2.2 = true) : Nar (overF a b n).1 a ∧ Nar (overF a b n).2.1 b := by
  unfold overF at h ⊢
  cases c1 : BitVec.ult (18446744073709551615#64 - n) b.lo
  · cases c2 : BitVec.ult a.hi n
    · simp only [cond_false]
      refine ⟨⟨within_self ra, ?_, Int.le_refl _, Int.le_refl _, Int.le_refl _⟩, ⟨within_self rb, Int.le_refl _, ?_, Int.le_refl _, Int.le_refl _⟩⟩
      · show qn a.lo ≤ qn (uMax a.lo (b.lo + n))
        rw [qn_uMax]; split <;> omega
      · show qn (uMin b.hi (a.hi - n)) ≤ qn b.hi
        rw [qn_uMin]; split <;> omega
    · rw [c1, c2, cond_false, cond_true] at h; cases h
  · rw [c1, cond_true] at h; cases h
theorem overS_nar {a b : Rn} {n : W} (ra : Rgt a.b) (rb : Rgt b.b) (h : (overSF a b n).2.2 = true) : Nar (overSF a b n).1 a ∧ Nar (overSF a b n).2.1 b := by
  unfold overSF at h ⊢
  cases c1 : BitVec.slt (9223372036854775807#64 - n) b.sl
  · cases c2 : BitVec.slt a.sh (BitVec.ofInt 64 (-9223372036854775808) + n)
    · simp only [cond_false]
      clear h c1 c2
      refine ⟨⟨within_self ra, Int.le_refl _, Int.le_refl _, ?_, Int.le_refl _⟩, ⟨within_self rb, Int.le_refl _, Int.le_refl _, Int.le_refl _, ?_⟩⟩
      · show sn a.sl ≤ sn (sMax a.sl (b.sl + n))
        rw [sn_sMax]; split <;> omega
      · show sn (sMin b.sh (a.sh - n)) ≤ sn b.sh
        rw [sn_sMin]; split <;> omega
    · rw [c1, c2, cond_false, cond_true] at h; cases h
  · rw [c1, cond_true] at h; cases h
theorem same_nar {a b : Rn} (ra : Rgt a.b) (rb : Rgt b.b) (h : (sameF a b).2.2 = true) : Nar (sameF a b).1 a ∧ Nar (sameF a b).2.1 b := by
  unfold sameF bothF at h ⊢
  cases m : meetB a.b b.b
  · rw [m] at h; cases h
  simp only [cond_true]
  refine ⟨⟨within_meet_l ra rb m, ?_, ?_, ?_, ?_⟩, ⟨within_meet_r ra rb m, ?_, ?_, ?_, ?_⟩⟩
  · show qn a.lo ≤ qn (uMax a.lo b.lo)
    rw [qn_uMax]; split <;> omega
  · show qn (uMin a.hi b.hi) ≤ qn a.hi
    rw [qn_uMin]; split <;> omega
  · show sn a.sl ≤ sn (sMax a.sl b.sl)
    rw [sn_sMax]; split <;> omega
  · show sn (sMin a.sh b.sh) ≤ sn a.sh
    rw [sn_sMin]; split <;> omega
  · show qn b.lo ≤ qn (uMax a.lo b.lo)
    rw [qn_uMax]; split <;> omega
  · show qn (uMin a.hi b.hi) ≤ qn b.hi
    rw [qn_uMin]; split <;> omega
  · show sn b.sl ≤ sn (sMax a.sl b.sl)
    rw [sn_sMax]; split <;> omega
  · show sn (sMin a.sh b.sh) ≤ sn b.sh
    rw [sn_sMin]; split <;> omega
theorem without_nar {a b : Rn} (ra : Rgt a.b) (la : qn a.lo ≤ qn a.hi) (hna : (aloneF a && aloneF b) = false) : Nar (withoutF a b) a := by
  unfold withoutF
  cases hb : aloneF b
  · rw [cond_false]; exact Nar.refl ra
  rw [hb, Bool.and_true] at hna
  have hlt : qn a.lo < qn a.hi := by
    have : qn a.lo ≠ qn a.hi := fun e => by
      unfold aloneF at hna
      rw [qn_inj e] at hna
      simp at hna
    omega
  have L : qn a.lo ≤ qn (a.lo + 1#64) := by rw [qn_succ hlt]; omega
  have H : qn (a.hi - 1#64) ≤ qn a.hi := by
    have := qn_lo a.lo
    have e3 : qn 1#64 = 1 := rfl
    rw [qnSub (by omega)]; omega
  rw [cond_true]
  cases (a.lo == b.lo) <;> cases (a.hi == b.hi) <;> simp only [cond_true, cond_false]
  · exact Nar.refl ra
  · exact ⟨within_self ra, Int.le_refl _, H, Int.le_refl _, Int.le_refl _⟩
  · exact ⟨within_self ra, L, Int.le_refl _, Int.le_refl _, Int.le_refl _⟩
  · exact ⟨within_self ra, L, H, Int.le_refl _, Int.le_refl _⟩
theorem mask_rgt (m : W) : Rgt ⟨0#64, m⟩ := BitVec.zero_and
theorem disjoint_nar {a b : Rn} (ra : Rgt a.b) (rb : Rgt b.b) (h : (disjointF a b).2.2 = true) : Nar (disjointF a b).1 a ∧ Nar (disjointF a b).2.1 b := by
  unfold disjointF bothF at h ⊢
  cases m : meetB a.b ⟨0#64, ~~~b.b.v⟩
  · rw [m] at h; cases h
  cases k : meetB b.b ⟨0#64, ~~~a.b.v⟩
  · rw [m, k] at h; cases h
  exact ⟨⟨within_meet_l ra (mask_rgt _) m, Int.le_refl _, Int.le_refl _, Int.le_refl _, Int.le_refl _⟩, ⟨within_meet_l rb (mask_rgt _) k, Int.le_refl _, Int.le_refl _, Int.le_refl _, Int.le_refl _⟩⟩
/-- What is told of two ranges is within them. -/
theorem bnd_nar {w : Int} {a b : Rn} (ra : Rgt a.b) (rb : Rgt b.b) (la : qn a.lo ≤ qn a.hi) (lb : qn b.lo ≤ qn b.hi) (hna : (aloneF a && aloneF b) = false) (h : (bndF w a b).2.2 = true) : Nar (bndF w a b).1 a ∧ Nar (bndF w a b).2.1 b := by
  by_cases h1 : w = 1
  · subst h1; exact same_nar ra rb h
  by_cases h2 : w = 2
  · subst h2; exact over_nar ra rb h
  by_cases h3 : w = 3
  · subst h3; exact over_nar ra rb h
  by_cases h10 : w = 10
  · subst h10; exact (over_nar rb ra h).symm
  by_cases h11 : w = 11
  · subst h11; exact (over_nar rb ra h).symm
  by_cases h6 : w = 6
  · subst h6; exact overS_nar ra rb h
  by_cases h7 : w = 7
  · subst h7; exact overS_nar ra rb h
  by_cases h12 : w = 12
  · subst h12; exact (overS_nar rb ra h).symm
  by_cases h13 : w = 13
  · subst h13; exact (overS_nar rb ra h).symm
  by_cases h5 : w = 5
  · subst h5; exact ⟨without_nar ra la hna, without_nar rb lb (by rw [Bool.and_comm]; exact hna)⟩
  by_cases hn : w = (-1)
  · subst hn; exact disjoint_nar ra rb h
  unfold bndF; simp only [if_neg h1, if_neg h2, if_neg h3, if_neg h10, if_neg h11, if_neg h6, if_neg h7, if_neg h12, if_neg h13, if_neg h5, if_neg hn]
  exact ⟨Nar.refl ra, Nar.refl rb⟩
end Go.Proofs.YtbbfdehipgkjmaaDoor
