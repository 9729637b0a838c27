/- Plain: Refine keeps the numbers that it must; nothing else comes in. -/
import Derived.Test.YtmdcopmgkhjfnaaBr22
import Derived.Test.YtmdcopmgkhjfnaaBr21
namespace Go.Proofs.Ytmdcopmgkhjfnaa
/-- What is so of the numbers, where a comparison is to hold, or not. -/
def whatF (op : Int) (l : Bool) (h : Bool) (a b : Rn) : Int := bif (!l && !(aslF op a b)) then 0 else (bif h then op else oppF op)
theorem ref_eq (op : Int) (l : Bool) (a b : Rn) (h : Bool) : refF op l a b h =
    bif (!(nearF a).2 || (!(nearF b).2 || (h && (oppF op == 0)))) then (zeroR, zeroR, false)
    else bif aloneF (nearF a).1 && aloneF (nearF b).1 then bothF (nearF a).1 (nearF b).1 (holF op l (nearF a).1.lo (nearF b).1.lo == h)
    else bif (bndF (whatF op l h (nearF a).1 (nearF b).1) (nearF a).1 (nearF b).1).2.2 then bothF (settleF (bndF (whatF op l h (nearF a).1 (nearF b).1) (nearF a).1 (nearF b).1).1).1 (settleF (bndF (whatF op l h (nearF a).1 (nearF b).1) (nearF a).1 (nearF b).1).2.1).1 ((settleF (bndF (whatF op l h (nearF a).1 (nearF b).1) (nearF a).1 (nearF b).1).1).2 && (settleF (bndF (whatF op l h (nearF a).1 (nearF b).1) (nearF a).1 (nearF b).1).2.1).2)
    else (zeroR, zeroR, false) := by
  unfold refF whatF
  cases (!(nearF a).2 || (!(nearF b).2 || (h && (oppF op == 0))))
  · cases (aloneF (nearF a).1 && aloneF (nearF b).1)
    · cases (bndF (bif (!l && !(aslF op (nearF a).1 (nearF b).1)) then 0 else (bif h then op else oppF op)) (nearF a).1 (nearF b).1).2.2
      · rfl
      · cases (settleF (bndF (bif (!l && !(aslF op (nearF a).1 (nearF b).1)) then 0 else (bif h then op else oppF op)) (nearF a).1 (nearF b).1).1).2 <;> rfl
    · rfl
  · rfl
theorem what_wt {op : Int} {l h : Bool} {a b : Rn} {x y : W} (ha : In a x) (hb : In b y) (hh : holF op l x y = h) : Wt (whatF op l h a b) x y := by
  unfold whatF
  cases l
  · cases hs : aslF op a b
    · trivial
    · rw [Bool.not_true, Bool.and_false, cond_false]
      rw [hol_long ha hb hs] at hh
      exact hol_wt op hh
  · exact hol_wt op hh
/-- Where a comparison holds, or does not, the numbers are in what is told. -/
theorem ref_in {op : Int} {l h : Bool} {a b : Rn} {x y : W} (ha : In a x) (hb : In b y) (hh : holF op l x y = h) : (refF op l a b h).2.2 = true ∧ In (refF op l a b h).1 x ∧ In (refF op l a b h).2.1 y := by
  obtain ⟨a1, a2⟩ := near_in ha
  obtain ⟨b1, b2⟩ := near_in hb
  have c1 : (!(nearF a).2 || (!(nearF b).2 || (h && (oppF op == 0)))) = false := by
    rw [a1, b1]
    cases h
    · rfl
    · rw [hol_opp hh]; rfl
  rw [ref_eq, c1, cond_false]
  cases c2 : (aloneF (nearF a).1 && aloneF (nearF b).1)
  · rw [cond_false]
    obtain ⟨d1, d2, d3⟩ := bnd_in (what_wt a2 b2 hh) a2 b2
    obtain ⟨e1, e2⟩ := settle_in d2
    obtain ⟨f1, f2⟩ := settle_in d3
    rw [d1, cond_true, e1, f1]
    exact ⟨rfl, e2, f2⟩
  · rw [cond_true]
    rw [Bool.and_eq_true] at c2
    have g1 := congrArg qn (beq_iff_eq.1 (show ((nearF a).1.lo == (nearF a).1.hi) = true from c2.1))
    have g2 := congrArg qn (beq_iff_eq.1 (show ((nearF b).1.lo == (nearF b).1.hi) = true from c2.2))
    have k1 : (nearF a).1.lo = x := qn_inj (by have := a2.lo; have := a2.hi; omega)
    have k2 : (nearF b).1.lo = y := qn_inj (by have := b2.lo; have := b2.hi; omega)
    rw [k1, k2, hh, beq_self_eq_true]
    exact ⟨rfl, a2, b2⟩
/-- Nothing else comes in. -/
theorem ref_nar {op : Int} {l h : Bool} {a b : Rn} (ok : (refF op l a b h).2.2 = true) : Nar (refF op l a b h).1 a ∧ Nar (refF op l a b h).2.1 b := by
  rw [ref_eq] at ok ⊢
  cases c1 : (!(nearF a).2 || (!(nearF b).2 || (h && (oppF op == 0))))
  · rw [c1, cond_false] at ok
    rw [cond_false]
    have a1 : (nearF a).2 = true := by revert c1; cases (nearF a).2 <;> simp
    have b1 : (nearF b).2 = true := by revert c1; cases (nearF b).2 <;> simp
    obtain ⟨n1, n2, n3, n4⟩ := near_nar a1
    obtain ⟨m1, m2, m3, m4⟩ := near_nar b1
    cases c2 : (aloneF (nearF a).1 && aloneF (nearF b).1)
    · rw [c2, cond_false] at ok
      rw [cond_false]
      cases c3 : (bndF (whatF op l h (nearF a).1 (nearF b).1) (nearF a).1 (nearF b).1).2.2
      · rw [c3] at ok; cases ok
      · rw [c3, cond_true] at ok
        rw [cond_true]
        obtain ⟨p1, p2⟩ := bnd_nar n2 m2 n4 m4 c2 c3
        generalize bndF (whatF op l h (nearF a).1 (nearF b).1) (nearF a).1 (nearF b).1 = q at *
        cases s1 : (settleF q.1).2
        · rw [s1] at ok; cases ok
        cases s2 : (settleF q.2.1).2
        · rw [s1, s2] at ok; cases ok
        obtain ⟨u1, u2, u3, _, _⟩ := settle_nar s1
        obtain ⟨v1, v2, v3, _, _⟩ := settle_nar s2
        exact ⟨(u1.trans p1 u3 n2).trans n1 n2 n3, (v1.trans p2 v3 m2).trans m1 m2 m3⟩
    · rw [c2, cond_true] at ok
      rw [cond_true]
      unfold bothF at ok ⊢
      cases c4 : (holF op l (nearF a).1.lo (nearF b).1.lo == h)
      · rw [c4] at ok; cases ok
      · rw [cond_true]; exact ⟨n1, m1⟩
  · rw [c1] at ok; cases ok
/-- Where it may not be, nothing is told. -/
theorem ref_no {op : Int} {l h : Bool} {a b : Rn} (ok : (refF op l a b h).2.2 = false) : (refF op l a b h).1 = zeroR ∧ (refF op l a b h).2.1 = zeroR := by
  have B : ∀ (p q : Rn) (s : Bool), (bothF p q s).2.2 = false → (bothF p q s).1 = zeroR ∧ (bothF p q s).2.1 = zeroR := fun p q s e => by
    cases s
    · exact ⟨rfl, rfl⟩
    · cases e
  rw [ref_eq] at ok ⊢
  cases c1 : (!(nearF a).2 || (!(nearF b).2 || (h && (oppF op == 0))))
  · rw [c1, cond_false] at ok
    rw [cond_false]
    cases c2 : (aloneF (nearF a).1 && aloneF (nearF b).1)
    · rw [c2, cond_false] at ok
      rw [cond_false]
      cases c3 : (bndF (whatF op l h (nearF a).1 (nearF b).1) (nearF a).1 (nearF b).1).2.2
      · exact ⟨rfl, rfl⟩
      · rw [c3, cond_true] at ok
        rw [cond_true]
        exact B _ _ _ ok
    · rw [c2, cond_true] at ok
      rw [cond_true]
      exact B _ _ _ ok
  · exact ⟨rfl, rfl⟩
/-- Of two numbers alone it is told whether it may hold. -/
theorem ref_alone {op : Int} {l h : Bool} {x y : W} (ho : h = false ∨ (oppF op == 0) = false) : refF op l (cR x) (cR y) h = bothF (cR x) (cR y) (holF op l x y == h) := by
  have a1 := near_cR (settle_cR x)
  have b1 := near_cR (settle_cR y)
  have e : ∀ z : W, aloneF (cR z) = true := fun z => by show (z == z) = true; simp
  have c1 : (h && (oppF op == 0)) = false := by rcases ho with e | e <;> rw [e] <;> simp
  rw [ref_eq, a1, b1, c1, e x, e y]
  rfl
end Go.Proofs.Ytmdcopmgkhjfnaa
