/- Plain: next is the least number of a range from one on; near keeps all numbers. -/
import Derived.Test.YtmdcopmgkhjfnaaBr15
import Derived.Test.YtmdcopmgkhjfnaaBr16
namespace Go.Proofs.Ytmdcopmgkhjfnaa
theorem nob_leastq {a : Nm} {f z : W} (hz : qn f ≤ qn z) (ha : tHas a z = true) : (nobF a f).2 = true ∧ qn (nobF a f).1 ≤ qn z ∧ qn f ≤ qn (nobF a f).1 ∧ tHas a (nobF a f).1 = true := by
  obtain ⟨h1, h2⟩ := nob_least (a := a) (f := f) (z := z) (by unfold qn at hz; omega) ha
  obtain ⟨h3, h4⟩ := nob_ge h1
  exact ⟨h1, by unfold qn; omega, by unfold qn; omega, h4⟩
theorem nxt_least {r : Rn} {f z : W} (hf : qn f ≤ qn z) (h : In r z) : (nxtF r f).2 = true ∧ qn (nxtF r f).1 ≤ qn z ∧ qn f ≤ qn (nxtF r f).1 := by
  obtain ⟨hb, hlo, hhi, hsl, hsh⟩ := h
  have p0 := qn_uMax f r.lo
  have q0 := qn_uMax (uMax f r.lo) r.sl
  unfold nxtF nxtR
  generalize uMax (uMax f r.lo) r.sl = q at q0
  generalize uMax f r.lo = p at p0 q0
  have hp : qn p ≤ qn z := by rw [p0]; split <;> omega
  have pf : qn f ≤ qn p := by rw [p0]; split <;> omega
  have pl : qn r.lo ≤ qn p := by rw [p0]; split <;> omega
  obtain ⟨a1, a2, a3, a4⟩ := nob_leastq hp hb
  unfold stepN
  rw [a1, cond_true]
  cases hs : sHas r (nobF r.b p).1
  · rw [cond_false]
    have hn : ¬ (sn r.sl ≤ sn (nobF r.b p).1 ∧ sn (nobF r.b p).1 ≤ sn r.sh) := fun e => by
      rw [in_iff.2 ⟨a4, by omega, by omega, e.1, e.2⟩] at hs; cases hs
    have k1 := qs (nobF r.b p).1
    have k2 := qs z
    have k3 := qs r.sl
    have hq : qn q ≤ qn z := by
      rw [q0]; split
      · omega
      · omega
    have qp : qn p ≤ qn q := by rw [q0]; split <;> omega
    have ql : qn r.sl ≤ qn q := by rw [q0]; split <;> omega
    obtain ⟨b1, b2, b3, b4⟩ := nob_leastq hq hb
    have k4 := qs (nobF r.b q).1
    have hs2 : sHas r (nobF r.b q).1 = true := in_iff.2 ⟨b4, by omega, by omega, by omega, by omega⟩
    rw [b1, cond_true, hs2, cond_true]
    exact ⟨rfl, b2, by show qn f ≤ qn (nobF r.b q).1; omega⟩
  · rw [cond_true]; exact ⟨rfl, a2, by show qn f ≤ qn (nobF r.b p).1; omega⟩
theorem qn_succ {x z : W} (h : qn x < qn z) : qn (x + 1#64) = qn x + 1 := by
  have hz := z.isLt
  unfold qn at h ⊢
  rw [BitVec.toNat_add, show (1#64).toNat = 1 from rfl, Nat.mod_eq_of_lt (by omega)]
  omega
/-- What is near a range has all its numbers. -/
theorem near_in {a : Rn} {x : W} (h : In a x) : (nearF a).2 = true ∧ In (nearF a).1 x := by
  obtain ⟨hs, hi⟩ := settle_in h
  have h0 : qn (0#64) ≤ qn x := by unfold qn; exact Int.ofNat_le.2 (Nat.zero_le _)
  obtain ⟨n1, n2, _⟩ := nxt_least h0 hi
  unfold nearF
  rw [hs, cond_true, n1, cond_true]
  generalize (nxtF (settleF a).1 0#64).1 = y at n2
  by_cases e : x = y
  · subst e
    cases (nxtF (settleF a).1 (x + 1#64)).2
    · rw [cond_false]; exact ⟨rfl, cR_in x⟩
    · rw [cond_true]
      cases ((nxtF (settleF a).1 (x + 1#64)).1 == x)
      · rw [cond_false]; exact ⟨rfl, hi⟩
      · rw [cond_true]; exact ⟨rfl, cR_in x⟩
  · have hlt : qn y < qn x := by
      have : qn x ≠ qn y := fun g => e (qn_inj g)
      omega
    have hy := qn_succ hlt
    obtain ⟨m1, _, m3⟩ := nxt_least (f := y + 1#64) (by omega) hi
    have ne : ((nxtF (settleF a).1 (y + 1#64)).1 == y) = false := beq_eq_false_iff_ne.2 fun g => by rw [g] at m3; omega
    rw [m1, cond_true, ne, cond_false]
    exact ⟨rfl, hi⟩
end Go.Proofs.Ytmdcopmgkhjfnaa
