/- Plain: what near tells is in the range; of one number alone it is that. -/
import Derived.Test.YtmdcopmgkhjfnaaBr3
import Derived.Test.YtmdcopmgkhjfnaaSm1
namespace Go.Proofs.Ytmdcopmgkhjfnaa
theorem stepN_sound {r : Rn} {s : W} {e : W × Bool} (he : e.2 = true → sHas r e.1 = true) (h : (stepN r s e).2 = true) : sHas r (stepN r s e).1 = true := by
  unfold stepN at h ⊢
  cases h1 : (nobF r.b s).2
  · rw [h1, cond_false] at h
    rw [cond_false]; exact he h
  · rw [h1, cond_true] at h
    rw [cond_true]
    cases h2 : sHas r (nobF r.b s).1
    · rw [h2, cond_false] at h
      rw [cond_false]; exact he h
    · rw [cond_true]; exact h2
theorem nxt_sound {r : Rn} {f : W} (h : (nxtF r f).2 = true) : sHas r (nxtF r f).1 = true := by
  unfold nxtF nxtR at h ⊢
  exact stepN_sound (stepN_sound (fun h => absurd h (by simp))) h
/-- A range that is near is the settled one, or one number of it alone. -/
theorem near_spec {a : Rn} (h : (nearF a).2 = true) : (settleF a).2 = true ∧ ((nearF a).1 = (settleF a).1 ∨ ∃ x, (nearF a).1 = cR x ∧ sHas (settleF a).1 x = true) := by
  unfold nearF at h ⊢
  cases h0 : (settleF a).2
  · rw [h0, cond_false] at h; cases h
  rw [h0, cond_true] at h
  refine ⟨rfl, ?_⟩
  rw [cond_true]
  cases h1 : (nxtF (settleF a).1 0#64).2
  · rw [h1, cond_false] at h; cases h
  rw [cond_true]
  have s1 := nxt_sound h1
  cases (nxtF (settleF a).1 ((nxtF (settleF a).1 0#64).1 + 1#64)).2
  · rw [cond_false]; exact Or.inr ⟨_, rfl, s1⟩
  rw [cond_true]
  cases ((nxtF (settleF a).1 ((nxtF (settleF a).1 0#64).1 + 1#64)).1 == (nxtF (settleF a).1 0#64).1)
  · rw [cond_false]; exact Or.inl rfl
  · rw [cond_true]; exact Or.inr ⟨_, rfl, s1⟩
theorem uMax_zero (x : W) : uMax 0#64 x = x := by
  unfold uMax
  split
  · rfl
  · rename_i h
    have : ¬ (0#64).toNat < x.toNat := by simpa [BitVec.ult] using h
    apply BitVec.eq_of_toNat_eq
    have e : (0#64).toNat = 0 := rfl
    omega
theorem nxt_cR (x : W) : nxtF (cR x) 0#64 = (x, true) := by
  have hs : sHas (cR x) x = true := in_iff.2 (cR_in x)
  have hb : tHas (cR x).b x = true := const_has x
  have hn : nobF (cR x).b x = (x, true) := by unfold nobF; rw [hb, cond_true]
  unfold nxtF nxtR stepN
  rw [show uMax 0#64 (cR x).lo = x from uMax_zero x, hn]
  simp only [cond_true, hs]
theorem near_cR {x : W} (hS : settleF (cR x) = (cR x, true)) : nearF (cR x) = (cR x, true) := by
  unfold nearF
  rw [hS, cond_true, nxt_cR, cond_true]
  cases h : (nxtF (cR x) (x + 1#64)).2
  · rw [cond_false]
  · rw [cond_true, in_cR (in_iff.1 (nxt_sound h)), beq_self_eq_true, cond_true]
end Go.Proofs.Ytmdcopmgkhjfnaa
