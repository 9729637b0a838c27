/- Plain: a range around some numbers has them. Nothing of the program. -/
import Derived.Test.YtmdcopmgkhjfnaaSm10
import Derived.Test.YtmdcopmgkhjfnaaSr1
namespace Go.Proofs.Ytmdcopmgkhjfnaa
open Go
theorem ar_succ (E : Nat → W) : ∀ k, Rgt (arF E k).b ∧ arF E (k + 1) = joinR (arF E k) (cR (E k))
  | 0 => by
    have h0 : Rgt (arF E 0).b := by show (E 0) &&& 0#64 = 0#64; simp
    refine ⟨h0, ?_⟩
    show _ = (⟨tJoin (arF E 0).b (tConst (E 0)), _, _, _, _⟩ : Rn)
    rw [join_ref h0 (has_rgt (const_has _))]
    rfl
  | k + 1 => by
    obtain ⟨h1, h2⟩ := ar_succ E k
    have h0 : Rgt (arF E (k + 1)).b := by rw [h2]; exact known_rgt _ _
    refine ⟨h0, ?_⟩
    show _ = (⟨tJoin (arF E (k + 1)).b (tConst (E (k + 1))), _, _, _, _⟩ : Rn)
    rw [join_ref h0 (has_rgt (const_has _))]
    rfl
theorem ar_in (E : Nat → W) : ∀ n j, j < n → In (arF E n) (E j)
  | 0, j, h => by omega
  | n + 1, j, h => by
    obtain ⟨h1, h2⟩ := ar_succ E n
    rw [h2]
    by_cases e : j = n
    · rw [e]; exact join_in_r (cR_in _) h1
    · exact join_in_l (ar_in E n j (by omega)) (has_rgt (const_has _))
theorem arA_in (E : Nat → W) (n : Nat) (u : W) (j : Nat) (h : j < n) : In (arA E n u) (E j) := by
  have hi := ar_in E n j h
  refine ⟨?_, hi.lo, hi.hi, hi.sl, hi.sh⟩
  rw [has_iff]
  intro i hi2
  have g := has_iff.1 hi.b i hi2
  show ((arF E n).b.v &&& ~~~u).getLsbD i = _
  simp only [arA, BitVec.getLsbD_and, BitVec.getLsbD_or, BitVec.getLsbD_not, hi2, decide_true, Bool.true_and, g]
  cases (E j).getLsbD i <;> cases (arF E n).b.m.getLsbD i <;> cases u.getLsbD i <;> rfl
theorem arA_rgt (E : Nat → W) (n : Nat) (u : W) (h : 0 < n) : Rgt (arA E n u).b := has_rgt (arA_in E n u 0 h).b
end Go.Proofs.Ytmdcopmgkhjfnaa
