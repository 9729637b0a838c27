/- Plain: what is settled is within the range. Nothing of the program. -/
import Derived.Test.YtaeggclcjpcnoaaSm1
namespace Go.Proofs.Ytaeggclcjpcnoaa
open Go
/-- A range's bounds and bits lie within another one's. -/
structure Nar (s r : Rn) : Prop where
  b : tWithin s.b r.b = true
  lo : qn r.lo ≤ qn s.lo
  hi : qn s.hi ≤ qn r.hi
  sl : sn r.sl ≤ sn s.sl
  sh : sn s.sh ≤ sn r.sh
theorem nar_iff {s r : Rn} : sWithin s r = true ↔ Nar s r := by
  unfold sWithin
  simp only [Bool.and_eq_true, ule_qn, sle_sn, decide_eq_true_eq]
  exact ⟨fun ⟨a, b, c, d, e⟩ => ⟨a, b, c, d, e⟩, fun h => ⟨h.b, h.lo, h.hi, h.sl, h.sh⟩⟩
theorem Nar.refl {r : Rn} (h : Rgt r.b) : Nar r r := ⟨within_self h, by omega, by omega, by omega, by omega⟩
theorem within_trans {a b c : Nm} (hb : Rgt b) (hc : Rgt c) (h1 : tWithin a b = true) (h2 : tWithin b c = true) : tWithin a c = true := by
  cases ha : tRight a
  · unfold tWithin; rw [ha]; rfl
  · have ha' := tRight_iff.1 ha
    have w1 := (within_iff ha' hb).1 h1
    have w2 := (within_iff hb hc).1 h2
    refine (within_iff ha' hc).2 fun i hi => ⟨fun m => (w2 i hi).1 ((w1 i hi).1 m), fun m => ?_⟩
    have mb : b.m.getLsbD i = false := by
      cases hh : b.m.getLsbD i
      · rfl
      · rw [(w2 i hi).1 hh] at m; cases m
    rw [(w1 i hi).2 mb, (w2 i hi).2 m]
theorem Nar.trans {a b c : Rn} (h1 : Nar a b) (h2 : Nar b c) (hb : Rgt b.b) (hc : Rgt c.b) : Nar a c :=
  have a1 := h1.lo; have a2 := h1.hi; have a3 := h1.sl; have a4 := h1.sh
  have b1 := h2.lo; have b2 := h2.hi; have b3 := h2.sl; have b4 := h2.sh
  ⟨within_trans hb hc h1.b h2.b, by omega, by omega, by omega, by omega⟩
theorem sT1_nar {r : Rn} (h : Rgt r.b) : Nar (sT1 r) r := by
  refine ⟨within_self h, ?_, ?_, Int.le_refl _, Int.le_refl _⟩
  · show qn r.lo ≤ qn (uMax r.lo r.b.v)
    rw [qn_uMax]; split <;> omega
  · show qn (uMin r.hi (r.b.v ||| r.b.m)) ≤ qn r.hi
    rw [qn_uMin]; split <;> omega
theorem sT2_nar {r : Rn} (h : Rgt r.b) : Nar (sT2 r) r := by
  unfold sT2
  cases BitVec.sle r.lo r.hi
  · exact Nar.refl h
  · simp only [cond_true]
    refine ⟨within_self h, Int.le_refl _, Int.le_refl _, ?_, ?_⟩
    · show sn r.sl ≤ sn (sMax r.sl r.lo)
      rw [sn_sMax]; split <;> omega
    · show sn (sMin r.sh r.hi) ≤ sn r.sh
      rw [sn_sMin]; split <;> omega
theorem sT3_nar {r : Rn} (h : Rgt r.b) : Nar (sT3 r) r := by
  unfold sT3
  cases (BitVec.sle 0#64 r.sl || BitVec.slt r.sh 0#64)
  · exact Nar.refl h
  · simp only [cond_true]
    refine ⟨within_self h, ?_, ?_, Int.le_refl _, Int.le_refl _⟩
    · show qn r.lo ≤ qn (uMax r.lo r.sl)
      rw [qn_uMax]; split <;> omega
    · show qn (uMin r.hi r.sh) ≤ qn r.hi
      rw [qn_uMin]; split <;> omega
theorem sT2_b (r : Rn) : (sT2 r).b = r.b := by unfold sT2; cases BitVec.sle r.lo r.hi <;> rfl
theorem sT3_b (r : Rn) : (sT3 r).b = r.b := by unfold sT3; cases (BitVec.sle 0#64 r.sl || BitVec.slt r.sh 0#64) <;> rfl
theorem sT4_nar {r : Rn} (h : Rgt r.b) (h2 : (sT4 r).2 = true) : Nar (sT4 r).1 r ∧ Rgt (sT4 r).1.b ∧ qn (sT4 r).1.lo ≤ qn (sT4 r).1.hi ∧ sn (sT4 r).1.sl ≤ sn (sT4 r).1.sh := by
  unfold sT4 at h2 ⊢
  cases hm : meetB r.b (sAlike r.lo r.hi)
  · rw [hm] at h2; cases h2
  cases h3 : BitVec.ult r.hi r.lo
  · cases h4 : BitVec.slt r.sh r.sl
    · rw [ult_qn, decide_eq_false_iff_not] at h3
      rw [slt_sn, decide_eq_false_iff_not] at h4
      exact ⟨⟨within_meet_l h (alike_rgt _ _) hm, Int.le_refl _, Int.le_refl _, Int.le_refl _, Int.le_refl _⟩, meet_rgt h (alike_rgt _ _) hm, by show qn r.lo ≤ qn r.hi; omega, by show sn r.sl ≤ sn r.sh; omega⟩
    · rw [hm, h3, h4] at h2; cases h2
  · rw [hm, h3] at h2; cases h2
/-- What is settled is within the range; its bounds don't cross. -/
theorem settle_nar {r : Rn} (h : (settleF r).2 = true) : Nar (settleF r).1 r ∧ Rgt (settleF r).1.b ∧ Rgt r.b ∧ qn (settleF r).1.lo ≤ qn (settleF r).1.hi ∧ sn (settleF r).1.sl ≤ sn (settleF r).1.sh := by
  unfold settleF at h ⊢
  cases hr : tRight r.b
  · rw [hr] at h; cases h
  have R := tRight_iff.1 hr
  rw [hr, cond_true] at h
  rw [cond_true]
  have b1 : Rgt (sT1 r).b := R
  have b2 : Rgt (sT2 (sT1 r)).b := by rw [sT2_b]; exact R
  have b3 : Rgt (sT3 (sT2 (sT1 r))).b := by rw [sT3_b, sT2_b]; exact R
  obtain ⟨n4, r4, o1, o2⟩ := sT4_nar b3 h
  exact ⟨((n4.trans (sT3_nar b2) b3 b2).trans (sT2_nar b1) b2 b1).trans (sT1_nar R) b1 R, r4, R, o1, o2⟩
theorem Nar.mask {s r : Rn} (h : Nar s r) (hs : Rgt s.b) : (s.b.m &&& ~~~r.b.m != 0#64) = false := by
  have := h.b
  unfold tWithin at this
  rw [tRight_iff.2 hs, Bool.not_true, Bool.false_or, Bool.and_eq_true] at this
  rw [bne, this.1]; rfl
end Go.Proofs.Ytaeggclcjpcnoaa
