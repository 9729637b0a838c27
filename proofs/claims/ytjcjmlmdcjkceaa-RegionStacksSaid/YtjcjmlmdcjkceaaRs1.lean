/- RegionStacks: the document's stack: its cells; what is written over is gone. -/
import Derived.Test.YtjcjmlmdcjkceaaRs0
namespace Go.Proofs.Ytjcjmlmdcjkceaa
open Go Go.RowKit
/-- The document's stack. -/
structure Rk where
  t : Nat → Int
  n : Nat → W
  k : Nat → Nat
def bC (t : Int) (n : W) (j : Nat) : Value := if j = 0 then .int .i64 t else Yv n
def rkC (s : Rk) (j : Nat) : Value := if j < 128 then bC (s.t (j / 2)) (s.n (j / 2)) (j % 2) else .int .i64 ((s.k (j - 128) : Nat) : Int)
def zeroK : Rk := ⟨fun _ => 0, fun _ => 0#64, fun _ => 0⟩
theorem bC_one (t : Int) (n : W) (j : Nat) : (bC t n j).oneCell' = true := by unfold bC; split <;> rfl
theorem rkC_t (s : Rk) {i : Nat} (h : i < 64) : rkC s (i * 2) = .int .i64 (s.t i) := by unfold rkC bC; rw [if_pos (by omega), if_pos (by omega), show i * 2 / 2 = i by omega]
theorem rkC_n (s : Rk) {i : Nat} (h : i < 64) : rkC s (i * 2 + 1) = Yv (s.n i) := by unfold rkC bC; rw [if_pos (by omega), if_neg (by omega), show (i * 2 + 1) / 2 = i by omega]
theorem rkC_k (s : Rk) (i : Nat) : rkC s (128 + i) = .int .i64 ((s.k i : Nat) : Int) := by unfold rkC; rw [if_neg (by omega), Nat.add_sub_cancel_left]
def Rk.setB (s : Rk) (i : Nat) (t : Int) (n : W) : Rk := ⟨fun j => if j = i then t else s.t j, fun j => if j = i then n else s.n j, s.k⟩
def Rk.setK (s : Rk) (i v : Nat) : Rk := ⟨s.t, s.n, fun j => if j = i then v else s.k j⟩
theorem lay_rB (s : Rk) (i : Nat) (h : i < 64) (t : Int) (n : W) (j : Nat) : lay (rkC s) (0 + i * 2) 2 (bC t n) j = rkC (s.setB i t n) j := by
  unfold lay rkC Rk.setB
  by_cases e : 0 + i * 2 ≤ j ∧ j < 0 + i * 2 + 2
  · rw [if_pos e, if_pos (by omega)]; simp only
    rw [if_pos (by omega), if_pos (by omega), show j % 2 = j - (0 + i * 2) by omega]
  · rw [if_neg e]
    by_cases h1 : j < 128
    · rw [if_pos h1, if_pos h1]; simp only; rw [if_neg (by omega), if_neg (by omega)]
    · rw [if_neg h1, if_neg h1]
theorem upd_rT (s : Rk) (i : Nat) (h : i < 64) (t : Int) (j : Nat) : upd (rkC s) (i * 2) (.int .i64 t) j = rkC (s.setB i t (s.n i)) j := by
  unfold upd rkC Rk.setB
  by_cases e : j = i * 2
  · subst e; rw [if_pos rfl, if_pos (by omega)]; simp only
    rw [if_pos (by omega)]; unfold bC; rw [if_pos (by omega)]
  · rw [if_neg e]
    by_cases h1 : j < 128
    · rw [if_pos h1, if_pos h1]; simp only
      by_cases h2 : j / 2 = i
      · rw [if_pos h2, if_pos h2]; unfold bC; rw [if_neg (by omega), if_neg (by omega), h2]
      · rw [if_neg h2, if_neg h2]
    · rw [if_neg h1, if_neg h1]
theorem upd_rK (s : Rk) (i v j : Nat) : upd (rkC s) (128 + i) (.int .i64 ((v : Nat) : Int)) j = rkC (s.setK i v) j := by
  unfold upd rkC Rk.setK
  by_cases e : j = 128 + i
  · subst e; rw [if_pos rfl, if_neg (by omega), Nat.add_sub_cancel_left]; simp
  · rw [if_neg e]
    by_cases h1 : j < 128
    · rw [if_pos h1, if_pos h1]
    · rw [if_neg h1, if_neg h1]; simp only; rw [if_neg (by omega)]
theorem szBy : (Try.prog.info? 44).map (·.size) = some 2 := by kernel_rfl
theorem undRB : Try.prog.underlying 45 = some (.array 64 44) := by kernel_rfl
theorem undRK : Try.prog.underlying 46 = some (.array 8 3) := by kernel_rfl
/-- Whether a word is touched by t bytes from f on. -/
def tch (f t q : Nat) : Prop := 0 < t ∧ f < 8 * q + 8 ∧ 8 * q < f + t
instance (f t q : Nat) : Decidable (tch f t q) := by unfold tch; exact inferInstance
/-- Values of which a byte is written over are gone. -/
def clS (s : Rk) (f t : Nat) : Rk := ⟨fun j => if tch f t (j / 8) ∧ s.k (j / 8) ≠ 0 then 0 else s.t j, fun j => if tch f t (j / 8) ∧ s.k (j / 8) ≠ 0 then 0#64 else s.n j, fun q => if tch f t q then 0 else s.k q⟩
/-- The first bytes of a word are as never written. -/
def clW (s : Rk) (q x : Nat) : Rk := ⟨fun j => if 8 * q ≤ j ∧ j < 8 * q + x then 0 else s.t j, fun j => if 8 * q ≤ j ∧ j < 8 * q + x then 0#64 else s.n j, s.k⟩
theorem rk_ext {a b : Rk} (h1 : ∀ j, a.t j = b.t j) (h2 : ∀ j, a.n j = b.n j) (h3 : ∀ j, a.k j = b.k j) : a = b := by
  obtain ⟨a1, a2, a3⟩ := a
  obtain ⟨b1, b2, b3⟩ := b
  simp only at h1 h2 h3
  rw [funext h1, funext h2, funext h3]
theorem tch_zero (f q : Nat) : ¬ tch f 0 q := fun h => absurd h.1 (by omega)
theorem clS_zero (s : Rk) (f : Nat) : clS s f 0 = s := by
  refine rk_ext (fun j => ?_) (fun j => ?_) (fun q => ?_)
  · show (if tch f 0 (j / 8) ∧ s.k (j / 8) ≠ 0 then 0 else s.t j) = _
    rw [if_neg (fun h => tch_zero f _ h.1)]
  · show (if tch f 0 (j / 8) ∧ s.k (j / 8) ≠ 0 then 0#64 else s.n j) = _
    rw [if_neg (fun h => tch_zero f _ h.1)]
  · show (if tch f 0 q then 0 else s.k q) = _
    rw [if_neg (tch_zero f q)]
theorem clW_zero (s : Rk) (q : Nat) : clW s q 0 = s := rk_ext (fun j => if_neg (by omega)) (fun j => if_neg (by omega)) (fun _ => rfl)
theorem clW_step (s : Rk) (q x : Nat) : (clW s q x).setB (8 * q + x) 0 0#64 = clW s q (x + 1) := by
  refine rk_ext (fun j => ?_) (fun j => ?_) (fun _ => rfl)
  · show (if j = 8 * q + x then 0 else if 8 * q ≤ j ∧ j < 8 * q + x then 0 else s.t j) = if 8 * q ≤ j ∧ j < 8 * q + (x + 1) then 0 else s.t j
    by_cases e : j = 8 * q + x
    · rw [if_pos e, if_pos (by omega)]
    · rw [if_neg e]
      by_cases h : 8 * q ≤ j ∧ j < 8 * q + x
      · rw [if_pos h, if_pos (by omega)]
      · rw [if_neg h, if_neg (by omega)]
  · show (if j = 8 * q + x then 0#64 else if 8 * q ≤ j ∧ j < 8 * q + x then 0#64 else s.n j) = if 8 * q ≤ j ∧ j < 8 * q + (x + 1) then 0#64 else s.n j
    by_cases e : j = 8 * q + x
    · rw [if_pos e, if_pos (by omega)]
    · rw [if_neg e]
      by_cases h : 8 * q ≤ j ∧ j < 8 * q + x
      · rw [if_pos h, if_pos (by omega)]
      · rw [if_neg h, if_neg (by omega)]
theorem tch_step (f t q : Nat) : tch f (t + 1) q ↔ tch f t q ∨ q = (f + t) / 8 := by unfold tch; omega
theorem clS_same (s : Rk) (f t : Nat) (h : (clS s f t).k ((f + t) / 8) = 0) : clS s f (t + 1) = clS s f t := by
  have h' : tch f t ((f + t) / 8) ∨ s.k ((f + t) / 8) = 0 := by
    by_cases e : tch f t ((f + t) / 8)
    · exact .inl e
    · exact .inr ((if_neg e).symm.trans h)
  have key : ∀ q, (tch f (t + 1) q ∧ s.k q ≠ 0) ↔ (tch f t q ∧ s.k q ≠ 0) := fun q => by
    rw [tch_step]
    constructor
    · rintro ⟨h1 | h1, h2⟩
      · exact ⟨h1, h2⟩
      · subst h1; exact ⟨h'.resolve_right h2, h2⟩
    · rintro ⟨h1, h2⟩; exact ⟨.inl h1, h2⟩
  refine rk_ext (fun j => ?_) (fun j => ?_) (fun q => ?_)
  · show (if _ then _ else _) = if _ then _ else _
    simp only [key]
  · show (if _ then _ else _) = if _ then _ else _
    simp only [key]
  · show (if tch f (t + 1) q then 0 else s.k q) = if tch f t q then 0 else s.k q
    by_cases e : tch f t q
    · rw [if_pos e, if_pos ((tch_step f t q).2 (.inl e))]
    · rw [if_neg e]
      by_cases e2 : q = (f + t) / 8
      · subst e2; rw [if_pos ((tch_step f t _).2 (.inr rfl))]; exact (h'.resolve_left e).symm
      · rw [if_neg (fun h => ((tch_step f t q).1 h).elim e e2)]
theorem clS_turn (s : Rk) (f t : Nat) (h : ¬ (clS s f t).k ((f + t) / 8) = 0) : clS s f (t + 1) = clW ((clS s f t).setK ((f + t) / 8) 0) ((f + t) / 8) 8 := by
  have hn : ¬ tch f t ((f + t) / 8) := fun e => h (if_pos e)
  have hk : s.k ((f + t) / 8) ≠ 0 := fun e => h (by show (if _ then _ else _) = _; rw [if_neg hn]; exact e)
  have key : ∀ j, (tch f (t + 1) (j / 8) ∧ s.k (j / 8) ≠ 0) ↔ ((8 * ((f + t) / 8) ≤ j ∧ j < 8 * ((f + t) / 8) + 8) ∨ (tch f t (j / 8) ∧ s.k (j / 8) ≠ 0)) := fun j => by
    rw [tch_step]
    constructor
    · rintro ⟨h1 | h1, h2⟩
      · exact .inr ⟨h1, h2⟩
      · exact .inl (by omega)
    · rintro (h1 | h1)
      · have e : j / 8 = (f + t) / 8 := by omega
        rw [e]; exact ⟨.inr rfl, hk⟩
      · exact ⟨.inl h1.1, h1.2⟩
  refine rk_ext (fun j => ?_) (fun j => ?_) (fun q => ?_)
  · show (if tch f (t + 1) (j / 8) ∧ s.k (j / 8) ≠ 0 then 0 else s.t j) = if 8 * ((f + t) / 8) ≤ j ∧ j < 8 * ((f + t) / 8) + 8 then 0 else if tch f t (j / 8) ∧ s.k (j / 8) ≠ 0 then 0 else s.t j
    by_cases e : 8 * ((f + t) / 8) ≤ j ∧ j < 8 * ((f + t) / 8) + 8
    · rw [if_pos e, if_pos ((key j).2 (.inl e))]
    · rw [if_neg e]
      by_cases e2 : tch f t (j / 8) ∧ s.k (j / 8) ≠ 0
      · rw [if_pos e2, if_pos ((key j).2 (.inr e2))]
      · rw [if_neg e2, if_neg (fun h => ((key j).1 h).elim e e2)]
  · show (if tch f (t + 1) (j / 8) ∧ s.k (j / 8) ≠ 0 then 0#64 else s.n j) = if 8 * ((f + t) / 8) ≤ j ∧ j < 8 * ((f + t) / 8) + 8 then 0#64 else if tch f t (j / 8) ∧ s.k (j / 8) ≠ 0 then 0#64 else s.n j
    by_cases e : 8 * ((f + t) / 8) ≤ j ∧ j < 8 * ((f + t) / 8) + 8
    · rw [if_pos e, if_pos ((key j).2 (.inl e))]
    · rw [if_neg e]
      by_cases e2 : tch f t (j / 8) ∧ s.k (j / 8) ≠ 0
      · rw [if_pos e2, if_pos ((key j).2 (.inr e2))]
      · rw [if_neg e2, if_neg (fun h => ((key j).1 h).elim e e2)]
  · show (if tch f (t + 1) q then 0 else s.k q) = if q = (f + t) / 8 then 0 else if tch f t q then 0 else s.k q
    by_cases e : q = (f + t) / 8
    · rw [if_pos e, if_pos ((tch_step f t q).2 (.inr e))]
    · rw [if_neg e]
      by_cases e2 : tch f t q
      · rw [if_pos e2, if_pos ((tch_step f t q).2 (.inl e2))]
      · rw [if_neg e2, if_neg (fun h => ((tch_step f t q).1 h).elim e2 e)]
end Go.Proofs.Ytjcjmlmdcjkceaa
