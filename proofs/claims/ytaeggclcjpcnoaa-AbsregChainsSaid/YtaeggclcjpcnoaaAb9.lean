/- States: what many Saves leave, byte by byte and word by word. -/
import Derived.Test.YtaeggclcjpcnoaaAb4
namespace Go.Proofs.Ytaeggclcjpcnoaa
open Go Go.RowKit
theorem drop_R (s : St) (k : Nat) : (s.drop k).R = s.R := by unfold St.drop; cases ((s.K k).k == 0) <;> rfl
theorem drop_K (s : St) (k i : Nat) : (s.drop k).K i = if i = k then (if (s.K k).k = 0 then s.K k else zeroA) else s.K i := by
  unfold St.drop St.setN St.setK
  cases h : ((s.K k).k == 0)
  · have h' : ¬ (s.K k).k = 0 := by simpa using h
    simp only [cond_false]
    by_cases e : i = k
    · rw [if_pos e, if_pos e, if_neg h']
    · rw [if_neg e, if_neg e]
  · have h' : (s.K k).k = 0 := by simpa using h
    simp only [cond_true]
    by_cases e : i = k
    · rw [if_pos e, if_pos h', e]
    · rw [if_neg e]
theorem drop_W (s : St) (k j : Nat) : (s.drop k).W j = if (s.K k).k = 0 then s.W j else if 8 * k ≤ j ∧ j < 8 * k + 8 then false else s.W j := by
  unfold St.drop St.setN St.setK
  cases h : ((s.K k).k == 0)
  · have h' : ¬ (s.K k).k = 0 := by simpa using h
    simp only [cond_false]
    rw [if_neg h']
  · have h' : (s.K k).k = 0 := by simpa using h
    simp only [cond_true]
    rw [if_pos h']
/-- A word one of whose bytes is among those from a place on. -/
def Hit (p m i : Nat) : Prop := 0 < m ∧ p < 8 * i + 8 ∧ 8 * i < p + m
instance (p m i : Nat) : Decidable (Hit p m i) := inferInstanceAs (Decidable (_ ∧ _ ∧ _))
theorem hit_succ {p m i : Nat} (h : i ≠ (p + m) / 8) : Hit p (m + 1) i ↔ Hit p m i := by
  unfold Hit; omega
theorem hit_last (p m : Nat) : Hit p (m + 1) ((p + m) / 8) := by unfold Hit; omega
theorem saveL_R (s : St) (p : Nat) (v : Bool) (m : Nat) : (saveL s p v m).R = s.R := by
  induction m with
  | zero => rfl
  | succ m ih => show ((saveL s p v m).drop ((p + m) / 8)).R = s.R; rw [drop_R, ih]
theorem saveL_K (s : St) (p : Nat) (v : Bool) (m i : Nat) : (saveL s p v m).K i = if Hit p m i ∧ ¬ (s.K i).k = 0 then zeroA else s.K i := by
  induction m with
  | zero => rw [if_neg (by unfold Hit; omega)]; rfl
  | succ m ih =>
    show ((saveL s p v m).drop ((p + m) / 8)).K i = _
    rw [drop_K]
    by_cases e : i = (p + m) / 8
    · rw [if_pos e, ← e]
      have hl : Hit p (m + 1) i := by rw [e]; exact hit_last p m
      by_cases hk : (s.K i).k = 0
      · have e1 : (saveL s p v m).K i = s.K i := by rw [ih, if_neg (fun h => h.2 hk)]
        rw [e1, if_pos hk, if_neg (fun h => h.2 hk)]
      · rw [show (if Hit p (m + 1) i ∧ ¬(s.K i).k = 0 then zeroA else s.K i) = zeroA from if_pos ⟨hl, hk⟩, ih]
        by_cases hh : Hit p m i
        · rw [show (if Hit p m i ∧ ¬(s.K i).k = 0 then zeroA else s.K i) = zeroA from if_pos ⟨hh, hk⟩, ite_self]
        · rw [show (if Hit p m i ∧ ¬(s.K i).k = 0 then zeroA else s.K i) = s.K i from if_neg (fun h => hh h.1), if_neg hk]
    · rw [if_neg e, ih]
      by_cases hh : Hit p m i ∧ ¬ (s.K i).k = 0
      · rw [if_pos hh, if_pos ⟨(hit_succ e).2 hh.1, hh.2⟩]
      · rw [if_neg hh, if_neg (fun h => hh ⟨(hit_succ e).1 h.1, h.2⟩)]
theorem saveL_hit (s : St) (p : Nat) (v : Bool) (m i : Nat) (h : Hit p m i) : ((saveL s p v m).K i).k = 0 := by
  rw [saveL_K]
  by_cases hk : (s.K i).k = 0
  · rw [if_neg (fun h => h.2 hk), hk]
  · rw [if_pos ⟨h, hk⟩]; rfl
theorem saveL_W (s : St) (p : Nat) (v : Bool) (m j : Nat) : (saveL s p v m).W j = if p ≤ j ∧ j < p + m then v else if Hit p m (j / 8) ∧ ¬ (s.K (j / 8)).k = 0 then false else s.W j := by
  induction m with
  | zero => rw [if_neg (by omega), if_neg (by unfold Hit; omega)]; rfl
  | succ m ih =>
    show (if j = p + m then v else ((saveL s p v m).drop ((p + m) / 8)).W j) = _
    by_cases e : j = p + m
    · rw [if_pos e, if_pos (by omega)]
    rw [if_neg e, drop_W]
    by_cases ew : j / 8 = (p + m) / 8
    · have hl : Hit p (m + 1) (j / 8) := by rw [ew]; exact hit_last p m
      rw [← ew]
      by_cases hin : p ≤ j ∧ j < p + m
      · have hh : Hit p m (j / 8) := by unfold Hit; omega
        rw [if_pos (saveL_hit s p v m _ hh), ih, if_pos hin, if_pos (by omega)]
      · rw [if_neg (show ¬ (p ≤ j ∧ j < p + (m + 1)) by omega)]
        by_cases hk : (s.K (j / 8)).k = 0
        · have e1 : (saveL s p v m).K (j / 8) = s.K (j / 8) := by rw [saveL_K, if_neg (fun h => h.2 hk)]
          rw [e1, if_pos hk, ih, if_neg hin, if_neg (fun h => h.2 hk), if_neg (fun h => h.2 hk)]
        · rw [show (if Hit p (m + 1) (j / 8) ∧ ¬(s.K (j / 8)).k = 0 then false else s.W j) = false from if_pos ⟨hl, hk⟩]
          by_cases hh : Hit p m (j / 8)
          · rw [if_pos (saveL_hit s p v m _ hh), ih, if_neg hin, show (if Hit p m (j / 8) ∧ ¬(s.K (j / 8)).k = 0 then false else s.W j) = false from if_pos ⟨hh, hk⟩]
          · have e1 : (saveL s p v m).K (j / 8) = s.K (j / 8) := by rw [saveL_K, if_neg (fun h => hh h.1)]
            rw [e1, if_neg hk, if_pos (by omega)]
    · have e2 : (if (8 * ((p + m) / 8) ≤ j ∧ j < 8 * ((p + m) / 8) + 8) then false else (saveL s p v m).W j) = (saveL s p v m).W j := if_neg (by omega)
      rw [e2, ite_self, ih]
      by_cases hin : p ≤ j ∧ j < p + m
      · rw [if_pos hin, if_pos (by omega)]
      · rw [if_neg hin, if_neg (show ¬ (p ≤ j ∧ j < p + (m + 1)) by omega)]
        by_cases hh : Hit p m (j / 8) ∧ ¬ (s.K (j / 8)).k = 0
        · rw [if_pos hh, if_pos ⟨(hit_succ ew).2 hh.1, hh.2⟩]
        · rw [if_neg hh, if_neg (fun h => hh ⟨(hit_succ ew).1 h.1, h.2⟩)]
theorem allW_iff (s : St) (p m : Nat) : allW s p m = true ↔ ∀ j, j < m → s.W (p + j) = true := by unfold allW; rw [decide_eq_true_eq]
end Go.Proofs.Ytaeggclcjpcnoaa
