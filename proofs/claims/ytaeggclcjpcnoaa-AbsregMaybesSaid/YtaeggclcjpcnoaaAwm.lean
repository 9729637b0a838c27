/- AbsregWords: what the Saves leave. -/
import Derived.Test.YtaeggclcjpcnoaaAbh
namespace Go.Proofs.Ytaeggclcjpcnoaa
open Go Go.RowKit
theorem start_K (i : Nat) : (startS.K i).k = 0 := rfl
theorem start_W (j : Nat) : startS.W j = false := rfl
def vW : Ar := ⟨2, zeroR, 0, 0, 3, 3⟩
theorem size_of {n : Int} (h : n = 1 ∨ n = 2 ∨ n = 4 ∨ n = 8) : sizeF n = true := by rcases h with rfl | rfl | rfl | rfl <;> rfl
theorem inside_t {a n : Int} (h1 : -64 ≤ a) (h2 : a < 0) (h3 : n ≤ -a) : insideF a n = true := by
  unfold insideF wrap64
  rw [show decide (-64 ≤ a) = true from decide_eq_true h1, cond_true, decide_eq_true_eq]; omega
theorem inside_f {a n : Int} (h1 : -64 ≤ a) (h2 : a < 0) (h3 : -a < n) : insideF a n = false := by
  unfold insideF wrap64
  rw [show decide (-64 ≤ a) = true from decide_eq_true h1, cond_true, decide_eq_false_iff_not]; omega
theorem index_at {a : Int} (h1 : -64 ≤ a) (h2 : a < 0) : (indexF a).toNat = (a + 64).toNat := by unfold indexF wrap64; congr 1; omega
theorem word_t {a : Int} (h : a % 8 = 0) : wordF a 8 = true := by
  unfold wordF
  show (a.tmod 8 == 0) = true
  rw [beq_iff_eq]; exact Int.tmod_eq_zero_of_dvd (Int.dvd_of_emod_eq_zero h)
theorem word_f {a n : Int} (h : n ≠ 8) : wordF a n = false := by
  unfold wordF
  rw [show (n == 8) = false from beq_false_of_ne h]; rfl
/-- The state behind the first Save. -/
def wS (k : Nat) : St := (saveL startS (8 * k) false 8).setK k vW
theorem words1 {k : Nat} (hk : k < 8) : saveF startS (wrap64 ((wrap64 (8 * ((k : Nat) : Int))) - 64)) 8 vW = (wS k, true) := by
  have e : (wrap64 ((wrap64 (8 * ((k : Nat) : Int))) - 64)) = 8 * (k : Int) - 64 := by unfold wrap64; omega
  rw [e]
  unfold saveF
  rw [show sizeF 8 = true from rfl, inside_t (by omega) (by omega) (by omega), word_t (by omega), index_at (by omega) (by omega), show (8 * (k : Int) - 64 + 64).toNat = 8 * k by omega, show 8 * k / 8 = k by omega]
  rfl
theorem wS_K (k i : Nat) : ((wS k).K i) = if i = k then vW else zeroA := by
  show (if i = k then vW else (saveL startS (8 * k) false 8).K i) = _
  by_cases e : i = k
  · rw [if_pos e, if_pos e]
  · rw [if_neg e, if_neg e, saveL_K, if_neg (fun h => h.2 (start_K i))]; rfl
theorem wS_W (k j : Nat) : (wS k).W j = false := by
  show (saveL startS (8 * k) false 8).W j = false
  rw [saveL_W]
  split
  · rfl
  · rw [if_neg (fun h => h.2 (start_K _))]; rfl
theorem save_num {s : St} {b : Nat} {n : Int} {r : Rn} (hb : b < 64) (hn : n = 1 ∨ n = 2 ∨ n = 4 ∨ n = 8) (h : (b : Int) + n ≤ 64) : saveF s (wrap64 ((b : Int) - 64)) n (numA r) = (saveL s b true n.toNat, true) := by
  have e : wrap64 ((b : Int) - 64) = (b : Int) - 64 := by unfold wrap64; omega
  rw [e]
  unfold saveF
  rw [size_of hn, inside_t (by omega) (by omega) (by omega), index_at (by omega) (by omega), show ((b : Int) - 64 + 64).toNat = b by omega]
  rfl
theorem save_out {s : St} {b : Nat} {n : Int} {r : Ar} (hb : b < 64) (h : 64 < (b : Int) + n) : saveF s (wrap64 ((b : Int) - 64)) n r = (s, false) := by
  have e : wrap64 ((b : Int) - 64) = (b : Int) - 64 := by unfold wrap64; omega
  rw [e]
  unfold saveF
  rw [inside_f (by omega) (by omega) (by omega), Bool.and_false]; rfl
theorem load_kept {s : St} {k : Nat} (hk : k < 8) (h : ((s.K k).k != 0) = true) : loadF s (wrap64 ((wrap64 (8 * ((k : Nat) : Int))) - 64)) 8 = (s.K k, true) := by
  have e : (wrap64 ((wrap64 (8 * ((k : Nat) : Int))) - 64)) = 8 * (k : Int) - 64 := by unfold wrap64; omega
  rw [e]
  unfold loadF
  rw [show sizeF 8 = true from rfl, inside_t (by omega) (by omega) (by omega), word_t (by omega), index_at (by omega) (by omega), show (8 * (k : Int) - 64 + 64).toNat / 8 = k by omega, h]
  rfl
theorem ready_w {s : St} {k : Nat} (hk : k < 8) : readyF s (wrap64 ((wrap64 (8 * ((k : Nat) : Int))) - 64)) 8 = allW s (8 * k) 8 := by
  have e : (wrap64 ((wrap64 (8 * ((k : Nat) : Int))) - 64)) = 8 * (k : Int) - 64 := by unfold wrap64; omega
  rw [e]
  unfold readyF
  rw [show decide ((8 : Int) ≤ 0) = false from rfl, inside_t (by omega) (by omega) (by omega), index_at (by omega) (by omega), show (8 * (k : Int) - 64 + 64).toNat = 8 * k by omega]
  rfl
theorem load_none {s : St} {k : Nat} (hk : k < 8) (h : (s.K k).k = 0) : loadF s (wrap64 ((wrap64 (8 * ((k : Nat) : Int))) - 64)) 8 = bif allW s (8 * k) 8 then (numA (lowF (obR tAny) 8), true) else (zeroA, false) := by
  have e : (wrap64 ((wrap64 (8 * ((k : Nat) : Int))) - 64)) = 8 * (k : Int) - 64 := by unfold wrap64; omega
  unfold loadF
  rw [ready_w hk, e, show sizeF 8 = true from rfl, inside_t (by omega) (by omega) (by omega), word_t (by omega), index_at (by omega) (by omega), show (8 * (k : Int) - 64 + 64).toNat / 8 = k by omega, show ((s.K k).k != 0) = false by rw [h]; rfl]
  rfl
theorem pair_ex {α β : Type} (x : α × β) : ∃ a b, x = (a, b) := ⟨x.1, x.2, rfl⟩
theorem cs_save {s S : St} {a n : Int} {r : Ar} {o : Bool} (ha : a < 9223372036854775808) (h : saveF s a n r = (S, o)) : ∀ w N, Sz w N → Calls Try.prog 45 #[stV s, .int .i64 a, .int .i64 n, arV r] w fun e w' => e = .returned (.tuple #[stV S, .bool o]) ∧ Below N w w' := fun w N hN => by
  have e1 : (saveF s a n r).1 = S := congrArg Prod.fst h
  have e2 : (saveF s a n r).2 = o := congrArg Prod.snd h
  rw [← e1, ← e2]
  exact Save_any s a n r ha w N hN
theorem cs_load {s : St} {a n : Int} {r : Ar} {o : Bool} (ha : a < 9223372036854775808) (h : loadF s a n = (r, o)) : ∀ w N, Sz w N → Calls Try.prog 47 #[stV s, .int .i64 a, .int .i64 n] w fun e w' => e = .returned (.tuple #[arV r, .bool o]) ∧ Below N w w' := fun w N hN => by
  have e1 : (loadF s a n).1 = r := congrArg Prod.fst h
  have e2 : (loadF s a n).2 = o := congrArg Prod.snd h
  rw [← e1, ← e2]
  exact Load_any s a n ha w N hN
/-- What is told in the end. -/
theorem words_all {k b : Nat} {n : Int} (hk : k < 8) (hb : b < 64) (hn : n = 1 ∨ n = 2 ∨ n = 4 ∨ n = 8) {S2 : St} {ok2 th : Bool} {RL : Ar} (e2 : saveF (wS k) (wrap64 ((b : Int) - 64)) n (numA (cR 1#64)) = (S2, ok2)) (e3 : loadF S2 (wrap64 ((wrap64 (8 * ((k : Nat) : Int))) - 64)) 8 = (RL, th)) :
    (ok2 = false ∧ RL = vW ∧ th = true ∧ 64 < (b : Int) + n) ∨ (ok2 = true ∧ RL = vW ∧ th = true ∧ (b : Int) + n ≤ 64 ∧ 8 * (k : Int) + 8 ≤ b) ∨ (ok2 = true ∧ RL = vW ∧ th = true ∧ (b : Int) + n ≤ 64 ∧ (b : Int) < 8 * k + 8 ∧ (b : Int) + n ≤ 8 * k)
    ∨ (ok2 = true ∧ RL.k = 1 ∧ th = true ∧ (b : Int) + n ≤ 64 ∧ n = 8 ∧ b = 8 * k) ∨ (ok2 = true ∧ th = false ∧ (b : Int) + n ≤ 64 ∧ (b : Int) < 8 * k + 8 ∧ 8 * k < (b : Int) + n ∧ n = 8 ∧ b ≠ 8 * k) ∨ (ok2 = true ∧ th = false ∧ (b : Int) + n ≤ 64 ∧ (b : Int) < 8 * k + 8 ∧ 8 * k < (b : Int) + n ∧ n ≠ 8) := by
  have hp : 0 < n := by omega
  by_cases h1 : (b : Int) + n ≤ 64
  · rw [save_num hb hn h1] at e2
    injection e2 with e4 e5
    subst e5
    have hK : (S2.K k) = if Hit b n.toNat k then zeroA else vW := by
      rw [← e4, saveL_K, wS_K, if_pos rfl]
      by_cases hh : Hit b n.toNat k
      · rw [if_pos ⟨hh, by decide⟩, if_pos hh]
      · rw [if_neg (fun h => hh h.1), if_neg hh]
    by_cases hh : Hit b n.toNat k
    · rw [if_pos hh] at hK
      have hl := load_none (s := S2) hk (by rw [hK]; rfl)
      rw [hl] at e3
      have hW : ∀ j, S2.W j = decide (b ≤ j ∧ j < b + n.toNat) := fun j => by
        rw [← e4, saveL_W, wS_W]
        by_cases hj : b ≤ j ∧ j < b + n.toNat
        · rw [if_pos hj, decide_eq_true hj]
        · rw [if_neg hj, decide_eq_false hj, ite_self]
      unfold Hit at hh
      by_cases h8 : n = 8 ∧ b = 8 * k
      · have : allW S2 (8 * k) 8 = true := by rw [allW_iff]; intro j hj; rw [hW, decide_eq_true_eq]; omega
        rw [this] at e3
        injection e3 with e6 e7
        subst e7; subst e6
        exact .inr (.inr (.inr (.inl ⟨rfl, rfl, rfl, h1, h8.1, h8.2⟩)))
      · have : allW S2 (8 * k) 8 = false := by
          cases ha : allW S2 (8 * k) 8
          · rfl
          · rw [allW_iff] at ha
            have a0 := ha 0 (by omega)
            have a7 := ha 7 (by omega)
            rw [hW, decide_eq_true_eq] at a0 a7
            exfalso; omega
        rw [this] at e3
        injection e3 with e6 e7
        subst e7
        by_cases h9 : n = 8
        · exact .inr (.inr (.inr (.inr (.inl ⟨rfl, rfl, h1, by omega, by omega, h9, by omega⟩))))
        · exact .inr (.inr (.inr (.inr (.inr ⟨rfl, rfl, h1, by omega, by omega, h9⟩))))
    · rw [if_neg hh] at hK
      have hl := load_kept (s := S2) hk (by rw [hK]; rfl)
      rw [hl, hK] at e3
      injection e3 with e6 e7
      subst e7
      unfold Hit at hh
      by_cases h2 : (b : Int) < 8 * k + 8
      · exact .inr (.inr (.inl ⟨rfl, e6.symm, rfl, h1, h2, by omega⟩))
      · exact .inr (.inl ⟨rfl, e6.symm, rfl, h1, by omega⟩)
  · rw [save_out hb (by omega)] at e2
    injection e2 with e4 e5
    subst e5
    have hK : (S2.K k) = vW := by rw [← e4, wS_K, if_pos rfl]
    rw [load_kept (s := S2) hk (by rw [hK]; rfl), hK] at e3
    injection e3 with e6 e7
    exact .inl ⟨rfl, e6.symm, e7.symm, by omega⟩
end Go.Proofs.Ytaeggclcjpcnoaa
