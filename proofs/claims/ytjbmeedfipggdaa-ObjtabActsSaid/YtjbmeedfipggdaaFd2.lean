/- Contracts of fdtab: Used, Free; opens of the law. -/
import Derived.Test.YtjbmeedfipggdaaFd1
namespace Go.Proofs.Ytjbmeedfipggdaa
open Go Go.RowKit
/-- The descriptors that aren't free, rising. -/
def us (f : Nat → Int) (k : Nat) : List Nat := (List.range k).filter (fun j => f j != 0)
theorem us_zero (f : Nat → Int) : us f 0 = [] := rfl
theorem us_yes (f : Nat → Int) (k : Nat) (h : (f k != 0) = true) : us f (k + 1) = us f k ++ [k] := by
  unfold us; rw [List.range_succ, List.filter_append]; simp [h]
theorem us_no (f : Nat → Int) (k : Nat) (h : (f k != 0) = false) : us f (k + 1) = us f k := by
  unfold us; rw [List.range_succ, List.filter_append]; simp [h]
theorem us_le (f : Nat → Int) (k : Nat) : (us f k).length ≤ k := by
  unfold us; have := List.length_filter_le (fun j => f j != 0) (List.range k); rw [List.length_range] at this; exact this
theorem us_prefix (f : Nat → Int) (k n : Nat) (hk : k ≤ n) (h1 : ∀ j, j < k → f j ≠ 0) (h2 : ∀ j, k ≤ j → j < n → f j = 0) : us f n = List.range k := by
  induction n with
  | zero => obtain rfl : k = 0 := by omega
            rfl
  | succ n ih =>
    by_cases e : k = n + 1
    · subst e
      unfold us
      rw [List.filter_eq_self]
      intro j hj
      have := h1 j (by simpa using hj)
      simpa using this
    · rw [us_no f n (by have := h2 n (by omega) (by omega); simp [this]), ih (by omega) (fun j hj hn => h2 j hj (by omega))]
def usC (f : Nat → Int) (k : Nat) : Nat → Value := fun j => .int .i64 (((us f k).getD j 0 : Nat) : Int)
theorem usC_snoc (f : Nat → Int) (k m : Nat) (h : (f k != 0) = true) (hm : m = (us f k).length) (j : Nat) (hj : j < m + 1) : cat (usC f k) m (fun _ => .int .i64 (k : Int)) j = usC f (k + 1) j := by
  unfold cat usC
  rw [us_yes f k h]
  by_cases e : j < m
  · rw [if_pos e, List.getD_eq_getElem?_getD, List.getD_eq_getElem?_getD, List.getElem?_append_left (by omega)]
  · obtain rfl : j = m := by omega
    rw [if_neg e, List.getD_eq_getElem?_getD, List.getElem?_append_right (by omega), hm]
    simp
set_option maxRecDepth 100000 in
theorem Used_any (b c n : Nat) (f : Nat → Int) (hn : n ≤ 16) (w : World) (N : Nat) (hN : Sz w N) (hF : Fd w b c n f) :
    Calls Try.prog 38 #[.pointer (some ⟨b, 0, none⟩)] w fun e w' => ∃ p cap, e = .returned (.slice p (us f n).length cap) ∧ Own w' 3 p (us f n).length cap (usC f n) ∧ (∀ g, blk p = some g → N ≤ g) ∧ Below N w w' := by
  have c0 := hF.cell
  go_enter Try.func38, Try.ntmps38
  go_wp2
  go_loopw [3, 13] (fun v i wr => ∃ (j m cap : Nat) (p : Option Addr), j ≤ n ∧ i = .int .i64 j ∧ v = .slice p m cap ∧ Hid (m = (us f j).length) ∧ Own wr 3 p m cap (usC f j) ∧ (∀ g, blk p = some g → N ≤ g) ∧ Below N w wr)
    (fun _ i _ => n - (intOf i).toNat)
  case atStart => exact ⟨0, 0, 0, none, by omega, rfl, rfl, hid rfl, Own.nil _ _ _, fun _ h => (by cases h), Below.refl _ _⟩
  case round =>
    obtain ⟨j, m, cap, p, hj, rfl, rfl, Hm, hown, hp, qb⟩ := hrel
    by_cases he : j < n
    · have hlt : (j : Int) < (n : Int) := by omega
      have cj : wr.cell? ⟨c, j, none⟩ = some (.int .i64 (f j)) := (hF.below hN qb).at j he
      have hmj : m ≤ j := by rw [Hm.out]; exact us_le f j
      cases hz : (f j != 0)
      · have Hz := hid hz
        have Hp := hid hp
        clear hp
        generalize f j = z at cj hz
        go_wp2
        exact ⟨⟨j + 1, m, cap, p, by omega, by go_num, rfl, hid (by rw [us_no f j Hz.out]; exact Hm.out), hown.congr (fun i _ => by unfold usC; rw [us_no f j Hz.out]), Hp.out, qb⟩, by simp [intOf]; omega⟩
      · have Hz := hid hz
        obtain ⟨M, hM⟩ := sz_some wr
        have hNM := below_sz qb hN hM
        generalize f j = z at cj hz
        have Hp := hid hp
        clear hp
        go_wp2_with (first
          | (refine wpl_app rfl (.tmp 20) (.tmp 22) 33 rfl 3 undInts oneInt p m cap rfl (usC f j) (hown.alloc _) (some ⟨M, 0, none⟩) 1 1 (by rw [← show wr.heap.size = M from hM]; rfl) (fun _ => .int .i64 (j : Int)) (cells_new_one wr _ _ M hM) (fun _ _ => rfl) (by omega) ?_; intro p1 cap1 w1 o1 g1 k1 n1)
          | fail)
        have s1 : Below N w (wr.alloc (.cells #[.int .i64 (j : Int)] 3)) := qb.trans ((below_new wr _ M hM).mono hNM)
        have z1 : (wr.alloc (.cells #[.int .i64 (j : Int)] 3)).heap.size = M + 1 := sz_alloc hM _
        exact ⟨⟨j + 1, m + 1, cap1, p1, by omega, by go_num, rfl, hid (by rw [us_yes f j Hz.out, List.length_append, ← Hm.out]; rfl), o1.congr (fun i hi => usC_snoc f j m Hz.out Hm.out i hi), ge_step Hp.out (by rw [z1] at k1; exact k1) (by omega), g1.below s1 (by omega) Hp.out⟩, by simp [intOf]; omega⟩
    · obtain rfl : j = n := by omega
      have em := Hm.out
      subst em
      go_wp2
      go_ret
      exact ⟨p, cap, rfl, hown, hp, qb⟩
set_option maxRecDepth 100000 in
theorem Free_any (b c n : Nat) (f : Nat → Int) (hn : n ≤ 16) (w : World) (N : Nat) (hN : Sz w N) (hF : Fd w b c n f) :
    Calls Try.prog 30 #[.pointer (some ⟨b, 0, none⟩)] w fun e w' => e = .returned (.int .i64 ((n - (us f n).length : Nat) : Int)) ∧ Below N w w' := by
  have hle := us_le f n
  go_enter Try.func30, Try.ntmps30
  go_wp2
  have I0 : Below N w w := Below.refl N w
  refine wp_region_inn (fun w' => Below N w w') I0.drew (by kernel_rfl) ?_
  have hne := inn_ne (I := fun w' => Below N w w') I0
  refine anyI_reads [0, 1, 2, 3, 4, 5] _ _ _ I0.drew (by kernel_rfl) (fun _ _ _ d _ h => by cases d <;> exact h) ?_
  simp only [pickO, List.map_cons, List.map_nil, List.getElem?_toArray, List.getElem?_cons_succ, List.getElem?_cons_zero, Option.getD_some, Act.put, List.setIfInBounds_toArray, List.set_cons_succ, List.set_cons_zero]
  have hld : ∀ x : Inn (fun w' => Below N w w'), (Instr.loadAt 33 (.pointer (some ⟨b, 0, none⟩))).run Try.prog x.w' = .ok (.slice (some ⟨c, 0, none⟩) n n) x.w' := fun x => by
    have c := (hF.below hN x.h).cell
    go_simp
  repeat first
    | (refine inn_val (fun x => ld_one 33 (.tmp 7) rfl ⟨b, 0, none⟩ rfl _ (hld x)) (by rfl) ?_; simp only [Act.put, List.setIfInBounds_toArray, List.set_cons_succ, List.set_cons_zero])
    | go_big_quiet_step (fail)
  refine wpQuiet_nil ?_
  clear hne
  refine anyI_part [6, 7, 8, 9] _ _ _ _ (by kernel_rfl) ?_
  simp only [List.filterMap_cons, List.filterMap_nil, List.getElem?_toArray, List.getElem?_cons_succ, List.getElem?_cons_zero]
  change wpList _ _ _ [_] _ _
  go_wp2_with fail
  refine (Used_any b c n f hn w.drew N (show Sz w.drew N from hN) hF.drew).mono ?_
  rintro e w1 ⟨p, cap, rfl, o1, hp, hb1⟩
  have b1 : Below N w w1 := I0.drew.trans hb1
  obtain ⟨m, hm⟩ : ∃ m, m = (us f n).length := ⟨_, rfl⟩
  have Hm := hid hm
  rw [← hm] at hle ⊢
  clear hm o1
  dsimp only
  go_step
  refine ⟨b1, ?_⟩
  change wpList _ _ _ [_] _ _
  refine wpl_pure rfl (v := .int .i64 (m : Int)) (by intro w; go_simp) ?_
  refine ⟨b1, ?_⟩
  change wpList _ _ _ [_] _ _
  refine wpl_pure rfl (v := .int .i64 ((n - m : Nat) : Int)) (by intro w; go_simp; rw [IntWalk.i64_in _ (by omega)]; omega) ?_
  refine ⟨b1, ?_⟩
  change wpList _ _ _ [_] _ _
  refine wpl_pure rfl (v := .int .i64 ((n - m : Nat) : Int)) (by intro w; rfl) ?_
  refine ⟨b1, ?_⟩
  change anyI _ _ _ _ _ _ _ _ _
  refine anyI_done (by kernel_rfl) ?_
  try simp only [Act.put, List.setIfInBounds_toArray, List.set_cons_succ, List.set_cons_zero, List.getElem_toArray, List.getElem_cons_succ, List.getElem_cons_zero]
  go_wp2_with fail
  go_ret
  exact ⟨by rw [← Hm.out]; rfl, b1⟩
end Go.Proofs.Ytjbmeedfipggdaa
