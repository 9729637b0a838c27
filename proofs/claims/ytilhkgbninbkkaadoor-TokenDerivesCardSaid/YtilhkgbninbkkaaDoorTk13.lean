/- Tokens: More, the document's own answer. -/
import Derived.Test.YtilhkgbninbkkaaDoorTk10
namespace Go.Proofs.YtilhkgbninbkkaaDoor
open Go Go.RowKit
def moreE (f : Nat → Nat) (c nc : Nat) (A : Nat → Int) (R : Nat → Rg) (a : Int) (r : Rg) : Int :=
  if isIn c a then if nc = 0 then if rWithin r rgAll then 0 else 1 else if insI f c a (A (nc - 1)) && rWithin r (R (nc - 1)) then if 4 ≤ nc then 7 else 0 else 1 else 2
section
variable {b c cp : Nat} {p : Option Addr} {f : Nat → Nat} {qc : Option Addr} {nc capc : Nat} {A : Nat → Int} {R : Nat → Rg} {a : Int} {r : Rg}
set_option maxRecDepth 100000 in
theorem More_out (hb : isIn c a = false) (w : World) (N : Nat) (hN : Sz w N) (hT : RTr w b c p cp f) :
    Calls Tryd.prog 41 #[.pointer (some ⟨b, 0, none⟩), .slice qc nc capc, .agg (cellsOf (stC a r) 7)] w fun e w' => e = .returned (.int .i64 2) ∧ Below N w w' := by
  have HH := fun w hT => Has_any b c cp p f a w hT
  rw [hb] at HH
  go_enter Tryd.func41, Tryd.ntmps41
  go_upto_region 1 with (first
    | (refine wpl_box rfl 71 (.tmp 2) rfl 7 _ rfl N hN ?_; intro w1 hN1 b1 h1)
    | fail)
  have T1 := hT.below hN b1
  have cI : w1.cell? ⟨N, 0, none⟩ = some (.int .i64 a) := h1.cell (j := 0) (by omega)
  go_wp2_with (first
    | (go_at_call 44; refine (HH _ T1).mono ?_; rintro e w2 ⟨rfl, rfl⟩)
    | fail)
  go_ret
  exact ⟨rfl, b1⟩
set_option maxRecDepth 100000 in
theorem More_first (hb : isIn c a = true) (q : Bool) (hq : rWithin r rgAll = q) (w : World) (N : Nat) (hN : Sz w N) (hT : RTr w b c p cp f) :
    Calls Tryd.prog 41 #[.pointer (some ⟨b, 0, none⟩), .slice qc 0 capc, .agg (cellsOf (stC a r) 7)] w fun e w' => e = .returned (.int .i64 (if q then 0 else 1)) ∧ Below N w w' := by
  have HH := fun w hT => Has_any b c cp p f a w hT
  rw [hb] at HH
  have HW := fun w M hM => RWithin_any r rgAll w M hM
  rw [hq] at HW
  clear hq
  obtain ⟨E, hE⟩ : ∃ E : Int, E = if q then 0 else 1 := ⟨_, rfl⟩
  rw [← hE]
  have HE := hid hE
  clear hE
  obtain ⟨dF, v1, v2⟩ := undRF
  go_enter Tryd.func41, Tryd.ntmps41
  go_upto_region 1 with (first
    | (refine wpl_box rfl 71 (.tmp 2) rfl 7 _ rfl N hN ?_; intro w1 hN1 b1 h1)
    | fail)
  have T1 := hT.below hN b1
  have cI : w1.cell? ⟨N, 0, none⟩ = some (.int .i64 a) := h1.cell (j := 0) (by omega)
  have cR : ∀ j, j < 6 → w1.cell? ⟨N, 1 + j, none⟩ = some (rgC r j) := fun j hj => by
    rw [h1.cell (j := 1 + j) (by omega)]
    unfold stC
    rw [if_neg (by omega), show 1 + j - 1 = j by omega]
  go_upto_region 4 with (first
    | (go_at_call 44; refine (HH _ T1).mono ?_; rintro e w2 ⟨rfl, rfl⟩)
    | fail)
  refine wp_region_later (N + 1) (by kernel_rfl) (by kernel_rfl) ?_
  try simp only [Act.put, List.setIfInBounds_toArray, List.set_cons_succ, List.set_cons_zero]
  go_big_quiet_step (fail)
  refine later_val (fun x => run_ldc 24 (.tmp 16) rfl N 1 rfl 6 (rgC r) (fun j hj => Later.cell hN1 (cR j hj) x) _ v1 v2 szRF) (by rfl) ?_; simp only [Act.put, List.setIfInBounds_toArray, List.set_cons_succ, List.set_cons_zero]
  go_big_quiet_step ((go_at_call 43; exact later_of hN1 _ (fun K hK hKN => All12_any _ K hK)))
  go_big_quiet_step ((go_at_call 18; exact later_of hN1 _ (fun K hK hKN => HW _ K hK)))
  go_big_quiet_step (fail)
  refine wpQuiet_nil ?_
  rintro w3 ⟨q3, e3⟩
  have b3 := q3.b
  rw [← e3] at b3
  clear e3 q3
  have lo3 := b1.trans (b3.mono (show N ≤ N + 1 by omega))
  cases q
  · have e1 := HE.out
    rw [if_neg (by decide)] at e1
    subst e1
    go_wp2_with fail
    go_ret
    exact ⟨rfl, lo3⟩
  · have e1 := HE.out
    rw [if_pos rfl] at e1
    subst e1
    go_wp2_with fail
    go_ret
    exact ⟨rfl, lo3⟩
set_option maxRecDepth 100000 in
set_option maxHeartbeats 1000000 in
theorem More_next (hb : isIn c a = true) (m : Nat) (hm : nc = m + 1) (hm1 : m ≤ 1000) (x1 x2 x3 : Bool) (h1 : insI f c a (A m) = x1) (h2 : rWithin r (R m) = x2) (h3 : decide (4 ≤ nc) = x3) (w : World) (N : Nat) (hN : Sz w N) (hT : RTr w b c p cp f) (hS : Stp w qc nc A R) :
    Calls Tryd.prog 41 #[.pointer (some ⟨b, 0, none⟩), .slice qc nc capc, .agg (cellsOf (stC a r) 7)] w fun e w' => e = .returned (.int .i64 (if x1 && x2 then if x3 then 7 else 0 else 1)) ∧ Below N w w' := by
  have HH := fun w hT => Has_any b c cp p f a w hT
  rw [hb] at HH
  subst hm
  obtain ⟨sb, so, rfl, hsc⟩ := hS (by omega)
  have hsb : sb < N := by have := World.block_lt_of_cell? w _ (hsc m (by omega) 0 (by omega)); have e : w.heap.size = N := hN; simp only at this ⊢; omega
  obtain ⟨ua, hua⟩ : ∃ ua, ua = A m := ⟨_, rfl⟩
  obtain ⟨ur, hur⟩ : ∃ ur, ur = R m := ⟨_, rfl⟩
  have d7 : ∀ i, i < 7 → w.cell? ⟨sb, so + m * 7 + i, none⟩ = some (stC ua ur i) := fun i hi => by rw [hua, hur]; exact hsc m (by omega) i hi
  rw [← hua] at h1
  rw [← hur] at h2
  have CI := fun w M hM hT => RInside_any b c cp p f a ua w M hM hT
  have CW := fun w M hM => RWithin_any r ur w M hM
  rw [h1] at CI
  rw [h2] at CW
  clear h1 h2 hua hur hsc hS
  obtain ⟨E, hE⟩ : ∃ E : Int, E = if x1 && x2 then if x3 then 7 else 0 else 1 := ⟨_, rfl⟩
  rw [← hE]
  have HE := hid hE
  have H3 := hid h3
  clear hE h3
  obtain ⟨dS, s1, s2⟩ := undStp
  obtain ⟨dF, v1, v2⟩ := undRF
  have mz : ((m : Int) + 1 == 0) = false := by rw [beq_eq_false_iff_ne]; omega
  have m0 : (0 : Int) ≤ (m : Int) := by omega
  go_enter Tryd.func41, Tryd.ntmps41
  go_upto_region 1 with (first
    | (refine wpl_box rfl 71 (.tmp 2) rfl 7 _ rfl N hN ?_; intro w1 hN1 b1 h1)
    | fail)
  have T1 := hT.below hN b1
  have cI : w1.cell? ⟨N, 0, none⟩ = some (.int .i64 a) := h1.cell (j := 0) (by omega)
  have d71 : ∀ i, i < 7 → w1.cell? ⟨sb, so + m * 7 + i, none⟩ = some (stC ua ur i) := fun i hi => by rw [b1.cell (p := ⟨sb, so + m * 7 + i, none⟩) hsb]; exact d7 i hi
  clear d7
  go_upto_region 8 with (first
    | (go_at_call 44; refine (HH _ T1).mono ?_; rintro e w2 ⟨rfl, rfl⟩)
    | (refine wpl_load_cells rfl 71 (.tmp 25) rfl sb (so + m * 7) rfl 7 (stC ua ur) d71 _ s1 s2 szStp ?_)
    | (refine wpl_alloc rfl 71 rfl 7 (stC 0 rgNone) zeStp (N + 1) hN1 ?_; intro w5 hM5 b5 h5)
    | (refine wpl_store rfl 71 (.tmp 7) (.tmp 26) rfl (N + 1) 7 (stC ua ur) rfl rfl 71 _ h5 szStp (fun j _ => stC_one ua ur j) ?_; intro w6 t6 h6)
    | fail)
  have b6 := t6.below b5 (Nat.le_refl (N + 1))
  have hM6 := t6.sz hM5
  have T6 := T1.below hN1 b6
  have lo6 := b1.trans (b6.mono (show N ≤ N + 1 by omega))
  have S6 := h1.below b6 (by omega)
  have cI6 := cellB hN1 cI b6
  have cR6 : ∀ j, j < 6 → w6.cell? ⟨N, 1 + j, none⟩ = some (rgC r j) := fun j hj => by
    rw [S6.cell (j := 1 + j) (by omega)]
    unfold stC
    rw [if_neg (by omega), show 1 + j - 1 = j by omega]
  have cJ6 : w6.cell? ⟨N + 1, 0, none⟩ = some (.int .i64 ua) := h6.cell (j := 0) (by omega)
  have cT6 : ∀ j, j < 6 → w6.cell? ⟨N + 1, 1 + j, none⟩ = some (rgC ur j) := fun j hj => by
    rw [h6.cell (j := 1 + j) (by omega)]
    unfold stC
    rw [if_neg (by omega), show 1 + j - 1 = j by omega]
  clear d71 h5 t6 hM5 b5 h1 b1 T1 cI h6 S6 b6 hN1 hT
  cases x1
  · have e1 := HE.out
    rw [Bool.false_and, if_neg (by decide)] at e1
    subst e1
    clear HE
    go_wp2_with (first
      | (go_at_call 45; refine (CI _ _ hM6 T6).mono ?_; rintro e w7 ⟨rfl, b7⟩)
      | fail)
    go_ret
    exact ⟨rfl, lo6.trans (b7.mono (by omega))⟩
  · have arm : True := trivial
    cases x2
    · have e1 := HE.out
      rw [Bool.true_and, if_neg (by decide)] at e1
      subst e1
      clear HE
      go_wp2_with (first
        | (go_at_call 45
           refine (CI _ _ hM6 T6).mono ?_
           rintro e w7 ⟨rfl, b7⟩
           obtain ⟨M7, hM7⟩ := sz_some w7
           have l7 := below_sz b7 hM6 hM7
           have cR7 := fun j hj => cellB hM6 (cR6 j hj) b7
           have cT7 := fun j hj => cellB hM6 (cT6 j hj) b7)
        | (refine wpl_load_cellsg 24 (.tmp 35) rfl N 1 rfl 6 (rgC r) cR7 _ v1 v2 szRF ?_ (by rfl))
        | (refine wpl_load_cellsg 24 (.tmp 37) rfl (N + 1) 1 rfl 6 (rgC ur) cT7 _ v1 v2 szRF ?_ (by rfl))
        | (go_at_call 18; refine (CW _ _ hM7).mono ?_; rintro e w9 ⟨rfl, b9⟩)
        | fail)
      go_ret
      exact ⟨rfl, lo6.trans ((b7.trans (b9.mono l7)).mono (by omega))⟩
    · have e1 := HE.out
      rw [Bool.true_and, if_pos rfl] at e1
      cases x3
      · rw [if_neg (by decide)] at e1
        subst e1
        have q4 : ¬ (4 : Int) ≤ (m : Int) + 1 := by have := of_decide_eq_false H3.out; omega
        clear HE H3
        go_wp2_with (first
          | (go_at_call 45
             refine (CI _ _ hM6 T6).mono ?_
             rintro e w7 ⟨rfl, b7⟩
             obtain ⟨M7, hM7⟩ := sz_some w7
             have l7 := below_sz b7 hM6 hM7
             have cR7 := fun j hj => cellB hM6 (cR6 j hj) b7
             have cT7 := fun j hj => cellB hM6 (cT6 j hj) b7)
          | (refine wpl_load_cellsg 24 (.tmp 35) rfl N 1 rfl 6 (rgC r) cR7 _ v1 v2 szRF ?_ (by rfl))
          | (refine wpl_load_cellsg 24 (.tmp 37) rfl (N + 1) 1 rfl 6 (rgC ur) cT7 _ v1 v2 szRF ?_ (by rfl))
          | (go_at_call 18; refine (CW _ _ hM7).mono ?_; rintro e w9 ⟨rfl, b9⟩)
          | fail)
        go_ret
        exact ⟨rfl, lo6.trans ((b7.trans (b9.mono l7)).mono (by omega))⟩
      · rw [if_pos rfl] at e1
        subst e1
        have q4 : (4 : Int) ≤ (m : Int) + 1 := by have := of_decide_eq_true H3.out; omega
        clear HE H3
        go_wp2_with (first
          | (go_at_call 45
             refine (CI _ _ hM6 T6).mono ?_
             rintro e w7 ⟨rfl, b7⟩
             obtain ⟨M7, hM7⟩ := sz_some w7
             have l7 := below_sz b7 hM6 hM7
             have cR7 := fun j hj => cellB hM6 (cR6 j hj) b7
             have cT7 := fun j hj => cellB hM6 (cT6 j hj) b7)
          | (refine wpl_load_cellsg 24 (.tmp 35) rfl N 1 rfl 6 (rgC r) cR7 _ v1 v2 szRF ?_ (by rfl))
          | (refine wpl_load_cellsg 24 (.tmp 37) rfl (N + 1) 1 rfl 6 (rgC ur) cT7 _ v1 v2 szRF ?_ (by rfl))
          | (go_at_call 18; refine (CW _ _ hM7).mono ?_; rintro e w9 ⟨rfl, b9⟩)
          | fail)
        go_ret
        exact ⟨rfl, lo6.trans ((b7.trans (b9.mono l7)).mono (by omega))⟩
theorem More_any (hnc : nc ≤ 1000) (w : World) (N : Nat) (hN : Sz w N) (hT : RTr w b c p cp f) (hS : Stp w qc nc A R) :
    Calls Tryd.prog 41 #[.pointer (some ⟨b, 0, none⟩), .slice qc nc capc, .agg (cellsOf (stC a r) 7)] w fun e w' => e = .returned (.int .i64 (moreE f c nc A R a r)) ∧ Below N w w' := by
  unfold moreE
  cases hb : isIn c a
  · rw [if_neg (by decide)]; exact More_out hb w N hN hT
  · rw [if_pos rfl]
    by_cases h0 : nc = 0
    · subst h0
      rw [if_pos rfl]
      exact More_first hb _ rfl w N hN hT
    · rw [if_neg h0]
      have := More_next (r := r) (capc := capc) hb (nc - 1) (by omega) (by omega) _ _ _ rfl rfl rfl w N hN hT hS
      simp only [decide_eq_true_eq] at this
      exact this
end
end Go.Proofs.YtilhkgbninbkkaaDoor
