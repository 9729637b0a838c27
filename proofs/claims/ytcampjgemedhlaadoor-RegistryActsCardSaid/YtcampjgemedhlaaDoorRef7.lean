/- Make of the document's answer for layer 1: the constants are those of the standard. -/
import Derived.Test.YtcampjgemedhlaaDoorRefA
import Derived.Test.YtcampjgemedhlaaDoorDig6
namespace Go.Proofs.YtcampjgemedhlaaDoor
open Go Go.RowKit Sha
/-- The steps of a root, the number so far handed on. -/
def rootG (v power : Nat) : Nat → Nat → Nat
  | 0, x => x
  | m + 1, x => rootG v power m (if rootB v power (x + 2 ^ m) then x + 2 ^ m else x)
theorem rootX_step (v power m : Nat) : rootX v power (m + 1) = if rootB v power (rootX v power m + 2 ^ (36 - m)) then rootX v power m + 2 ^ (36 - m) else rootX v power m := rfl
theorem rootG_step (v power m x : Nat) : rootG v power (m + 1) x = rootG v power m (if rootB v power (x + 2 ^ m) then x + 2 ^ m else x) := rfl
theorem rootG_said (v power R : Nat) (hR : rootX v power 37 = R) : ∀ m, m ≤ 37 → rootG v power m (rootX v power (37 - m)) = R
  | 0, _ => hR
  | m + 1, h => by
    have ih := rootG_said v power R hR m (by omega)
    obtain ⟨k, ek⟩ : ∃ k, k = 37 - (m + 1) := ⟨_, rfl⟩
    rw [show 37 - m = k + 1 from by omega, rootX_step, show 36 - k = m from by omega] at ih
    rw [← ek, rootG_step]
    exact ih
theorem root_said (v power : Nat) : rootS v power = rootG v power 37 0 % 4294967296 :=
  congrArg (· % 4294967296) (rootG_said v power _ rfl 37 (Nat.le_refl _)).symm
theorem cubes : ∀ j : Nat, j < 64 → rootG (pm j) 3 37 0 % 4294967296 = (Kc j).toNat := by decide +kernel
theorem squares : ∀ j : Nat, j < 8 → rootG (pm j) 2 37 0 % 4294967296 = (Hc j).toNat := by decide +kernel
theorem cube_val (j : Nat) (h : j < 64) : Value.int .u32 ((rootS (pm j) 3 : Nat) : Int) = U (Kc j) := by rw [root_said, cubes j h]; rfl
theorem square_val (j : Nat) (h : j < 8) : Value.int .u32 ((rootS (pm j) 2 : Nat) : Int) = U (Hc j) := by rw [root_said, squares j h]; rfl
/-- Roots, so far. -/
def rtK (k h : Nat) : Nat → Value := fun j => if j < 64 then (if j < k then U (Kc j) else U 0) else (if j - 64 < h then U (Hc (j - 64)) else U 0)
/-- Roots, whole. -/
def rtC : Nat → Value := rtK 64 8
theorem zer39 : (Tryd.prog.info? 39).map (fun i => (i.zero, i.size)) = some (some (.agg (cellsOf (rtK 0 0) 72)), 72) := by kernel_rfl
theorem inf35 : (Tryd.prog.info? 35).map (·.size) = some 1 := by kernel_rfl
theorem inf39 : (Tryd.prog.info? 39).map (·.size) = some 72 := by kernel_rfl
theorem rtK_stepK (k h : Nat) (hk : k < 64) (j : Nat) : upd (rtK k h) k (U (Kc k)) j = rtK (k + 1) h j := by
  simp only [upd, rtK]
  by_cases e : j = k
  · subst e; rw [if_pos rfl, if_pos hk, if_pos (by omega)]
  · rw [if_neg e]
    by_cases h1 : j < 64
    · rw [if_pos h1, if_pos h1]
      by_cases h2 : j < k
      · rw [if_pos h2, if_pos (by omega)]
      · rw [if_neg h2, if_neg (by omega)]
    · rw [if_neg h1, if_neg h1]
theorem rtK_stepH (k h : Nat) (j : Nat) : upd (rtK k h) (64 + h) (U (Hc h)) j = rtK k (h + 1) j := by
  simp only [upd, rtK]
  by_cases e : j = 64 + h
  · subst e; rw [if_pos rfl, if_neg (by omega), if_pos (by omega), show 64 + h - 64 = h from by omega]
  · rw [if_neg e]
    by_cases h1 : j < 64
    · rw [if_pos h1, if_pos h1]
    · rw [if_neg h1, if_neg h1]
      by_cases h2 : j - 64 < h
      · rw [if_pos h2, if_pos (by omega)]
      · rw [if_neg h2, if_neg (by omega)]
theorem und39 : ∃ fs, Tryd.prog.underlying 39 = some (.struct fs) := by
  have h : (match Tryd.prog.underlying 39 with | some (.struct _) => true | _ => false) = true := by kernel_rfl
  cases e : Tryd.prog.underlying 39 with
  | none => rw [e] at h; cases h
  | some d => rw [e] at h; cases d <;> first | exact ⟨_, rfl⟩ | cases h
theorem one_rt (j : Nat) : (rtC j).oneCell' = true := by unfold rtC rtK; (repeat' split) <;> rfl
theorem Own.cell' {w : World} {E : TypeId} {g n cap : Nat} {f : Nat → Value} (h : Own w E (some ⟨g, 0, none⟩) n cap f) (k : Nat) (hk : k < n) : w.cell? ⟨g, k, none⟩ = some (f k) := by
  obtain ⟨b, e, hc⟩ := h.cell (by omega)
  simp only [Option.some.injEq, Addr.mk.injEq, and_true] at e
  subst e
  have := hc k hk
  rwa [Nat.zero_add] at this
set_option maxRecDepth 100000 in
set_option maxHeartbeats 1000000 in
theorem Make_any (w : World) (N : Nat) (hN : Sz w N) :
    Calls Tryd.prog 24 #[] w fun e w' => e = .returned (.agg (cellsOf rtC 72)) ∧ Below N w w' := by
  go_enter Tryd.func24, Tryd.ntmps24
  go_wp2_with (first
    | (refine wpl_alloc rfl 39 rfl 72 _ zer39 M hM ?_; intro w3 hM3 hb3 h3)
    | (refine wpl_alloc rfl 39 rfl 72 _ zer39 N hN ?_; intro w1 hN1 hb1 h1)
    | (go_at_call 51; refine (primes_any w1 (N + 1) hN1).mono ?_; rintro e w2 ⟨pt, ct, rfl, hb2, ho, hpt⟩; obtain ⟨M, hM⟩ := sz_some w2; have hNM := below_sz hb2 hN1 hM)
    | fail)
  have hb13 : Below N w w3 := (hb1.trans (hb2.mono (by omega))).trans (hb3.mono (by omega))
  have hlt : ∀ g, blk pt = some g → g < M := fun g hg => by have := ho.lt g hg; rwa [show w2.heap.size = M from hM] at this
  go_loopw [3] (fun i wr => ∃ k : Nat, k ≤ 64 ∧ i = .int .i64 k ∧ Has wr M 39 72 (rtK k (min k 8)) ∧ Has wr N 39 72 (rtK 0 0) ∧ Own wr 31 pt 64 ct (fun j => U64 (pm j)) ∧ Below N w wr)
    (fun i _ => 64 - (intOf i).toNat)
  case atStart => exact ⟨0, by omega, rfl, h3, (h1.below hb2 (by omega)).below hb3 (by omega), ho.below hb3 (Nat.le_of_eq hM), hb13⟩
  case round =>
    clear h3 h1 ho hb13 hb1 hb2 hb3
    obtain ⟨k, hk, rfl, h3, h1, ho, qb⟩ := hrel
    obtain ⟨S, hS⟩ := sz_some wr
    have hMS : M < S := h3.ltN hS
    by_cases hltk : k < 64
    · obtain ⟨g, rfl, hc⟩ := ho.cell (by omega)
      have ck := hc k hltk
      rw [Nat.zero_add] at ck
      obtain ⟨m1, m2⟩ := pm_pos k hltk
      have hgM := hlt g rfl
      have hgN := hpt g rfl
      have hv3 := hid (cube_val k hltk)
      unfold U64 at ck
      have hk0 : (0 : Int) ≤ (k : Int) := by omega
      have hk64 : (k : Int) < 64 := by omega
      by_cases hk8 : k < 8
      · have hv2 := hid (square_val k hk8)
        have hk8' : (k : Int) < 8 := by omega
        go_wp2_with (first
          | (refine wpl_set rfl 35 (.tmp 26) (.tmp 24) rfl M (64 + k) rfl (U (Hc k)) rfl inf35 rfl rfl 39 72 _ h6 (by omega) ?_; intro w7 ht7 h7)
          | (go_at_call 52; refine (root2_any (pm k) (by omega) w5 S5 hS5).mono ?_; rintro e w6 ⟨rfl, hb6⟩; rw [hv2.out]; have h6 := (h5.congr (fun j _ => rtK_stepK k (min k 8) hltk j)).below hb6 (by omega))
          | (refine wpl_set rfl 35 (.tmp 16) (.tmp 14) rfl M k rfl (U (Kc k)) rfl inf35 rfl rfl 39 72 _ (h3.below hb4 hMS) (by omega) ?_; intro w5 ht5 h5; have hS5 := ht5.sz hS4; have ck5 : w5.cell? ⟨g, k, none⟩ = some (.int .u64 (pm k : Int)) := ((ho.below hb4 (Nat.le_of_eq hS)).touch ht5 (fun _ e => by simp [blk] at e; omega)).cell' k hltk)
          | (go_at_call 52; refine (root3_any (pm k) (by omega) wr S hS).mono ?_; rintro e w4 ⟨rfl, hb4⟩; rw [hv3.out]; obtain ⟨S5, hS4⟩ := sz_some w4; have hSS := below_sz hb4 hS hS4)
          | fail)
        have e8 : min k 8 = k := by omega
        have e9 : min (k + 1) 8 = k + 1 := by omega
        have b4 := qb.trans (hb4.mono (by omega))
        have b5 := ht5.below b4 (by omega)
        have b6 := b5.trans (hb6.mono (by omega))
        rw [e8] at h7
        refine ⟨⟨k + 1, by omega, by push_cast; rfl, ?_, (((h1.below hb4 (by omega)).touch ht5 (by omega)).below hb6 (by omega)).touch ht7 (by omega), ?_, ht7.below b6 (by omega)⟩, by simp [intOf]; omega⟩
        · rw [e9]; exact h7.congr fun j _ => rtK_stepH (k + 1) k j
        · exact (((ho.below hb4 (Nat.le_of_eq hS)).touch ht5 (fun _ e => by simp [blk] at e; omega)).below hb6 (Nat.le_of_eq hS5)).touch ht7 (fun _ e => by simp [blk] at e; omega)
      · have hk8' : (8 : Int) ≤ (k : Int) := by omega
        go_wp2_with (first
          | (refine wpl_set rfl 35 (.tmp 16) (.tmp 14) rfl M k rfl (U (Kc k)) rfl inf35 rfl rfl 39 72 _ (h3.below hb4 hMS) (by omega) ?_; intro w5 ht5 h5)
          | (go_at_call 52; refine (root3_any (pm k) (by omega) wr S hS).mono ?_; rintro e w4 ⟨rfl, hb4⟩; rw [hv3.out])
          | fail)
        have e8 : min k 8 = 8 := by omega
        have e9 : min (k + 1) 8 = 8 := by omega
        have b4 := qb.trans (hb4.mono (by omega))
        rw [e8] at h5
        refine ⟨⟨k + 1, by omega, by push_cast; rfl, ?_, (h1.below hb4 (by omega)).touch ht5 (by omega), ?_, ht5.below b4 (by omega)⟩, by simp [intOf]; omega⟩
        · rw [e9]; exact h5.congr fun j _ => rtK_stepK k 8 hltk j
        · exact (ho.below hb4 (Nat.le_of_eq hS)).touch ht5 (fun _ e => by simp [blk] at e; omega)
    · obtain rfl : k = 64 := by omega
      obtain ⟨fs, hfs⟩ := und39
      go_wp2_with (first
        | (refine wpl_load rfl 39 (.tmp 2) rfl M rfl 39 72 _ h3 _ hfs rfl inf39 ?_)
        | (refine wpl_store rfl 39 (.tmp 0) (.tmp 27) rfl N 72 _ rfl rfl 39 _ h1 inf39 (fun j _ => one_rt j) ?_; intro w7 ht7 h7)
        | fail)
      exact post_cell Tryd.results24 N rfl h7 _ hfs rfl inf39 rfl ⟨rfl, ht7.below qb (Nat.le_refl N)⟩
end Go.Proofs.YtcampjgemedhlaaDoor
