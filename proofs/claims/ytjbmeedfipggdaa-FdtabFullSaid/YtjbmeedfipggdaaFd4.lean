/- The walk of FdtabFull. -/
import Derived.Test.YtjbmeedfipggdaaFd3
import Derived.Test.YtjbmeedfipggdaaMin
namespace Go.Proofs.Ytjbmeedfipggdaa
open Go Go.RowKit
def fullF (i : Nat) : Nat → Int := fun j => if j < i then 100 + (j : Int) else 0
/-- Opened, and those of S closed again. -/
def clF (S : Nat → Bool) : Nat → Int := fun j => if S j = true then 0 else 100 + (j : Int)
def addB (S : Nat → Bool) (k : Nat) : Nat → Bool := fun j => if j = k then true else S j
theorem us_full (i n : Nat) (h : i ≤ n) : (us (fullF i) n).length = i := by
  rw [us_prefix (fullF i) i n h (fun j hj => by unfold fullF; rw [if_pos hj]; omega) (fun j hj _ => by unfold fullF; rw [if_neg (by omega)]), List.length_range]
/-- The lowest one that was closed, or K. -/
def LowOf (S : Nat → Bool) (K L : Nat) : Prop := L ≤ K ∧ (∀ j, j < L → S j = false) ∧ (L < K → S L = true)
theorem low_add (S : Nat → Bool) (K L k : Nat) (hk : k < K) (h : LowOf S K L) : LowOf (addB S k) K (min L k) := by
  obtain ⟨h1, h2, h3⟩ := h
  refine ⟨by omega, fun j hj => ?_, fun hl => ?_⟩
  · unfold addB; rw [if_neg (by omega)]; exact h2 j (by omega)
  · unfold addB
    by_cases e : min L k = k
    · rw [if_pos e]
    · rw [if_neg e, show min L k = L by omega]; exact h3 (by omega)
theorem add_there (S : Nat → Bool) (k : Nat) (h : S k = true) : ∀ j, addB S k j = S j := fun j => by
  unfold addB
  by_cases e : j = k
  · rw [if_pos e, e, h]
  · rw [if_neg e]
set_option maxRecDepth 100000 in
set_option maxHeartbeats 1000000 in
theorem law_ffull (size : Int) (p : Option Addr) (m cap : Nat) (Z : Nat → Int) (w : World) (N : Nat) (hN : Sz w N) (hZ : Lies w p m (fun j => .int .i64 (Z j))) :
    Calls Try.prog 7 #[.int .i64 size, .slice p m cap] w fun e w' => e = .returned (.bool true) ∧ Below N w w' := by
  obtain ⟨x, hx, ex⟩ := rest size 16 (by omega) (by omega)
  rw [show ((16 : Nat) : Int) = 16 from rfl] at ex
  have Ex := hid ex
  clear ex
  go_enter Try.func7, Try.ntmps7
  go_wp2_with fail
  rw [Ex.out, show wrap64 (1 + (x : Int)) = ((1 + x : Nat) : Int) from by rw [IntWalk.wrap64_in _ (by omega)]; omega]
  obtain ⟨K, hK⟩ : ∃ K, K = 1 + x := ⟨_, rfl⟩
  rw [← hK]
  have K1 : 1 ≤ K := by omega
  have K2 : K ≤ 16 := by omega
  clear hK hx Ex
  refine (FNew_any K (by omega) (by omega) _ N hN).mono ?_
  rintro e w1 ⟨rfl, hb1, hF1, hN1⟩
  go_wp2_with fail
  refine (opens_any _ (N + 2) hN1).mono ?_
  rintro e w2 ⟨rfl, hb2⟩
  have F2 : Fd w2 (N + 1) N K (fullF 0) := (hF1.below hN1 hb2).congr (fun j _ => by unfold fullF; rw [if_neg (by omega)])
  have b2 : Below N w w2 := hb1.trans (hb2.mono (by omega))
  clear hF1 hb1 hb2 hN1
  go_wp2_with fail
  go_loopw [8] (fun i wr => ∃ j : Nat, j ≤ K ∧ i = .int .i64 j ∧ Fd wr (N + 1) N K (fullF j) ∧ Below N w wr) (fun i _ => K - (intOf i).toNat)
  case atStart => exact ⟨0, by omega, rfl, F2, b2⟩
  case round =>
    clear F2 b2
    obtain ⟨j, hj, rfl, F2, b2⟩ := hrel
    by_cases hlt : j < K
    · have hl1 : (j : Int) < (K : Int) := by omega
      have j1 : (0 : Int) ≤ (j : Int) := by omega
      have j2 : (j : Int) < 16 := by omega
      have k1 : (1 : Int) ≤ (K : Int) := by omega
      have k2 : (K : Int) ≤ 16 := by omega
      have hf : (((K - (j + 1) : Nat) : Int) != (K : Int) - 1 - (j : Int)) = false := by
        rw [bne_eq_false_iff_eq]; omega
      have e16 := us_full (j + 1) K (by omega)
      go_wp2_with (first
        | (go_at_call 29; refine (Open_at (N + 1) N K (fullF j) (100 + (j : Int)) j (by omega) (by omega) (by omega) (by unfold fullF; rw [if_neg (by omega)]) (fun i hi => by unfold fullF; rw [if_pos hi]; omega) _ F2).mono ?_; rintro e w3 ⟨rfl, ht3, F3'⟩; have F3 : Fd w3 (N + 1) N K (fullF (j + 1)) := F3'.congr (fun i _ => by unfold fullF; by_cases h1 : i = j; (subst h1; rw [if_pos rfl, if_pos (by omega)]); (rw [if_neg h1]; by_cases h2 : i < j; (rw [if_pos h2, if_pos (by omega)]); (rw [if_neg h2, if_neg (by omega)]))); clear F3')
        | (go_at_call 30; refine (Free_any (N + 1) N K (fullF (j + 1)) (by omega) _ _ rfl F3).mono ?_; rintro e w4 ⟨rfl, hb4⟩; rw [e16])
        | fail)
      have b3 := ht3.below b2 (Nat.le_refl N)
      exact ⟨⟨j + 1, by omega, by go_num, F3.below rfl hb4, b3.trans (hb4.mono (below_le b3 hN))⟩, by simp [intOf]; omega⟩
    · obtain rfl : j = K := by omega
      have hl1 : ¬ ((j : Int) < (j : Int)) := by omega
      go_wp2_with (first
        | (go_at_call 29; refine (Open_full (N + 1) N j (fullF j) 9 (by omega) (by omega) (fun i hi => by unfold fullF; rw [if_pos hi]; omega) _ F2).mono ?_; rintro e w3 ⟨rfl, rfl⟩)
        | fail)
      have F3 : Fd wr (N + 1) N j (clF (fun _ => false)) := F2.congr (fun i hi => by unfold fullF clF; rw [if_pos hi]; rfl)
      clear F2
      go_loopw [13, 14] (fun lo i wr => ∃ (l L : Nat) (S : Nat → Bool), l ≤ 9 ∧ i = .int .i64 l ∧ lo = .int .i64 L ∧ LowOf S j L ∧ Fd wr (N + 1) N j (clF S) ∧ Below N w wr) (fun _ i _ => 9 - (intOf i).toNat)
      case atStart => exact ⟨0, j, fun _ => false, by omega, rfl, rfl, ⟨Nat.le_refl _, fun _ _ => rfl, fun h => by omega⟩, F3, b2⟩
      case round =>
        clear F3 b2
        obtain ⟨l, L, S, hl, rfl, rfl, hS, F2, b2⟩ := hrel
        have j0 : (0 : Int) ≤ (j : Int) := by omega
        have j1 : (j : Int) ≤ 16 := by omega
        by_cases hlt : l < m ∧ l < 9
        · obtain ⟨h1, h2⟩ := hlt
          obtain ⟨bb, off, rfl, hc⟩ := (hZ.below hN b2) (by omega)
          have cl := hc l h1
          clear hc
          have t1 : decide ((l : Int) < (m : Int)) = true := by simp; omega
          have t2 : decide ((l : Int) < 9) = true := by simp; omega
          have jz : ((j : Int) == 0) = false := by rw [beq_eq_false_iff_ne]; omega
          have ju : IntKind.u64.wrap (j : Int) = (j : Int) := by rw [IntKind.wrap_u64]; omega
          obtain ⟨k, hk, ek⟩ := rest (Z l) j (by omega) (by omega)
          have Ek := hid ek
          clear ek
          have HS := hid hS
          clear hS
          have k0 : (0 : Int) ≤ (k : Int) := by omega
          have k1 : (k : Int) ≤ 16 := by omega
          go_wp2_with fail
          rw [Ek.out]
          clear Ek jz ju
          obtain ⟨c, hcm⟩ : ∃ c, c = min L k := ⟨_, rfl⟩
          have Hc := hid hcm
          clear hcm
          cases hsk : S k
          · have hfk : clF S k ≠ 0 := by unfold clF; rw [if_neg (by rw [hsk]; simp)]; omega
            have efk : clF S k = 100 + (k : Int) := by unfold clF; rw [if_neg (by rw [hsk]; simp)]
            have C := Close_ok (N + 1) N j (clF S) k hk (by omega) hfk wr F2
            rw [efk] at C
            clear hfk efk cl hsk
            refine C.mono ?_
            rintro e w3 ⟨rfl, ht3, F3⟩
            have b3 := ht3.below b2 (Nat.le_refl N)
            clear C F2 b2 ht3
            go_wp2_with (first
              | (refine wpl_min rfl (.tmp 115) (.tmp 116) 3 rfl L k c rfl rfl Hc ?_)
              | fail)
            exact ⟨⟨l + 1, c, addB S k, by omega, by go_num, rfl, by rw [Hc.out]; exact low_add S j L k hk HS.out, F3.congr (fun i _ => by
              unfold clF addB
              by_cases e : i = k
              · subst e; rw [if_pos rfl, if_pos (by simp)]
              · rw [if_neg e]; simp only [if_neg e]), b3⟩, by simp [intOf]; omega⟩
          · have efk : clF S k = 0 := by unfold clF; rw [if_pos hsk]
            have hsk' := hid hsk
            clear cl hsk
            refine (Close_free (N + 1) N j (clF S) k hk (by omega) efk wr F2).mono ?_
            rintro e w3 ⟨rfl, rfl⟩
            clear efk
            go_wp2_with (first
              | (refine wpl_min rfl (.tmp 115) (.tmp 116) 3 rfl L k c rfl rfl Hc ?_)
              | fail)
            exact ⟨⟨l + 1, c, addB S k, by omega, by go_num, rfl, by rw [Hc.out]; exact low_add S j L k hk HS.out, F2.congr (fun i _ => by
              unfold clF; rw [add_there S k hsk'.out i]), b2⟩, by simp [intOf]; omega⟩
        · have t1 : ¬ ((l : Int) < (m : Int)) ∨ ((l : Int) < (m : Int) ∧ ¬ ((l : Int) < 9)) := by omega
          by_cases hLj : L = j
          · have hq : ((L : Int) == (j : Int)) = true := by rw [beq_iff_eq]; omega
            have HLj := hid hLj
            clear hLj
            rcases t1 with t1 | ⟨t1, t2⟩
            · go_wp2_with fail
              go_ret
              exact ⟨rfl, b2⟩
            · go_wp2_with fail
              go_ret
              exact ⟨rfl, b2⟩
          · have hq : ((L : Int) == (j : Int)) = false := by rw [beq_eq_false_iff_ne]; omega
            have hL : L < j := by have := hS.1; omega
            have hSL := hS.2.2 hL
            have CO := Open_at (N + 1) N j (clF S) 7 L (by omega) hL (by omega) (by unfold clF; rw [if_pos hSL]) (fun i hi => by unfold clF; rw [hS.2.1 i hi, if_neg (by simp)]; omega) wr F2
            have CG := fun (wz : World) (h : Fd wz (N + 1) N j (fun i => if i = L then 7 else clF S i)) => Get_ok (N + 1) N j (fun i => if i = L then 7 else clF S i) L hL (by omega) (by rw [if_pos rfl]; omega) wz h
            rw [show (if L = L then (7 : Int) else clF S L) = 7 from if_pos rfl] at CG
            clear hSL hS
            rcases t1 with t1 | ⟨t1, t2⟩
            · go_wp2_with (first
                | (go_at_call 29; refine CO.mono ?_; rintro e w3 ⟨rfl, ht3, F3⟩)
                | (go_at_call 32; refine (CG _ F3).mono ?_; rintro e w4 ⟨rfl, rfl⟩)
                | fail)
              go_ret
              exact ⟨rfl, ht3.below b2 (Nat.le_refl N)⟩
            · go_wp2_with (first
                | (go_at_call 29; refine CO.mono ?_; rintro e w3 ⟨rfl, ht3, F3⟩)
                | (go_at_call 32; refine (CG _ F3).mono ?_; rintro e w4 ⟨rfl, rfl⟩)
                | fail)
              go_ret
              exact ⟨rfl, ht3.below b2 (Nat.le_refl N)⟩
end Go.Proofs.Ytjbmeedfipggdaa
