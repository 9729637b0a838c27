/- Sign of lamport. -/
import Derived.Test.YtcampjgemedhlaaDoorLam2
namespace Go.Proofs.YtcampjgemedhlaaDoor
open Go Go.RowKit Sha
/-- What a seed says to a sum. -/
def sigD (n : Nat) (D s : Nat → BitVec 8) : Nat → BitVec 8 := fun j => if j % 64 < 32 then secD n D (j / 64) (bitS s (j / 64)) (j % 64) else leafD n D (j / 64) (1 - bitS s (j / 64)) (j % 64 - 32)
/-- A slice of new memory is handed back, m bytes. -/
def NewBytes (N : Nat) (w : World) (m : Nat) (f : Nat → BitVec 8) (e : Ending) (w' : World) : Prop :=
  ∃ ps cs, e = .returned (.slice ps m cs) ∧ Own w' 5 ps m cs (fun j => By (f j)) ∧ (∀ g, blk ps = some g → N ≤ g) ∧ Below N w w'
set_option maxRecDepth 100000 in
theorem Sign_any (p : Option Addr) (n cap : Nat) (D s : Nat → BitVec 8) (w : World) (N : Nat) (hN : Sz w N) (hT : Tabs w) (hcap : n ≤ cap) (hn : n ≤ 100000) (hD : Bytes w p n D) :
    Calls Tryd.prog 26 #[.slice p n cap, .agg (cellsOf (fun j => By (s j)) 32)] w (NewBytes N w 2048 (sigD n D s)) := by
  have hTN := hT.ltN hN
  have hsl := slice32
  go_enter Tryd.func26, Tryd.ntmps26
  go_wp2_with (first
    | (refine wpl_box rfl 23 (.tmp 1) rfl 32 _ rfl N hN ?_; intro w1 hN1 hb1 h1)
    | (at_make; refine wpl_make rfl 22 (.const (.int .i64 0)) (.const (.int .i64 2048)) rfl rfl 2048 rfl 5 und22 one5 (by omega) (N + 1) hN1 (fun j => By (sigD n D s j)) ?_; intro w2 hown0 hb2' hlt2)
    | fail)
  have hb2 : Below N w w2 := hb1.trans (hb2'.mono (by omega))
  go_loopw [5, 11] (fun t i wr => ∃ (k : Nat) (pt : Option Addr) (ct : Nat), k ≤ 32 ∧ i = .int .i64 k ∧ t = .slice pt (64 * k) ct ∧ Own wr 5 pt (64 * k) ct (fun j => By (sigD n D s j)) ∧
      Has wr N 23 32 (fun j => By (s j)) ∧ Below N w wr ∧ (∀ g, blk pt = some g → N + 1 ≤ g))
    (fun _ i _ => 32 - (intOf i).toNat)
  case atStart => exact ⟨0, _, 2048, by omega, rfl, rfl, hown0, h1.below hb2' (by omega), hb2, fun g hg => by simp [blk] at hg; omega⟩
  case round =>
    clear hown0 hb2 hb2'
    obtain ⟨k, pt, ct, hk, rfl, rfl, hown, q1, qb, hp⟩ := hrel
    obtain ⟨M, hM⟩ := sz_some wr
    have hNM : N + 1 ≤ M := q1.ltN hM
    by_cases hlt : k < 32
    · go_wp2_with (first
        | (refine wpl_load rfl 23 (.tmp 3) rfl N rfl 23 32 _ q1 _ und23 rfl inf23 ?_)
        | (go_at_call 54; refine (bitOf_any s k _ rfl hlt _ M hM).mono ?_; rintro e w0 ⟨rfl, hb0⟩; obtain ⟨M0, hM0⟩ := sz_some w0; have hMM0 := below_sz hb0 hM hM0; have qb0 := qb.trans (hb0.mono (by omega)))
        | fail)
      obtain ⟨b, hbdef⟩ : ∃ b, b = bitS s k := ⟨_, rfl⟩
      have Hb := hid hbdef
      have hblt : b < 2 := by rw [hbdef]; exact bitS_lt s k
      rw [← hbdef]
      clear hbdef
      refine (secret_any p n cap D k b _ _ rfl rfl hlt hblt _ M0 hM0 (hT.below qb0 hTN) hcap hn (hD.below hN qb0)).mono ?_
      rintro e w1 ⟨rfl, hb1⟩
      obtain ⟨M1, hM1⟩ := sz_some w1
      have hMM1 := below_sz hb1 hM0 hM1
      have qb1 := qb0.trans (hb1.mono (by omega))
      go_wp2_with fail
      refine (leaf_any p n cap D k (1 - b) _ _ rfl (by omega) hlt (by omega) _ M1 hM1 (hT.below qb1 hTN) hcap hn (hD.below hN qb1)).mono ?_
      rintro e w2 ⟨rfl, hb2⟩
      obtain ⟨M2, hM2⟩ := sz_some w2
      have hMM2 := below_sz hb2 hM1 hM2
      have o2 := ((hown.below hb0 (Nat.le_of_eq hM)).below hb1 (Nat.le_of_eq hM0)).below hb2 (Nat.le_of_eq hM1)
      have r2 := ((q1.below hb0 (by omega)).below hb1 (by omega)).below hb2 (by omega)
      have lt2 := o2.lt
      have hlt2 : ∀ g, blk pt = some g → g < M2 := fun g hg => by have := lt2 g hg; rwa [show w2.heap.size = M2 from hM2] at this
      clear lt2
      go_wp2_with (first
        | (refine wpl_alloc rfl 23 rfl 32 _ zer23 M2 hM2 ?_; intro w3 hM3 hb3 h3)
        | (refine wpl_alloc rfl 23 rfl 32 _ zer23 (M2 + 1) hM3 ?_; intro w4 hM4 hb4 h4)
        | (refine wpl_store rfl 23 (.tmp 8) (.tmp 20) rfl M2 32 _ rfl rfl 23 _ (h3.below hb4 (by omega)) inf23 (fun _ _ => rfl) ?_; intro w5 ht5 h5)
        | (refine wpl_store rfl 23 (.tmp 9) (.tmp 25) rfl (M2 + 1) 32 _ rfl rfl 23 _ (h4.touch ht5 (by omega)) inf23 (fun _ _ => rfl) ?_; intro w6 ht6 h6; have o6 := (((o2.below hb3 (Nat.le_of_eq hM2)).below hb4 (Nat.le_of_eq hM3)).touch ht5 (fun g hg => Nat.ne_of_lt (hlt2 g hg))).touch ht6 (fun g hg => Nat.ne_of_lt (Nat.lt_succ_of_lt (hlt2 g hg))); have h5' := h5.touch ht6 (by omega))
        | (refine wpl_app rfl (.tmp 26) (.tmp 27) 22 rfl 5 und22 one5 pt (64 * k) ct rfl _ o6 _ 32 32 rfl _ h5'.cells (fun _ _ => rfl) (by omega) ?_; intro pt7 ct7 w7 o7 g7 k7 n7; have h6' := h6.grew g7 (dis_lt hlt2 _ (by omega)))
        | (refine wpl_app rfl (.tmp 29) (.tmp 30) 22 rfl 5 und22 one5 pt7 (64 * k + 32) ct7 rfl _ o7 _ 32 32 rfl _ h6'.cells (fun _ _ => rfl) (by omega) ?_; intro pt8 ct8 w8 o8 g8 k8 n8)
        | fail)
      have s2 : M2 = w2.heap.size := hM2.symm
      have b2 := qb1.trans (hb2.mono (by omega))
      have b6 := ht6.below (ht5.below ((b2.trans (hb3.mono (by omega))).trans (hb4.mono (by omega))) (by omega)) (by omega)
      have z6 : N + 1 ≤ w6.heap.size := by have := ht6.size; have := ht5.size; have e : w4.heap.size = M2 + 1 + 1 := hM4; omega
      have b7 := g7.below b6 (by omega) (fun g hg => by have := hp g hg; omega)
      have hp7 := ge_step hp k7 z6
      have z7 : N + 1 ≤ w7.heap.size := Nat.le_trans z6 g7.size
      have b8 := g8.below b7 (by omega) (fun g hg => by have := hp7 g hg; omega)
      have hp8 := ge_step hp7 k8 z7
      have q8 := (((((r2.below hb3 (by omega)).below hb4 (by omega)).touch ht5 (by omega)).touch ht6 (by omega)).grew g7 (fun e => by have := hp N e.symm; omega)).grew g8 (fun e => by have := hp7 N e.symm; omega)
      refine ⟨⟨k + 1, pt8, ct8, by omega, by go_num, by rw [show 64 * (k + 1) = 64 * k + 32 + 32 from by omega], ?_, q8, b8, hp8⟩, by simp [intOf]; omega⟩
      rw [show 64 * (k + 1) = 64 * k + 32 + 32 from by omega]
      exact o8.congr (fun j hj => by
        simp only [cat]
        by_cases h1 : j < 64 * k
        · rw [if_pos (by omega), if_pos h1]
        · unfold sigD
          by_cases h2 : j < 64 * k + 32
          · rw [if_pos h2, if_neg h1, if_pos (by omega), show j / 64 = k from by omega, show j % 64 = j - 64 * k from by omega, Hb.out]
          · rw [if_neg h2, if_neg (by omega), show j / 64 = k from by omega, show j % 64 - 32 = j - (64 * k + 32) from by omega, Hb.out])
    · obtain rfl : 32 = k := by omega
      go_wp2_with fail
      go_ret
      exact ⟨pt, ct, rfl, hown, fun g hg => by have := hp g hg; omega, qb⟩
end Go.Proofs.YtcampjgemedhlaaDoor
