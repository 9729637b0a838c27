/- Key of lamport. -/
import Derived.Test.YtcampjgemedhlaaDoorLam1
import Derived.Test.YtcampjgemedhlaaDoorDig5
namespace Go.Proofs.YtcampjgemedhlaaDoor
open Go Go.RowKit Sha
/-- All leaves, one behind the other. -/
def keyText (n : Nat) (D : Nat → BitVec 8) : Nat → BitVec 8 := fun j => leafD n D (j / 64) (j % 64 / 32) (j % 32)
def keyD (n : Nat) (D : Nat → BitVec 8) : Nat → BitVec 8 := shaD (keyText n D) 2048
theorem dis_lt {a : Option Nat} {n : Nat} (h : ∀ g, a = some g → g < n) : ∀ b, n ≤ b → some b ≠ a := fun b hb e => by have := h b e.symm; omega
set_option maxRecDepth 100000 in
theorem Key_any (p : Option Addr) (n cap : Nat) (D : Nat → BitVec 8) (w : World) (N : Nat) (hN : Sz w N) (hT : Tabs w) (hcap : n ≤ cap) (hn : n ≤ 100000) (hD : Bytes w p n D) :
    Calls Tryd.prog 25 #[.slice p n cap] w fun e w' => e = .returned (.agg (cellsOf (fun j => By (keyD n D j)) 32)) ∧ Below N w w' := by
  have hTN := hT.ltN hN
  have hsl := slice32
  go_enter Tryd.func25, Tryd.ntmps25
  go_wp2_with (first
    | (refine wpl_alloc rfl 23 rfl 32 _ zer23 N hN ?_; intro w1 hN1 hb1 h1)
    | (at_make; refine wpl_make rfl 22 (.const (.int .i64 0)) (.const (.int .i64 2048)) rfl rfl 2048 rfl 5 und22 one5 (by omega) (N + 1) hN1 (fun j => By (keyText n D j)) ?_; intro w2 hown0 hb2' hlt2)
    | fail)
  have hb2 : Below N w w2 := hb1.trans (hb2'.mono (by omega))
  go_loopw [3, 8] (fun t i wr => ∃ (k : Nat) (pt : Option Addr) (ct : Nat), k ≤ 32 ∧ i = .int .i64 k ∧ t = .slice pt (64 * k) ct ∧ Own wr 5 pt (64 * k) ct (fun j => By (keyText n D j)) ∧
      Has wr N 23 32 (fun _ => By 0) ∧ Below N w wr ∧ (∀ g, blk pt = some g → N + 1 ≤ g))
    (fun _ i _ => 32 - (intOf i).toNat)
  case atStart => exact ⟨0, _, 2048, by omega, rfl, rfl, hown0, h1.below hb2' (by omega), hb2, fun g hg => by simp [blk] at hg; omega⟩
  case round =>
    clear hown0 hb2 hb2'
    obtain ⟨k, pt, ct, hk, rfl, rfl, hown, q1, qb, hp⟩ := hrel
    obtain ⟨M, hM⟩ := sz_some wr
    have hNM : N + 1 ≤ M := q1.ltN hM
    by_cases hlt : k < 32
    · go_wp2_with fail
      refine (leaf_any p n cap D k 0 _ _ rfl rfl hlt (by omega) _ M hM (hT.below qb hTN) hcap hn (hD.below hN qb)).mono ?_
      rintro e w1 ⟨rfl, hb1⟩
      obtain ⟨M1, hM1⟩ := sz_some w1
      have hMM1 := below_sz hb1 hM hM1
      have qb1 := qb.trans (hb1.mono (by omega))
      go_wp2_with fail
      refine (leaf_any p n cap D k 1 _ _ rfl rfl hlt (by omega) _ M1 hM1 (hT.below qb1 hTN) hcap hn (hD.below hN qb1)).mono ?_
      rintro e w2 ⟨rfl, hb2⟩
      obtain ⟨M2, hM2⟩ := sz_some w2
      have hMM2 := below_sz hb2 hM1 hM2
      have o2 := (hown.below hb1 (Nat.le_of_eq hM)).below hb2 (Nat.le_of_eq hM1)
      have r2 := (q1.below hb1 (by omega)).below hb2 (by omega)
      have lt2 := o2.lt
      have hlt2 : ∀ g, blk pt = some g → g < M2 := fun g hg => by have := lt2 g hg; rwa [show w2.heap.size = M2 from hM2] at this
      clear lt2
      go_wp2_with (first
        | (refine wpl_alloc rfl 23 rfl 32 _ zer23 M2 hM2 ?_; intro w3 hM3 hb3 h3)
        | (refine wpl_alloc rfl 23 rfl 32 _ zer23 (M2 + 1) hM3 ?_; intro w4 hM4 hb4 h4)
        | (refine wpl_store rfl 23 (.tmp 5) (.tmp 13) rfl M2 32 _ rfl rfl 23 _ (h3.below hb4 (by omega)) inf23 (fun _ _ => rfl) ?_; intro w5 ht5 h5)
        | (refine wpl_store rfl 23 (.tmp 6) (.tmp 16) rfl (M2 + 1) 32 _ rfl rfl 23 _ (h4.touch ht5 (by omega)) inf23 (fun _ _ => rfl) ?_; intro w6 ht6 h6; have o6 := (((o2.below hb3 (Nat.le_of_eq hM2)).below hb4 (Nat.le_of_eq hM3)).touch ht5 (fun g hg => Nat.ne_of_lt (hlt2 g hg))).touch ht6 (fun g hg => Nat.ne_of_lt (Nat.lt_succ_of_lt (hlt2 g hg))); have h5' := h5.touch ht6 (by omega))
        | (refine wpl_app rfl (.tmp 17) (.tmp 18) 22 rfl 5 und22 one5 pt (64 * k) ct rfl _ o6 _ 32 32 rfl _ h5'.cells (fun _ _ => rfl) (by omega) ?_; intro pt7 ct7 w7 o7 g7 k7 n7; have h6' := h6.grew g7 (dis_lt hlt2 _ (by omega)))
        | (refine wpl_app rfl (.tmp 20) (.tmp 21) 22 rfl 5 und22 one5 pt7 (64 * k + 32) ct7 rfl _ o7 _ 32 32 rfl _ h6'.cells (fun _ _ => rfl) (by omega) ?_; intro pt8 ct8 w8 o8 g8 k8 n8)
        | fail)
      have s2 : M2 = w2.heap.size := hM2.symm
      have b2 := qb1.trans (hb2.mono (by omega))
      have b6 := ht6.below (ht5.below ((b2.trans (hb3.mono (by omega))).trans (hb4.mono (by omega))) (by omega)) (by omega)
      have z6 : N + 1 ≤ w6.heap.size := by have := ht6.size; have := ht5.size; have e : w4.heap.size = M2 + 1 + 1 := hM4; omega
      have b7 := g7.below b6 (by omega) (fun g hg => by have := hp g hg; omega)
      have hp7 := ge_step hp k7 z6
      have z7 : N + 1 ≤ w7.heap.size := Nat.le_trans z6 g7.size
      have b8 := g8.below b7 (by omega) (fun g hg => by have := hp7 g hg; omega)
      have hp8 := ge_step hp7 k8 z7
      have q8 := (((((r2.below hb3 (by omega)).below hb4 (by omega)).touch ht5 (by omega)).touch ht6 (by omega)).grew g7 (fun e => by have := hp N e.symm; omega)).grew g8 (fun e => by have := hp7 N e.symm; omega)
      refine ⟨⟨k + 1, pt8, ct8, by omega, by go_num, by rw [show 64 * (k + 1) = 64 * k + 32 + 32 from by omega], ?_, q8, b8, hp8⟩, by simp [intOf]; omega⟩
      rw [show 64 * (k + 1) = 64 * k + 32 + 32 from by omega]
      exact o8.congr (fun j hj => by
        simp only [cat]
        by_cases h1 : j < 64 * k
        · rw [if_pos (by omega), if_pos h1]
        · unfold keyText
          by_cases h2 : j < 64 * k + 32
          · rw [if_pos h2, if_neg h1, show j / 64 = k from by omega, show j % 64 / 32 = 0 from by omega, show j % 32 = j - 64 * k from by omega]
          · rw [if_neg h2, show j / 64 = k from by omega, show j % 64 / 32 = 1 from by omega, show j % 32 = j - (64 * k + 32) from by omega])
    · obtain rfl : 32 = k := by omega
      go_wp2_with fail
      refine (Sum_any pt 2048 ct (keyText n D) _ M hM (hT.below qb hTN) hown.le (by omega) (fun h0 => by obtain ⟨g, e, hc⟩ := hown.cell h0; exact ⟨g, 0, e, hc⟩)).mono ?_
      rintro e w5 ⟨rfl, hb5⟩
      have q5 := q1.below hb5 (by omega)
      go_wp2_with (first
        | (refine wpl_store rfl 23 (.tmp 2) (.tmp 25) rfl N 32 _ rfl rfl 23 _ q5 inf23 (fun _ _ => rfl) ?_; intro w6 ht6 h6)
        | fail)
      refine post_cell Tryd.results25 N rfl h6 _ und23 rfl inf23 rfl ⟨?_, ht6.below (qb.trans (hb5.mono (by omega))) (Nat.le_refl N)⟩
      unfold keyD; rfl
end Go.Proofs.YtcampjgemedhlaaDoor
