/- The law LamportVerifies: its walk. -/
import Derived.Test.YtneffelpdaigoaaDoorRefB
import Derived.Test.YtneffelpdaigoaaDoorLaw10
namespace Go.Proofs.YtneffelpdaigoaaDoor
open Go Go.RowKit Sha
theorem Verify_at (key s sig : Nat → BitVec 8) (q : Option Addr) (m cq : Nat) (hm : m = 2048) (hcq : m ≤ cq) (w : World) (N : Nat) (hN : Sz w N) (hT : Tabs w) (hS : Bytes w q m sig) :
    Calls Tryd.prog 30 #[.agg (cellsOf (fun j => By (key j)) 32), .agg (cellsOf (fun j => By (s j)) 32), .slice q m cq] w fun e w' => e = .returned (.int .i64 (verAns key s sig)) ∧ Below N w w' := by
  subst hm; exact Verify_any key s sig q cq hcq w N hN hT hS
theorem RFits_at (key s sig : Nat → BitVec 8) (q : Option Addr) (m cq : Nat) (hm : m = 2048) (hcq : m ≤ cq) (w : World) (N : Nat) (hN : Sz w N) (hS : Bytes w q m sig) :
    Calls Tryd.prog 31 #[.agg (cellsOf rtC 72), .agg (cellsOf (fun j => By (key j)) 32), .agg (cellsOf (fun j => By (s j)) 32), .slice q m cq] w fun e w' => e = .returned (.bool (fitsB key s sig)) ∧ Below N w w' := by
  subst hm; exact RFits_any key s sig q cq hcq w N hN hS
set_option maxRecDepth 100000 in
set_option maxHeartbeats 1000000 in
theorem law_verifies (key s : Nat → BitVec 8) (p : Option Addr) (n cap : Nat) (D : Nat → BitVec 8) (w : World) (N : Nat) (hN : Sz w N) (hT : Tabs w) (hcap : n ≤ cap) (hD : Bytes w p n D) :
    Calls Tryd.prog 8 #[.agg (cellsOf (fun j => By (key j)) 32), .agg (cellsOf (fun j => By (s j)) 32), .slice p n cap] w fun e w' => e = .returned (.bool true) ∧ Below N w w' := by
  have hTN := hT.ltN hN
  obtain ⟨fs, hfs⟩ := und39
  obtain ⟨c, hc⟩ : ∃ c, c = min n 2050 := ⟨_, rfl⟩
  have Hc := hid hc
  have hc1 : c ≤ n := by omega
  have hc2 : c ≤ 2050 := by omega
  clear hc
  have hsl : ∀ w, (Instr.sliceAt 22 (.slice p n cap) none (some (.int .i64 (c : Int))) none).run Tryd.prog w = .ok (.slice p c cap) w := run_cut_head 22 5 und22 inf5 p n cap c (by omega)
  have hDc : Bytes w p c D := fun h0 => by
    obtain ⟨bb, off, e, h⟩ := hD (by omega)
    exact ⟨bb, off, e, fun j hj => h j (by omega)⟩
  by_cases hc3 : c = 2048
  · have hne : ((c : Int) != 2048) = false := by rw [bne_eq_false_iff_eq]; omega
    have Hc3 := hid hc3
    clear hc3
    go_enter Tryd.func8, Tryd.ntmps8
    go_wp2_with (first
      | (refine wpl_box rfl 23 (.tmp 0) rfl 32 _ rfl N hN ?_; intro w1 hN1 hb1 h1)
      | (refine wpl_box rfl 23 (.tmp 1) rfl 32 _ rfl (N + 1) hN1 ?_; intro w2 hN2 hb2 h2)
      | (refine wpl_lit0 rfl 22 5 rfl und22 inf5 (N + 1 + 1) hN2 (fun j => By (D j)) ?_; intro w3 hN3 hb3 h3; have b3 := (hb1.trans (hb2.mono (by omega))).trans (hb3.mono (by omega)); have hD3 := hDc.below hN b3)
      | (refine wpl_min rfl (.tmp 11) (.const (.int .i64 2050)) 3 rfl n 2050 c rfl rfl Hc ?_)
      | (refine wpl_app rfl (.tmp 8) (.tmp 13) 22 rfl 5 und22 one5 _ 0 0 rfl _ h3 p c cap rfl (fun j => By (D j)) (bytes_cells hD3) (fun _ _ => rfl) (by omega) ?_; intro p4 c4 w4 o4 g4 k4 n4; rw [Nat.zero_add] at o4; have o4' := o4.congr (f' := fun j => By (D j)) (fun j hj => by simp only [cat]; rw [if_neg (by omega), Nat.sub_zero]); have l3 : N + 2 ≤ w3.heap.size := (by have e : w3.heap.size = N + 1 + 1 + 1 := hN3; omega); have b4 := g4.below ((Below.refl (N + 2) w2).trans hb3) l3 (fun g hg => by simp [blk] at hg; omega); have bN4 := (hb1.trans (hb2.mono (by omega))).trans (b4.mono (by omega)); have h14 := (h1.below hb2 (by omega)).below b4 (by omega); have h24 := h2.below b4 (by omega); obtain ⟨M, hM⟩ := sz_some w4; have hMN := below_sz b4 hN2 hM; have hB4 := own_bytes o4'; have hT4 := hT.below bN4 hTN)
      | (refine wpl_load rfl 23 (.tmp 3) rfl N rfl 23 32 _ h14 _ und23 rfl inf23 ?_)
      | (refine wpl_load rfl 23 (.tmp 4) rfl (N + 1) rfl 23 32 _ h24 _ und23 rfl inf23 ?_)
      | (go_at_call 30; refine (Verify_at key s D p4 c c4 Hc3.out o4'.le w4 M hM hT4 hB4).mono ?_; rintro e w5 ⟨rfl, hb5⟩; have b5 := b4.trans (hb5.mono (by omega)); obtain ⟨M5, hM5⟩ := sz_some w5; have hMM5 := below_sz hb5 hM hM5; have hT5 := hT4.below hb5 (hT4.ltN hM))
      | (go_at_call 27; refine (signs_any w5 M5 hM5 hT5).mono ?_; rintro e w6 ⟨rfl, hb6⟩; have b6 := b5.trans (hb6.mono (by omega)); obtain ⟨M6, hM6⟩ := sz_some w6; have hMM6 := below_sz hb6 hM5 hM6)
      | fail)
    have h16 := h14.below (hb5.trans (hb6.mono hMM5)) (by omega)
    have h26 := h24.below (hb5.trans (hb6.mono hMM5)) (by omega)
    have hB6 := hB4.below hM (hb5.trans (hb6.mono hMM5))
    have hle := o4'.le
    have hf : (fitsB key s D = true ∧ verAns key s D = 0) ∨ (fitsB key s D = false ∧ verAns key s D = 129) := by
      unfold verAns
      cases fitsB key s D
      · exact .inr ⟨rfl, rfl⟩
      · exact .inl ⟨rfl, rfl⟩
    have HC := Hc3.out
    clear h14 h24 hB4 o4' o4 g4 k4 n4 h1 h2 h3 hsl
    rcases hf with ⟨hf, hv⟩ | ⟨hf, hv⟩
    all_goals
      rw [hv]
      have HF := hid hf
      clear hv hf HC hne
      refine wp_region_later M6 (by kernel_rfl) (by kernel_rfl) ?_
      repeat first | (refine later_val (fun x => run_ld 23 (.tmp 3) rfl N rfl 23 32 _ (Later.has hM6 h16 x) _ und23 rfl inf23) (by rfl) ?_; simp only [Act.put, List.setIfInBounds_toArray, List.set_cons_succ, List.set_cons_zero]) | (refine later_val (fun x => run_ld 23 (.tmp 4) rfl (N + 1) rfl 23 32 _ (Later.has hM6 h26 x) _ und23 rfl inf23) (by rfl) ?_; simp only [Act.put, List.setIfInBounds_toArray, List.set_cons_succ, List.set_cons_zero]) | (go_big_quiet_step ((first
        | (go_at_call 24; exact later_of hM6 _ (fun K hK hKN => Make_any _ K hK))
        | (go_at_call 31; exact later_of hM6 _ (fun K hK hKN => (RFits_at key s D p4 c c4 Hc3.out hle _ K hK (hB6.below hM6 (Later.b _))).mono (fun e w' hh => by rw [HF.out] at hh; exact hh))))))
      refine wpQuiet_nil ?_
      rintro w7 ⟨x7, e7⟩
      have hb7 := x7.b
      rw [← e7] at hb7
      clear e7 x7
      go_wp2_with fail
      go_ret
      exact ⟨rfl, ((hb1.trans (hb2.mono (by omega))).trans (b6.mono (by omega))).trans (hb7.mono (by omega))⟩
  · have hne : ((c : Int) != 2048) = true := by rw [bne_iff_ne]; omega
    go_enter Tryd.func8, Tryd.ntmps8
    go_wp2_with (first
      | (refine wpl_box rfl 23 (.tmp 0) rfl 32 _ rfl N hN ?_; intro w1 hN1 hb1 h1)
      | (refine wpl_box rfl 23 (.tmp 1) rfl 32 _ rfl (N + 1) hN1 ?_; intro w2 hN2 hb2 h2)
      | (refine wpl_lit0 rfl 22 5 rfl und22 inf5 (N + 1 + 1) hN2 (fun j => By (D j)) ?_; intro w3 hN3 hb3 h3; have b3 := (hb1.trans (hb2.mono (by omega))).trans (hb3.mono (by omega)); have hD3 := hDc.below hN b3)
      | (refine wpl_min rfl (.tmp 11) (.const (.int .i64 2050)) 3 rfl n 2050 c rfl rfl Hc ?_)
      | (refine wpl_app rfl (.tmp 8) (.tmp 13) 22 rfl 5 und22 one5 _ 0 0 rfl _ h3 p c cap rfl (fun j => By (D j)) (bytes_cells hD3) (fun _ _ => rfl) (by omega) ?_; intro p4 c4 w4 o4 g4 k4 n4; rw [Nat.zero_add] at o4; have o4' := o4.congr (f' := fun j => By (D j)) (fun j hj => by simp only [cat]; rw [if_neg (by omega), Nat.sub_zero]); have l3 : N + 2 ≤ w3.heap.size := (by have e : w3.heap.size = N + 1 + 1 + 1 := hN3; omega); have b4 := g4.below ((Below.refl (N + 2) w2).trans hb3) l3 (fun g hg => by simp [blk] at hg; omega); have bN4 := (hb1.trans (hb2.mono (by omega))).trans (b4.mono (by omega)); have h14 := (h1.below hb2 (by omega)).below b4 (by omega); have h24 := h2.below b4 (by omega); obtain ⟨M, hM⟩ := sz_some w4; have hMN := below_sz b4 hN2 hM; have hB4 := own_bytes o4'; have hT4 := hT.below bN4 hTN)
      | (refine wpl_load rfl 23 (.tmp 3) rfl N rfl 23 32 _ h14 _ und23 rfl inf23 ?_)
      | (refine wpl_load rfl 23 (.tmp 4) rfl (N + 1) rfl 23 32 _ h24 _ und23 rfl inf23 ?_)
      | (go_at_call 30; refine (Verify_long key s p4 c c4 hc3 w4 M hM).mono ?_; rintro e w5 ⟨rfl, hb5⟩; have b5 := b4.trans (hb5.mono (by omega)); obtain ⟨M5, hM5⟩ := sz_some w5; have hMM5 := below_sz hb5 hM hM5; have hT5 := hT4.below hb5 (hT4.ltN hM))
      | (go_at_call 27; refine (signs_any w5 M5 hM5 hT5).mono ?_; rintro e w6 ⟨rfl, hb6⟩; have b6 := b5.trans (hb6.mono (by omega)))
      | fail)
    go_ret
    exact ⟨rfl, (hb1.trans (hb2.mono (by omega))).trans (b6.mono (by omega))⟩
end Go.Proofs.YtneffelpdaigoaaDoor
