/- The law DigestParts: its walk. -/
import Derived.Test.YtcampjgemedhlaaDoorDig6
import Derived.Test.YtcampjgemedhlaaDoorEq
namespace Go.Proofs.YtcampjgemedhlaaDoor
open Go Go.RowKit Sha
/-- The texts in one, each behind its length. -/
def flat (S : Nat → Part) : Nat → Nat → BitVec 8
  | 0, _ => 0
  | k + 1, j => if j < joinL S k then flat S k j else if j < joinL S k + 8 then be8 (S k).n (j - joinL S k) else (S k).D (j - joinL S k - 8)
theorem joinR_flat (S : Nat → Part) : ∀ k, joinR S k = feed run0 (flat S k) (joinL S k)
  | 0 => rfl
  | k + 1 => by
    have e1 : feed run0 (flat S (k + 1)) (joinL S k) = joinR S k := by
      rw [joinR_flat S k]; exact feed_congr _ _ _ _ (fun j hj => by simp only [flat]; rw [if_pos hj])
    rw [joinL, feed_add, feed_add, e1, joinR]
    rw [feed_congr _ (fun j => flat S (k + 1) (joinL S k + j)) (be8 (S k).n) 8 (fun j hj => by simp only [flat]; rw [if_neg (by omega), if_pos (by omega), show joinL S k + j - joinL S k = j from by omega])]
    rw [feed_congr _ (fun j => flat S (k + 1) (joinL S k + 8 + j)) (S k).D _ (fun j _ => by simp only [flat]; rw [if_neg (by omega), if_neg (by omega), show joinL S k + 8 + j - joinL S k - 8 = j from by omega])]
theorem joinD_flat (S : Nat → Part) (k : Nat) : joinD S k = shaD (flat S k) (joinL S k) := by
  unfold joinD shaD; rw [joinR_flat]
theorem cof5 : Tryd.prog.cellsOf 5 = 1 := by kernel_rfl
/-- A text's first bytes. -/
def cutP (m : Nat) (x : Part) : Part := { x with n := min x.n m }
theorem one22 : OneCell Tryd.prog 22 := oneCell_of (k := 24) (v := .slice none 0 0) (by kernel_rfl) (by omega) rfl
theorem und29 : Tryd.prog.underlying 29 = some (.slice 22) := by kernel_rfl
/-- An 8-byte number below 256. -/
theorem be8_small (n j : Nat) (hn : n < 256) (hj : j < 8) : be8 n j = if j = 7 then BitVec.ofNat 8 n else 0 := by
  unfold be8
  by_cases e : j = 7
  · subst e; rw [if_pos rfl]; simp
  · rw [if_neg e]
    have : n / 2 ^ (56 - 8 * j) = 0 := by
      apply Nat.div_eq_of_lt
      have : 2 ^ 8 ≤ 2 ^ (56 - 8 * j) := Nat.pow_le_pow_right (by omega) (by omega)
      omega
    rw [this]; rfl
theorem joinL_le (S : Nat → Part) : ∀ k, (∀ j, (S j).n ≤ 50) → joinL S k ≤ 58 * k
  | 0, _ => Nat.le_refl _
  | k + 1, h => by
    have := joinL_le S k h
    have := h k
    simp only [joinL]; omega
theorem dis_symm {a b : Option Nat} (h : a = none ∨ a ≠ b) : b = none ∨ b ≠ a := by
  cases b with
  | none => exact .inl rfl
  | some x => rcases h with rfl | h; exact .inr (by simp); exact .inr (fun e => h e.symm)
theorem dis_step {a a' b : Option Nat} {n : Nat} (h : a = none ∨ a ≠ b) (hk : a' = a ∨ a' = some n) (hb : ∀ g, b = some g → g ≠ n) : a' = none ∨ a' ≠ b := by
  rcases hk with rfl | rfl
  · exact h
  · exact .inr (fun e => hb n e.symm rfl)
theorem size_le_alloc (w : World) (o : Obj) : w.heap.size ≤ (w.alloc o).heap.size := by show w.heap.size ≤ (w.heap.push o).size; simp
theorem cells_bytes {w w' : World} {N m n : Nat} {p : Option Addr} {D : Nat → BitVec 8} (h : Bytes w p n D) (hN : Sz w N) (hb : Below N w w') (hm : m ≤ n) : Cells w' p m (fun j => By (D j)) := fun h0 => by
  obtain ⟨bb, off, e, hc⟩ := h.below hN hb (by omega)
  exact ⟨_, e, fun j hj => by rw [Addr.add_mid]; exact hc j (by omega)⟩
theorem cells_at8 (w : World) (g : Nat → Value) (t : TypeId) : Cells (w.alloc (.cells #[g 0, g 1, g 2, g 3, g 4, g 5, g 6, g 7] t)) (some ⟨w.heap.size, 0, none⟩) 8 g := fun _ =>
  ⟨_, rfl, fun j hj => by
    rw [Addr.add_mid, Nat.zero_add, cell_of_row _ _ _ _ _ _ (heap_alloc_new w _)]
    rcases (show j = 0 ∨ j = 1 ∨ j = 2 ∨ j = 3 ∨ j = 4 ∨ j = 5 ∨ j = 6 ∨ j = 7 by omega) with rfl | rfl | rfl | rfl | rfl | rfl | rfl | rfl <;> rfl⟩
theorem cells_at1 (w : World) (v : Value) (t : TypeId) : Cells (w.alloc (.cells #[v] t)) (some ⟨w.heap.size, 0, none⟩) 1 (fun _ => v) := fun _ =>
  ⟨_, rfl, fun j hj => by
    obtain rfl : j = 0 := by omega
    rw [Addr.add_mid, cell_of_row _ _ _ _ _ _ (heap_alloc_new w _)]; rfl⟩
set_option maxRecDepth 100000 in
set_option maxHeartbeats 1000000 in
theorem law_parts (p : Option Addr) (n cap : Nat) (S0 : Nat → Part) (w : World) (N : Nat) (hN : Sz w N) (hT : Tabs w) (hS : Parts w p n S0) :
    Calls Tryd.prog 6 #[.slice p n cap] w fun e w' => e = .returned (.bool true) ∧ Below N w w' := by
  have hTN := hT.ltN hN
  obtain ⟨S, hSdef⟩ : ∃ S, S = fun k => cutP 50 (S0 k) := ⟨_, rfl⟩
  have HS := hid hSdef
  clear hSdef
  go_enter Tryd.func6, Tryd.ntmps6
  go_wp2_with fail
  go_loopw [3, 4, 5] (fun l al i wr => ∃ (k cl ca : Nat) (pl pa : Option Addr), k ≤ n ∧ k ≤ 5 ∧ i = .int .i64 k ∧ l = .slice pl k cl ∧ al = .slice pa (joinL S k) ca ∧
      Own wr 22 pl k cl (fun j => .slice (S j).q (S j).n (S j).cap) ∧ Own wr 5 pa (joinL S k) ca (fun j => By (flat S k j)) ∧ Below N w wr ∧
      (∀ g, blk pl = some g → N ≤ g) ∧ (∀ g, blk pa = some g → N ≤ g) ∧ (blk pl = none ∨ blk pl ≠ blk pa))
    (fun _ _ i _ => 5 - (intOf i).toNat)
  case atStart => exact ⟨0, 0, 0, none, none, by omega, by omega, rfl, rfl, rfl, Own.nil _ _ _, Own.nil _ _ _, Below.refl _ _, fun g hg => (by cases hg), fun g hg => (by cases hg), .inl rfl⟩
  case round =>
    obtain ⟨k, cl, ca, pl, pa, hk, hk5, rfl, rfl, rfl, hl, ha, qb, hpl, hpa, hdis⟩ := hrel
    by_cases hlt : k < n ∧ k < 5
    · obtain ⟨hlt1, hlt2⟩ := hlt
      obtain ⟨bb, off, rfl, hparts⟩ := hS (by omega)
      obtain ⟨hc1, hc2, hc3⟩ := hparts k hlt1
      have hbb : bb < N := by
        have := World.block_lt_of_cell? w _ hc1
        have e : w.heap.size = N := hN
        simp only at this
        omega
      have d1 : wr.cell? ⟨bb, off + k, none⟩ = some (.slice (S0 k).q (S0 k).n (S0 k).cap) := by rw [qb.cell (p := ⟨bb, off + k, none⟩) hbb]; exact hc1
      have hSk : S k = ⟨(S0 k).q, min (S0 k).n 50, (S0 k).cap, (S0 k).D⟩ := by rw [HS.out]; rfl
      have HSk := hid hSk
      clear hSk hparts
      obtain ⟨m, hm⟩ : ∃ m, m = min (S0 k).n 50 := ⟨_, rfl⟩
      have Hm := hid hm
      have hm1 : m ≤ (S0 k).n := by omega
      have hm2 : m ≤ 50 := by omega
      clear hm
      have hlt3 : decide ((k : Int) < (n : Int)) = true := by simp; omega
      have hlt4 : decide ((k : Int) < 5) = true := by simp; omega
      go_wp2_with fail
      go_quiet (fail)
      have e50 : (if (50 : Int) < ((S0 k).n : Int) then (50 : Int) else ((S0 k).n : Int)) = (m : Int) := by have := Hm.out; split <;> omega
      simp only [e50, Int.toNat_natCast]
      clear e50 d1 hlt3 hlt4
      have hl' : Own (wr.drewN nq) 22 pl k cl (fun j => .slice (S j).q (S j).n (S j).cap) := hl
      have ha' : Own (wr.drewN nq) 5 pa (joinL S k) ca (fun j => By (flat S k j)) := ha
      have qb' := below_drewN qb nq
      have hNs := below_le qb' hN
      generalize wr.drewN nq = wx at *
      clear hl ha qb
      have hjl : joinL S k ≤ 58 * k := joinL_le S k (fun j => by rw [HS.out]; exact Nat.min_le_right _ _)
      go_wp2_with (first
        | (refine wpl_app rfl (.tmp 28) (.tmp 30) 29 rfl 22 und29 one22 pl k cl rfl _ (hl'.alloc _) _ 1 1 rfl (fun _ => .slice (S0 k).q m (S0 k).cap) (cells_at1 wx _ _) (fun _ _ => rfl) (by omega) ?_; intro pl' cl' w1 hl1 hg1 hk1 hn1; have ha1 := (ha'.alloc (.cells #[.slice (S0 k).q m (S0 k).cap] 22)).grew hg1 (dis_symm hdis); have dis1 := dis_step hdis hk1 (fun g hg => Nat.ne_of_lt (Nat.lt_of_lt_of_le (ha'.lt g hg) (size_le_alloc wx _))); have hb1 := hg1.below (qb'.alloc hNs _) (Nat.le_trans hNs (size_le_alloc wx _)) hpl; have hNs1 := below_le hb1 hN; have hpl1 := ge_step hpl hk1 (Nat.le_trans hNs (size_le_alloc wx _)))
        | (refine wpl_app rfl (.tmp 32) (.tmp 36) 22 rfl 5 und22 one5 pa (joinL S k) ca rfl _ (ha1.alloc _) _ 8 8 rfl (fun j => if j = 7 then .int .u8 (m : Int) else .int .u8 0) (by exact cells_at8 w1 (fun j => if j = 7 then .int .u8 (m : Int) else .int .u8 0) 5) (fun j _ => by split <;> rfl) (by omega) ?_; intro pa' ca' w2 ha2 hg2 hk2 hn2; have hl2 := (hl1.alloc (.cells #[.int .u8 0, .int .u8 0, .int .u8 0, .int .u8 0, .int .u8 0, .int .u8 0, .int .u8 0, .int .u8 (m : Int)] 5)).grew hg2 dis1; have dis2 := dis_symm (dis_step (dis_symm dis1) hk2 (fun g hg => Nat.ne_of_lt (Nat.lt_of_lt_of_le (hl1.lt g hg) (size_le_alloc w1 _)))); have hb2 := hg2.below (hb1.alloc hNs1 _) (Nat.le_trans hNs1 (size_le_alloc w1 _)) hpa; have hNs2 := below_le hb2 hN; have hpa1 := ge_step hpa hk2 (Nat.le_trans hNs1 (size_le_alloc w1 _)))
        | (refine wpl_app rfl (.tmp 38) (.tmp 39) 22 rfl 5 und22 one5 pa' (joinL S k + 8) ca' rfl _ ha2 _ m _ rfl (fun j => By ((S0 k).D j)) (cells_bytes hc3 hN hb2 hm1) (fun _ _ => rfl) (by omega) ?_; intro pa3 ca3 w3 ha3 hg3 hk3 hn3; have hl3 := hl2.grew hg3 dis2; have dis3 := dis_symm (dis_step (dis_symm dis2) hk3 (fun g hg => Nat.ne_of_lt (hl2.lt g hg))); have hb3 := hg3.below hb2 hNs2 hpa1; have hpa3 := ge_step hpa1 hk3 hNs2)
        | fail)
      have hJ : joinL S (k + 1) = joinL S k + 8 + m := by rw [joinL, HSk.out, Hm.out]
      refine ⟨⟨k + 1, cl', ca3, pl', pa3, by omega, by omega, by go_num, rfl, by rw [hJ], ?_, ?_, hb3, hpl1, hpa3, dis3⟩, by simp [intOf]; omega⟩
      · exact hl3.congr (fun j hj => by
          simp only [cat]
          by_cases h2 : j < k
          · rw [if_pos h2]
          · obtain rfl : j = k := by omega
            rw [if_neg h2, HSk.out, Hm.out])
      · rw [hJ]
        exact ha3.congr (fun j hj => by
          simp only [cat, flat]
          have hSn : (S k).n = m := by rw [HSk.out, Hm.out]
          by_cases h2 : j < joinL S k
          · rw [if_pos (by omega), if_pos h2, if_pos h2]
          · rw [if_neg h2]
            by_cases h3 : j < joinL S k + 8
            · rw [if_pos h3, if_neg h2, if_pos h3, hSn, be8_small m _ (by omega) (by omega)]
              by_cases h4 : j - joinL S k = 7
              · rw [if_pos h4, if_pos h4]; unfold By v8; rw [BitVec.toNat_ofNat, Nat.mod_eq_of_lt (by omega)]
              · rw [if_neg h4, if_neg h4]; rfl
            · rw [if_neg h3, if_neg h3, HSk.out, Nat.sub_sub, if_neg h2])
    · have hjl : joinL S k ≤ 58 * k := joinL_le S k (fun j => by rw [HS.out]; exact Nat.min_le_right _ _)
      have hPl : ∀ w', Below N w w' → Own w' 22 pl k cl (fun j => .slice (S j).q (S j).n (S j).cap) → Parts w' pl k S := fun w' hb' hl' h0 => by
        obtain ⟨g, e, hc⟩ := hl'.cell h0
        obtain ⟨bb, off, _, hparts⟩ := hS (by omega)
        refine ⟨g, 0, e, fun j hj => ⟨hc j hj, ?_, ?_⟩⟩
        · obtain ⟨_, h2, _⟩ := hparts j (by omega)
          rw [HS.out]; exact Nat.le_trans (Nat.min_le_left _ _) h2
        · obtain ⟨_, _, h3⟩ := hparts j (by omega)
          intro h00
          have hle : (S j).n ≤ (S0 j).n := by rw [HS.out]; exact Nat.min_le_left _ _
          obtain ⟨b2, o2, e2, h4⟩ := h3.below hN hb' (by omega)
          exact ⟨b2, o2, by rw [HS.out]; exact e2, fun i hi => by rw [HS.out] at hi ⊢; exact h4 i (Nat.lt_of_lt_of_le hi (Nat.min_le_left _ _))⟩
      have hPa : ∀ w', Own w' 5 pa (joinL S k) ca (fun j => By (flat S k j)) → Bytes w' pa (joinL S k) (flat S k) := fun w' ha' h0 => by
        obtain ⟨g, e, hc⟩ := ha'.cell h0
        exact ⟨g, 0, e, hc⟩
      have heq := run_eq_same (P := Tryd.prog) 23 5 32 und23 und5 inf5 cof5 (shaD (flat S k) (joinL S k))
      obtain ⟨M, hM⟩ := sz_some wr
      have hMN : N ≤ M := by have := below_le qb hN; have e : wr.heap.size = M := hM; omega
      have hTr := hT.below qb hTN
      rcases (show (¬ k < n) ∨ (k < n ∧ ¬ k < 5) by omega) with hc | ⟨hc, hc5⟩
      · have hlt3 : decide ((k : Int) < (n : Int)) = false := by simp; omega
        go_wp2_with (first
          | (go_at_call 18; refine (sums_any _ M hM hTr).mono ?_; rintro e w1 ⟨rfl, hb1⟩; obtain ⟨M1, hM1⟩ := sz_some w1; have hMM1 := below_sz hb1 hM hM1; have hl1 := hl.below hb1 (Nat.le_of_eq hM); have ha1 := ha.below hb1 (Nat.le_of_eq hM); have qb1 := qb.trans (hb1.mono hMN))
          | (go_at_call 22; refine (Joined_any pl k cl S _ M1 hM1 (hT.below qb1 hTN) (by omega) (hPl _ qb1 hl1)).mono ?_; rintro e w2 ⟨rfl, hb2⟩; rw [joinD_flat]; obtain ⟨M2, hM2⟩ := sz_some w2; have hMM2 := below_sz hb2 hM1 hM2; have ha2 := ha1.below hb2 (Nat.le_of_eq hM1); have qb2 := qb1.trans (hb2.mono (Nat.le_trans hMN hMM1)))
          | (go_at_call 17; refine (Sum_any pa (joinL S k) ca (flat S k) _ M2 hM2 (hT.below qb2 hTN) ha2.le (by omega) (hPa _ ha2)).mono ?_; rintro e w3 ⟨rfl, hb3⟩; have qb3 := qb2.trans (hb3.mono (Nat.le_trans hMN (Nat.le_trans hMM1 hMM2))))
          | fail)
        go_ret
        exact ⟨rfl, qb3⟩
      · have hlt3 : decide ((k : Int) < (n : Int)) = true := by simp; omega
        have hlt4 : decide ((k : Int) < 5) = false := by simp; omega
        go_wp2_with (first
          | (go_at_call 18; refine (sums_any _ M hM hTr).mono ?_; rintro e w1 ⟨rfl, hb1⟩; obtain ⟨M1, hM1⟩ := sz_some w1; have hMM1 := below_sz hb1 hM hM1; have hl1 := hl.below hb1 (Nat.le_of_eq hM); have ha1 := ha.below hb1 (Nat.le_of_eq hM); have qb1 := qb.trans (hb1.mono hMN))
          | (go_at_call 22; refine (Joined_any pl k cl S _ M1 hM1 (hT.below qb1 hTN) (by omega) (hPl _ qb1 hl1)).mono ?_; rintro e w2 ⟨rfl, hb2⟩; rw [joinD_flat]; obtain ⟨M2, hM2⟩ := sz_some w2; have hMM2 := below_sz hb2 hM1 hM2; have ha2 := ha1.below hb2 (Nat.le_of_eq hM1); have qb2 := qb1.trans (hb2.mono (Nat.le_trans hMN hMM1)))
          | (go_at_call 17; refine (Sum_any pa (joinL S k) ca (flat S k) _ M2 hM2 (hT.below qb2 hTN) ha2.le (by omega) (hPa _ ha2)).mono ?_; rintro e w3 ⟨rfl, hb3⟩; have qb3 := qb2.trans (hb3.mono (Nat.le_trans hMN (Nat.le_trans hMM1 hMM2))))
          | fail)
        go_ret
        exact ⟨rfl, qb3⟩
end Go.Proofs.YtcampjgemedhlaaDoor
