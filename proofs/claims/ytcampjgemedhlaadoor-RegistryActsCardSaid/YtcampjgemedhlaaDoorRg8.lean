/- DocFind of the document's answer for layer 3. -/
import Derived.Test.YtcampjgemedhlaaDoorRg7
namespace Go.Proofs.YtcampjgemedhlaaDoor
open Go Go.RowKit Sha
set_option maxRecDepth 100000 in
theorem DFind_long (d : Nat) (s : Nat → BitVec 8) (q : Option Addr) (m cq : Nat) (hm : m ≠ 2048) (w : World) (N : Nat) (hN : Sz w N) :
    Calls Tryd.prog 41 #[.pointer (some ⟨d, 0, none⟩), .agg (cellsOf (fun j => By (s j)) 32), .slice q m cq] w fun e w' => e = .returned (.tuple #[.int .i64 0, .int .i64 22]) ∧ Below N w w' := by
  have hb : ((m : Int) != 2048) = true := by rw [bne_iff_ne]; omega
  go_enter Tryd.func41, Tryd.ntmps41
  go_wp2_with (first
    | (refine wpl_box rfl 23 (.tmp 1) rfl 32 _ rfl N hN ?_; intro w1 hN1 hb1 h1)
    | fail)
  go_ret2
  exact ⟨rfl, hb1⟩
set_option maxRecDepth 100000 in
set_option maxHeartbeats 1000000 in
theorem DFind_any (R : Rg) (d : Nat) (pk ps : Option Addr) (ck cs : Nat) (s sig : Nat → BitVec 8) (q : Option Addr) (cq : Nat) (hcq : 2048 ≤ cq) (w : World) (N : Nat) (hN : Sz w N) (hS : Bytes w q 2048 sig) (hD : Dc w d R pk ck ps cs) (hc : R.c ≤ 32) :
    Calls Tryd.prog 41 #[.pointer (some ⟨d, 0, none⟩), .agg (cellsOf (fun j => By (s j)) 32), .slice q 2048 cq] w fun e w' => e = .returned (frV (frO R s sig)) ∧ Below N w w' := by
  obtain ⟨fs, hfs⟩ := und39
  go_enter Tryd.func41, Tryd.ntmps41
  go_wp2_with (first
    | (refine wpl_box rfl 23 (.tmp 1) rfl 32 _ rfl N hN ?_; intro w1 hN1 hb1 h1)
    | fail)
  have D1 := hD.below hb1 hN
  have S1 : ∀ wz, Below N w wz → Bytes wz q 2048 sig := fun wz hz => hS.below hN hz
  go_loopw [8] (fun i wr => ∃ k : Nat, k ≤ R.c ∧ i = .int .i64 k ∧ Hid (∀ i, i < k → fitR R s sig i = false) ∧ Below (N + 1) w1 wr)
    (fun i _ => R.c - (intOf i).toNat)
  case atStart => exact ⟨0, by omega, rfl, hid (fun i hi => by omega), Below.refl _ _⟩
  case round =>
    obtain ⟨k, hk, rfl, HF, qb⟩ := hrel
    obtain ⟨M, hM⟩ := sz_some wr
    have hNM := below_sz qb hN1 hM
    have Dr := D1.below qb hN1
    have hr := h1.below qb (by omega)
    have bw := hb1.trans (qb.mono (by omega))
    have c72 := Dr.cell72
    clear D1 h1 hD
    by_cases hlt : k < R.c
    · have hk32 : (k : Int) < 32 := by omega
      obtain ⟨g, rfl, hks⟩ := Dr.key (by omega)
      obtain ⟨gs, rfl, hss⟩ := Dr.spent (by omega)
      have hld : ∀ x : Later M wr, (Instr.loadAt 65 (.pointer (some ⟨d, 72, none⟩))).run Tryd.prog x.w' = .ok (.slice (some ⟨g, 0, none⟩) R.c ck) x.w' := fun x => by
        have c := Later.cell hM c72 x
        go_simp
      have c73 := Dr.cell73
      have hls : ∀ x : Later M wr, (Instr.loadAt 66 (.pointer (some ⟨d, 73, none⟩))).run Tryd.prog x.w' = .ok (.slice (some ⟨gs, 0, none⟩) R.c cs) x.w' := fun x => by
        have c := Later.cell hM c73 x
        go_simp
      have fsp := hss k hlt
      have hlb : ∀ x : Later M wr, (Instr.loadAt 4 (.pointer (some ⟨gs, k, none⟩))).run Tryd.prog x.w' = .ok (.bool (R.sp k)) x.w' := fun x => by
        have c := Later.cell hM fsp x
        go_simp
      have Hk := hid hks
      clear hks hss
      go_wp2_with fail
      cases hs : R.sp k
      · rw [hs] at fsp hlb
        obtain ⟨r, er⟩ : ∃ r, r = fitsB (R.K k) s sig := ⟨_, rfl⟩
        have hfr := hid (show fitR R s sig k = r by unfold fitR; rw [hs, er, Bool.not_false, Bool.true_and])
        have hcall := fun (x : Later M wr) (K : Nat) (hK : Sz x.w' K) => RFits_any (R.K k) s sig q cq hcq x.w' K hK (S1 _ (bw.trans (x.b.mono (by omega))))
        rw [← er] at hcall
        clear er hs
        refine wp_region_later M (by kernel_rfl) (by kernel_rfl) ?_
        repeat first
          | (refine later_val (fun x => run_ld1 65 (.tmp 36) rfl ⟨d, 72, none⟩ rfl _ (Later.cell hM c72 x) (hld x)) (by rfl) ?_; simp only [Act.put, List.setIfInBounds_toArray, List.set_cons_succ, List.set_cons_zero])
          | (refine later_val (fun x => run_ld1 66 (.tmp 23) rfl ⟨d, 73, none⟩ rfl _ (Later.cell hM c73 x) (hls x)) (by rfl) ?_; simp only [Act.put, List.setIfInBounds_toArray, List.set_cons_succ, List.set_cons_zero])
          | (refine later_val (fun x => run_ld1 4 (.tmp 26) rfl ⟨gs, k, none⟩ rfl _ (Later.cell hM fsp x) (hlb x)) (by rfl) ?_; simp only [Act.put, List.setIfInBounds_toArray, List.set_cons_succ, List.set_cons_zero])
          | (refine later_val (fun x => run_ldp 39 (.tmp 32) rfl d 0 rfl 68 74 _ (Later.has hM Dr.h x) 72 (by omega) rtC (fun j hj => by unfold dcC; rw [if_neg (by omega), if_neg (by omega), Nat.zero_add]) _ hfs rfl inf39) (by rfl) ?_; simp only [Act.put, List.setIfInBounds_toArray, List.set_cons_succ, List.set_cons_zero])
          | (refine later_val (fun x => run_ldc 23 (.tmp 39) rfl g (k * 32) rfl 32 (fun j => By (R.K k j)) (fun j hj => Later.cell hM (Hk.out k hlt j hj) x) _ und23 rfl inf23) (by rfl) ?_; simp only [Act.put, List.setIfInBounds_toArray, List.set_cons_succ, List.set_cons_zero])
          | (refine later_val (fun x => run_ld 23 (.tmp 4) rfl N rfl 23 32 _ (Later.has hM hr x) _ und23 rfl inf23) (by rfl) ?_; simp only [Act.put, List.setIfInBounds_toArray, List.set_cons_succ, List.set_cons_zero])
          | (go_big_quiet_step ((go_at_call 31; exact later_of hM _ (fun K hK hKN => hcall _ K hK))))
        refine wpQuiet_nil ?_
        rintro w5 ⟨x5, e5⟩
        have hb5 := x5.b
        rw [← e5] at hb5
        clear e5 x5
        have q5 := qb.trans (hb5.mono hNM)
        clear c72 c73 fsp hld hls hlb hcall
        cases r
        · go_wp2_with fail
          exact ⟨⟨k + 1, by omega, by go_num, hid (fun i hi => by
            by_cases h : i < k
            · exact HF.out i h
            · obtain rfl : i = k := by omega
              exact hfr.out), q5⟩, by simp [intOf]; omega⟩
        · have hp := find_first (fitR R s sig) R.c k hlt HF.out hfr.out
          have e1 : frV (frO R s sig) = .tuple #[.int .i64 (k : Int), .int .i64 0] := by unfold frO; rw [hp]; rfl
          have E1 := hid e1
          clear e1 hp
          go_wp2_with fail
          go_ret2
          exact ⟨by rw [E1.out]; rfl, hb1.trans (q5.mono (by omega))⟩
      · rw [hs] at fsp hlb
        have hfr := hid (show fitR R s sig k = false by unfold fitR; rw [hs]; rfl)
        clear hs
        refine wp_region_later M (by kernel_rfl) (by kernel_rfl) ?_
        iterate 9 first
          | (refine later_val (fun x => run_ld1 66 (.tmp 23) rfl ⟨d, 73, none⟩ rfl _ (Later.cell hM c73 x) (hls x)) (by rfl) ?_; simp only [Act.put, List.setIfInBounds_toArray, List.set_cons_succ, List.set_cons_zero])
          | (refine later_val (fun x => run_ld1 4 (.tmp 26) rfl ⟨gs, k, none⟩ rfl _ (Later.cell hM fsp x) (hlb x)) (by rfl) ?_; simp only [Act.put, List.setIfInBounds_toArray, List.set_cons_succ, List.set_cons_zero])
          | (go_big_quiet_step (fail))
        clear hld hls hlb
        iterate 15 (go_big_quiet_step (fail))
        refine wpQuiet_nil ?_
        rintro w5 ⟨x5, e5⟩
        have hb5 := x5.b
        rw [← e5] at hb5
        clear e5 x5
        have q5 := qb.trans (hb5.mono hNM)
        clear c72 c73 fsp
        go_wp2_with fail
        exact ⟨⟨k + 1, by omega, by go_num, hid (fun i hi => by
          by_cases h : i < k
          · exact HF.out i h
          · obtain rfl : i = k := by omega
            exact hfr.out), q5⟩, by simp [intOf]; omega⟩
    · obtain rfl : k = R.c := by omega
      have hp := find_none (fitR R s sig) R.c HF.out
      have e1 : frV (frO R s sig) = .tuple #[.int .i64 0, .int .i64 129] := by unfold frO; rw [hp]; rfl
      have E1 := hid e1
      clear e1 hp
      go_wp2_with fail
      go_ret2
      exact ⟨by rw [E1.out]; rfl, bw⟩
end Go.Proofs.YtcampjgemedhlaaDoor
