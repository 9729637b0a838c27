/- States: Ready; Start. -/
import Derived.Test.YtaeggclcjpcnoaaAb3
namespace Go.Proofs.Ytaeggclcjpcnoaa
open Go Go.RowKit
set_option maxRecDepth 100000 in
set_option maxHeartbeats 4000000 in
theorem Ready_neg (s : St) (at_ n : Int) (hn : decide (n ≤ 0) = true) (w : World) (N : Nat) (hN : Sz w N) :
    Calls Try.prog 48 #[stV s, .int .i64 at_, .int .i64 n] w fun e w' => e = .returned (.bool (n == 0)) ∧ Below N w w' := by
  unfold stV
  obtain ⟨z, ez⟩ : ∃ z, z = (n == 0) := ⟨_, rfl⟩
  rw [← ez]
  have EZ := hid ez
  clear ez
  go_enter Try.func48, Try.ntmps48
  go_wp2_with (first
    | (refine wpl_box rfl 76 (.tmp 0) rfl 273 _ rfl N hN ?_; intro w1 hN1 hb1 h1)
    | (refine wpl_run rfl (.bool z) _ (run_eqlI (x := (.tmp 11)) (y := (.const (.int .i64 0))) rfl rfl rfl (p := n) (q := 0) EZ.out.symm _) ?_)
    | fail)
  go_ret
  exact ⟨rfl, hb1⟩
set_option maxRecDepth 100000 in
set_option maxHeartbeats 4000000 in
theorem Ready_out (s : St) (at_ n : Int) (hn : decide (n ≤ 0) = false) (hin : insideF at_ n = false) (w : World) (N : Nat) (hN : Sz w N) :
    Calls Try.prog 48 #[stV s, .int .i64 at_, .int .i64 n] w fun e w' => e = .returned (.bool false) ∧ Below N w w' := by
  unfold stV
  go_enter Try.func48, Try.ntmps48
  go_wp2_with (first
    | (refine wpl_box rfl 76 (.tmp 0) rfl 273 _ rfl N hN ?_; intro w1 hN1 hb1 h1)
    | (go_at_call 76; refine (Inside_any at_ n _ _ hN1).mono ?_; rintro e w2 ⟨rfl, hb2⟩; rw [hin]; replace hb2 := hb1.trans (hb2.mono (by omega)))
    | fail)
  go_ret
  exact ⟨rfl, hb2⟩
/-- A part of an array, from a place to another one, is told. -/
theorem run_slice_part {P : Program} {w : World} (t e : TypeId) (b o k l h : Nat) (hu : P.underlying t = some (.array k e)) (hi : (P.info? e).map (·.size) = some 1) (hl : l ≤ h) (hh : h ≤ k) (hlk : l < k) :
    (Instr.sliceAt t (.pointer (some ⟨b, o, none⟩)) (some (.int .i64 (l : Int))) (some (.int .i64 (h : Int))) none).run P w = .ok (.slice (some ⟨b, o + l, none⟩) (h - l) (k - l)) w := by
  cases hq : P.info? e with
  | none => simp [hq] at hi
  | some i =>
    have hi : i.size = 1 := by simpa [hq] using hi
    have e5 : ¬ k = l := by omega
    simp [Instr.sliceAt, Instr.sureAddr, run_underlying hu, Instr.sliceBounds, Instr.sliceBound, asIntOf, sizeOf, typeInfo, hq, hi, Sem.run_bind, hl, hh, e5, Addr.add_mid]
/-- All bytes from a place on are a number's. -/
def allW (s : St) (p m : Nat) : Bool := decide (∀ j, j < m → s.W (p + j) = true)
set_option maxRecDepth 100000 in
set_option maxHeartbeats 4000000 in
theorem Ready_in (s : St) (at_ n : Int) (p m : Nat) (hm : n = m) (m0 : 0 < m) (hin : insideF at_ n = true) (hix : indexF at_ = (p : Int)) (hp : p + m ≤ 64) (w : World) (N : Nat) (hN : Sz w N) :
    Calls Try.prog 48 #[stV s, .int .i64 at_, .int .i64 n] w fun e w' => e = .returned (.bool (allW s p m)) ∧ Below N w w' := by
  subst hm
  unfold stV
  obtain ⟨z, ez⟩ : ∃ z, z = allW s p m := ⟨_, rfl⟩
  rw [← ez]
  have EZ := hid ez
  clear ez
  have p0 : (0 : Int) ≤ (p : Int) := by omega
  have pm : (p : Int) + (m : Int) ≤ 64 := by omega
  have m1 : (0 : Int) < (m : Int) := by omega
  have m2 : decide ((m : Int) ≤ 0) = false := by simp; omega
  have hsl : ∀ w, (Instr.sliceAt 73 (.pointer (some ⟨N, 121, none⟩)) (some (.int .i64 (p : Int))) (some (.int .i64 ((p : Int) + (m : Int)))) none).run Try.prog w = .ok (.slice (some ⟨N, 121 + p, none⟩) m (64 - p)) w := fun w => by
    have h := run_slice_part (P := Try.prog) (w := w) 73 4 N 121 64 p (p + m) (by kernel_rfl) szB1 (by omega) hp (by omega)
    rw [Nat.add_sub_cancel_left, Int.natCast_add] at h
    exact h
  go_enter Try.func48, Try.ntmps48
  go_wp2_with (first
    | (refine wpl_box rfl 76 (.tmp 0) rfl 273 _ rfl N hN ?_; intro w1 hN1 hb1 h1)
    | (go_at_call 76; refine (Inside_any at_ m _ _ hN1).mono ?_; rintro e w2 ⟨rfl, hb2⟩; rw [hin]; obtain ⟨M2, hM2⟩ := sz_some w2; have l2 := below_sz hb2 hN1 hM2; replace h1 := h1.below hb2 (by omega); replace hb2 := hb1.trans (hb2.mono (by omega)); clear hb1 hN1)
    | (go_at_call 78; refine (Index_any at_ _ M2 hM2).mono ?_; rintro e w3 ⟨rfl, hb3⟩; rw [hix]; obtain ⟨M3, hM3⟩ := sz_some w3; have l3 := below_sz hb3 hM2 hM3; replace h1 := h1.below hb3 (by omega); replace hb3 := hb2.trans (hb3.mono (by omega)); clear hb2 hM2)
    | (go_at_call 78; refine (Index_any at_ _ M3 hM3).mono ?_; rintro e w4 ⟨rfl, hb4⟩; rw [hix]; replace h1 := h1.below hb4 (by omega); replace hb4 := hb3.trans (hb4.mono (by omega)); clear hb3 hM3)
    | (refine wpl_run rfl (.slice (some ⟨N, 121 + p, none⟩) m (64 - p)) _ hsl ?_)
    | fail)
  go_loopw [26] (fun i wr => ∃ q : Nat, q ≤ m ∧ i = .int .i64 q ∧ (∀ j, j < q → s.W (p + j) = true) ∧ wr = w4) (fun i _ => 64 - (intOf i).toNat)
  case atStart => exact ⟨0, by omega, rfl, fun j hj => absurd hj (by omega), rfl⟩
  case round =>
    obtain ⟨q, hq, rfl, hW, rfl⟩ := hrel
    have HW := hid hW
    clear hW
    by_cases hlt : q < m
    · have t1 : decide ((q : Int) < (m : Int)) = true := by simp; omega
      have j1 : (0 : Int) ≤ (q : Int) := by omega
      have cw : wr.cell? ⟨N, 121 + p + q, none⟩ = some (.bool (s.W (p + q))) := by
        have h := h1.cell (j := 121 + (p + q)) (by omega)
        rw [stC_W s (by omega), ← Nat.add_assoc] at h
        exact h
      cases hb : s.W (p + q)
      · rw [hb] at cw
        have EZ' := EZ.out
        have ez : z = false := by
          rw [EZ']; unfold allW; rw [decide_eq_false_iff_not]
          intro h; have := h q hlt; rw [hb] at this; cases this
        clear EZ' hb EZ HW
        go_wp2_with fail
        go_ret
        exact ⟨by rw [ez]; rfl, hb4⟩
      · rw [hb] at cw
        have HB := hid hb
        clear hb
        go_wp2_with fail
        refine ⟨⟨q + 1, by omega, by go_num, fun j hj => ?_, trivial⟩, by simp [intOf]; omega⟩
        by_cases e : j = q
        · subst e; exact HB.out
        · exact HW.out j (by omega)
    · obtain rfl : q = m := by omega
      have t1 : decide ((q : Int) < (q : Int)) = false := by simp
      have ez : z = true := by
        rw [EZ.out]; unfold allW; rw [decide_eq_true_eq]; exact HW.out
      clear EZ HW
      go_wp2_with fail
      go_ret
      exact ⟨by rw [ez]; rfl, hb4⟩
/-- Ahead of the first instruction. -/
def startS : St := (zeroS.setR 1 ⟨2, zeroR, 0, 0, 0, 0⟩).setR 10 ⟨3, zeroR, 0, 0, 0, 0⟩
theorem upd_R0 (s : St) {i : Nat} (h : i < 11) (v : Int) (j : Nat) : upd (stC s) (11 * i) (.int .i64 v) j = stC (s.setR i { s.R i with k := v }) j := by
  unfold upd stC St.setR
  by_cases e : j = 11 * i
  · subst e; rw [if_pos rfl, if_pos (by omega)]; simp only; rw [if_pos (by omega), show 11 * i % 11 = 0 by omega]; rfl
  · rw [if_neg e]
    by_cases h1 : j < 121
    · rw [if_pos h1, if_pos h1]; simp only
      by_cases h2 : j / 11 = i
      · rw [if_pos h2, ← h2]
        obtain ⟨k, hk⟩ : ∃ k, j % 11 = k + 1 := ⟨j % 11 - 1, by omega⟩
        rw [hk]; unfold arC; split <;> (first | rfl | omega)
      · rw [if_neg h2]
    · rw [if_neg h1, if_neg h1]
set_option maxRecDepth 100000 in
set_option maxHeartbeats 4000000 in
theorem Start_any (w : World) (N : Nat) (hN : Sz w N) : Calls Try.prog 42 #[] w fun e w' => e = .returned (stV startS) ∧ Below N w w' := by
  unfold stV
  obtain ⟨z, ez⟩ : ∃ z, z = startS := ⟨_, rfl⟩
  rw [← ez]
  have EZ := hid ez
  clear ez
  go_enter Try.func42, Try.ntmps42
  go_wp2_with (first
    | (refine wpl_alloc rfl 76 rfl 273 (stC zeroS) zeSt N hN ?_; intro w1 hN1 hb1 h1)
    | (refine wpl_alloc rfl 76 rfl 273 (stC zeroS) zeSt (N + 1) hN1 ?_; intro w2 hN2 hb2 h2; replace h1 := h1.below hb2 (by omega); replace hb2 := hb1.trans (hb2.mono (by omega)); clear hb1 hN1)
    | (refine wpl_set rfl 3 (.tmp 4) (.const (.int .i64 2)) rfl (N + 1) 11 rfl (.int .i64 2) rfl (by kernel_rfl) rfl rfl 76 273 _ h2 (by omega) ?_; intro w3 t3 h3; replace h1 := h1.touch t3 (by omega); replace hb2 := t3.below hb2 (by omega); replace h3 := h3.congr (g := stC (zeroS.setR 1 ⟨2, zeroR, 0, 0, 0, 0⟩)) (fun j _ => upd_R0 zeroS (i := 1) (by omega) 2 j))
    | (refine wpl_set rfl 3 (.tmp 7) (.const (.int .i64 3)) rfl (N + 1) 110 rfl (.int .i64 3) rfl (by kernel_rfl) rfl rfl 76 273 _ h3 (by omega) ?_; intro w4 t4 h4; replace h1 := h1.touch t4 (by omega); replace hb2 := t4.below hb2 (by omega); replace h4 := h4.congr (g := stC z) (fun j _ => by rw [EZ.out]; exact upd_R0 _ (i := 10) (by omega) 3 j))
    | (refine wpl_load rfl 76 (.tmp 1) rfl (N + 1) rfl 76 273 _ h4 _ undSt.choose_spec.1 undSt.choose_spec.2 szSt ?_)
    | (refine wpl_store rfl 76 (.tmp 0) (.tmp 8) rfl N 273 (stC z) rfl rfl 76 _ h1 szSt (fun j _ => stC_one _ j) ?_; intro w5 t5 h5; replace hb2 := t5.below hb2 (by omega))
    | fail)
  exact post_cell rfl N rfl h5 _ undSt.choose_spec.1 undSt.choose_spec.2 szSt rfl ⟨rfl, hb2⟩
end Go.Proofs.Ytaeggclcjpcnoaa
