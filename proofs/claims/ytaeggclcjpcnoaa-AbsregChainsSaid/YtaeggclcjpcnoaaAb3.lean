/- States: Save of a number, Save of a value. -/
import Derived.Test.YtaeggclcjpcnoaaAb2
namespace Go.Proofs.Ytaeggclcjpcnoaa
open Go Go.RowKit
theorem post_cb {fn : Func} {R : Ending → World → Prop} {p u : Tmp} {T : TypeId} {a : Act} {w : World} (hr : fn.results = #[.cell p T, .tmp u]) (b : Nat) (hp : a.tmps.getD p undef = .pointer (some ⟨b, 0, none⟩))
    {n : Nat} {f : Nat → Value} (hh : Has w b T n f) (hu : ∃ d, Try.prog.underlying T = some d ∧ d.isRow = true) (hi : (Try.prog.info? T).map (·.size) = some n) {x : Value} (hx : a.tmps.getD u undef = x)
    (hdef : a.defers = []) (hR : R (.returned (.tuple #[.agg (cellsOf f n), x])) w) : bodyPost Try.prog fn R .ret a w := by
  obtain ⟨d, h1, h2⟩ := hu
  refine bodyPost_ret (v := .tuple #[.agg (cellsOf f n), x]) ?_ hdef hR
  have hld := run_loadVar_row (P := Try.prog) w b T T (cellsOf f n) (0, 0) d hh.out h1 (by cases d <;> simp_all) (by rw [hi, size_cellsOf])
  rw [results_cell_tmp hr a.tmps Try.prog w, hp, hx]
  simp [asAddr, hld]
theorem touchRefl (b : Nat) (w : World) : Touch b w w := ⟨rfl, rfl, rfl, rfl, fun _ _ => rfl⟩
theorem Forget_any (b k : Nat) (hk : k < 8) (s : St) (w : World) (hh : Has w b 76 273 (stC s)) :
    Calls Try.prog 79 #[.pointer (some ⟨b, 0, none⟩), .int .i64 (k : Int)] w fun e w' => e = .returned (.tuple #[]) ∧ Touch b w w' ∧ Has w' b 76 273 (stC (s.drop k)) := by
  unfold St.drop
  cases hz : ((s.K k).k == 0)
  · exact (Forget_yes b k hk s (by simp only [bne, hz]; rfl) w hh)
  · refine (Forget_no b k hk s (by simpa using hz) w hh).mono ?_
    rintro e w' ⟨rfl, rfl⟩
    exact ⟨rfl, touchRefl b _, hh⟩
/-- Bytes are written from a place on, one by one. -/
def saveL (s : St) (p : Nat) (v : Bool) : Nat → St
  | 0 => s
  | m + 1 => ((saveL s p v m).drop ((p + m) / 8)).setW (p + m) v
set_option maxRecDepth 100000 in
set_option maxHeartbeats 4000000 in
theorem Save_num (s : St) (r : Ar) (at_ n : Int) (p m : Nat) (hm : n = m) (hr : r.k = 1) (hsz : sizeF n = true) (hin : insideF at_ n = true) (hix : indexF at_ = (p : Int)) (hp : p + m ≤ 64) (w : World) (N : Nat) (hN : Sz w N) :
    Calls Try.prog 45 #[stV s, .int .i64 at_, .int .i64 n, arV r] w fun e w' => e = .returned (.tuple #[stV (saveL s p true m), .bool true]) ∧ Below N w w' := by
  unfold stV arV
  have Hm := hid hm
  have Hr := hid hr
  clear hm hr
  obtain ⟨rr, er⟩ : ∃ rr, rr = saveL s p true m := ⟨_, rfl⟩
  rw [← er]
  have ER := hid er
  clear er
  have hz : (N : Nat) < N + 3 := by omega
  go_enter Try.func45, Try.ntmps45
  go_upto_region 5 with (first
    | (refine wpl_box rfl 76 (.tmp 0) rfl 273 _ rfl N hN ?_; intro w1 hN1 hb1 h1)
    | (refine wpl_box rfl 71 (.tmp 3) rfl 11 _ rfl (N + 1) hN1 ?_; intro w2 hN2 hb2 h2; replace h1 := h1.below hb2 (by omega); replace hb2 := hb1.trans (hb2.mono (by omega)); clear hb1 hN1)
    | (refine wpl_alloc rfl 76 rfl 273 (stC zeroS) zeSt (N + 2) hN2 ?_; intro w3 hN3 hb3 h3; replace h1 := h1.below hb3 (by omega); replace h2 := h2.below hb3 (by omega); replace hb3 := hb2.trans (hb3.mono (by omega)); clear hb2 hN2)
    | (go_at_call 75; refine (IsSize_any n _ (N + 3) hN3).mono ?_; rintro e w4 ⟨rfl, hb4⟩; rw [hsz]; obtain ⟨M4, hM4⟩ := sz_some w4; have l4 := below_sz hb4 hN3 hM4; replace h1 := h1.below hb4 (by omega); replace h2 := h2.below hb4 (by omega); replace h3 := h3.below hb4 (by omega); replace hb4 := hb3.trans (hb4.mono (by omega)); clear hb3 hN3)
    | (go_at_call 76; refine (Inside_any at_ n _ M4 hM4).mono ?_; rintro e w5 ⟨rfl, hb5⟩; rw [hin]; obtain ⟨M5, hM5⟩ := sz_some w5; have l5 := below_sz hb5 hM4 hM5; replace h1 := h1.below hb5 (by omega); replace h2 := h2.below hb5 (by omega); replace h3 := h3.below hb5 (by omega); replace hb5 := hb4.trans (hb5.mono (by omega)); clear hb4 hM4; have cr : w5.cell? ⟨N + 1, 0, none⟩ = some (.int .i64 1) := by (have h := h2.cell (j := 0) (by omega); unfold arC at h; rw [Hr.out] at h; exact h))
    | fail)
  obtain rfl := Hm.out
  clear Hm
  have p0 : (0 : Int) ≤ (p : Int) := by omega
  have pm : (p : Int) + (m : Int) ≤ 64 := by omega
  have m0 : (0 : Int) ≤ (m : Int) := by omega
  go_wp2_with (first
    | (go_at_call 78; refine (Index_any at_ _ M5 hM5).mono ?_; rintro e w6 ⟨rfl, hb6⟩; rw [hix]; obtain ⟨M6, hM6⟩ := sz_some w6; have l6 := below_sz hb6 hM5 hM6; replace h1 := h1.below hb6 (by omega); replace h2 := h2.below hb6 (by omega); replace h3 := h3.below hb6 (by omega); replace hb6 := hb5.trans (hb6.mono (by omega)); clear hb5 hM5 cr)
    | fail)
  go_loopw [11] (fun i wr => ∃ q : Nat, p ≤ q ∧ q ≤ p + m ∧ i = .int .i64 q ∧ Has wr N 76 273 (stC (saveL s p true (q - p))) ∧ Has wr (N + 1) 71 11 (arC r) ∧ Has wr (N + 2) 76 273 (stC zeroS) ∧ Below N w wr) (fun i _ => 64 - (intOf i).toNat)
  case atStart => exact ⟨p, by omega, by omega, rfl, by rw [Nat.sub_self]; exact h1, h2, h3, hb6⟩
  case round =>
    clear h1 h2 h3 hb6
    obtain ⟨q, hq0, hq1, rfl, h1, h2, h3, hb⟩ := hrel
    by_cases hlt : q < p + m
    · have t1 : decide ((q : Int) < (p : Int) + (m : Int)) = true := by simp; omega
      have j1 : (0 : Int) ≤ (q : Int) := by omega
      have j2 : (q : Int) < 64 := by omega
      go_wp2_with (first
        | (go_at_call 79; refine (Forget_any N (q / 8) (by omega) _ _ h1).mono ?_; rintro e w7 ⟨rfl, t7, h7⟩; replace h2 := h2.touch t7 (by omega); replace h3 := h3.touch t7 (by omega); replace hb := t7.below hb (by omega); have cr : w7.cell? ⟨N + 1, 0, none⟩ = some (.int .i64 1) := by (have h := h2.cell (j := 0) (by omega); unfold arC at h; rw [Hr.out] at h; exact h))
        | (refine wpl_set rfl 4 (.tmp 55) (.tmp 53) rfl N (121 + q) rfl (.bool true) rfl szB1 rfl rfl 76 273 _ h7 (by omega) ?_; intro w8 t8 h8; replace h2 := h2.touch t8 (by omega); replace h3 := h3.touch t8 (by omega); replace hb := t8.below hb (by omega); clear cr)
        | fail)
      refine ⟨⟨q + 1, by omega, by omega, by go_num, h8.congr (fun j _ => ?_), h2, h3, hb⟩, by simp [intOf]; omega⟩
      rw [upd_W _ (by omega), show q + 1 - p = (q - p) + 1 by omega]
      show _ = stC (((saveL s p true (q - p)).drop ((p + (q - p)) / 8)).setW (p + (q - p)) true) j
      rw [show p + (q - p) = q by omega]
    · obtain rfl : q = p + m := by omega
      have t1 : decide (((p + m : Nat) : Int) < (p : Int) + (m : Int)) = false := by simp
      have cr : wr.cell? ⟨N + 1, 0, none⟩ = some (.int .i64 1) := by (have h := h2.cell (j := 0) (by omega); unfold arC at h; rw [Hr.out] at h; exact h)
      rw [Nat.add_sub_cancel_left, ← ER.out] at h1
      go_wp2_with (first
        | (refine wpl_load rfl 76 (.tmp 4) rfl N rfl 76 273 _ h1 _ undSt.choose_spec.1 undSt.choose_spec.2 szSt ?_)
        | (refine wpl_store rfl 76 (.tmp 8) (.tmp 64) rfl (N + 2) 273 (stC rr) rfl rfl 76 _ h3 szSt (fun j _ => stC_one _ j) ?_; intro w9 t9 h9; replace hb := t9.below hb (by omega))
        | fail)
      exact post_cb rfl (N + 2) rfl h9 undSt szSt rfl rfl ⟨rfl, hb⟩
end Go.Proofs.Ytaeggclcjpcnoaa
