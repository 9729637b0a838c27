/- RegionStacks: the document's stack: what is loaded. -/
import Derived.Test.YtjcjmlmdcjkceaaRs4
namespace Go.Proofs.Ytjcjmlmdcjkceaa
open Go Go.RowKit
theorem bin_shl8 {P : Program} (T : TypeId) (p : W) : BinRun P .shl T (Q p) (.int .u64 8) (Q (p <<< 8)) := bin_shlu T p 8#64
theorem allT_no {F : Nat → Bool} {n i : Nat} (hi : i < n) (h : F i = false) : allT F n = false := by
  cases hx : allT F n
  · rfl
  · have := (allT_iff _ _).1 hx i hi; rw [h] at this; cases this
set_option maxRecDepth 100000 in
set_option maxHeartbeats 8000000 in
theorem RLoad_in (b : Nat) (s : Rk) (f n : Nat) (hfn : f + n ≤ 64) (hn0 : 0 < n) (hn : n < 1000) (w : World) (N : Nat) (hN : Sz w N) (hh : Has w b 48 136 (rkC s)) : Calls Try.prog 19 #[.pointer (some ⟨b, 0, none⟩), .int .i64 ((f : Nat) : Int), .int .i64 ((n : Nat) : Int)] w fun e w' => e = .returned (.tuple #[Q (ldR s f n).1, .int .i64 (((ldR s f n).2.1 : Nat) : Int), .bool (ldR s f n).2.2]) ∧ Below N w w' := by
  have h1 : ¬ (f : Int) < 0 := by omega
  have j1 : (0 : Int) ≤ (f : Int) := by omega
  have j2 : (f : Int) < 64 := by omega
  have j3 : (f : Int) / 8 < 8 := by omega
  have j4 : (0 : Int) ≤ (f : Int) / 8 := by omega
  have f8 : f / 8 < 8 := by omega
  obtain ⟨kk, ek⟩ : ∃ kk, s.k (f / 8) = kk := ⟨_, rfl⟩
  have cK : w.cell? ⟨b, 128 + f / 8, none⟩ = some (.int .i64 ((kk : Nat) : Int)) := by rw [← ek, ← rkC_k]; exact hh.cell (j := 128 + f / 8) (by omega)
  obtain ⟨c1, e1⟩ : ∃ c, (((n : Nat) : Int) == 8) = c := ⟨_, rfl⟩
  obtain ⟨c2, e2⟩ : ∃ c, (((f : Nat) : Int).tmod 8 == 0) = c := ⟨_, rfl⟩
  obtain ⟨c3, e3⟩ : ∃ c, decide ((0 : Int) < ((kk : Nat) : Int)) = c := ⟨_, rfl⟩
  obtain ⟨bk, ebk⟩ : ∃ c, (c1 && (c2 && c3)) = c := ⟨_, rfl⟩
  have hw : wordB f n = (c1 && c2) := by
    unfold wordB; rw [← e1, ← e2, tmod8]; congr 1
    · exact (beq_nat n 8).symm
    · exact (beq_nat (f % 8) 0).symm
  have hR : ldR s f n = if bk = true then (0#64, kk, true) else if allT (fun j => s.t (f + j) == 1) n = true then (accF (fun j => s.n (f + j)) n n, 0, true) else (0#64, 0, false) := by
    have hb : (bk = true) ↔ ((c1 && c2) = true ∧ 0 < kk) := by
      rw [← ebk, ← Bool.and_assoc, Bool.and_eq_true, ← e3, decide_eq_true_eq]
      exact and_congr_right (fun _ => by omega)
    unfold ldR
    rw [ek, hw]
    simp only [hb]
  obtain ⟨⟨r1, r2, r3⟩, er⟩ : ∃ r, ldR s f n = r := ⟨_, rfl⟩
  rw [er]
  have HRR := hid (hR.symm.trans er)
  clear er
  have E1 := hid e1
  have E2 := hid e2
  have E3 := hid e3
  have EB := hid ebk
  clear e1 e2 e3 ebk hw hR ek
  go_enter Try.func19, Try.ntmps19
  go_upto_region 3 with fail
  go_cut [29] (fun v wx => v = (Value.bool bk) ∧ wx = w)
  case first =>
    go_wp2_with (first
      | (refine wpl_run rfl (.bool c1) _ (run_eqlI (x := .tmp 13) (y := .const (.int .i64 8)) rfl rfl rfl (q := 8) E1.out _) ?_; cases c1)
      | (refine wpl_want (by rfl) ?_; refine wpl_run rfl (.int .i64 (((f : Nat) : Int).tmod 8)) _ (run_remI8 (x := .tmp 16) (y := .const (.int .i64 8)) rfl rfl rfl _) ?_)
      | (refine wpl_want (by rfl) ?_; refine wpl_run rfl (.bool c2) _ (run_eqlI (x := .tmp 17) (y := .const (.int .i64 0)) rfl rfl rfl (q := 0) E2.out _) ?_; cases c2)
      | (refine wpl_want (by rfl) ?_; refine wpl_run rfl (.bool c3) _ (run_gtrI (x := .tmp 27) (y := .const (.int .i64 0)) rfl rfl rfl (q := 0) E3.out _) ?_; cases c3)
      | fail)
    all_goals (go_meet; exact ⟨congrArg Value.bool EB.out, rfl⟩)
  case rest =>
    obtain ⟨rfl, ewc⟩ := hcut
    replace hh : Has wc b 48 136 (rkC s) := by rw [ewc]; exact hh
    replace cK : wc.cell? ⟨b, 128 + f / 8, none⟩ = some (.int .i64 ((kk : Nat) : Int)) := by rw [ewc]; exact cK
    have lo : Below N w wc := by rw [ewc]; exact Below.refl _ _
    replace hN : Sz wc N := by rw [ewc]; exact hN
    clear ewc
    cases bk
    · go_wp2_with (first
        | (refine wpl_run rfl (.int .i64 (((n : Nat) : Int) - 1)) _ (subN (x := .tmp 37) (y := .const (.int .i64 1)) rfl rfl rfl (wrap_z _ (by omega) (by omega)) _) ?_)
        | fail)
      go_loopw [9, 10] (fun x9 x10 wr => ∃ d : Nat, d ≤ n ∧ x10 = .int .i64 (((n : Nat) : Int) - 1 - ((d : Nat) : Int)) ∧ x9 = Q (accF (fun j => s.n (f + j)) n d) ∧ (∀ j, n - d ≤ j → j < n → s.t (f + j) = 1) ∧ wr = wc) (fun _ x10 _ => (intOf x10 + 1).toNat)
      case atStart => exact ⟨0, by omega, by simp, rfl, fun j h1 h2 => by omega, rfl⟩
      case round =>
        obtain ⟨d, hd, rfl, rfl, hall, rfl⟩ := hrel
        have HALL := hid hall
        clear hall
        by_cases hlt : d < n
        · obtain ⟨i, ei⟩ : ∃ i : Nat, i = n - 1 - d := ⟨_, rfl⟩
          have ei2 : ((n : Nat) : Int) - 1 - ((d : Nat) : Int) = ((i : Nat) : Int) := by omega
          rw [ei2]
          have hin : i < n := by omega
          have i0 : (0 : Int) ≤ (i : Int) := by omega
          have t1 : decide ((0 : Int) ≤ (i : Int)) = true := decide_eq_true i0
          have ct : wr.cell? ⟨b, (f + i) * 2, none⟩ = some (.int .i64 (s.t (f + i))) := by rw [← rkC_t s (by omega)]; exact hh.cell (j := (f + i) * 2) (by omega)
          have cn : wr.cell? ⟨b, (f + i) * 2 + 1, none⟩ = some (Yv (s.n (f + i))) := by rw [← rkC_n s (by omega)]; exact hh.cell (j := (f + i) * 2 + 1) (by omega)
          obtain ⟨acc, eacc⟩ : ∃ z, accF (fun j => s.n (f + j)) n d = z := ⟨_, rfl⟩
          rw [eacc]
          have EACC := hid eacc
          have EI := hid ei
          have EI2 := hid ei2
          by_cases hw1 : s.t (f + i) = 1
          · have hwn : (s.t (f + i) != 1) = false := bne_eq_false_iff_eq.2 hw1
            have HWN := hid hwn
            have HW1 := hid hw1
            clear hwn hw1 ei ei2 eacc
            go_wp2_with (first
              | (refine wpl_run rfl (.int .i64 ((f + i : Nat) : Int)) _ (run_addN (x := .tmp 44) (y := .tmp 45) (p := f) (q := i) rfl rfl rfl (by omega) _) ?_)
              | (refine wpl_run rfl (.int .i64 ((f + i : Nat) : Int)) _ (run_addN (x := .tmp 56) (y := .tmp 57) (p := f) (q := i) rfl rfl rfl (by omega) _) ?_)
              | (refine wpl_run rfl (.pointer (some ⟨b, (f + i) * 2, none⟩)) _ (by rw [← Nat.zero_add ((f + i) * 2)]; exact run_iaK (x := .tmp 48) (y := .tmp 46) rfl (b := b) (off := 0) (k := f + i) rfl rfl undRB szBy (by omega)) ?_)
              | (refine wpl_run rfl (.pointer (some ⟨b, (f + i) * 2, none⟩)) _ (by rw [← Nat.zero_add ((f + i) * 2)]; exact run_iaK (x := .tmp 60) (y := .tmp 58) rfl (b := b) (off := 0) (k := f + i) rfl rfl undRB szBy (by omega)) ?_)
              | (refine wpl_run rfl (.bool false) _ (run_neqI (x := .tmp 51) (y := .const (.int .i64 1)) rfl rfl rfl (q := 1) HWN.out _) ?_)
              | (refine wpl_b rfl rfl (bin_shl8 _ acc) rfl rfl ?_)
              | (refine wpl_run rfl (Q (s.n (f + i))) _ (run_yu (x := .tmp 63) rfl undY und64 rfl _) ?_)
              | (refine wpl_b rfl rfl (bin_or _ _ _) rfl rfl ?_)
              | (refine wpl_run rfl (.int .i64 (((n : Nat) : Int) - 1 - ((d + 1 : Nat) : Int))) _ (subN (x := .tmp 41) (y := .const (.int .i64 1)) (p := ((i : Nat) : Int)) rfl rfl rfl (by rw [wrap_z _ (by omega) (by omega)]; have := EI2.out; omega) _) ?_)
              | fail)
            have hii := EI.out
            refine ⟨⟨d + 1, by omega, rfl, ?_, fun j q1 q2 => ?_, trivial⟩, by simp [intOf]; omega⟩
            · show Q (acc <<< 8 ||| s.n (f + i)) = Q ((accF (fun j => s.n (f + j)) n d <<< 8) ||| s.n (f + (n - 1 - d)))
              rw [EACC.out, ← hii]
            · by_cases e : j = i
              · rw [e]; exact HW1.out
              · exact HALL.out j (by omega) q2
          · have hwn : (s.t (f + i) != 1) = true := bne_iff_ne.2 hw1
            have HWN := hid hwn
            have HNO : Hid (allT (fun j => s.t (f + j) == 1) n = false) := hid (allT_no (i := i) (by omega) (beq_false_of_ne hw1))
            clear hwn hw1 ei ei2 eacc
            go_wp2_with (first
              | (refine wpl_run rfl (.int .i64 ((f + i : Nat) : Int)) _ (run_addN (x := .tmp 44) (y := .tmp 45) (p := f) (q := i) rfl rfl rfl (by omega) _) ?_)
              | (refine wpl_run rfl (.pointer (some ⟨b, (f + i) * 2, none⟩)) _ (by rw [← Nat.zero_add ((f + i) * 2)]; exact run_iaK (x := .tmp 48) (y := .tmp 46) rfl (b := b) (off := 0) (k := f + i) rfl rfl undRB szBy (by omega)) ?_)
              | (refine wpl_run rfl (.bool true) _ (run_neqI (x := .tmp 51) (y := .const (.int .i64 1)) rfl rfl rfl (q := 1) HWN.out _) ?_)
              | fail)
            have h := HRR.out
            rw [if_neg (by decide), HNO.out, if_neg (by decide)] at h
            cases h
            exact bodyPost_ret (results_tmp3 rfl _ _ _) rfl ⟨rfl, lo⟩
        · obtain rfl : d = n := by omega
          have t1 : decide ((0 : Int) ≤ ((d : Nat) : Int) - 1 - ((d : Nat) : Int)) = false := decide_eq_false (by omega)
          have HA : Hid (allT (fun j => s.t (f + j) == 1) d = true) := hid ((allT_iff _ _).2 (fun j hj => beq_iff_eq.2 (HALL.out j (by omega) hj)))
          go_wp2_with (first
            | (refine wpl_run rfl (.bool false) _ (run_geqI (x := .tmp 39) (y := .const (.int .i64 0)) rfl rfl rfl (q := 0) t1 _) ?_)
            | fail)
          have h := HRR.out
          rw [if_neg (by decide), HA.out, if_pos rfl] at h
          cases h
          exact bodyPost_ret (results_tmp3 rfl _ _ _) rfl ⟨rfl, lo⟩
    · go_upto_region 4 with fail
      refine wp_region_later N (by kernel_rfl) (by kernel_rfl) ?_
      try simp only [pA]
      iterate 5 go_big_quiet_step (fail)
      refine later_val (fun q => run_iaS (x := .tmp 34) (y := .tmp 32) rfl (b := b) (off := 128) (k := f / 8) rfl rfl undRK szI1 f8 _) (by rfl) ?_; simp only [pA]
      refine later_c1 hN 3 (.tmp 35) rfl rfl undInt rfl cK (by rfl) ?_; simp only [pA]
      iterate 3 go_big_quiet_step (fail)
      refine wpQuiet_nil (laterE hN ?_)
      intro x5 M5 hx5 hM5 lM5
      have h := HRR.out
      rw [if_pos rfl] at h
      cases h
      go_wp2_with fail
      exact bodyPost_ret (results_tmp3 rfl _ _ _) rfl ⟨rfl, lo.trans (hx5.mono (by omega))⟩
end Go.Proofs.Ytjcjmlmdcjkceaa
