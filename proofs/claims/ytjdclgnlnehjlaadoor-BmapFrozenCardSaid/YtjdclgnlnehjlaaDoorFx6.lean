/- BmapFrozen: the document's Find. -/
import Derived.Test.YtjdclgnlnehjlaaDoorFx5
namespace Go.Proofs.YtjdclgnlnehjlaaDoor
open Go Go.RowKit
def RFnd (m : Rm) (w : World) (N : Nat) (e : Ending) (w' : World) : Prop :=
  (∃ (i : Nat) (m' : Rm), e = .returned (.tuple #[.int .i64 (i : Int), .int .i64 0]) ∧ i < m'.n ∧ RNx m w N w' m') ∨ (∃ z : Int, z ≠ 0 ∧ e = .returned (.tuple #[.int .i64 0, .int .i64 z]) ∧ RNx m w N w' m)
set_option maxRecDepth 100000 in
set_option maxHeartbeats 16000000 in
theorem DFind_any (m : Rm) (t : ByteArray) (w : World) (N : Nat) (hN : Sz w N) (hA : RmAt w m) :
    Calls Tryd.prog 29 #[.pointer (some ⟨m.b, 0, none⟩), .string t] w (RFnd m w N) := by
  go_enter Tryd.func29, Tryd.ntmps29
  go_wp2_with fail
  refine (may_any m t _ N hN hA).mono ?_
  rintro e w1 ⟨⟨r, rfl, hr⟩, hb1⟩
  obtain ⟨M1, hM1⟩ := sz_some w1
  have L1 := below_sz hb1 hN hM1
  have A1 := hA.below hN hb1
  cases r
  · go_wp2_with fail
    go_ret2
    exact .inr ⟨22, by decide, rfl, RNx.stay hN hA hb1⟩
  · obtain ⟨hts, h3, h4, h5⟩ := hr rfl
    have hk5 := hid (show m.ty = 5 → 4 ≤ t.size ∧ t.size ≤ 16 from fun h => by rw [hts]; exact ⟨(hA.k h).1, (hA.k h).2.1⟩)
    have H5 := hid h5
    have HTS := hid hts
    clear hr hts h3 h4 h5
    go_wp2_with fail
    refine (exact_any m t hk5.out _ M1 hM1 A1).mono ?_
    rintro e w2 ⟨hP, hb2⟩
    obtain ⟨M, hM⟩ := sz_some w2
    have hb := hb1.trans (hb2.mono L1)
    have A := hA.below hN hb
    clear hb1 hb2 A1 hM1 L1
    have d0 := hid A.c0
    by_cases h5 : m.ty = 5
    · have E20 := hid (show ((m.ty : Int) == 5) = true by rw [h5]; rfl)
      obtain ⟨k4, k16, hks⟩ := hA.k h5
      have hbt := H5.out h5
      have hts := HTS.out
      have HKS := hid hks
      have HBT := hid hbt
      have HSZ := hid hts
      have HTY := hid h5
      clear h5 hks hbt hts H5 HTS hk5
      have hP2 : ∃ v : Int, (v = -1 ∨ ∃ k : Nat, k < m.n ∧ v = (k : Int)) := ⟨-1, .inl rfl⟩
      clear hP2
      have hE : ∃ z, e = .returned (.int .i64 z) := by rcases hP with ⟨k, _, rfl⟩ | rfl <;> exact ⟨_, rfl⟩
      obtain ⟨z, rfl⟩ := hE
      clear hP
      go_wp2_with (first
        | ((with_reducible show wpList _ _ _ (_ :: _) _ _); first
          | (refine wpl_run rfl (.int .i64 (m.ty : Int)) _ (run_cell1 (x := .tmp 18) 3 rfl rfl undIt rfl d0.out) ?_; try simp only [pA])
          | (refine wpl_run rfl (.bool true) _ (run_eqK (x := .tmp 19) rfl rfl rfl E20.out _) ?_; try simp only [pA]))
        | fail)
      clear d0 E20
      go_loopw [6, 7] (fun x6 x7 wr => ∃ i : Nat, x7 = .int .i64 (i : Int) ∧ i ≤ m.n ∧ (x6 = .int .i64 (-1) ∨ ∃ k : Nat, k < m.n ∧ x6 = .int .i64 (k : Int)) ∧ Below N w wr) (fun _ x7 _ => m.n - (intOf x7).toNat)
      case atStart => exact ⟨0, rfl, by omega, .inl rfl, hb⟩
      case round =>
        clear hb hM A
        obtain ⟨i, rfl, hi, h6, hb⟩ := hrel
        obtain ⟨M, hM⟩ := sz_some wr
        have hNM := below_sz hb hN hM
        have A := hA.below hN hb
        have d4 := hid A.c4
        have hn := A.n
        by_cases h1 : i < m.n
        · have E27 := hid (show decide ((i : Int) < (m.n : Int)) = true from decide_eq_true (by omega))
          obtain ⟨g, hg⟩ := A.ptr (by omega)
          have HG := hid hg
          have hce : wr.cell? ⟨g, i * 2, none⟩ = some (.string (m.E i).k) := A.at hg i h1 0 (by omega)
          have H1 := hid h1
          obtain ⟨mv, hmv⟩ : ∃ mv, matchT (m.E i).k t = mv := ⟨_, rfl⟩
          have HM : Hid (∀ wv K, Sz wv K → Calls Tryd.prog 56 #[.string (m.E i).k, .string t] wv fun e w' => e = .returned (.bool mv) ∧ Below K wv w') := hid (fun wv K hK => by rw [← hmv]; exact match_any _ _ m.key (HKS.out i H1.out) HSZ.out k4 k16 (by have := HBT.out; omega) wv K hK)
          clear hmv
          clear h1
          cases mv
          · go_upto_region 9 with (first
              | ((with_reducible show wpList _ _ _ (_ :: _) _ _); first
                | (refine wpl_run rfl (.slice m.p m.n m.cap) _ (run_cell1 (x := .tmp 24) 62 rfl rfl undRE rfl d4.out) ?_; try simp only [pA])
                | (refine wpl_run rfl (.int .i64 (m.n : Int)) _ (run_lenL (x := .tmp 25) rfl undRE rfl _) ?_; try simp only [pA])
                | (refine wpl_run rfl (.bool true) _ (run_lssK (x := .tmp 21) rfl rfl rfl E27.out _) ?_; try simp only [pA]))
              | fail)
            refine wp_region_later M (by kernel_rfl) (by kernel_rfl) ?_
            go_big_quiet_step (fail)
            go_big_quiet_step (fail)
            go_big_quiet_step (fail)
            refine later_val (v := .slice m.p m.n m.cap) (fun q => run_cell1 (x := .tmp 32) 62 rfl rfl undRE rfl (Later.cell hM A.c4 q)) (by rfl) ?_; try simp only [pA]
            go_big_quiet_step (fail)
            refine later_val (v := .pointer (some ⟨g, i * 2, none⟩)) (fun q => run_iaS2 (x := .tmp 33) (y := .tmp 34) rfl rfl HG.out rfl undRE szRE H1.out _) (by rfl) ?_; try simp only [pA]
            go_big_quiet_step (fail)
            refine later_val (v := .string (m.E i).k) (fun q => run_cell1 (x := .tmp 36) 9 rfl rfl undBS rfl (Later.cell hM hce q)) (by rfl) ?_; try simp only [pA]
            go_big_quiet_step (fail)
            go_big_quiet_step ((go_at_call 56; exact later_of hM _ (fun K hK hKN => HM.out _ K hK)))
            go_big_quiet_step (fail)
            repeat go_big_quiet_step (fail)
            refine wpQuiet_nil ?_
            rintro w5 ⟨x5, e5⟩
            have hb5 := x5.b
            rw [← e5] at hb5
            have hbb := hb.trans (hb5.mono hNM)
            clear e5 x5 hb5 hce hb E27 d4 A HM HG
            go_wp2_with (first
              | ((with_reducible show wpList _ _ _ (_ :: _) _ _); first
                | (refine wpl_run rfl (.int .i64 ((i + 1 : Nat) : Int)) _ (run_inc (x := .tmp 28) rfl rfl rfl rfl (by have := H1.out; omega) _) ?_; try simp only [pA]))
              | fail)
            exact ⟨⟨i + 1, rfl, by have := H1.out; omega, h6, hbb⟩, by have := H1.out; simp [intOf]; omega⟩
          · rcases h6 with rfl | ⟨k, hk, rfl⟩
            · go_upto_region 9 with (first
                | ((with_reducible show wpList _ _ _ (_ :: _) _ _); first
                  | (refine wpl_run rfl (.slice m.p m.n m.cap) _ (run_cell1 (x := .tmp 24) 62 rfl rfl undRE rfl d4.out) ?_; try simp only [pA])
                  | (refine wpl_run rfl (.int .i64 (m.n : Int)) _ (run_lenL (x := .tmp 25) rfl undRE rfl _) ?_; try simp only [pA])
                  | (refine wpl_run rfl (.bool true) _ (run_lssK (x := .tmp 21) rfl rfl rfl E27.out _) ?_; try simp only [pA]))
                | fail)
              refine wp_region_later M (by kernel_rfl) (by kernel_rfl) ?_
              go_big_quiet_step (fail)
              go_big_quiet_step (fail)
              go_big_quiet_step (fail)
              refine later_val (v := .slice m.p m.n m.cap) (fun q => run_cell1 (x := .tmp 32) 62 rfl rfl undRE rfl (Later.cell hM A.c4 q)) (by rfl) ?_; try simp only [pA]
              go_big_quiet_step (fail)
              refine later_val (v := .pointer (some ⟨g, i * 2, none⟩)) (fun q => run_iaS2 (x := .tmp 33) (y := .tmp 34) rfl rfl HG.out rfl undRE szRE H1.out _) (by rfl) ?_; try simp only [pA]
              go_big_quiet_step (fail)
              refine later_val (v := .string (m.E i).k) (fun q => run_cell1 (x := .tmp 36) 9 rfl rfl undBS rfl (Later.cell hM hce q)) (by rfl) ?_; try simp only [pA]
              go_big_quiet_step (fail)
              go_big_quiet_step ((go_at_call 56; exact later_of hM _ (fun K hK hKN => HM.out _ K hK)))
              go_big_quiet_step (fail)
              repeat go_big_quiet_step (fail)
              refine wpQuiet_nil ?_
              rintro w5 ⟨x5, e5⟩
              have hb5 := x5.b
              rw [← e5] at hb5
              have hbb := hb.trans (hb5.mono hNM)
              clear e5 x5 hb5 hce hb E27 d4 A HM HG
              go_wp2_with (first
                | ((with_reducible show wpList _ _ _ (_ :: _) _ _); first
                  | (refine wpl_run rfl (.int .i64 ((i + 1 : Nat) : Int)) _ (run_inc (x := .tmp 28) rfl rfl rfl rfl (by have := H1.out; omega) _) ?_; try simp only [pA]))
                | fail)
              exact ⟨⟨i + 1, rfl, by have := H1.out; omega, .inr ⟨i, H1.out, rfl⟩, hbb⟩, by have := H1.out; simp [intOf]; omega⟩
            · have hck : wr.cell? ⟨g, k * 2, none⟩ = some (.string (m.E k).k) := A.at hg k hk 0 (by omega)
              have E42 := hid (show decide ((k : Int) < 0) = false from decide_eq_false (by omega))
              obtain ⟨r, er⟩ : ∃ r, decide ((bitsT (m.E k).k : Int) < (bitsT (m.E i).k : Int)) = r := ⟨_, rfl⟩
              have ER := hid er
              clear er
              go_upto_region 9 with (first
                | ((with_reducible show wpList _ _ _ (_ :: _) _ _); first
                  | (refine wpl_run rfl (.slice m.p m.n m.cap) _ (run_cell1 (x := .tmp 24) 62 rfl rfl undRE rfl d4.out) ?_; try simp only [pA])
                  | (refine wpl_run rfl (.int .i64 (m.n : Int)) _ (run_lenL (x := .tmp 25) rfl undRE rfl _) ?_; try simp only [pA])
                  | (refine wpl_run rfl (.bool true) _ (run_lssK (x := .tmp 21) rfl rfl rfl E27.out _) ?_; try simp only [pA]))
                | fail)
              refine wp_region_later M (by kernel_rfl) (by kernel_rfl) ?_
              go_big_quiet_step (fail)
              go_big_quiet_step (fail)
              go_big_quiet_step (fail)
              refine later_val (v := .slice m.p m.n m.cap) (fun q => run_cell1 (x := .tmp 32) 62 rfl rfl undRE rfl (Later.cell hM A.c4 q)) (by rfl) ?_; try simp only [pA]
              go_big_quiet_step (fail)
              refine later_val (v := .pointer (some ⟨g, i * 2, none⟩)) (fun q => run_iaS2 (x := .tmp 33) (y := .tmp 34) rfl rfl HG.out rfl undRE szRE H1.out _) (by rfl) ?_; try simp only [pA]
              go_big_quiet_step (fail)
              refine later_val (v := .string (m.E i).k) (fun q => run_cell1 (x := .tmp 36) 9 rfl rfl undBS rfl (Later.cell hM hce q)) (by rfl) ?_; try simp only [pA]
              go_big_quiet_step (fail)
              go_big_quiet_step ((go_at_call 56; exact later_of hM _ (fun K hK hKN => HM.out _ K hK)))
              go_big_quiet_step (fail)
              go_big_quiet_step (fail)
              refine later_val (v := .bool false) (fun q => run_lssK (x := .tmp 41) rfl rfl rfl E42.out _) (by rfl) ?_; try simp only [pA]
              go_big_quiet_step (fail)
              go_big_quiet_step (fail)
              go_big_quiet_step (fail)
              go_big_quiet_step (fail)
              refine later_val (v := .slice m.p m.n m.cap) (fun q => run_cell1 (x := .tmp 46) 62 rfl rfl undRE rfl (Later.cell hM A.c4 q)) (by rfl) ?_; try simp only [pA]
              go_big_quiet_step (fail)
              refine later_val (v := .pointer (some ⟨g, i * 2, none⟩)) (fun q => run_iaS2 (x := .tmp 47) (y := .tmp 48) rfl rfl HG.out rfl undRE szRE H1.out _) (by rfl) ?_; try simp only [pA]
              go_big_quiet_step (fail)
              refine later_val (v := .string (m.E i).k) (fun q => run_cell1 (x := .tmp 50) 9 rfl rfl undBS rfl (Later.cell hM hce q)) (by rfl) ?_; try simp only [pA]
              go_big_quiet_step ((go_at_call 57; exact later_of hM _ (fun K hK hKN => bits_low _ (by rw [HKS.out i H1.out]; exact k4) _ K)))
              go_big_quiet_step (fail)
              go_big_quiet_step (fail)
              go_big_quiet_step (fail)
              refine later_val (v := .slice m.p m.n m.cap) (fun q => run_cell1 (x := .tmp 55) 62 rfl rfl undRE rfl (Later.cell hM A.c4 q)) (by rfl) ?_; try simp only [pA]
              go_big_quiet_step (fail)
              refine later_val (v := .pointer (some ⟨g, k * 2, none⟩)) (fun q => run_iaS2 (x := .tmp 56) (y := .tmp 57) rfl rfl HG.out rfl undRE szRE hk _) (by rfl) ?_; try simp only [pA]
              go_big_quiet_step (fail)
              refine later_val (v := .string (m.E k).k) (fun q => run_cell1 (x := .tmp 59) 9 rfl rfl undBS rfl (Later.cell hM hck q)) (by rfl) ?_; try simp only [pA]
              go_big_quiet_step ((go_at_call 57; exact later_of hM _ (fun K hK hKN => bits_low _ (by rw [HKS.out k hk]; exact k4) _ K)))
              refine later_val (v := .bool r) (fun q => run_gtrK (x := .tmp 52) rfl rfl rfl ER.out _) (by rfl) ?_; try simp only [pA]
              go_big_quiet_step (fail)
              go_big_quiet_step (fail)
              refine wpQuiet_nil ?_
              rintro w5 ⟨x5, e5⟩
              have hb5 := x5.b
              rw [← e5] at hb5
              have hbb := hb.trans (hb5.mono hNM)
              clear hck E42 ER e5 x5 hb5 hce hb E27 d4 A HM HG
              cases r
              · go_wp2_with (first
                  | ((with_reducible show wpList _ _ _ (_ :: _) _ _); first
                    | (refine wpl_run rfl (.int .i64 ((i + 1 : Nat) : Int)) _ (run_inc (x := .tmp 28) rfl rfl rfl rfl (by have := H1.out; omega) _) ?_; try simp only [pA]))
                  | fail)
                exact ⟨⟨i + 1, rfl, by have := H1.out; omega, .inr ⟨k, hk, rfl⟩, hbb⟩, by have := H1.out; simp [intOf]; omega⟩
              · go_wp2_with (first
                  | ((with_reducible show wpList _ _ _ (_ :: _) _ _); first
                    | (refine wpl_run rfl (.int .i64 ((i + 1 : Nat) : Int)) _ (run_inc (x := .tmp 28) rfl rfl rfl rfl (by have := H1.out; omega) _) ?_; try simp only [pA]))
                  | fail)
                exact ⟨⟨i + 1, rfl, by have := H1.out; omega, .inr ⟨i, H1.out, rfl⟩, hbb⟩, by have := H1.out; simp [intOf]; omega⟩
        · have E27 := hid (show decide ((i : Int) < (m.n : Int)) = false from decide_eq_false (by omega))
          rcases h6 with rfl | ⟨k, hk, rfl⟩
          · go_wp2_with (first
              | ((with_reducible show wpList _ _ _ (_ :: _) _ _); first
                | (refine wpl_run rfl (.slice m.p m.n m.cap) _ (run_cell1 (x := .tmp 24) 62 rfl rfl undRE rfl d4.out) ?_; try simp only [pA])
                | (refine wpl_run rfl (.int .i64 (m.n : Int)) _ (run_lenL (x := .tmp 25) rfl undRE rfl _) ?_; try simp only [pA])
                | (refine wpl_run rfl (.bool false) _ (run_lssK (x := .tmp 21) rfl rfl rfl E27.out _) ?_; try simp only [pA]))
              | fail)
            go_ret2
            exact .inr ⟨2, by decide, rfl, RNx.stay hN hA hb⟩
          · have E67 := hid (show decide ((k : Int) < 0) = false from decide_eq_false (by omega))
            go_wp2_with (first
              | ((with_reducible show wpList _ _ _ (_ :: _) _ _); first
                | (refine wpl_run rfl (.slice m.p m.n m.cap) _ (run_cell1 (x := .tmp 24) 62 rfl rfl undRE rfl d4.out) ?_; try simp only [pA])
                | (refine wpl_run rfl (.int .i64 (m.n : Int)) _ (run_lenL (x := .tmp 25) rfl undRE rfl _) ?_; try simp only [pA])
                | (refine wpl_run rfl (.bool false) _ (run_lssK (x := .tmp 21) rfl rfl rfl E27.out _) ?_; try simp only [pA])
                | (refine wpl_run rfl (.bool false) _ (run_lssK (x := .tmp 66) rfl rfl rfl E67.out _) ?_; try simp only [pA]))
              | fail)
            refine (RUse_any m k hk _ M hM A).mono ?_
            rintro e w3 ⟨i, m1, rfl, hi, X⟩
            go_wp2_with fail
            go_ret2
            exact .inl ⟨i, m1, rfl, hi, X.pre hN hb hM⟩
    · have E20 := hid (show ((m.ty : Int) == 5) = false by rw [beq_eq_false_iff_ne]; omega)
      clear h5
      rcases hP with ⟨k, hk, rfl⟩ | rfl
      · have E67 := hid (show decide ((k : Int) < 0) = false from decide_eq_false (by omega))
        go_wp2_with (first
          | ((with_reducible show wpList _ _ _ (_ :: _) _ _); first
            | (refine wpl_run rfl (.int .i64 (m.ty : Int)) _ (run_cell1 (x := .tmp 18) 3 rfl rfl undIt rfl d0.out) ?_; try simp only [pA])
            | (refine wpl_run rfl (.bool false) _ (run_eqK (x := .tmp 19) rfl rfl rfl E20.out _) ?_; try simp only [pA])
            | (refine wpl_run rfl (.bool false) _ (run_lssK (x := .tmp 66) rfl rfl rfl E67.out _) ?_; try simp only [pA]))
          | fail)
        refine (RUse_any m k hk _ M hM A).mono ?_
        rintro e w3 ⟨i, m1, rfl, hi, X⟩
        go_wp2_with fail
        go_ret2
        exact .inl ⟨i, m1, rfl, hi, X.pre hN hb hM⟩
      · go_wp2_with (first
          | ((with_reducible show wpList _ _ _ (_ :: _) _ _); first
            | (refine wpl_run rfl (.int .i64 (m.ty : Int)) _ (run_cell1 (x := .tmp 18) 3 rfl rfl undIt rfl d0.out) ?_; try simp only [pA])
            | (refine wpl_run rfl (.bool false) _ (run_eqK (x := .tmp 19) rfl rfl rfl E20.out _) ?_; try simp only [pA]))
          | fail)
        go_ret2
        exact .inr ⟨2, by decide, rfl, RNx.stay hN hA hb⟩
end Go.Proofs.YtjdclgnlnehjlaaDoor
