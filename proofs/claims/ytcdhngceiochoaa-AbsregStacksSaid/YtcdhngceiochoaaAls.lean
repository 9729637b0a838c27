/- AbsregStacks: its walk. -/
import Derived.Test.YtcdhngceiochoaaAsu
import Derived.Test.YtcdhngceiochoaaSl0
namespace Go.Proofs.Ytcdhngceiochoaa
open Go Go.RowKit
theorem Rowx.below {w w' : World} {p : Option Addr} {n N : Nat} {Z : Nat → Ax} (h : Rowx w p n Z) (hN : Sz w N) (hb : Below N w w') : Rowx w' p n Z := fun h0 => by
  obtain ⟨b, off, rfl, hc⟩ := h h0
  refine ⟨b, off, rfl, fun k hk j hj => ?_⟩
  have h1 := hc k hk j hj
  rw [hb.cell (p := ⟨b, off + k * 3 + j, none⟩) (by have := World.block_lt_of_cell? w _ h1; have e : w.heap.size = N := hN; simp only at this ⊢; omega)]
  exact h1
theorem rgA_succ (i : Nat) : rgA (i + 1) = ⟨5, zeroR, 0, 0, ((i : Nat) : Int), ((i : Nat) : Int)⟩ := by
  have e : ((i + 1 : Nat) : Int) - 1 = (i : Int) := by omega
  unfold rgA
  rw [if_neg (by omega), e]
theorem refF_le (W : Nat → Bool) (K : Nat → Nat) (a : Int) (n v m : Nat) (hK : ∀ k, K k ≤ m) (hv : v ≤ m) (k : Nat) : (refF W K a n v).2.2 k ≤ m := by
  have h1 : ∀ p, k1 K p n k ≤ m := fun p => by unfold k1; split; exact Nat.zero_le _; exact hK k
  unfold refF
  split
  · exact hK k
  split
  · exact hK k
  split
  · exact h1 _
  split
  · exact hK k
  split
  · exact hK k
  · simp only
    split
    · exact hv
    · exact h1 _
theorem run_iaS {P : Program} {a : Act} {o : Oper} (T : TypeId) (x y : Operand) (ho : o.op = .indexAddr T x y) {b off k n e : Nat} (hx : a.eval x = .pointer (some ⟨b, off, none⟩)) (hy : a.eval y = .int .i64 (k : Int)) (hu : P.underlying T = some (.array n e)) (hs : (P.info? e).map (·.size) = some 1) (hk : k < n) (w : World) : (execOp a.eval o).run P w = .ok (.value (.pointer (some ⟨b, off + k, none⟩))) w := by
  refine run_iaO T x y ho hx hy ?_ rfl w
  rw [hu]
  cases hq : P.info? e with
  | none => simp [hq] at hs
  | some i =>
    have hi : i.size = 1 := by simpa [hq] using hs
    simp [hq, hi, hk]
theorem undA64 : Try.prog.underlying 73 = some (.array 64 4) := by kernel_rfl
theorem undA8 : Try.prog.underlying 79 = some (.array 8 3) := by kernel_rfl
theorem ldB_zero {W : Nat → Bool} {K : Nat → Nat} {k : Nat} (h : K k = 0) : ldB W K k = rdW W k 8 := by unfold ldB; rw [if_pos h]; exact rdW_all W K k
theorem ldA_zero {W : Nat → Bool} {K : Nat → Nat} {k : Nat} (h : K k = 0) (h2 : rdW W k 8 = true) : (ldA W K k).k = 1 := by
  unfold ldA; rw [if_pos h, if_pos (by rw [rdW_all]; exact h2)]; rfl
theorem ldB_pos {W : Nat → Bool} {K : Nat → Nat} {k : Nat} (h : ¬ K k = 0) : ldB W K k = true := by unfold ldB; rw [if_neg h]
theorem ldA_pos {W : Nat → Bool} {K : Nat → Nat} {k : Nat} (h : ¬ K k = 0) : (ldA W K k).k = 5 ∧ (ldA W K k).lo = (K k : Int) - 1 := by
  unfold ldA kpA; rw [if_neg h, if_neg h]; exact ⟨rfl, rfl⟩
def inF (A : Int) : Bool := decide (-64 ≤ A ∧ A < 0)
theorem inF_1 {A : Int} (h : decide (-64 ≤ A) = false) : inF A = false := decide_eq_false (fun x => of_decide_eq_false h x.1)
theorem inF_2 {A : Int} (h : decide (A < 0) = false) : inF A = false := decide_eq_false (fun x => of_decide_eq_false h x.2)
theorem inF_3 {A : Int} (h : decide (-64 ≤ A) = true) (h2 : decide (A < 0) = true) : inF A = true := decide_eq_true ⟨of_decide_eq_true h, of_decide_eq_true h2⟩
theorem atF_in {A : Int} (h : inF A = true) : atF A = wrap64 (A + 64) := by
  have h1 : -64 ≤ A ∧ A < 0 := of_decide_eq_true h
  unfold atF; rw [if_pos h1]; exact (wrap_id (by omega) (by omega)).symm
theorem atF_out {A : Int} (h : inF A = false) : atF A = -1 := if_neg (of_decide_eq_false h)
set_option maxRecDepth 100000 in
set_option maxHeartbeats 20000000 in
theorem law_astacks (pr : Option Addr) (nr cr : Nat) (Z : Nat → Ax) (hZ : ∀ k, k < nr → -9223372036854775808 ≤ (Z k).at_ ∧ (Z k).at_ < 9223372036854775808) (w : World) (N : Nat) (hN : Sz w N) (hcr : nr ≤ cr) (hrow : Rowx w pr nr Z) :
    Calls Try.prog 16 #[.slice pr nr cr] w fun e w' => e = .returned (.bool true) ∧ Below N w w' := by
  have hM0 := hN
  go_enter Try.func16, Try.ntmps16
  go_upto_region 2 with (first
    | (go_at_call 42; refine (Start_any _ N hM0).mono ?_; rintro e w1 ⟨rfl, hb1⟩; obtain ⟨M1, hM1⟩ := sz_some w1; have l1 := below_sz hb1 hM0 hM1; clear hM0)
    | (refine wpl_run rfl (.agg (cellsOf (skP (fun _ => false, fun _ => 0)) 72)) _ (run_bd 81 _ rfl (cellsOf (skP (fun _ => false, fun _ => 0)) 72) (by kernel_rfl) _) ?_)
    | (refine wpl_box rfl 81 (.tmp 24) rfl 72 (skP (fun _ => false, fun _ => 0)) rfl M1 hM1 ?_; intro w2 hM2 hb2 hK; replace hb2 := hb1.trans (hb2.mono (by omega)); clear hb1 hM1)
    | (refine wpl_alloc rfl 76 rfl 273 (stC zeroS) zeSt (M1 + 1) hM2 ?_; intro w3 hM3 hb3 hS; replace hK := hK.below hb3 (by omega); replace hb3 := hb2.trans (hb3.mono (by omega)); clear hb2 hM2)
    | (refine wpl_store rfl 76 (.tmp 3) (.tmp 23) rfl (M1 + 1) 273 (stC startS) rfl rfl 76 _ hS szSt (fun j _ => stC_one _ j) ?_; intro w4 t4 hS4; have hM4 := t4.sz hM3; replace hK := hK.touch t4 (by omega); replace hb3 := t4.below hb3 (by omega); clear hS hM3 t4)
    | fail)
  replace hS4 := hS4.congr (g := stC (stOf (fun _ => false) (fun _ => 0))) (fun j hj => stC_same (fun _ _ => rfl) (fun _ _ => rfl) (fun _ _ => rfl) j hj)
  go_upto_region 2 with fail
  refine wp_region_later1 ((M1 + 1 + 1)) ?_
  try simp only [pA]
  go_big_quiet_step ((go_at_call 43; exact later_of hM4 _ (fun K hK hKN => saves_any  _ K hK)))
  go_big_quiet_step (fail)
  refine wpQuiet_nil ?_
  rintro xw1 ⟨qxw1, exw1⟩
  have hbxw1 := qxw1.b
  rw [← exw1] at hbxw1
  clear qxw1 exw1
  obtain ⟨M2, hM2⟩ := sz_some xw1
  have lM2 := below_sz hbxw1 hM4 hM2
  have k3 := hK.below hbxw1 (by omega)
  have k4 := hS4.below hbxw1 (by omega)
  have lo5 := hb3.trans (hbxw1.mono (by omega))
  clear hK hS4 hb3 hbxw1
  go_wp2_with fail
  go_loopg [5, 6, 7, 8, 9, 10, 11, 12, 13, 14, 15, 16, 17, 18] (nr) (fun g x5 x6 x7 x8 x9 x10 x11 x12 x13 x14 x15 x16 x17 x18 wr => ∃ iq : Nat, iq ≤ nr ∧ iq ≤ 40 ∧ g = nr - iq ∧ x5 = .int .i64 (iq : Int) ∧ ∃ (Wv : Nat → Bool) (Kv : Nat → Nat), (∀ k, Kv k ≤ iq) ∧ Has wr M1 81 72 (skP (Wv, Kv)) ∧ Has wr (M1 + 1) 76 273 (stC (stOf Wv Kv)) ∧ Below N w wr)
  case atStart => exact ⟨0, by omega, by omega, rfl, rfl, _, _, fun _ => Nat.le_refl 0, k3, k4, lo5⟩
  case round =>
    clear k3 k4 lo5 hM2
    obtain ⟨iq, hi1, hi2, rfl, rfl, Wv, Kv, hKb, kK, kS, lo⟩ := hrel
    obtain ⟨M, hM⟩ := sz_some wr
    have ltK := kK.ltN hM
    have ltS := kS.ltN hM
    have lNM := below_sz lo hN hM
    have HKb := hid hKb
    clear hKb
    by_cases hlt : iq < nr ∧ iq < 40
    · as_aux_lemma =>
        have t1 : decide (((iq : Nat) : Int) < ((nr : Nat) : Int)) = true := decide_eq_true (by omega)
        have t2 : decide (((iq : Nat) : Int) < 40) = true := decide_eq_true (by omega)
        have hat := hZ iq hlt.1
        have HAT := hid hat
        clear hat
        obtain ⟨bb, off, rfl, hcl⟩ := (hrow.below hN lo) (by omega)
        replace hcl := hcl iq hlt.1
        go_upto_region 8 with (first
          | (refine wpl_run rfl (.pointer (some ⟨bb, off + iq * 3, none⟩)) _ (run_ixK 69 83 3 undAxs szAx (.tmp 38) (.tmp 39) rfl rfl rfl (k := iq) hlt.1 _) ?_)
          | (refine wpl_load_cells rfl 83 (.tmp 40) rfl bb (off + iq * 3) rfl 3 (actC (Z iq)) hcl _ undAx.choose_spec.1 undAx.choose_spec.2 szAx ?_)
          | (refine wpl_alloc rfl 83 rfl 3 (actC zeroX) zeAx M hM ?_; intro w7 hM7 hb7 h7; replace kK := kK.below hb7 (by omega); replace kS := kS.below hb7 (by omega); replace lo := lo.trans (hb7.mono (by omega)); clear hcl hb7)
          | (refine wpl_store rfl 83 (.tmp 6) (.tmp 41) rfl M 3 (actC (Z iq)) rfl rfl 83 _ h7 szAx (fun j _ => actC_one _ j) ?_; intro w8 t8 kX; have hM8 := t8.sz hM7; replace kK := kK.touch t8 (by omega); replace kS := kS.touch t8 (by omega); replace lo := t8.below lo (by omega); clear h7 hM7 t8)
          | fail)
        clear t1 t2 hM
        obtain ⟨n, en⟩ : ∃ n, sz5 (rm (Z iq).sz 5) = n := ⟨_, rfl⟩
        have hn := sz5_of (rm (Z iq).sz 5)
        rw [en] at hn
        have EN := hid en
        have HN := hid hn
        clear en hn
        obtain ⟨bIn, eI⟩ : ∃ x, x = inF (Z iq).at_ := ⟨_, rfl⟩
        have EI := hid eI
        clear eI
        obtain ⟨bV, eV⟩ : ∃ x, x = (Z iq).v := ⟨_, rfl⟩
        have EV := hid eV
        clear eV
        obtain ⟨vN, eN⟩ : ∃ x : Nat, x = bif bV then iq + 1 else 0 := ⟨_, rfl⟩
        have EVN := hid eN
        clear eN
        obtain ⟨c6, c7, c8⟩ := ax_cells kX
        go_upto_region 8 with fail
        refine wp_region_lit ?_
        try simp only [pA]
        refine wpl_bsn5 rfl rfl (M + 1) hM8 ?_
        intro wb hMb hbb hhb; simp only [pA]
        have cn : wb.cell? ⟨M + 1, 0 + rm (Z iq).sz 5, none⟩ = some (.int .i64 ((n : Nat) : Int)) := (by have h := hhb.cell (j := rm (Z iq).sz 5) (rm_lt _ _ (by omega)); unfold s5C at h; rw [EN.out] at h; rw [Nat.zero_add]; exact h)
        replace kX := kX.below hbb (by omega)
        replace kK := kK.below hbb (by omega)
        replace kS := kS.below hbb (by omega)
        have cz := (ax_cells kX).2.1
        change wpList _ _ _ (_ :: _ :: _ :: _ :: _ :: _ :: _ :: _ :: []) _ _
        refine wpList_of_quiet (C := fun w' => ∃ x : Later (M + 1 + 1) wb, w' = x.w') _ _ _ ⟨⟨_, Below.refl _ _⟩, rfl⟩ ?_
        go_big_quiet_step (fail)
        refine later_c1 hMb 3 (.tmp 43) rfl rfl undInt rfl cz (by rfl) ?_; simp only [pA]
        refine later_val (fun q => run_iu (x := (.tmp 44)) rfl undInt und64 rfl q.w') (by rfl) ?_; simp only [pA]
        refine later_b (x := (.tmp 45)) (y := (.const (.int .u64 5))) rfl (bin_rem _ (BitVec.ofInt 64 (Z iq).sz) 5#64 (by decide)) rfl rfl (by rfl) ?_; simp only [pA]
        refine later_val (fun q => run_rm (x := (.tmp 46)) rfl und64 undInt (z := (Z iq).sz) (m := 5) (by omega) rfl q.w') (by rfl) ?_; simp only [pA]
        refine later_val (fun q => run_ixL 60 3 undIs szI1 (.tmp 42) (.tmp 47) rfl rfl rfl (k := rm (Z iq).sz 5) (rm_lt _ _ (by omega)) q.w') (by rfl) ?_; simp only [pA]
        refine later_c1 hMb 3 (.tmp 48) rfl rfl undInt rfl cn (by rfl) ?_; simp only [pA]
        go_big_quiet_step (fail)
        refine wpQuiet_nil (laterE hMb ?_)
        intro wd Md hbd hMd lMd
        replace hbb := hbb.trans (hbd.mono (by omega))
        replace kX := kX.below hbd (by omega)
        replace kK := kK.below hbd (by omega)
        replace kS := kS.below hbd (by omega)
        replace lo := lo.trans (hbb.mono (by omega))
        clear hbb hbd hhb cn cz hMb hM8 c6 c7 c8
        go_upto_region 10 with fail
        go_cut [57] (fun v wx => v = (Value.bool bIn) ∧ Below Md wd wx)
        case first =>
          as_aux_lemma =>
            have lc := Below.refl Md wd
            cases h1 : decide (-64 ≤ (Z iq).at_)
            · have H1 := hid h1
              clear h1
              go_upto_region 10 with fail
              obtain ⟨c9, c10, c11⟩ := ax_cells kX
              refine wp_region_later1 (Md) ?_
              try simp only [pA]
              go_big_quiet_step (fail)
              refine later_c1 hMd 2 (.tmp 50) rfl rfl undI64 rfl c9 (by rfl) ?_; simp only [pA]
              refine later_val (fun q => run_geqI (x := (.tmp 51)) (y := (.const (.int .i64 (-64)))) rfl rfl rfl (p := (Z iq).at_) (q := (-64)) (r := false) H1.out q.w') (by rfl) ?_; simp only [pA]
              go_big_quiet_step (fail)
              go_big_quiet_step (fail)
              go_big_quiet_step (fail)
              go_big_quiet_step (fail)
              go_big_quiet_step (fail)
              refine wpQuiet_nil ?_
              rintro xw12 ⟨qxw12, exw12⟩
              have hbxw12 := qxw12.b
              rw [← exw12] at hbxw12
              clear qxw12 exw12
              obtain ⟨M13, hM13⟩ := sz_some xw12
              have lM13 := below_sz hbxw12 hMd hM13
              have k14 := kK.below hbxw12 (by omega)
              have k15 := kS.below hbxw12 (by omega)
              have k16 := kX.below hbxw12 (by omega)
              have lo17 := lc.trans (hbxw12.mono (by omega))
              clear kK kS kX c9 c10 c11 lc hbxw12
              go_wp2_with fail
              go_meet
              exact ⟨by rw [EI.out, inF_1 H1.out], lo17⟩
            · cases h2 : decide ((Z iq).at_ < 0)
              · have H1 := hid h1
                clear h1
                have H2 := hid h2
                clear h2
                go_upto_region 10 with fail
                obtain ⟨c9, c10, c11⟩ := ax_cells kX
                refine wp_region_later1 (Md) ?_
                try simp only [pA]
                go_big_quiet_step (fail)
                refine later_c1 hMd 2 (.tmp 50) rfl rfl undI64 rfl c9 (by rfl) ?_; simp only [pA]
                refine later_val (fun q => run_geqI (x := (.tmp 51)) (y := (.const (.int .i64 (-64)))) rfl rfl rfl (p := (Z iq).at_) (q := (-64)) (r := true) H1.out q.w') (by rfl) ?_; simp only [pA]
                go_big_quiet_step (fail)
                go_big_quiet_step (fail)
                refine later_c1 hMd 2 (.tmp 54) rfl rfl undI64 rfl c9 (by rfl) ?_; simp only [pA]
                refine later_val (fun q => run_lssI (x := (.tmp 55)) (y := (.const (.int .i64 0))) rfl rfl rfl (p := (Z iq).at_) (q := 0) (r := false) H2.out q.w') (by rfl) ?_; simp only [pA]
                go_big_quiet_step (fail)
                refine wpQuiet_nil ?_
                rintro xw12 ⟨qxw12, exw12⟩
                have hbxw12 := qxw12.b
                rw [← exw12] at hbxw12
                clear qxw12 exw12
                obtain ⟨M13, hM13⟩ := sz_some xw12
                have lM13 := below_sz hbxw12 hMd hM13
                have k14 := kK.below hbxw12 (by omega)
                have k15 := kS.below hbxw12 (by omega)
                have k16 := kX.below hbxw12 (by omega)
                have lo17 := lc.trans (hbxw12.mono (by omega))
                clear kK kS kX c9 c10 c11 lc hbxw12
                go_wp2_with fail
                go_meet
                exact ⟨by rw [EI.out, inF_2 H2.out], lo17⟩
              · have H1 := hid h1
                clear h1
                have H2 := hid h2
                clear h2
                go_upto_region 10 with fail
                obtain ⟨c9, c10, c11⟩ := ax_cells kX
                refine wp_region_later1 (Md) ?_
                try simp only [pA]
                go_big_quiet_step (fail)
                refine later_c1 hMd 2 (.tmp 50) rfl rfl undI64 rfl c9 (by rfl) ?_; simp only [pA]
                refine later_val (fun q => run_geqI (x := (.tmp 51)) (y := (.const (.int .i64 (-64)))) rfl rfl rfl (p := (Z iq).at_) (q := (-64)) (r := true) H1.out q.w') (by rfl) ?_; simp only [pA]
                go_big_quiet_step (fail)
                go_big_quiet_step (fail)
                refine later_c1 hMd 2 (.tmp 54) rfl rfl undI64 rfl c9 (by rfl) ?_; simp only [pA]
                refine later_val (fun q => run_lssI (x := (.tmp 55)) (y := (.const (.int .i64 0))) rfl rfl rfl (p := (Z iq).at_) (q := 0) (r := true) H2.out q.w') (by rfl) ?_; simp only [pA]
                go_big_quiet_step (fail)
                refine wpQuiet_nil ?_
                rintro xw12 ⟨qxw12, exw12⟩
                have hbxw12 := qxw12.b
                rw [← exw12] at hbxw12
                clear qxw12 exw12
                obtain ⟨M13, hM13⟩ := sz_some xw12
                have lM13 := below_sz hbxw12 hMd hM13
                have k14 := kK.below hbxw12 (by omega)
                have k15 := kS.below hbxw12 (by omega)
                have k16 := kX.below hbxw12 (by omega)
                have lo17 := lc.trans (hbxw12.mono (by omega))
                clear kK kS kX c9 c10 c11 lc hbxw12
                go_wp2_with fail
                go_meet
                exact ⟨by rw [EI.out, inF_3 H1.out H2.out], lo17⟩
        case rest =>
          as_aux_lemma =>
            obtain ⟨rfl, hbc⟩ := hcut
            obtain ⟨M9, hM9⟩ := sz_some wc
            have lM9 := below_sz hbc hMd hM9
            have k10 := kK.below hbc (by omega)
            have k11 := kS.below hbc (by omega)
            have k12 := kX.below hbc (by omega)
            have lo13 := lo.trans (hbc.mono (by omega))
            clear kK kS kX lo hbc
            go_upto_if 57 with fail
            go_cut [8] (fun v wx => v = (Value.int .i64 (atF (Z iq).at_)) ∧ Below M9 wc wx)
            case first =>
              as_aux_lemma =>
                have lc := Below.refl M9 wc
                cases bIn
                · go_wp2_with fail
                  go_meet
                  exact ⟨by rw [atF_out EI.out.symm], lc⟩
                · go_upto_region 11 with fail
                  obtain ⟨c14, c15, c16⟩ := ax_cells k12
                  refine wp_region_later1 (M9) ?_
                  try simp only [pA]
                  go_big_quiet_step (fail)
                  refine later_c1 hM9 2 (.tmp 58) rfl rfl undI64 rfl c14 (by rfl) ?_; simp only [pA]
                  refine later_val (fun q => run_addI (x := (.tmp 59)) (y := (.const (.int .i64 64))) rfl rfl rfl (p := (Z iq).at_) (q := 64) q.w') (by rfl) ?_; simp only [pA]
                  go_big_quiet_step (fail)
                  refine wpQuiet_nil ?_
                  rintro xw17 ⟨qxw17, exw17⟩
                  have hbxw17 := qxw17.b
                  rw [← exw17] at hbxw17
                  clear qxw17 exw17
                  obtain ⟨M18, hM18⟩ := sz_some xw17
                  have lM18 := below_sz hbxw17 hM9 hM18
                  have k19 := k10.below hbxw17 (by omega)
                  have k20 := k11.below hbxw17 (by omega)
                  have k21 := k12.below hbxw17 (by omega)
                  have lo22 := lc.trans (hbxw17.mono (by omega))
                  clear k10 k11 k12 c14 c15 c16 lc hbxw17
                  go_wp2_with fail
                  go_meet
                  exact ⟨by rw [atF_in EI.out.symm], lo22⟩
            case rest =>
              as_aux_lemma =>
                obtain ⟨rfl, hbc⟩ := hcut
                obtain ⟨M14, hM14⟩ := sz_some wc
                have lM14 := below_sz hbc hM9 hM14
                have k15 := k10.below hbc (by omega)
                have k16 := k11.below hbc (by omega)
                have k17 := k12.below hbc (by omega)
                have lo18 := lo13.trans (hbc.mono (by omega))
                clear k10 k11 k12 lo13 hbc
                go_upto_region 12 with fail
                refine wp_region_lit ?_
                try simp only [pA]
                change wpList _ _ _ ((_ :: []) ++ (_ :: _ :: _ :: [])) _ _
                refine wpList_prefix (C := fun w' => ∃ x : Later M14 wc, w' = x.w') _ _ _ _ ⟨⟨_, Below.refl _ _⟩, rfl⟩ ?_
                go_big_quiet_step ((go_at_call 44; exact later_of hM14 _ (fun K hK hKN => Number_any 7#64 _ K hK)))
                refine wpQuiet_nil ?_
                rintro xw19 ⟨qxw19, exw19⟩
                have hbxw19 := qxw19.b
                rw [← exw19] at hbxw19
                clear qxw19 exw19
                obtain ⟨M20, hM20⟩ := sz_some xw19
                have lM20 := below_sz hbxw19 hM14 hM20
                have k21 := k15.below hbxw19 (by omega)
                have k22 := k16.below hbxw19 (by omega)
                have k23 := k17.below hbxw19 (by omega)
                have lo24 := lo18.trans (hbxw19.mono (by omega))
                clear k15 k16 k17 lo18 hbxw19
                obtain ⟨b_xw25, eb_xw25⟩ : ∃ b_xw25, b_xw25 = M20 := ⟨_, rfl⟩
                have hzb_xw25 : Sz xw19 b_xw25 := by rw [eb_xw25]; exact hM20
                have lob_xw25 : M20 ≤ b_xw25 := by omega
                have upb_xw25 : b_xw25 ≤ M20 := by omega
                clear eb_xw25
                refine wpl_alloc rfl 71 rfl 11 (arC zeroA) zeAr b_xw25 hzb_xw25 ?_
                intro xw25 hMxw25 hbxw25 hhxw25; simp only [pA]
                have k26 := k21.below hbxw25 (by omega)
                have k27 := k22.below hbxw25 (by omega)
                have k28 := k23.below hbxw25 (by omega)
                have lo29 := lo24.trans (hbxw25.mono (by omega))
                clear k21 k22 k23 lo24 hbxw25 hzb_xw25
                obtain ⟨M30, eM30⟩ : ∃ M30, M30 = b_xw25 + 1 := ⟨_, rfl⟩
                rw [← eM30] at hMxw25
                have loM30 : b_xw25 + 1 ≤ M30 := by omega
                have upM30 : M30 ≤ b_xw25 + 1 := by omega
                clear eM30
                refine wpl_store rfl 71 (.tmp 9) (.tmp 61) rfl b_xw25 11 (arC (numA (cR 7#64))) rfl rfl 71 _ hhxw25 szAr (fun j _ => arC_one _ j) ?_
                intro xw31 t32 k33; try simp only [pA]
                have k34 := k26.touch t32 (by omega)
                have k35 := k27.touch t32 (by omega)
                have k36 := k28.touch t32 (by omega)
                have lo37 := t32.below lo29 (by omega)
                have h38 := t32.sz hMxw25
                clear hhxw25 k26 k27 k28 lo29 hMxw25 t32
                refine wpl_run rfl (Value.int .i64 0) _ (run_as (x := (.const (.int .i64 0))) rfl _ rfl) ?_; simp only [pA]
                obtain ⟨M39, hM39⟩ := sz_some xw31
                have lt_40 := k34.ltN hM39
                have lt_41 := k35.ltN hM39
                have lt_42 := k36.ltN hM39
                have lt_43 := k33.ltN hM39
                go_upto_region 13 with fail
                obtain ⟨c44, c45, c46⟩ := ax_cells k36
                refine wp_region_later1 (M39) ?_
                try simp only [pA]
                go_big_quiet_step (fail)
                refine later_c1 hM39 4 (.tmp 62) rfl rfl undBool rfl c46 (by rfl) ?_; simp only [pA]
                refine wpQuiet_nil ?_
                rintro xw47 ⟨qxw47, exw47⟩
                have hbxw47 := qxw47.b
                rw [← exw47] at hbxw47
                clear qxw47 exw47
                obtain ⟨M48, hM48⟩ := sz_some xw47
                have lM48 := below_sz hbxw47 hM39 hM48
                have k49 := k34.below hbxw47 (by omega)
                have k50 := k35.below hbxw47 (by omega)
                have k51 := k36.below hbxw47 (by omega)
                have k52 := k33.below hbxw47 (by omega)
                have lo53 := lo37.trans (hbxw47.mono (by omega))
                clear k34 k35 k36 c44 c45 c46 k33 lo37 hbxw47
                rw [← EV.out]
                go_upto_if 63 with fail
                go_cut [10] (fun v wx => v = (Value.int .i64 ((vN : Nat) : Int)) ∧ Has wx M1 81 72 (skP (Wv, Kv)) ∧ Has wx (M1 + 1) 76 273 (stC (stOf Wv Kv)) ∧ Has wx M 83 3 (actC (Z iq)) ∧ Has wx b_xw25 71 11 (arC (rgA vN)) ∧ Below N w wx)
                case first =>
                  as_aux_lemma =>
                    cases bV
                    · have ev : vN = 0 := EVN.out
                      subst ev
                      go_wp2_with fail
                      go_meet
                      exact ⟨rfl, k49, k50, k51, k52, lo53⟩
                    · have ev : vN = iq + 1 := EVN.out
                      have EV1 := hid ev
                      clear ev
                      go_upto_region 14 with fail
                      refine wp_region_lit ?_
                      try simp only [pA]
                      change wpList _ _ _ ((_ :: _ :: _ :: _ :: _ :: []) ++ (_ :: _ :: [])) _ _
                      refine wpList_prefix (C := fun w' => ∃ x : Later M48 xw47, w' = x.w') _ _ _ _ ⟨⟨_, Below.refl _ _⟩, rfl⟩ ?_
                      go_big_quiet_step (fail)
                      go_big_quiet_step (fail)
                      refine later_val (fun q => run_bd 71 _ rfl (cellsOf (arC ⟨5, zeroR, 0, 0, ((iq : Nat) : Int), ((iq : Nat) : Int)⟩) 11) (by kernel_rfl) q.w') (by rfl) ?_; simp only [pA]
                      go_big_quiet_step (fail)
                      refine later_val (fun q => run_addI (x := (.tmp 67)) (y := (.const (.int .i64 1))) rfl rfl rfl (p := ((iq : Nat) : Int)) (q := 1) q.w') (by rfl) ?_; simp only [pA]
                      refine wpQuiet_nil ?_
                      rintro xw54 ⟨qxw54, exw54⟩
                      have hbxw54 := qxw54.b
                      rw [← exw54] at hbxw54
                      clear qxw54 exw54
                      obtain ⟨M55, hM55⟩ := sz_some xw54
                      have lM55 := below_sz hbxw54 hM48 hM55
                      have k56 := k49.below hbxw54 (by omega)
                      have k57 := k50.below hbxw54 (by omega)
                      have k58 := k51.below hbxw54 (by omega)
                      have k59 := k52.below hbxw54 (by omega)
                      have lo60 := lo53.trans (hbxw54.mono (by omega))
                      clear k49 k50 k51 k52 lo53 hbxw54
                      refine wpl_store rfl 71 (.tmp 9) (.tmp 66) rfl b_xw25 11 (arC ⟨5, zeroR, 0, 0, ((iq : Nat) : Int), ((iq : Nat) : Int)⟩) rfl rfl 71 _ k59 szAr (fun j _ => arC_one _ j) ?_
                      intro xw61 t62 k63; try simp only [pA]
                      have k64 := k56.touch t62 (by omega)
                      have k65 := k57.touch t62 (by omega)
                      have k66 := k58.touch t62 (by omega)
                      have lo67 := t62.below lo60 (by omega)
                      have h68 := t62.sz hM55
                      clear k59 k56 k57 k58 lo60 hM55 t62
                      refine wpl_run rfl (Value.int .i64 (wrap64 (((iq : Nat) : Int) + 1))) _ (run_as (x := (.tmp 68)) rfl _ rfl) ?_; simp only [pA]
                      obtain ⟨M69, hM69⟩ := sz_some xw61
                      have lt_70 := k64.ltN hM69
                      have lt_71 := k65.ltN hM69
                      have lt_72 := k66.ltN hM69
                      have lt_73 := k63.ltN hM69
                      go_wp2_with fail
                      go_meet
                      exact ⟨by rw [EV1.out, wrap_id (by omega) (by omega)]; rfl, k64, k65, k66, (by rw [EV1.out, rgA_succ]; exact k63), lo67⟩
                case rest =>
                  as_aux_lemma =>
                    clear k49 k50 k51 k52 lo53 hM48
                    obtain ⟨rfl, kc0, kc1, kc2, kc3, lo⟩ := hcut
                    obtain ⟨M54, hM54⟩ := sz_some wc
                    have lt_55 := kc0.ltN hM54
                    have lt_56 := kc1.ltN hM54
                    have lt_57 := kc2.ltN hM54
                    have lt_58 := kc3.ltN hM54
                    have lN_59 := below_sz lo hN hM54
                    go_upto_region 15 with fail
                    refine wp_region_lit ?_
                    try simp only [pA]
                    change wpList _ _ _ ((_ :: []) ++ (_ :: _ :: [])) _ _
                    refine wpList_prefix (C := fun w' => ∃ x : Later M54 wc, w' = x.w') _ _ _ _ ⟨⟨_, Below.refl _ _⟩, rfl⟩ ?_
                    refine later_row hM54 76 (.tmp 3) rfl ((M1 + 1)) rfl 76 273 _ kc1 undSt szSt (by rfl) ?_; simp only [pA]
                    refine wpQuiet_nil ?_
                    rintro xw60 ⟨qxw60, exw60⟩
                    have hbxw60 := qxw60.b
                    rw [← exw60] at hbxw60
                    clear qxw60 exw60
                    obtain ⟨M61, hM61⟩ := sz_some xw60
                    have lM61 := below_sz hbxw60 hM54 hM61
                    have k62 := kc0.below hbxw60 (by omega)
                    have k63 := kc1.below hbxw60 (by omega)
                    have k64 := kc2.below hbxw60 (by omega)
                    have k65 := kc3.below hbxw60 (by omega)
                    have lo66 := lo.trans (hbxw60.mono (by omega))
                    clear kc0 kc1 kc2 kc3 lo hbxw60
                    obtain ⟨b_xw67, eb_xw67⟩ : ∃ b_xw67, b_xw67 = M61 := ⟨_, rfl⟩
                    have hzb_xw67 : Sz xw60 b_xw67 := by rw [eb_xw67]; exact hM61
                    have lob_xw67 : M61 ≤ b_xw67 := by omega
                    have upb_xw67 : b_xw67 ≤ M61 := by omega
                    clear eb_xw67
                    refine wpl_alloc rfl 76 rfl 273 (stC zeroS) zeSt b_xw67 hzb_xw67 ?_
                    intro xw67 hMxw67 hbxw67 hhxw67; simp only [pA]
                    have k68 := k62.below hbxw67 (by omega)
                    have k69 := k63.below hbxw67 (by omega)
                    have k70 := k64.below hbxw67 (by omega)
                    have k71 := k65.below hbxw67 (by omega)
                    have lo72 := lo66.trans (hbxw67.mono (by omega))
                    clear k62 k63 k64 k65 lo66 hbxw67 hzb_xw67
                    obtain ⟨M73, eM73⟩ : ∃ M73, M73 = b_xw67 + 1 := ⟨_, rfl⟩
                    rw [← eM73] at hMxw67
                    have loM73 : b_xw67 + 1 ≤ M73 := by omega
                    have upM73 : M73 ≤ b_xw67 + 1 := by omega
                    clear eM73
                    refine wpl_store rfl 76 (.tmp 11) (.tmp 69) rfl b_xw67 273 (stC (stOf Wv Kv)) rfl rfl 76 _ hhxw67 szSt (fun j _ => stC_one _ j) ?_
                    intro xw74 t75 k76; try simp only [pA]
                    have k77 := k68.touch t75 (by omega)
                    have k78 := k69.touch t75 (by omega)
                    have k79 := k70.touch t75 (by omega)
                    have k80 := k71.touch t75 (by omega)
                    have lo81 := t75.below lo72 (by omega)
                    have h82 := t75.sz hMxw67
                    clear hhxw67 k68 k69 k70 k71 lo72 hMxw67 t75
                    obtain ⟨M83, hM83⟩ := sz_some xw74
                    have lt_84 := k77.ltN hM83
                    have lt_85 := k78.ltN hM83
                    have lt_86 := k79.ltN hM83
                    have lt_87 := k80.ltN hM83
                    have lt_88 := k76.ltN hM83
                    obtain ⟨S1, ok, e2⟩ : ∃ S o, saveF (stOf Wv Kv) (Z iq).at_ ((n : Nat) : Int) (rgA vN) = (S, o) := pair_ex _
                    obtain ⟨okr, Wn, Kn, ey⟩ : ∃ o W K, refF Wv Kv (atF (Z iq).at_) n vN = (o, W, K) := ⟨_, _, _, rfl⟩
                    have hsame := save_same Wv Kv (Z iq).at_ HAT.out n vN HN.out
                    rw [e2, ey] at hsame
                    obtain ⟨eo, hcells, hno⟩ := hsame
                    replace eo : ok = okr := eo
                    subst eo
                    have hsv := cs_save HAT.out.2 e2
                    have HC := hid hcells
                    have HNO := hid hno
                    have EY := hid ey
                    clear e2 ey hcells hno
                    have hvN : vN ≤ iq + 1 := by rw [EVN.out]; cases bV; exact Nat.zero_le _; exact Nat.le_refl _
                    go_upto_region 16 with fail
                    refine wp_region_lit ?_
                    try simp only [pA]
                    change wpList _ _ _ ((_ :: _ :: _ :: _ :: _ :: _ :: _ :: _ :: _ :: []) ++ (_ :: _ :: _ :: [])) _ _
                    obtain ⟨c89, c90, c91⟩ := ax_cells k79
                    refine wpList_prefix (C := fun w' => ∃ x : Later M83 xw74, w' = x.w') _ _ _ _ ⟨⟨_, Below.refl _ _⟩, rfl⟩ ?_
                    refine later_row hM83 76 (.tmp 3) rfl ((M1 + 1)) rfl 76 273 _ k78 undSt szSt (by rfl) ?_; simp only [pA]
                    go_big_quiet_step (fail)
                    refine later_c1 hM83 2 (.tmp 72) rfl rfl undI64 rfl c89 (by rfl) ?_; simp only [pA]
                    go_big_quiet_step (fail)
                    refine later_row hM83 71 (.tmp 9) rfl (b_xw25) rfl 71 11 _ k80 undAr szAr (by rfl) ?_; simp only [pA]
                    go_big_quiet_step ((go_at_call 45; exact later_of hM83 _ (fun K hK hKN => hsv _ K hK)))
                    go_big_quiet_step (fail)
                    go_big_quiet_step (fail)
                    go_big_quiet_step (fail)
                    refine wpQuiet_nil ?_
                    rintro xw92 ⟨qxw92, exw92⟩
                    have hbxw92 := qxw92.b
                    rw [← exw92] at hbxw92
                    clear qxw92 exw92
                    obtain ⟨M93, hM93⟩ := sz_some xw92
                    have lM93 := below_sz hbxw92 hM83 hM93
                    have k94 := k77.below hbxw92 (by omega)
                    have k95 := k78.below hbxw92 (by omega)
                    have k96 := k79.below hbxw92 (by omega)
                    have k97 := k80.below hbxw92 (by omega)
                    have k98 := k76.below hbxw92 (by omega)
                    have lo99 := lo81.trans (hbxw92.mono (by omega))
                    clear k77 k78 k79 c89 c90 c91 k80 k76 lo81 hbxw92
                    obtain ⟨b_xw100, eb_xw100⟩ : ∃ b_xw100, b_xw100 = M93 := ⟨_, rfl⟩
                    have hzb_xw100 : Sz xw92 b_xw100 := by rw [eb_xw100]; exact hM93
                    have lob_xw100 : M93 ≤ b_xw100 := by omega
                    have upb_xw100 : b_xw100 ≤ M93 := by omega
                    clear eb_xw100
                    refine wpl_alloc rfl 76 rfl 273 (stC zeroS) zeSt b_xw100 hzb_xw100 ?_
                    intro xw100 hMxw100 hbxw100 hhxw100; simp only [pA]
                    have k101 := k94.below hbxw100 (by omega)
                    have k102 := k95.below hbxw100 (by omega)
                    have k103 := k96.below hbxw100 (by omega)
                    have k104 := k97.below hbxw100 (by omega)
                    have k105 := k98.below hbxw100 (by omega)
                    have lo106 := lo99.trans (hbxw100.mono (by omega))
                    clear k94 k95 k96 k97 k98 lo99 hbxw100 hzb_xw100
                    obtain ⟨M107, eM107⟩ : ∃ M107, M107 = b_xw100 + 1 := ⟨_, rfl⟩
                    rw [← eM107] at hMxw100
                    have loM107 : b_xw100 + 1 ≤ M107 := by omega
                    have upM107 : M107 ≤ b_xw100 + 1 := by omega
                    clear eM107
                    refine wpl_store rfl 76 (.tmp 12) (.tmp 77) rfl b_xw100 273 (stC S1) rfl rfl 76 _ hhxw100 szSt (fun j _ => stC_one _ j) ?_
                    intro xw108 t109 k110; try simp only [pA]
                    have k111 := k101.touch t109 (by omega)
                    have k112 := k102.touch t109 (by omega)
                    have k113 := k103.touch t109 (by omega)
                    have k114 := k104.touch t109 (by omega)
                    have k115 := k105.touch t109 (by omega)
                    have lo116 := t109.below lo106 (by omega)
                    have h117 := t109.sz hMxw100
                    clear hhxw100 k101 k102 k103 k104 k105 lo106 hMxw100 t109
                    refine wpl_run rfl (Value.bool ok) _ (run_as (x := (.tmp 78)) rfl _ rfl) ?_; simp only [pA]
                    obtain ⟨M118, hM118⟩ := sz_some xw108
                    have lt_119 := k111.ltN hM118
                    have lt_120 := k112.ltN hM118
                    have lt_121 := k113.ltN hM118
                    have lt_122 := k114.ltN hM118
                    have lt_123 := k115.ltN hM118
                    have lt_124 := k110.ltN hM118
                    go_upto_region 17 with fail
                    go_cut [99] (fun v wx => v = (Value.bool false) ∧ Has wx M1 81 72 (skP (Wn, Kn)) ∧ Has wx (M1 + 1) 76 273 (stC (stOf Wv Kv)) ∧ Has wx M 83 3 (actC (Z iq)) ∧ Has wx b_xw25 71 11 (arC (rgA vN)) ∧ Has wx b_xw67 76 273 (stC (stOf Wv Kv)) ∧ Has wx b_xw100 76 273 (stC S1) ∧ Below N w wx)
                    case first =>
                      as_aux_lemma =>
                        have hb1000 : ∀ k, Kv k < 1000 := fun k => by have := HKb.out k; omega
                        have HB := hid hb1000
                        clear hb1000
                        cases ok
                        · have eS : S1 = stOf Wv Kv := (HNO.out rfl).1
                          have eK := (HNO.out rfl).2
                          obtain ⟨eW, eK2⟩ : Wv = Wn ∧ Kv = Kn := ⟨(congrArg Prod.fst eK).symm, (congrArg Prod.snd eK).symm⟩
                          subst eS; subst eW; subst eK2
                          clear eK
                          go_wp2_with (first
                            | (refine wpl_load rfl 76 (.tmp 3) rfl (M1 + 1) rfl 76 273 _ k112 _ undSt.choose_spec.1 undSt.choose_spec.2 szSt ?_)
                            | (refine wpl_load rfl 76 (.tmp 11) rfl b_xw67 rfl 76 273 _ k115 _ undSt.choose_spec.1 undSt.choose_spec.2 szSt ?_)
                            | (refine wpl_neq rfl 76 76 (.tmp 79) (.tmp 80) rfl _ _ rfl rfl true (by kernel_rfl) (run_eqSt HB.out _) ?_)
                            | (go_at_call 46; refine (RSave_all M1 Wv Kv (atF (Z iq).at_) n vN (atF_bnd _) HN.out (by omega) _ M118 hM118 k111).mono ?_; rintro e wz ⟨rfl, gz, kz⟩; rw [EY.out] at kz ⊢; replace kz : Has wz M1 81 72 (skP (Wv, Kv)) := kz)
                            | (refine wpl_want (by rfl) ?_; refine wpl_load rfl 76 (.tmp 12) rfl b_xw100 rfl 76 273 _ (k110.grew gz (by simp <;> omega)) _ undSt.choose_spec.1 undSt.choose_spec.2 szSt ?_)
                            | (refine wpl_want (by rfl) ?_; refine wpl_load rfl 76 (.tmp 3) rfl (M1 + 1) rfl 76 273 _ (k112.grew gz (by simp)) _ undSt.choose_spec.1 undSt.choose_spec.2 szSt ?_)
                            | (refine wpl_want (by rfl) ?_; refine wpl_neq rfl 76 76 (.tmp 95) (.tmp 96) rfl _ _ rfl rfl true (by kernel_rfl) (run_eqSt HB.out _) ?_)
                            | fail)
                          go_meet
                          exact ⟨rfl, kz, (k112.grew gz (by simp <;> omega)), (k113.grew gz (by simp <;> omega)), (k114.grew gz (by simp <;> omega)), (k115.grew gz (by simp <;> omega)), (k110.grew gz (by simp <;> omega)), gz.below lo116 (by have e : _ = _ := hM118; omega) (fun g hg => by cases hg; omega)⟩
                        · go_wp2_with (first
                            | (refine wpl_load rfl 76 (.tmp 3) rfl (M1 + 1) rfl 76 273 _ k112 _ undSt.choose_spec.1 undSt.choose_spec.2 szSt ?_)
                            | (refine wpl_load rfl 76 (.tmp 11) rfl b_xw67 rfl 76 273 _ k115 _ undSt.choose_spec.1 undSt.choose_spec.2 szSt ?_)
                            | (refine wpl_neq rfl 76 76 (.tmp 79) (.tmp 80) rfl _ _ rfl rfl true (by kernel_rfl) (run_eqSt HB.out _) ?_)
                            | (go_at_call 46; refine (RSave_all M1 Wv Kv (atF (Z iq).at_) n vN (atF_bnd _) HN.out (by omega) _ M118 hM118 k111).mono ?_; rintro e wz ⟨rfl, gz, kz⟩; rw [EY.out] at kz ⊢; replace kz : Has wz M1 81 72 (skP (Wn, Kn)) := kz)
                            | fail)
                          go_meet
                          exact ⟨rfl, kz, (k112.grew gz (by simp <;> omega)), (k113.grew gz (by simp <;> omega)), (k114.grew gz (by simp <;> omega)), (k115.grew gz (by simp <;> omega)), (k110.grew gz (by simp <;> omega)), gz.below lo116 (by have e : _ = _ := hM118; omega) (fun g hg => by cases hg; omega)⟩
                    case rest =>
                      as_aux_lemma =>
                        clear k111 k112 k113 k114 k115 k110 lo116 hM118
                        obtain ⟨rfl, kd0, kd1, kd2, kd3, kd4, kd5, lo⟩ := hcut
                        obtain ⟨M125, hM125⟩ := sz_some wc
                        have lt_126 := kd0.ltN hM125
                        have lt_127 := kd1.ltN hM125
                        have lt_128 := kd2.ltN hM125
                        have lt_129 := kd3.ltN hM125
                        have lt_130 := kd4.ltN hM125
                        have lt_131 := kd5.ltN hM125
                        have lN_132 := below_sz lo hN hM125
                        go_upto_region 19 with fail
                        refine wp_region_lit ?_
                        try simp only [pA]
                        change wpList _ _ _ ((_ :: []) ++ (_ :: [])) _ _
                        refine wpList_prefix (C := fun w' => ∃ x : Later M125 wc, w' = x.w') _ _ _ _ ⟨⟨_, Below.refl _ _⟩, rfl⟩ ?_
                        refine later_row hM125 76 (.tmp 12) rfl (b_xw100) rfl 76 273 _ kd5 undSt szSt (by rfl) ?_; simp only [pA]
                        refine wpQuiet_nil ?_
                        rintro xw133 ⟨qxw133, exw133⟩
                        have hbxw133 := qxw133.b
                        rw [← exw133] at hbxw133
                        clear qxw133 exw133
                        obtain ⟨M134, hM134⟩ := sz_some xw133
                        have lM134 := below_sz hbxw133 hM125 hM134
                        have k135 := kd0.below hbxw133 (by omega)
                        have k136 := kd1.below hbxw133 (by omega)
                        have k137 := kd2.below hbxw133 (by omega)
                        have k138 := kd3.below hbxw133 (by omega)
                        have k139 := kd4.below hbxw133 (by omega)
                        have k140 := kd5.below hbxw133 (by omega)
                        have lo141 := lo.trans (hbxw133.mono (by omega))
                        clear kd0 kd1 kd2 kd3 kd4 kd5 lo hbxw133
                        refine wpl_store rfl 76 (.tmp 3) (.tmp 100) rfl (M1 + 1) 273 (stC S1) rfl rfl 76 _ k136 szSt (fun j _ => stC_one _ j) ?_
                        intro xw142 t143 k144; try simp only [pA]
                        have k145 := k135.touch t143 (by omega)
                        have k146 := k137.touch t143 (by omega)
                        have k147 := k138.touch t143 (by omega)
                        have k148 := k139.touch t143 (by omega)
                        have k149 := k140.touch t143 (by omega)
                        have lo150 := t143.below lo141 (by omega)
                        have h151 := t143.sz hM134
                        clear k136 k135 k137 k138 k139 k140 lo141 hM134 t143
                        obtain ⟨M152, hM152⟩ := sz_some xw142
                        have lt_153 := k145.ltN hM152
                        have lt_154 := k144.ltN hM152
                        have lt_155 := k146.ltN hM152
                        have lt_156 := k147.ltN hM152
                        have lt_157 := k148.ltN hM152
                        have lt_158 := k149.ltN hM152
                        have kT : Has xw142 (M1 + 1) 76 273 (stC (stOf Wn Kn)) := k144.congr HC.out
                        have hKn : ∀ k, Kn k ≤ iq + 1 := fun k => by
                          have h1 := HKb.out
                          have h2 := refF_le Wv Kv (atF (Z iq).at_) n vN (iq + 1) (fun k => by have := h1 k; omega) hvN k
                          rw [EY.out] at h2; exact h2
                        have HKN := hid hKn
                        clear hKn
                        go_wp2_with fail
                        go_loopg [14, 15, 16, 17, 18] (8) (fun g x14 x15 x16 x17 x18 wr => ∃ kq : Nat, kq ≤ 8 ∧ g = 8 - kq ∧ x14 = .int .i64 (kq : Int) ∧ Has wr M1 81 72 (skP (Wn, Kn)) ∧ Has wr (M1 + 1) 76 273 (stC (stOf Wn Kn)) ∧ Below N w wr)
                        case atStart => exact ⟨0, by omega, rfl, rfl, k145, kT, lo150⟩
                        case round =>
                          clear k145 kT lo150
                          obtain ⟨kq, hkkq, rfl, rfl, k159, k160, lo161⟩ := hrel
                          obtain ⟨M162, hM162⟩ := sz_some wr
                          have lt_163 := k159.ltN hM162
                          have lt_164 := k160.ltN hM162
                          have kq0 : (0 : Int) ≤ (kq : Int) := by omega
                          by_cases hlk : kq < 8
                          · have t1 : ((kq : Nat) : Int) < 8 := by omega
                            have hld := cs_load (place_lt (a := (wrap64 ((wrap64 (8 * ((kq : Nat) : Int))) - 64))) rfl) (load_word (W := Wn) (K := Kn) hlk)
                            go_upto_region 23 with fail
                            refine wp_region_lit ?_
                            try simp only [pA]
                            change wpList _ _ _ ((_ :: _ :: _ :: _ :: _ :: _ :: _ :: _ :: []) ++ (_ :: _ :: _ :: [])) _ _
                            refine wpList_prefix (C := fun w' => ∃ x : Later M162 wr, w' = x.w') _ _ _ _ ⟨⟨_, Below.refl _ _⟩, rfl⟩ ?_
                            refine later_row hM162 76 (.tmp 3) rfl ((M1 + 1)) rfl 76 273 _ k160 undSt szSt (by rfl) ?_; simp only [pA]
                            go_big_quiet_step (fail)
                            refine later_val (fun q => run_mulI (x := (.const (.int .i64 8))) (y := (.tmp 107)) rfl rfl rfl (p := 8) (q := ((kq : Nat) : Int)) q.w') (by rfl) ?_; simp only [pA]
                            refine later_val (fun q => run_subI (x := (.tmp 108)) (y := (.const (.int .i64 64))) rfl rfl rfl (p := (wrap64 (8 * ((kq : Nat) : Int)))) (q := 64) q.w') (by rfl) ?_; simp only [pA]
                            go_big_quiet_step ((go_at_call 47; exact later_of hM162 _ (fun K hK hKN => hld _ K hK)))
                            go_big_quiet_step (fail)
                            go_big_quiet_step (fail)
                            go_big_quiet_step (fail)
                            refine wpQuiet_nil ?_
                            rintro xw165 ⟨qxw165, exw165⟩
                            have hbxw165 := qxw165.b
                            rw [← exw165] at hbxw165
                            clear qxw165 exw165
                            obtain ⟨M166, hM166⟩ := sz_some xw165
                            have lM166 := below_sz hbxw165 hM162 hM166
                            have k167 := k159.below hbxw165 (by omega)
                            have k168 := k160.below hbxw165 (by omega)
                            have lo169 := lo161.trans (hbxw165.mono (by omega))
                            clear k159 k160 lo161 hbxw165
                            obtain ⟨b_xw170, eb_xw170⟩ : ∃ b_xw170, b_xw170 = M166 := ⟨_, rfl⟩
                            have hzb_xw170 : Sz xw165 b_xw170 := by rw [eb_xw170]; exact hM166
                            have lob_xw170 : M166 ≤ b_xw170 := by omega
                            have upb_xw170 : b_xw170 ≤ M166 := by omega
                            clear eb_xw170
                            refine wpl_alloc rfl 71 rfl 11 (arC zeroA) zeAr b_xw170 hzb_xw170 ?_
                            intro xw170 hMxw170 hbxw170 hhxw170; simp only [pA]
                            have k171 := k167.below hbxw170 (by omega)
                            have k172 := k168.below hbxw170 (by omega)
                            have lo173 := lo169.trans (hbxw170.mono (by omega))
                            clear k167 k168 lo169 hbxw170 hzb_xw170
                            obtain ⟨M174, eM174⟩ : ∃ M174, M174 = b_xw170 + 1 := ⟨_, rfl⟩
                            rw [← eM174] at hMxw170
                            have loM174 : b_xw170 + 1 ≤ M174 := by omega
                            have upM174 : M174 ≤ b_xw170 + 1 := by omega
                            clear eM174
                            refine wpl_store rfl 71 (.tmp 15) (.tmp 111) rfl b_xw170 11 (arC (ldA Wn Kn kq)) rfl rfl 71 _ hhxw170 szAr (fun j _ => arC_one _ j) ?_
                            intro xw175 t176 k177; try simp only [pA]
                            have k178 := k171.touch t176 (by omega)
                            have k179 := k172.touch t176 (by omega)
                            have lo180 := t176.below lo173 (by omega)
                            have h181 := t176.sz hMxw170
                            clear hhxw170 k171 k172 lo173 hMxw170 t176
                            refine wpl_run rfl (Value.bool (ldB Wn Kn kq)) _ (run_as (x := (.tmp 112)) rfl _ rfl) ?_; simp only [pA]
                            obtain ⟨M182, hM182⟩ := sz_some xw175
                            have lt_183 := k178.ltN hM182
                            have lt_184 := k179.ltN hM182
                            have lt_185 := k177.ltN hM182
                            obtain ⟨LA, eLA⟩ : ∃ x, x = ldA Wn Kn kq := ⟨_, rfl⟩
                            obtain ⟨LB, eLB⟩ : ∃ x, x = ldB Wn Kn kq := ⟨_, rfl⟩
                            rw [← eLB]
                            rw [← eLA] at k177
                            have ELA := hid eLA
                            have ELB := hid eLB
                            clear eLA eLB hld
                            have e8 : (wrap64 (8 * ((kq : Nat) : Int))) = 8 * ((kq : Nat) : Int) := wrap_id (by omega) (by omega)
                            have e88 : (wrap64 ((wrap64 (8 * ((kq : Nat) : Int))) + 8)) = 8 * ((kq : Nat) : Int) + 8 := by rw [e8]; exact wrap_id (by omega) (by omega)
                            have E8 := hid e8
                            have E88 := hid e88
                            clear e8 e88
                            go_upto_region 25 with fail
                            refine wp_region_later1 (M182) ?_
                            try simp only [pA]
                            go_big_quiet_step (fail)
                            refine later_val (fun q => run_mulI (x := (.const (.int .i64 8))) (y := (.tmp 113)) rfl rfl rfl (p := 8) (q := ((kq : Nat) : Int)) q.w') (by rfl) ?_; simp only [pA]
                            go_big_quiet_step (fail)
                            refine wpQuiet_nil ?_
                            rintro xw186 ⟨qxw186, exw186⟩
                            have hbxw186 := qxw186.b
                            rw [← exw186] at hbxw186
                            clear qxw186 exw186
                            obtain ⟨M187, hM187⟩ := sz_some xw186
                            have lM187 := below_sz hbxw186 hM182 hM187
                            have k188 := k178.below hbxw186 (by omega)
                            have k189 := k179.below hbxw186 (by omega)
                            have k190 := k177.below hbxw186 (by omega)
                            have lo191 := lo180.trans (hbxw186.mono (by omega))
                            clear k178 k179 k177 lo180 hbxw186
                            go_wp2_with fail
                            go_loopg [17, 18] (8) (fun g x17 x18 wr => ∃ jq : Nat, jq ≤ 8 ∧ g = 8 - jq ∧ x18 = .int .i64 ((8 * kq + jq : Nat) : Int) ∧ x17 = .bool (rdW Wn kq jq) ∧ Has wr M1 81 72 (skP (Wn, Kn)) ∧ Has wr (M1 + 1) 76 273 (stC (stOf Wn Kn)) ∧ Has wr b_xw170 71 11 (arC LA) ∧ Below N w wr)
                            case atStart => exact ⟨0, by omega, rfl, congrArg (Value.int .i64) (by rw [E8.out]; omega), by rw [rdW_zero], k188, k189, k190, lo191⟩
                            case round =>
                              clear k188 k189 k190 lo191 hM187
                              obtain ⟨jq, hj8, rfl, rfl, rfl, ke0, ke1, ke2, lo⟩ := hrel
                              obtain ⟨M192, hM192⟩ := sz_some wr
                              have lt_193 := ke0.ltN hM192
                              have lt_194 := ke1.ltN hM192
                              have lt_195 := ke2.ltN hM192
                              have lN_196 := below_sz lo hN hM192
                              obtain ⟨ej, eej⟩ : ∃ x, x = 8 * kq + jq := ⟨_, rfl⟩
                              rw [← eej]
                              obtain ⟨rd, erd⟩ : ∃ x, x = rdW Wn kq jq := ⟨_, rfl⟩
                              rw [← erd]
                              have ERD := hid erd
                              clear erd
                              by_cases hj : jq < 8
                              · have hej : ej < 64 := by omega
                                have EEJ := hid eej
                                obtain ⟨bw, ebw⟩ : ∃ x, x = Wn ej := ⟨_, rfl⟩
                                have EBW := hid ebw
                                clear eej ebw
                                have tj : Hid ((decide (((ej : Nat) : Int) < (wrap64 ((wrap64 (8 * ((kq : Nat) : Int))) + 8)))) = true) := hid (by rw [E88.out, EEJ.out]; exact decide_eq_true (by omega))
                                go_upto_region 26 with fail
                                refine wp_region_later1 (M192) ?_
                                try simp only [pA]
                                go_big_quiet_step (fail)
                                go_big_quiet_step (fail)
                                refine later_val (fun q => run_mulI (x := (.const (.int .i64 8))) (y := (.tmp 116)) rfl rfl rfl (p := 8) (q := ((kq : Nat) : Int)) q.w') (by rfl) ?_; simp only [pA]
                                refine later_val (fun q => run_addI (x := (.tmp 117)) (y := (.const (.int .i64 8))) rfl rfl rfl (p := (wrap64 (8 * ((kq : Nat) : Int)))) (q := 8) q.w') (by rfl) ?_; simp only [pA]
                                refine later_val (fun q => run_lssI (x := (.tmp 115)) (y := (.tmp 118)) rfl rfl rfl (p := ((ej : Nat) : Int)) (q := (wrap64 ((wrap64 (8 * ((kq : Nat) : Int))) + 8))) (r := true) tj.out q.w') (by rfl) ?_; simp only [pA]
                                refine wpQuiet_nil ?_
                                rintro xw197 ⟨qxw197, exw197⟩
                                have hbxw197 := qxw197.b
                                rw [← exw197] at hbxw197
                                clear qxw197 exw197
                                obtain ⟨M198, hM198⟩ := sz_some xw197
                                have lM198 := below_sz hbxw197 hM192 hM198
                                have k199 := ke0.below hbxw197 (by omega)
                                have k200 := ke1.below hbxw197 (by omega)
                                have k201 := ke2.below hbxw197 (by omega)
                                have lo202 := lo.trans (hbxw197.mono (by omega))
                                clear ke0 ke1 ke2 lo hbxw197
                                have cW : xw197.cell? ⟨M1, 0 + ej, none⟩ = some (.bool bw) := by (have hq := k199.cell (j := ej) (by omega); rw [show skP (Wn, Kn) ej = .bool (Wn ej) from skC_W Wn Kn hej] at hq; rw [EBW.out, Nat.zero_add]; exact hq)
                                have hrd := fun w N hN => Ready_any (stOf Wn Kn) (wrap64 (((ej : Nat) : Int) - 64)) 1 (place_lt (a := (wrap64 (((ej : Nat) : Int) - 64))) rfl) w N hN
                                rw [ready_byte hej, ← EBW.out] at hrd
                                have j1 : (0 : Int) ≤ (ej : Int) := by omega
                                have j2 : (ej : Int) < 64 := by omega
                                cases bw
                                · as_aux_lemma =>
                                    cases rd
                                    · go_upto_region 28 with fail
                                      refine wp_region_later1 (M198) ?_
                                      try simp only [pA]
                                      go_big_quiet_step (fail)
                                      go_big_quiet_step (fail)
                                      go_big_quiet_step (fail)
                                      go_big_quiet_step (fail)
                                      go_big_quiet_step (fail)
                                      go_big_quiet_step (fail)
                                      go_big_quiet_step (fail)
                                      go_big_quiet_step (fail)
                                      go_big_quiet_step (fail)
                                      go_big_quiet_step (fail)
                                      refine wpQuiet_nil ?_
                                      rintro xw203 ⟨qxw203, exw203⟩
                                      have hbxw203 := qxw203.b
                                      rw [← exw203] at hbxw203
                                      clear qxw203 exw203
                                      obtain ⟨M204, hM204⟩ := sz_some xw203
                                      have lM204 := below_sz hbxw203 hM198 hM204
                                      have k205 := k199.below hbxw203 (by omega)
                                      have k206 := k200.below hbxw203 (by omega)
                                      have k207 := k201.below hbxw203 (by omega)
                                      have lo208 := lo202.trans (hbxw203.mono (by omega))
                                      clear k199 k200 k201 lo202 hbxw203
                                      have cW2 : xw203.cell? ⟨M1, 0 + ej, none⟩ = some (.bool false) := by (have hq := k205.cell (j := ej) (by omega); rw [show skP (Wn, Kn) ej = .bool (Wn ej) from skC_W Wn Kn hej, ← EBW.out] at hq; rw [Nat.zero_add]; exact hq)
                                      go_upto_region 29 with fail
                                      refine wp_region_later (M204) (by kernel_rfl) (by kernel_rfl) ?_
                                      try simp only [pA]
                                      refine later_row hM204 76 (.tmp 3) rfl ((M1 + 1)) rfl 76 273 _ k206 undSt szSt (by rfl) ?_; simp only [pA]
                                      go_big_quiet_step (fail)
                                      refine later_val (fun q => run_subI (x := (.tmp 132)) (y := (.const (.int .i64 64))) rfl rfl rfl (p := ((ej : Nat) : Int)) (q := 64) q.w') (by rfl) ?_; simp only [pA]
                                      go_big_quiet_step ((go_at_call 48; exact later_of hM204 _ (fun K hK hKN => hrd _ K hK)))
                                      go_big_quiet_step (fail)
                                      go_big_quiet_step (fail)
                                      go_big_quiet_step (fail)
                                      go_big_quiet_step (fail)
                                      refine later_val (fun q => run_iaS 73 (.tmp 138) (.tmp 136) rfl rfl rfl (off := 0) (k := ej) undA64 szB1 (by omega) q.w') (by rfl) ?_; simp only [pA]
                                      refine later_c1 hM204 4 (.tmp 139) rfl rfl undBool rfl cW2 (by rfl) ?_; simp only [pA]
                                      go_big_quiet_step (fail)
                                      refine wpQuiet_nil ?_
                                      rintro xw209 ⟨qxw209, exw209⟩
                                      have hbxw209 := qxw209.b
                                      rw [← exw209] at hbxw209
                                      clear qxw209 exw209
                                      obtain ⟨M210, hM210⟩ := sz_some xw209
                                      have lM210 := below_sz hbxw209 hM204 hM210
                                      have k211 := k205.below hbxw209 (by omega)
                                      have k212 := k206.below hbxw209 (by omega)
                                      have k213 := k207.below hbxw209 (by omega)
                                      have lo214 := lo208.trans (hbxw209.mono (by omega))
                                      clear k205 k206 k207 lo208 hbxw209
                                      go_wp2_with fail
                                      go_roundg (8 - (jq + 1))
                                      case rel => exact ⟨jq + 1, by omega, rfl, congrArg (Value.int .i64) (by have e := EEJ.out; omega), by rw [rdW_succ, ← ERD.out, ← EEJ.out, ← EBW.out]; rfl, k211, k212, k213, lo214⟩
                                      case measure => omega
                                    · go_upto_region 28 with fail
                                      refine wp_region_later1 (M198) ?_
                                      try simp only [pA]
                                      go_big_quiet_step (fail)
                                      go_big_quiet_step (fail)
                                      go_big_quiet_step (fail)
                                      go_big_quiet_step (fail)
                                      go_big_quiet_step (fail)
                                      go_big_quiet_step (fail)
                                      refine later_val (fun q => run_iaS 73 (.tmp 127) (.tmp 125) rfl rfl rfl (off := 0) (k := ej) undA64 szB1 (by omega) q.w') (by rfl) ?_; simp only [pA]
                                      refine later_c1 hM198 4 (.tmp 128) rfl rfl undBool rfl cW (by rfl) ?_; simp only [pA]
                                      go_big_quiet_step (fail)
                                      go_big_quiet_step (fail)
                                      refine wpQuiet_nil ?_
                                      rintro xw203 ⟨qxw203, exw203⟩
                                      have hbxw203 := qxw203.b
                                      rw [← exw203] at hbxw203
                                      clear qxw203 exw203
                                      obtain ⟨M204, hM204⟩ := sz_some xw203
                                      have lM204 := below_sz hbxw203 hM198 hM204
                                      have k205 := k199.below hbxw203 (by omega)
                                      have k206 := k200.below hbxw203 (by omega)
                                      have k207 := k201.below hbxw203 (by omega)
                                      have lo208 := lo202.trans (hbxw203.mono (by omega))
                                      clear k199 k200 k201 lo202 hbxw203
                                      have cW2 : xw203.cell? ⟨M1, 0 + ej, none⟩ = some (.bool false) := by (have hq := k205.cell (j := ej) (by omega); rw [show skP (Wn, Kn) ej = .bool (Wn ej) from skC_W Wn Kn hej, ← EBW.out] at hq; rw [Nat.zero_add]; exact hq)
                                      go_upto_region 29 with fail
                                      refine wp_region_later (M204) (by kernel_rfl) (by kernel_rfl) ?_
                                      try simp only [pA]
                                      refine later_row hM204 76 (.tmp 3) rfl ((M1 + 1)) rfl 76 273 _ k206 undSt szSt (by rfl) ?_; simp only [pA]
                                      go_big_quiet_step (fail)
                                      refine later_val (fun q => run_subI (x := (.tmp 132)) (y := (.const (.int .i64 64))) rfl rfl rfl (p := ((ej : Nat) : Int)) (q := 64) q.w') (by rfl) ?_; simp only [pA]
                                      go_big_quiet_step ((go_at_call 48; exact later_of hM204 _ (fun K hK hKN => hrd _ K hK)))
                                      go_big_quiet_step (fail)
                                      go_big_quiet_step (fail)
                                      go_big_quiet_step (fail)
                                      go_big_quiet_step (fail)
                                      refine later_val (fun q => run_iaS 73 (.tmp 138) (.tmp 136) rfl rfl rfl (off := 0) (k := ej) undA64 szB1 (by omega) q.w') (by rfl) ?_; simp only [pA]
                                      refine later_c1 hM204 4 (.tmp 139) rfl rfl undBool rfl cW2 (by rfl) ?_; simp only [pA]
                                      go_big_quiet_step (fail)
                                      refine wpQuiet_nil ?_
                                      rintro xw209 ⟨qxw209, exw209⟩
                                      have hbxw209 := qxw209.b
                                      rw [← exw209] at hbxw209
                                      clear qxw209 exw209
                                      obtain ⟨M210, hM210⟩ := sz_some xw209
                                      have lM210 := below_sz hbxw209 hM204 hM210
                                      have k211 := k205.below hbxw209 (by omega)
                                      have k212 := k206.below hbxw209 (by omega)
                                      have k213 := k207.below hbxw209 (by omega)
                                      have lo214 := lo208.trans (hbxw209.mono (by omega))
                                      clear k205 k206 k207 lo208 hbxw209
                                      go_wp2_with fail
                                      go_roundg (8 - (jq + 1))
                                      case rel => exact ⟨jq + 1, by omega, rfl, congrArg (Value.int .i64) (by have e := EEJ.out; omega), by rw [rdW_succ, ← ERD.out, ← EEJ.out, ← EBW.out]; rfl, k211, k212, k213, lo214⟩
                                      case measure => omega
                                · as_aux_lemma =>
                                    cases rd
                                    · go_upto_region 28 with fail
                                      refine wp_region_later1 (M198) ?_
                                      try simp only [pA]
                                      go_big_quiet_step (fail)
                                      go_big_quiet_step (fail)
                                      go_big_quiet_step (fail)
                                      go_big_quiet_step (fail)
                                      go_big_quiet_step (fail)
                                      go_big_quiet_step (fail)
                                      go_big_quiet_step (fail)
                                      go_big_quiet_step (fail)
                                      go_big_quiet_step (fail)
                                      go_big_quiet_step (fail)
                                      refine wpQuiet_nil ?_
                                      rintro xw203 ⟨qxw203, exw203⟩
                                      have hbxw203 := qxw203.b
                                      rw [← exw203] at hbxw203
                                      clear qxw203 exw203
                                      obtain ⟨M204, hM204⟩ := sz_some xw203
                                      have lM204 := below_sz hbxw203 hM198 hM204
                                      have k205 := k199.below hbxw203 (by omega)
                                      have k206 := k200.below hbxw203 (by omega)
                                      have k207 := k201.below hbxw203 (by omega)
                                      have lo208 := lo202.trans (hbxw203.mono (by omega))
                                      clear k199 k200 k201 lo202 hbxw203
                                      have cW2 : xw203.cell? ⟨M1, 0 + ej, none⟩ = some (.bool true) := by (have hq := k205.cell (j := ej) (by omega); rw [show skP (Wn, Kn) ej = .bool (Wn ej) from skC_W Wn Kn hej, ← EBW.out] at hq; rw [Nat.zero_add]; exact hq)
                                      go_upto_region 29 with fail
                                      refine wp_region_later (M204) (by kernel_rfl) (by kernel_rfl) ?_
                                      try simp only [pA]
                                      refine later_row hM204 76 (.tmp 3) rfl ((M1 + 1)) rfl 76 273 _ k206 undSt szSt (by rfl) ?_; simp only [pA]
                                      go_big_quiet_step (fail)
                                      refine later_val (fun q => run_subI (x := (.tmp 132)) (y := (.const (.int .i64 64))) rfl rfl rfl (p := ((ej : Nat) : Int)) (q := 64) q.w') (by rfl) ?_; simp only [pA]
                                      go_big_quiet_step ((go_at_call 48; exact later_of hM204 _ (fun K hK hKN => hrd _ K hK)))
                                      go_big_quiet_step (fail)
                                      go_big_quiet_step (fail)
                                      go_big_quiet_step (fail)
                                      go_big_quiet_step (fail)
                                      refine later_val (fun q => run_iaS 73 (.tmp 138) (.tmp 136) rfl rfl rfl (off := 0) (k := ej) undA64 szB1 (by omega) q.w') (by rfl) ?_; simp only [pA]
                                      refine later_c1 hM204 4 (.tmp 139) rfl rfl undBool rfl cW2 (by rfl) ?_; simp only [pA]
                                      go_big_quiet_step (fail)
                                      refine wpQuiet_nil ?_
                                      rintro xw209 ⟨qxw209, exw209⟩
                                      have hbxw209 := qxw209.b
                                      rw [← exw209] at hbxw209
                                      clear qxw209 exw209
                                      obtain ⟨M210, hM210⟩ := sz_some xw209
                                      have lM210 := below_sz hbxw209 hM204 hM210
                                      have k211 := k205.below hbxw209 (by omega)
                                      have k212 := k206.below hbxw209 (by omega)
                                      have k213 := k207.below hbxw209 (by omega)
                                      have lo214 := lo208.trans (hbxw209.mono (by omega))
                                      clear k205 k206 k207 lo208 hbxw209
                                      go_wp2_with fail
                                      go_roundg (8 - (jq + 1))
                                      case rel => exact ⟨jq + 1, by omega, rfl, congrArg (Value.int .i64) (by have e := EEJ.out; omega), by rw [rdW_succ, ← ERD.out, ← EEJ.out, ← EBW.out]; rfl, k211, k212, k213, lo214⟩
                                      case measure => omega
                                    · go_upto_region 28 with fail
                                      refine wp_region_later1 (M198) ?_
                                      try simp only [pA]
                                      go_big_quiet_step (fail)
                                      go_big_quiet_step (fail)
                                      go_big_quiet_step (fail)
                                      go_big_quiet_step (fail)
                                      go_big_quiet_step (fail)
                                      go_big_quiet_step (fail)
                                      refine later_val (fun q => run_iaS 73 (.tmp 127) (.tmp 125) rfl rfl rfl (off := 0) (k := ej) undA64 szB1 (by omega) q.w') (by rfl) ?_; simp only [pA]
                                      refine later_c1 hM198 4 (.tmp 128) rfl rfl undBool rfl cW (by rfl) ?_; simp only [pA]
                                      go_big_quiet_step (fail)
                                      go_big_quiet_step (fail)
                                      refine wpQuiet_nil ?_
                                      rintro xw203 ⟨qxw203, exw203⟩
                                      have hbxw203 := qxw203.b
                                      rw [← exw203] at hbxw203
                                      clear qxw203 exw203
                                      obtain ⟨M204, hM204⟩ := sz_some xw203
                                      have lM204 := below_sz hbxw203 hM198 hM204
                                      have k205 := k199.below hbxw203 (by omega)
                                      have k206 := k200.below hbxw203 (by omega)
                                      have k207 := k201.below hbxw203 (by omega)
                                      have lo208 := lo202.trans (hbxw203.mono (by omega))
                                      clear k199 k200 k201 lo202 hbxw203
                                      have cW2 : xw203.cell? ⟨M1, 0 + ej, none⟩ = some (.bool true) := by (have hq := k205.cell (j := ej) (by omega); rw [show skP (Wn, Kn) ej = .bool (Wn ej) from skC_W Wn Kn hej, ← EBW.out] at hq; rw [Nat.zero_add]; exact hq)
                                      go_upto_region 29 with fail
                                      refine wp_region_later (M204) (by kernel_rfl) (by kernel_rfl) ?_
                                      try simp only [pA]
                                      refine later_row hM204 76 (.tmp 3) rfl ((M1 + 1)) rfl 76 273 _ k206 undSt szSt (by rfl) ?_; simp only [pA]
                                      go_big_quiet_step (fail)
                                      refine later_val (fun q => run_subI (x := (.tmp 132)) (y := (.const (.int .i64 64))) rfl rfl rfl (p := ((ej : Nat) : Int)) (q := 64) q.w') (by rfl) ?_; simp only [pA]
                                      go_big_quiet_step ((go_at_call 48; exact later_of hM204 _ (fun K hK hKN => hrd _ K hK)))
                                      go_big_quiet_step (fail)
                                      go_big_quiet_step (fail)
                                      go_big_quiet_step (fail)
                                      go_big_quiet_step (fail)
                                      refine later_val (fun q => run_iaS 73 (.tmp 138) (.tmp 136) rfl rfl rfl (off := 0) (k := ej) undA64 szB1 (by omega) q.w') (by rfl) ?_; simp only [pA]
                                      refine later_c1 hM204 4 (.tmp 139) rfl rfl undBool rfl cW2 (by rfl) ?_; simp only [pA]
                                      go_big_quiet_step (fail)
                                      refine wpQuiet_nil ?_
                                      rintro xw209 ⟨qxw209, exw209⟩
                                      have hbxw209 := qxw209.b
                                      rw [← exw209] at hbxw209
                                      clear qxw209 exw209
                                      obtain ⟨M210, hM210⟩ := sz_some xw209
                                      have lM210 := below_sz hbxw209 hM204 hM210
                                      have k211 := k205.below hbxw209 (by omega)
                                      have k212 := k206.below hbxw209 (by omega)
                                      have k213 := k207.below hbxw209 (by omega)
                                      have lo214 := lo208.trans (hbxw209.mono (by omega))
                                      clear k205 k206 k207 lo208 hbxw209
                                      go_wp2_with fail
                                      go_roundg (8 - (jq + 1))
                                      case rel => exact ⟨jq + 1, by omega, rfl, congrArg (Value.int .i64) (by have e := EEJ.out; omega), by rw [rdW_succ, ← ERD.out, ← EEJ.out, ← EBW.out]; rfl, k211, k212, k213, lo214⟩
                                      case measure => omega
                              · as_aux_lemma =>
                                  have hje : jq = 8 := by omega
                                  subst hje
                                  have tj : Hid ((decide (((ej : Nat) : Int) < (wrap64 ((wrap64 (8 * ((kq : Nat) : Int))) + 8)))) = false) := hid (by rw [E88.out, eej]; exact decide_eq_false (by omega))
                                  clear eej
                                  go_upto_region 26 with fail
                                  refine wp_region_later1 (M192) ?_
                                  try simp only [pA]
                                  go_big_quiet_step (fail)
                                  go_big_quiet_step (fail)
                                  refine later_val (fun q => run_mulI (x := (.const (.int .i64 8))) (y := (.tmp 116)) rfl rfl rfl (p := 8) (q := ((kq : Nat) : Int)) q.w') (by rfl) ?_; simp only [pA]
                                  refine later_val (fun q => run_addI (x := (.tmp 117)) (y := (.const (.int .i64 8))) rfl rfl rfl (p := (wrap64 (8 * ((kq : Nat) : Int)))) (q := 8) q.w') (by rfl) ?_; simp only [pA]
                                  refine later_val (fun q => run_lssI (x := (.tmp 115)) (y := (.tmp 118)) rfl rfl rfl (p := ((ej : Nat) : Int)) (q := (wrap64 ((wrap64 (8 * ((kq : Nat) : Int))) + 8))) (r := false) tj.out q.w') (by rfl) ?_; simp only [pA]
                                  refine wpQuiet_nil ?_
                                  rintro xw197 ⟨qxw197, exw197⟩
                                  have hbxw197 := qxw197.b
                                  rw [← exw197] at hbxw197
                                  clear qxw197 exw197
                                  obtain ⟨M198, hM198⟩ := sz_some xw197
                                  have lM198 := below_sz hbxw197 hM192 hM198
                                  have k199 := ke0.below hbxw197 (by omega)
                                  have k200 := ke1.below hbxw197 (by omega)
                                  have k201 := ke2.below hbxw197 (by omega)
                                  have lo202 := lo.trans (hbxw197.mono (by omega))
                                  clear ke0 ke1 ke2 lo hbxw197
                                  obtain ⟨kk, ekk⟩ : ∃ x : Nat, x = Kn kq := ⟨_, rfl⟩
                                  have EKK := hid ekk
                                  clear ekk
                                  have cK : xw197.cell? ⟨M1, 64 + kq, none⟩ = some (.int .i64 ((kk : Nat) : Int)) := by (have hq := k199.cell (j := 64 + kq) (by omega); rw [show skP (Wn, Kn) (64 + kq) = .int .i64 ((Kn kq : Nat) : Int) from skC_K Wn Kn kq] at hq; rw [EKK.out]; exact hq)
                                  have k0 : (0 : Int) ≤ (kq : Int) := by omega
                                  by_cases hk0 : kk = 0
                                  · have P0 : Hid ((decide (0 < ((kk : Nat) : Int))) = false) := hid (decide_eq_false (by omega))
                                    have Z0 : Hid ((((kk : Nat) : Int) == 0) = true) := hid (beq_iff_eq.2 (by omega))
                                    have hkn : Kn kq = 0 := by rw [← EKK.out]; exact hk0
                                    have e1 : LB = rd := by rw [ELB.out, ERD.out]; exact ldB_zero hkn
                                    subst e1
                                    have hA : rdW Wn kq 8 = true → LA.k = 1 := fun hh => by rw [ELA.out]; exact ldA_zero hkn hh
                                    have HA := hid hA
                                    clear hA hk0 hkn
                                    cases LB
                                    · skip
                                      go_upto_region 31 with fail
                                      obtain ⟨c203, c204, c205, c206, c207, c208, c209, c210, c211, c212, c213⟩ := ar_cells k201
                                      first | refine wp_region_later1 (M198) ?_ | refine wp_region_laterL (M198) (by kernel_rfl) (by kernel_rfl) ?_
                                      try simp only [pA]
                                      go_big_quiet_step (fail)
                                      go_big_quiet_step (fail)
                                      go_big_quiet_step (fail)
                                      go_big_quiet_step (fail)
                                      refine later_val (fun q => run_iaS 79 (.tmp 145) (.tmp 143) rfl rfl rfl (off := 64) (k := kq) undA8 szI1 (by omega) q.w') (by rfl) ?_; simp only [pA]
                                      refine later_c1 hM198 3 (.tmp 146) rfl rfl undInt rfl cK (by rfl) ?_; simp only [pA]
                                      refine later_val (fun q => run_gtrI (x := (.tmp 147)) (y := (.const (.int .i64 0))) rfl rfl rfl (p := ((kk : Nat) : Int)) (q := 0) (r := false) P0.out q.w') (by rfl) ?_; simp only [pA]
                                      go_big_quiet_step (fail)
                                      go_big_quiet_step (fail)
                                      go_big_quiet_step (fail)
                                      go_big_quiet_step (fail)
                                      go_big_quiet_step (fail)
                                      go_big_quiet_step (fail)
                                      go_big_quiet_step (fail)
                                      go_big_quiet_step (fail)
                                      go_big_quiet_step (fail)
                                      go_big_quiet_step (fail)
                                      go_big_quiet_step (fail)
                                      go_big_quiet_step (fail)
                                      go_big_quiet_step (fail)
                                      go_big_quiet_step (fail)
                                      go_big_quiet_step (fail)
                                      go_big_quiet_step (fail)
                                      go_big_quiet_step (fail)
                                      go_big_quiet_step (fail)
                                      go_big_quiet_step (fail)
                                      go_big_quiet_step (fail)
                                      go_big_quiet_step (fail)
                                      go_big_quiet_step (fail)
                                      go_big_quiet_step (fail)
                                      go_big_quiet_step (fail)
                                      go_big_quiet_step (fail)
                                      go_big_quiet_step (fail)
                                      refine later_val (fun q => run_iaS 79 (.tmp 174) (.tmp 172) rfl rfl rfl (off := 64) (k := kq) undA8 szI1 (by omega) q.w') (by rfl) ?_; simp only [pA]
                                      refine later_c1 hM198 3 (.tmp 175) rfl rfl undInt rfl cK (by rfl) ?_; simp only [pA]
                                      refine later_val (fun q => run_eqlI (x := (.tmp 176)) (y := (.const (.int .i64 0))) rfl rfl rfl (p := ((kk : Nat) : Int)) (q := 0) (r := true) Z0.out q.w') (by rfl) ?_; simp only [pA]
                                      go_big_quiet_step (fail)
                                      go_big_quiet_step (fail)
                                      go_big_quiet_step (fail)
                                      go_big_quiet_step (fail)
                                      go_big_quiet_step (fail)
                                      go_big_quiet_step (fail)
                                      go_big_quiet_step (fail)
                                      go_big_quiet_step (fail)
                                      go_big_quiet_step (fail)
                                      go_big_quiet_step (fail)
                                      go_big_quiet_step (fail)
                                      go_big_quiet_step (fail)
                                      go_big_quiet_step (fail)
                                      go_big_quiet_step (fail)
                                      refine wpQuiet_nil ?_
                                      rintro xw214 ⟨qxw214, exw214⟩
                                      have hbxw214 := qxw214.b
                                      rw [← exw214] at hbxw214
                                      clear qxw214 exw214
                                      obtain ⟨M215, hM215⟩ := sz_some xw214
                                      have lM215 := below_sz hbxw214 hM198 hM215
                                      have k216 := k199.below hbxw214 (by omega)
                                      have k217 := k200.below hbxw214 (by omega)
                                      have k218 := k201.below hbxw214 (by omega)
                                      have lo219 := lo202.trans (hbxw214.mono (by omega))
                                      clear k199 k200 k201 c203 c204 c205 c206 c207 c208 c209 c210 c211 c212 c213 lo202 hbxw214
                                      go_wp2_with fail
                                      go_roundg (8 - (kq + 1))
                                      case rel => exact ⟨kq + 1, by omega, rfl, by simp, k216, k217, lo219⟩
                                      case measure => omega
                                    · have D1 : Hid ((LA.k != 1) = false) := hid (by rw [HA.out ERD.out.symm]; rfl)
                                      go_upto_region 31 with fail
                                      obtain ⟨c203, c204, c205, c206, c207, c208, c209, c210, c211, c212, c213⟩ := ar_cells k201
                                      first | refine wp_region_later1 (M198) ?_ | refine wp_region_laterL (M198) (by kernel_rfl) (by kernel_rfl) ?_
                                      try simp only [pA]
                                      go_big_quiet_step (fail)
                                      go_big_quiet_step (fail)
                                      go_big_quiet_step (fail)
                                      go_big_quiet_step (fail)
                                      refine later_val (fun q => run_iaS 79 (.tmp 145) (.tmp 143) rfl rfl rfl (off := 64) (k := kq) undA8 szI1 (by omega) q.w') (by rfl) ?_; simp only [pA]
                                      refine later_c1 hM198 3 (.tmp 146) rfl rfl undInt rfl cK (by rfl) ?_; simp only [pA]
                                      refine later_val (fun q => run_gtrI (x := (.tmp 147)) (y := (.const (.int .i64 0))) rfl rfl rfl (p := ((kk : Nat) : Int)) (q := 0) (r := false) P0.out q.w') (by rfl) ?_; simp only [pA]
                                      go_big_quiet_step (fail)
                                      go_big_quiet_step (fail)
                                      go_big_quiet_step (fail)
                                      go_big_quiet_step (fail)
                                      go_big_quiet_step (fail)
                                      go_big_quiet_step (fail)
                                      go_big_quiet_step (fail)
                                      go_big_quiet_step (fail)
                                      go_big_quiet_step (fail)
                                      go_big_quiet_step (fail)
                                      go_big_quiet_step (fail)
                                      go_big_quiet_step (fail)
                                      go_big_quiet_step (fail)
                                      go_big_quiet_step (fail)
                                      go_big_quiet_step (fail)
                                      go_big_quiet_step (fail)
                                      go_big_quiet_step (fail)
                                      go_big_quiet_step (fail)
                                      go_big_quiet_step (fail)
                                      go_big_quiet_step (fail)
                                      go_big_quiet_step (fail)
                                      go_big_quiet_step (fail)
                                      go_big_quiet_step (fail)
                                      go_big_quiet_step (fail)
                                      go_big_quiet_step (fail)
                                      go_big_quiet_step (fail)
                                      refine later_val (fun q => run_iaS 79 (.tmp 174) (.tmp 172) rfl rfl rfl (off := 64) (k := kq) undA8 szI1 (by omega) q.w') (by rfl) ?_; simp only [pA]
                                      refine later_c1 hM198 3 (.tmp 175) rfl rfl undInt rfl cK (by rfl) ?_; simp only [pA]
                                      refine later_val (fun q => run_eqlI (x := (.tmp 176)) (y := (.const (.int .i64 0))) rfl rfl rfl (p := ((kk : Nat) : Int)) (q := 0) (r := true) Z0.out q.w') (by rfl) ?_; simp only [pA]
                                      go_big_quiet_step (fail)
                                      go_big_quiet_step (fail)
                                      go_big_quiet_step (fail)
                                      go_big_quiet_step (fail)
                                      go_big_quiet_step (fail)
                                      go_big_quiet_step (fail)
                                      go_big_quiet_step (fail)
                                      go_big_quiet_step (fail)
                                      refine later_c1 hM198 3 (.tmp 185) rfl rfl undInt rfl c203 (by rfl) ?_; simp only [pA]
                                      refine later_val (fun q => run_neqI (x := (.tmp 186)) (y := (.const (.int .i64 1))) rfl rfl rfl (p := LA.k) (q := 1) (r := false) D1.out q.w') (by rfl) ?_; simp only [pA]
                                      go_big_quiet_step (fail)
                                      go_big_quiet_step (fail)
                                      go_big_quiet_step (fail)
                                      go_big_quiet_step (fail)
                                      refine wpQuiet_nil ?_
                                      rintro xw214 ⟨qxw214, exw214⟩
                                      have hbxw214 := qxw214.b
                                      rw [← exw214] at hbxw214
                                      clear qxw214 exw214
                                      obtain ⟨M215, hM215⟩ := sz_some xw214
                                      have lM215 := below_sz hbxw214 hM198 hM215
                                      have k216 := k199.below hbxw214 (by omega)
                                      have k217 := k200.below hbxw214 (by omega)
                                      have k218 := k201.below hbxw214 (by omega)
                                      have lo219 := lo202.trans (hbxw214.mono (by omega))
                                      clear k199 k200 k201 c203 c204 c205 c206 c207 c208 c209 c210 c211 c212 c213 lo202 hbxw214
                                      go_wp2_with fail
                                      go_roundg (8 - (kq + 1))
                                      case rel => exact ⟨kq + 1, by omega, rfl, by simp, k216, k217, lo219⟩
                                      case measure => omega
                                  · as_aux_lemma =>
                                      have P1 : Hid ((decide (0 < ((kk : Nat) : Int))) = true) := hid (decide_eq_true (by omega))
                                      have Z1 : Hid ((((kk : Nat) : Int) == 0) = false) := hid (beq_false_of_ne (by omega))
                                      have hkn : ¬ Kn kq = 0 := by rw [← EKK.out]; exact hk0
                                      have e1 : LB = true := by rw [ELB.out]; exact ldB_pos hkn
                                      have e5 := ldA_pos (W := Wn) hkn
                                      rw [← ELA.out, ← EKK.out] at e5
                                      subst e1
                                      have hkb : kk ≤ iq + 1 := by rw [EKK.out]; exact HKN.out kq
                                      have D5 : Hid ((LA.k != 5) = false) := hid (by rw [e5.1]; rfl)
                                      have D6 : Hid ((LA.lo != (wrap64 (((kk : Nat) : Int) - 1))) = false) := hid (by rw [e5.2, wrap_id (by omega) (by omega)]; simp)
                                      clear e5 hkn hk0
                                      go_upto_region 31 with fail
                                      obtain ⟨c203, c204, c205, c206, c207, c208, c209, c210, c211, c212, c213⟩ := ar_cells k201
                                      first | refine wp_region_later1 (M198) ?_ | refine wp_region_laterL (M198) (by kernel_rfl) (by kernel_rfl) ?_
                                      try simp only [pA]
                                      go_big_quiet_step (fail)
                                      go_big_quiet_step (fail)
                                      go_big_quiet_step (fail)
                                      go_big_quiet_step (fail)
                                      refine later_val (fun q => run_iaS 79 (.tmp 145) (.tmp 143) rfl rfl rfl (off := 64) (k := kq) undA8 szI1 (by omega) q.w') (by rfl) ?_; simp only [pA]
                                      refine later_c1 hM198 3 (.tmp 146) rfl rfl undInt rfl cK (by rfl) ?_; simp only [pA]
                                      refine later_val (fun q => run_gtrI (x := (.tmp 147)) (y := (.const (.int .i64 0))) rfl rfl rfl (p := ((kk : Nat) : Int)) (q := 0) (r := true) P1.out q.w') (by rfl) ?_; simp only [pA]
                                      go_big_quiet_step (fail)
                                      go_big_quiet_step (fail)
                                      go_big_quiet_step (fail)
                                      go_big_quiet_step (fail)
                                      go_big_quiet_step (fail)
                                      refine later_c1 hM198 3 (.tmp 153) rfl rfl undInt rfl c203 (by rfl) ?_; simp only [pA]
                                      refine later_val (fun q => run_neqI (x := (.tmp 154)) (y := (.const (.int .i64 5))) rfl rfl rfl (p := LA.k) (q := 5) (r := false) D5.out q.w') (by rfl) ?_; simp only [pA]
                                      go_big_quiet_step (fail)
                                      go_big_quiet_step (fail)
                                      go_big_quiet_step (fail)
                                      refine later_c1 hM198 2 (.tmp 158) rfl rfl undI64 rfl c212 (by rfl) ?_; simp only [pA]
                                      go_big_quiet_step (fail)
                                      go_big_quiet_step (fail)
                                      go_big_quiet_step (fail)
                                      go_big_quiet_step (fail)
                                      refine later_val (fun q => run_iaS 79 (.tmp 163) (.tmp 161) rfl rfl rfl (off := 64) (k := kq) undA8 szI1 (by omega) q.w') (by rfl) ?_; simp only [pA]
                                      refine later_c1 hM198 3 (.tmp 164) rfl rfl undInt rfl cK (by rfl) ?_; simp only [pA]
                                      refine later_val (fun q => run_subI (x := (.tmp 165)) (y := (.const (.int .i64 1))) rfl rfl rfl (p := ((kk : Nat) : Int)) (q := 1) q.w') (by rfl) ?_; simp only [pA]
                                      refine later_val (fun q => run_neqI (x := (.tmp 159)) (y := (.tmp 166)) rfl rfl rfl (p := LA.lo) (q := (wrap64 (((kk : Nat) : Int) - 1))) (r := false) D6.out q.w') (by rfl) ?_; simp only [pA]
                                      go_big_quiet_step (fail)
                                      go_big_quiet_step (fail)
                                      go_big_quiet_step (fail)
                                      go_big_quiet_step (fail)
                                      go_big_quiet_step (fail)
                                      go_big_quiet_step (fail)
                                      go_big_quiet_step (fail)
                                      refine later_val (fun q => run_iaS 79 (.tmp 174) (.tmp 172) rfl rfl rfl (off := 64) (k := kq) undA8 szI1 (by omega) q.w') (by rfl) ?_; simp only [pA]
                                      refine later_c1 hM198 3 (.tmp 175) rfl rfl undInt rfl cK (by rfl) ?_; simp only [pA]
                                      refine later_val (fun q => run_eqlI (x := (.tmp 176)) (y := (.const (.int .i64 0))) rfl rfl rfl (p := ((kk : Nat) : Int)) (q := 0) (r := false) Z1.out q.w') (by rfl) ?_; simp only [pA]
                                      go_big_quiet_step (fail)
                                      go_big_quiet_step (fail)
                                      go_big_quiet_step (fail)
                                      go_big_quiet_step (fail)
                                      go_big_quiet_step (fail)
                                      go_big_quiet_step (fail)
                                      go_big_quiet_step (fail)
                                      go_big_quiet_step (fail)
                                      go_big_quiet_step (fail)
                                      go_big_quiet_step (fail)
                                      go_big_quiet_step (fail)
                                      go_big_quiet_step (fail)
                                      go_big_quiet_step (fail)
                                      go_big_quiet_step (fail)
                                      refine wpQuiet_nil ?_
                                      rintro xw214 ⟨qxw214, exw214⟩
                                      have hbxw214 := qxw214.b
                                      rw [← exw214] at hbxw214
                                      clear qxw214 exw214
                                      obtain ⟨M215, hM215⟩ := sz_some xw214
                                      have lM215 := below_sz hbxw214 hM198 hM215
                                      have k216 := k199.below hbxw214 (by omega)
                                      have k217 := k200.below hbxw214 (by omega)
                                      have k218 := k201.below hbxw214 (by omega)
                                      have lo219 := lo202.trans (hbxw214.mono (by omega))
                                      clear k199 k200 k201 c203 c204 c205 c206 c207 c208 c209 c210 c211 c212 c213 lo202 hbxw214
                                      go_wp2_with fail
                                      go_roundg (8 - (kq + 1))
                                      case rel => exact ⟨kq + 1, by omega, rfl, by simp, k216, k217, lo219⟩
                                      case measure => omega
                          · have hke : kq = 8 := by omega
                            subst hke
                            have i0 : (0 : Int) ≤ (iq : Int) := by omega
                            have i1 : (iq : Int) < 40 := by omega
                            go_wp2_with fail
                            go_roundg (nr - (iq + 1))
                            case rel => exact ⟨iq + 1, by omega, by omega, rfl, by simp, Wn, Kn, HKN.out, k159, k160, lo161⟩
                            case measure => omega
    · have cse : (iq < nr → iq = 40) := fun hh => by omega
      by_cases hnr : iq < nr
      · as_aux_lemma =>
          have h40 : iq = 40 := cse hnr
          have t1 : Hid ((decide (((iq : Nat) : Int) < ((nr : Nat) : Int))) = true) := hid (decide_eq_true (by omega))
          have t2 : Hid ((decide (((iq : Nat) : Int) < 40)) = false) := hid (decide_eq_false (by omega))
          clear h40 cse hnr hlt hi2
          go_upto_region 5 with fail
          refine wp_region_later1 (M) ?_
          try simp only [pA]
          go_big_quiet_step (fail)
          go_big_quiet_step (fail)
          refine later_val (fun q => run_lenS undAxs (x := (.tmp 29)) rfl rfl q.w') (by rfl) ?_; simp only [pA]
          refine later_val (fun q => run_lssI (x := (.tmp 28)) (y := (.tmp 30)) rfl rfl rfl (p := ((iq : Nat) : Int)) (q := ((nr : Nat) : Int)) (r := true) t1.out q.w') (by rfl) ?_; simp only [pA]
          go_big_quiet_step (fail)
          go_big_quiet_step (fail)
          refine later_val (fun q => run_lssI (x := (.tmp 33)) (y := (.const (.int .i64 40))) rfl rfl rfl (p := ((iq : Nat) : Int)) (q := 40) (r := false) t2.out q.w') (by rfl) ?_; simp only [pA]
          go_big_quiet_step (fail)
          refine wpQuiet_nil ?_
          rintro xw6 ⟨qxw6, exw6⟩
          have hbxw6 := qxw6.b
          rw [← exw6] at hbxw6
          clear qxw6 exw6
          obtain ⟨M7, hM7⟩ := sz_some xw6
          have lM7 := below_sz hbxw6 hM hM7
          have k8 := kK.below hbxw6 (by omega)
          have k9 := kS.below hbxw6 (by omega)
          have lo10 := lo.trans (hbxw6.mono (by omega))
          clear kK kS lo hbxw6
          have sv1 := cs_save (s := (stOf Wv Kv)) (S := (stOf Wv Kv)) (a := -8) (n := 3) (r := numA (cR 1#64)) (o := false) (by decide) rfl
          have sv2 := cs_save (s := (stOf Wv Kv)) (S := (stOf Wv Kv)) (a := -8) (n := 8) (r := ⟨0, zeroR, 0, 0, 0, 0⟩) (o := false) (by decide) (by unfold saveF; rw [show sizeF 8 = true from rfl, inside_t (by decide) (by decide) (by decide)]; rfl)
          have rd1 := fun w N hN => Ready_any (stOf Wv Kv) 0 0 (by decide) w N hN
          rw [show readyF (stOf Wv Kv) 0 0 = true from rfl] at rd1
          have rd2 := fun w N hN => Ready_any (stOf Wv Kv) (-65) 1 (by decide) w N hN
          rw [show readyF (stOf Wv Kv) (-65) 1 = false from rfl] at rd2
          have rd3 := fun w N hN => Ready_any (stOf Wv Kv) (-1) 2 (by decide) w N hN
          rw [show readyF (stOf Wv Kv) (-1) 2 = false by unfold readyF; rw [inside_f (by decide) (by decide) (by decide)]; rfl] at rd3
          go_upto_region 33 with fail
          refine wp_mid (fun ac (zb : Nat) => ((((((((ac.put (some 193) (Value.agg (cellsOf (stC (stOf Wv Kv)) 273))).put (some 194) (Value.agg (cellsOf (arC (numA (cR 1#64))) 11))).put (some 195) (Value.tuple #[(Value.agg (cellsOf (stC (stOf Wv Kv)) 273)), (Value.bool false)])).put (some 192) (Value.tuple #[(Value.agg (cellsOf (stC (stOf Wv Kv)) 273)), (Value.bool false)])).put (some 196) (Value.agg (cellsOf (stC (stOf Wv Kv)) 273))).put (some 197) (Value.bool false)).put (some 19) (.pointer (some ⟨zb, 0, none⟩))).put (some 20) (Value.bool false))) (fun zb w' => Has w' zb 76 273 (stC (stOf Wv Kv)) ∧ M7 ≤ zb ∧ Has w' M1 81 72 (skP (Wv, Kv)) ∧ Has w' (M1 + 1) 76 273 (stC (stOf Wv Kv)) ∧ Below N w w') ?_ ?_
          · refine wp_region_any (by kernel_rfl) ?_
            replace k8 : Has xw6.drew M1 81 72 (skP (Wv, Kv)) := k8
            replace k9 : Has xw6.drew (M1 + 1) 76 273 (stC (stOf Wv Kv)) := k9
            replace hM7 : Sz xw6.drew M7 := hM7
            replace lo10 : Below N w xw6.drew := lo10.drew
            change wpAny _ _ _ _ _ _ _ (World.drew _)
            generalize xw6.drew = xw12 at *
            refine wpAny_potL (lt := [5]) (rem := [0, 1, 2, 3, 4, 5, 6]) (FG M7 (fun j => if j = 0 then some (Value.agg (cellsOf (stC (stOf Wv Kv)) 273)) else if j = 1 then some (Value.agg (cellsOf (arC (numA (cR 1#64))) 11)) else if j = 2 then some (Value.tuple #[(Value.agg (cellsOf (stC (stOf Wv Kv)) 273)), (Value.bool false)]) else if j = 3 then some (Value.tuple #[(Value.agg (cellsOf (stC (stOf Wv Kv)) 273)), (Value.bool false)]) else if j = 4 then some (Value.agg (cellsOf (stC (stOf Wv Kv)) 273)) else if j = 5 then some (Value.bool false) else none) (fun j => (76, 273, stC zeroS))) (TwoN (fun j => if j = 0 then some (Value.agg (cellsOf (stC (stOf Wv Kv)) 273)) else if j = 1 then some (Value.agg (cellsOf (arC (numA (cR 1#64))) 11)) else if j = 2 then some (Value.tuple #[(Value.agg (cellsOf (stC (stOf Wv Kv)) 273)), (Value.bool false)]) else if j = 3 then some (Value.tuple #[(Value.agg (cellsOf (stC (stOf Wv Kv)) 273)), (Value.bool false)]) else if j = 4 then some (Value.agg (cellsOf (stC (stOf Wv Kv)) 273)) else if j = 5 then some (Value.bool false) else none)) (Below M7 xw12) _ _ _ _ (by kernel_rfl) (size_dstG (by kernel_rfl)) (Below.refl _ _) ?_ ?_
            · intro i hi ac wa hI ha hv
              simp only [List.mem_cons, List.not_mem_nil, or_false] at hi
              rcases hi with rfl | rfl | rfl | rfl | rfl | rfl | rfl
              · exact potg_run rfl rfl (Value.agg (cellsOf (stC (stOf Wv Kv)) 273)) rfl (run_rw 76 (.tmp 3) rfl (M1 + 1) (ha 3 (not_dstG (by kernel_rfl))) 76 273 _ (Has.below k9 hI (Has.ltN k9 hM7)) undSt szSt) hM7 hI
              · exact potg_cl rfl rfl 44 _ _ rfl #[(Q 1#64)] (by kernel_rfl) (by kernel_rfl) (Value.agg (cellsOf (arC (numA (cR 1#64))) 11)) (fun K hK => Number_any 1#64 wa K hK) rfl hM7 hI
              · obtain ⟨v0, hv0a, hv0b⟩ := hv 0 (by simp) (by kernel_rfl)
                have ev0 := hv0b.val rfl
                subst ev0
                obtain ⟨v1, hv1a, hv1b⟩ := hv 1 (by simp) (by kernel_rfl)
                have ev1 := hv1b.val rfl
                subst ev1
                exact potg_cl rfl rfl 45 _ _ rfl #[(Value.agg (cellsOf (stC (stOf Wv Kv)) 273)), (Value.int .i64 (-8)), (Value.int .i64 3), (Value.agg (cellsOf (arC (numA (cR 1#64))) 11))] (by simp only [List.map_toArray, List.map_cons, List.map_nil, (show ac.eval (.tmp 193) = (Value.agg (cellsOf (stC (stOf Wv Kv)) 273)) from (hv0a 193 rfl)), (show ac.eval (.tmp 194) = (Value.agg (cellsOf (arC (numA (cR 1#64))) 11)) from (hv1a 194 rfl))] <;> rfl) (by kernel_rfl) (Value.tuple #[(Value.agg (cellsOf (stC (stOf Wv Kv)) 273)), (Value.bool false)]) (fun K hK => sv1 wa K hK) rfl hM7 hI
              · obtain ⟨v2, hv2a, hv2b⟩ := hv 2 (by simp) (by kernel_rfl)
                have ev2 := hv2b.val rfl
                subst ev2
                exact potg_run rfl rfl (Value.tuple #[(Value.agg (cellsOf (stC (stOf Wv Kv)) 273)), (Value.bool false)]) rfl (run_mv (x := (.tmp 195)) rfl _ (hv2a 195 rfl)) hM7 hI
              · obtain ⟨v3, hv3a, hv3b⟩ := hv 3 (by simp) (by kernel_rfl)
                have ev3 := hv3b.val rfl
                subst ev3
                exact potg_run rfl rfl (Value.agg (cellsOf (stC (stOf Wv Kv)) 273)) rfl (run_ex (x := (.tmp 192)) rfl _ (hv3a 192 rfl) rfl) hM7 hI
              · obtain ⟨v3, hv3a, hv3b⟩ := hv 3 (by simp) (by kernel_rfl)
                have ev3 := hv3b.val rfl
                subst ev3
                exact potg_run rfl rfl (Value.bool false) rfl (run_ex (x := (.tmp 192)) rfl _ (hv3a 192 rfl) rfl) hM7 hI
              · exact potg_al rfl rfl rfl zeSt rfl rfl hM7 hI
            · intro L vals w5_11_ hb5_11_ hF hG hL
              have l0 := hL 0 (by simp) rfl
              have l1 := hL 1 (by simp) rfl
              have l2 := hL 2 (by simp) rfl
              have l3 := hL 3 (by simp) rfl
              have l4 := hL 4 (by simp) rfl
              have l6 := hL 6 (by simp) rfl
              clear hL
              cases c5 : L 5
              · have e_11_0 := (hF 0 (by simp) l0).val rfl
                have e_11_1 := (hF 1 (by simp) l1).val rfl
                have e_11_2 := (hF 2 (by simp) l2).val rfl
                have e_11_3 := (hF 3 (by simp) l3).val rfl
                have e_11_4 := (hF 4 (by simp) l4).val rfl
                obtain ⟨b_11_6, bl_11_6, e_11_6, h_11_6⟩ := (hF 6 (by simp) l6).al rfl rfl
                clear hF hG
                rw [show left L [0, 1, 2, 3, 4, 5, 6] = 1 from by simp [left, l0, l1, l2, l3, l4, l6, c5]]
                refine wpAny_fuel (n := 3) (by kernel_rfl) ?_
                simp only [marks, puts, l0, l1, l2, l3, l4, l6, c5, if_true, if_false, Bool.false_eq_true, dstOf, List.getElem?_toArray, List.getElem?_cons_succ, List.getElem?_cons_zero, Option.bind_some, Act.put, List.setIfInBounds_toArray, List.set_cons_succ, List.set_cons_zero, e_11_0, e_11_1, e_11_2, e_11_3, e_11_4, e_11_6]
                clear e_11_0 e_11_1 e_11_2 e_11_3 e_11_4 e_11_6 l0 l1 l2 l3 l4 l6 c5
                have k13 := k8.below hb5_11_ (by omega)
                have k14 := k9.below hb5_11_ (by omega)
                have lo15 := lo10.trans (hb5_11_.mono (by omega))
                obtain ⟨M5, hM5⟩ := sz_some w5_11_
                have lM5 := below_sz hb5_11_ hM7 hM5
                clear k8 k9 lo10 hb5_11_
                refine wpAny_of_held (S := fun _ => True) _ _ _ _ ?_
                refine held_take (i := 5) (v := (Value.bool false)) (d := some 197) rfl (by kernel_rfl) (by kernel_rfl) (by kernel_rfl) (by kernel_rfl) (fun _ _ _ h => by cases h.1) (Or.inl ⟨by rfl, fun wq _ => run_ex (x := (.tmp 192)) rfl wq rfl rfl⟩) trivial ?_; simp only [pA]
                refine wpAnyH_all (rs := [7]) (by kernel_rfl) (by simp) ?_
                intro iq hiq; simp only [List.mem_singleton] at hiq; subst hiq
                refine opg_list rfl ?_
                refine wpl_storeN (by rfl) (by kernel_rfl) 76 (.tmp 19) (.tmp 196) rfl b_11_6 273 (stC (stOf Wv Kv)) rfl rfl 76 _ h_11_6 szSt (fun j _ => stC_one _ j) ?_
                intro xw16 t17 k18; try simp only [pA]
                have k19 := k13.touch t17 (by omega)
                have k20 := k14.touch t17 (by omega)
                have lo21 := t17.below lo15 (by omega)
                have h22 := t17.sz hM5
                clear h_11_6 k13 k14 lo15 hM5 t17
                refine ⟨trivial, ?_⟩
                refine wpAnyH_all (rs := [8]) (by kernel_rfl) (by simp) ?_
                intro iq hiq; simp only [List.mem_singleton] at hiq; subst hiq
                refine opg_list rfl ?_
                refine wpl_runD rfl (d := some 20) rfl (Value.bool false) (run_as (x := (.tmp 197)) rfl _ rfl) ?_; simp only [pA]
                refine ⟨trivial, ?_⟩
                refine wpAnyH_done (by kernel_rfl) ?_ _
                refine ⟨rfl, b_11_6, (by simp only [pA]), k18, bl_11_6, k19, k20, lo21⟩
              · have e_11_0 := (hF 0 (by simp) l0).val rfl
                have e_11_1 := (hF 1 (by simp) l1).val rfl
                have e_11_2 := (hF 2 (by simp) l2).val rfl
                have e_11_3 := (hF 3 (by simp) l3).val rfl
                have e_11_4 := (hF 4 (by simp) l4).val rfl
                have e_11_5 := (hF 5 (by simp) c5).val rfl
                obtain ⟨b_11_6, bl_11_6, e_11_6, h_11_6⟩ := (hF 6 (by simp) l6).al rfl rfl
                clear hF hG
                rw [show left L [0, 1, 2, 3, 4, 5, 6] = 0 from by simp [left, l0, l1, l2, l3, l4, l6, c5]]
                refine wpAny_fuel (n := 2) (by kernel_rfl) ?_
                simp only [marks, puts, l0, l1, l2, l3, l4, l6, c5, if_true, if_false, Bool.false_eq_true, dstOf, List.getElem?_toArray, List.getElem?_cons_succ, List.getElem?_cons_zero, Option.bind_some, Act.put, List.setIfInBounds_toArray, List.set_cons_succ, List.set_cons_zero, e_11_0, e_11_1, e_11_2, e_11_3, e_11_4, e_11_5, e_11_6]
                clear e_11_0 e_11_1 e_11_2 e_11_3 e_11_4 e_11_5 e_11_6 l0 l1 l2 l3 l4 l6 c5
                have k13 := k8.below hb5_11_ (by omega)
                have k14 := k9.below hb5_11_ (by omega)
                have lo15 := lo10.trans (hb5_11_.mono (by omega))
                obtain ⟨M5, hM5⟩ := sz_some w5_11_
                have lM5 := below_sz hb5_11_ hM7 hM5
                clear k8 k9 lo10 hb5_11_
                refine wpAny_of_held (S := fun _ => True) _ _ _ _ ?_
                refine wpAnyH_all (rs := [7]) (by kernel_rfl) (by simp) ?_
                intro iq hiq; simp only [List.mem_singleton] at hiq; subst hiq
                refine opg_list rfl ?_
                refine wpl_storeN (by rfl) (by kernel_rfl) 76 (.tmp 19) (.tmp 196) rfl b_11_6 273 (stC (stOf Wv Kv)) rfl rfl 76 _ h_11_6 szSt (fun j _ => stC_one _ j) ?_
                intro xw16 t17 k18; try simp only [pA]
                have k19 := k13.touch t17 (by omega)
                have k20 := k14.touch t17 (by omega)
                have lo21 := t17.below lo15 (by omega)
                have h22 := t17.sz hM5
                clear h_11_6 k13 k14 lo15 hM5 t17
                refine ⟨trivial, ?_⟩
                refine wpAnyH_all (rs := [8]) (by kernel_rfl) (by simp) ?_
                intro iq hiq; simp only [List.mem_singleton] at hiq; subst hiq
                refine opg_list rfl ?_
                refine wpl_runD rfl (d := some 20) rfl (Value.bool false) (run_as (x := (.tmp 197)) rfl _ rfl) ?_; simp only [pA]
                refine ⟨trivial, ?_⟩
                refine wpAnyH_done (by kernel_rfl) ?_ _
                refine ⟨rfl, b_11_6, (by simp only [pA]), k18, bl_11_6, k19, k20, lo21⟩
          · clear k8 k9 lo10
            rintro b_11_x0 xw16 ⟨k12, lb_11_x0, k13, k14, lo15⟩
            try dsimp only at *
            try simp only [pA]
            obtain ⟨M17, hM17⟩ := sz_some xw16
            have lt_18 := k13.ltN hM17
            have lt_19 := k14.ltN hM17
            have lt_20 := k12.ltN hM17
            go_upto_region 34 with fail
            refine wp_region_lit ?_
            try simp only [pA]
            change wpList _ _ _ ((_ :: _ :: _ :: _ :: _ :: _ :: []) ++ (_ :: _ :: _ :: [])) _ _
            refine wpList_prefix (C := fun w' => ∃ x : Later M17 xw16, w' = x.w') _ _ _ _ ⟨⟨_, Below.refl _ _⟩, rfl⟩ ?_
            refine later_row hM17 76 (.tmp 3) rfl ((M1 + 1)) rfl 76 273 _ k14 undSt szSt (by rfl) ?_; simp only [pA]
            refine later_val (fun q => run_bd 71 _ rfl (cellsOf (arC ⟨0, zeroR, 0, 0, 0, 0⟩) 11) (by kernel_rfl) q.w') (by rfl) ?_; simp only [pA]
            go_big_quiet_step ((go_at_call 45; exact later_of hM17 _ (fun K hK hKN => sv2 _ K hK)))
            go_big_quiet_step (fail)
            go_big_quiet_step (fail)
            go_big_quiet_step (fail)
            refine wpQuiet_nil ?_
            rintro xw21 ⟨qxw21, exw21⟩
            have hbxw21 := qxw21.b
            rw [← exw21] at hbxw21
            clear qxw21 exw21
            obtain ⟨M22, hM22⟩ := sz_some xw21
            have lM22 := below_sz hbxw21 hM17 hM22
            have k23 := k13.below hbxw21 (by omega)
            have k24 := k14.below hbxw21 (by omega)
            have k25 := k12.below hbxw21 (by omega)
            have lo26 := lo15.trans (hbxw21.mono (by omega))
            clear k13 k14 k12 lo15 hbxw21
            obtain ⟨b_xw27, eb_xw27⟩ : ∃ b_xw27, b_xw27 = M22 := ⟨_, rfl⟩
            have hzb_xw27 : Sz xw21 b_xw27 := by rw [eb_xw27]; exact hM22
            have lob_xw27 : M22 ≤ b_xw27 := by omega
            have upb_xw27 : b_xw27 ≤ M22 := by omega
            clear eb_xw27
            refine wpl_alloc rfl 76 rfl 273 (stC zeroS) zeSt b_xw27 hzb_xw27 ?_
            intro xw27 hMxw27 hbxw27 hhxw27; simp only [pA]
            have k28 := k23.below hbxw27 (by omega)
            have k29 := k24.below hbxw27 (by omega)
            have k30 := k25.below hbxw27 (by omega)
            have lo31 := lo26.trans (hbxw27.mono (by omega))
            clear k23 k24 k25 lo26 hbxw27 hzb_xw27
            obtain ⟨M32, eM32⟩ : ∃ M32, M32 = b_xw27 + 1 := ⟨_, rfl⟩
            rw [← eM32] at hMxw27
            have loM32 : b_xw27 + 1 ≤ M32 := by omega
            have upM32 : M32 ≤ b_xw27 + 1 := by omega
            clear eM32
            refine wpl_store rfl 76 (.tmp 21) (.tmp 202) rfl b_xw27 273 (stC (stOf Wv Kv)) rfl rfl 76 _ hhxw27 szSt (fun j _ => stC_one _ j) ?_
            intro xw33 t34 k35; try simp only [pA]
            have k36 := k28.touch t34 (by omega)
            have k37 := k29.touch t34 (by omega)
            have k38 := k30.touch t34 (by omega)
            have lo39 := t34.below lo31 (by omega)
            have h40 := t34.sz hMxw27
            clear hhxw27 k28 k29 k30 lo31 hMxw27 t34
            refine wpl_run rfl (Value.bool false) _ (run_as (x := (.tmp 203)) rfl _ rfl) ?_; simp only [pA]
            obtain ⟨M41, hM41⟩ := sz_some xw33
            have lt_42 := k36.ltN hM41
            have lt_43 := k37.ltN hM41
            have lt_44 := k38.ltN hM41
            have lt_45 := k35.ltN hM41
            go_upto_region 35 with fail
            refine wp_region_later1 (M41) ?_
            try simp only [pA]
            go_big_quiet_step (fail)
            go_big_quiet_step (fail)
            go_big_quiet_step (fail)
            go_big_quiet_step (fail)
            go_big_quiet_step (fail)
            go_big_quiet_step (fail)
            go_big_quiet_step (fail)
            refine later_row hM41 76 (.tmp 3) rfl ((M1 + 1)) rfl 76 273 _ k37 undSt szSt (by rfl) ?_; simp only [pA]
            go_big_quiet_step ((go_at_call 48; exact later_of hM41 _ (fun K hK hKN => rd1 _ K hK)))
            go_big_quiet_step (fail)
            go_big_quiet_step (fail)
            refine later_row hM41 76 (.tmp 3) rfl ((M1 + 1)) rfl 76 273 _ k37 undSt szSt (by rfl) ?_; simp only [pA]
            go_big_quiet_step ((go_at_call 48; exact later_of hM41 _ (fun K hK hKN => rd2 _ K hK)))
            go_big_quiet_step (fail)
            go_big_quiet_step (fail)
            go_big_quiet_step (fail)
            refine later_row hM41 76 (.tmp 3) rfl ((M1 + 1)) rfl 76 273 _ k37 undSt szSt (by rfl) ?_; simp only [pA]
            go_big_quiet_step ((go_at_call 48; exact later_of hM41 _ (fun K hK hKN => rd3 _ K hK)))
            go_big_quiet_step (fail)
            go_big_quiet_step (fail)
            go_big_quiet_step (fail)
            refine wpQuiet_nil ?_
            rintro xw46 ⟨qxw46, exw46⟩
            have hbxw46 := qxw46.b
            rw [← exw46] at hbxw46
            clear qxw46 exw46
            obtain ⟨M47, hM47⟩ := sz_some xw46
            have lM47 := below_sz hbxw46 hM41 hM47
            have k48 := k36.below hbxw46 (by omega)
            have k49 := k37.below hbxw46 (by omega)
            have k50 := k38.below hbxw46 (by omega)
            have k51 := k35.below hbxw46 (by omega)
            have lo52 := lo39.trans (hbxw46.mono (by omega))
            clear k36 k37 k38 k35 lo39 hbxw46
            go_wp2_with fail
            go_ret
            exact ⟨rfl, lo52⟩
      · as_aux_lemma =>
          have t1 : Hid ((decide (((iq : Nat) : Int) < ((nr : Nat) : Int))) = false) := hid (decide_eq_false (by omega))
          clear cse hnr hlt
          go_upto_region 5 with fail
          refine wp_region_later1 (M) ?_
          try simp only [pA]
          go_big_quiet_step (fail)
          go_big_quiet_step (fail)
          refine later_val (fun q => run_lenS undAxs (x := (.tmp 29)) rfl rfl q.w') (by rfl) ?_; simp only [pA]
          refine later_val (fun q => run_lssI (x := (.tmp 28)) (y := (.tmp 30)) rfl rfl rfl (p := ((iq : Nat) : Int)) (q := ((nr : Nat) : Int)) (r := false) t1.out q.w') (by rfl) ?_; simp only [pA]
          go_big_quiet_step (fail)
          go_big_quiet_step (fail)
          go_big_quiet_step (fail)
          go_big_quiet_step (fail)
          refine wpQuiet_nil ?_
          rintro xw6 ⟨qxw6, exw6⟩
          have hbxw6 := qxw6.b
          rw [← exw6] at hbxw6
          clear qxw6 exw6
          obtain ⟨M7, hM7⟩ := sz_some xw6
          have lM7 := below_sz hbxw6 hM hM7
          have k8 := kK.below hbxw6 (by omega)
          have k9 := kS.below hbxw6 (by omega)
          have lo10 := lo.trans (hbxw6.mono (by omega))
          clear kK kS lo hbxw6
          have sv1 := cs_save (s := (stOf Wv Kv)) (S := (stOf Wv Kv)) (a := -8) (n := 3) (r := numA (cR 1#64)) (o := false) (by decide) rfl
          have sv2 := cs_save (s := (stOf Wv Kv)) (S := (stOf Wv Kv)) (a := -8) (n := 8) (r := ⟨0, zeroR, 0, 0, 0, 0⟩) (o := false) (by decide) (by unfold saveF; rw [show sizeF 8 = true from rfl, inside_t (by decide) (by decide) (by decide)]; rfl)
          have rd1 := fun w N hN => Ready_any (stOf Wv Kv) 0 0 (by decide) w N hN
          rw [show readyF (stOf Wv Kv) 0 0 = true from rfl] at rd1
          have rd2 := fun w N hN => Ready_any (stOf Wv Kv) (-65) 1 (by decide) w N hN
          rw [show readyF (stOf Wv Kv) (-65) 1 = false from rfl] at rd2
          have rd3 := fun w N hN => Ready_any (stOf Wv Kv) (-1) 2 (by decide) w N hN
          rw [show readyF (stOf Wv Kv) (-1) 2 = false by unfold readyF; rw [inside_f (by decide) (by decide) (by decide)]; rfl] at rd3
          go_upto_region 33 with fail
          refine wp_mid (fun ac (zb : Nat) => ((((((((ac.put (some 193) (Value.agg (cellsOf (stC (stOf Wv Kv)) 273))).put (some 194) (Value.agg (cellsOf (arC (numA (cR 1#64))) 11))).put (some 195) (Value.tuple #[(Value.agg (cellsOf (stC (stOf Wv Kv)) 273)), (Value.bool false)])).put (some 192) (Value.tuple #[(Value.agg (cellsOf (stC (stOf Wv Kv)) 273)), (Value.bool false)])).put (some 196) (Value.agg (cellsOf (stC (stOf Wv Kv)) 273))).put (some 197) (Value.bool false)).put (some 19) (.pointer (some ⟨zb, 0, none⟩))).put (some 20) (Value.bool false))) (fun zb w' => Has w' zb 76 273 (stC (stOf Wv Kv)) ∧ M7 ≤ zb ∧ Has w' M1 81 72 (skP (Wv, Kv)) ∧ Has w' (M1 + 1) 76 273 (stC (stOf Wv Kv)) ∧ Below N w w') ?_ ?_
          · refine wp_region_any (by kernel_rfl) ?_
            replace k8 : Has xw6.drew M1 81 72 (skP (Wv, Kv)) := k8
            replace k9 : Has xw6.drew (M1 + 1) 76 273 (stC (stOf Wv Kv)) := k9
            replace hM7 : Sz xw6.drew M7 := hM7
            replace lo10 : Below N w xw6.drew := lo10.drew
            change wpAny _ _ _ _ _ _ _ (World.drew _)
            generalize xw6.drew = xw12 at *
            refine wpAny_potL (lt := [5]) (rem := [0, 1, 2, 3, 4, 5, 6]) (FG M7 (fun j => if j = 0 then some (Value.agg (cellsOf (stC (stOf Wv Kv)) 273)) else if j = 1 then some (Value.agg (cellsOf (arC (numA (cR 1#64))) 11)) else if j = 2 then some (Value.tuple #[(Value.agg (cellsOf (stC (stOf Wv Kv)) 273)), (Value.bool false)]) else if j = 3 then some (Value.tuple #[(Value.agg (cellsOf (stC (stOf Wv Kv)) 273)), (Value.bool false)]) else if j = 4 then some (Value.agg (cellsOf (stC (stOf Wv Kv)) 273)) else if j = 5 then some (Value.bool false) else none) (fun j => (76, 273, stC zeroS))) (TwoN (fun j => if j = 0 then some (Value.agg (cellsOf (stC (stOf Wv Kv)) 273)) else if j = 1 then some (Value.agg (cellsOf (arC (numA (cR 1#64))) 11)) else if j = 2 then some (Value.tuple #[(Value.agg (cellsOf (stC (stOf Wv Kv)) 273)), (Value.bool false)]) else if j = 3 then some (Value.tuple #[(Value.agg (cellsOf (stC (stOf Wv Kv)) 273)), (Value.bool false)]) else if j = 4 then some (Value.agg (cellsOf (stC (stOf Wv Kv)) 273)) else if j = 5 then some (Value.bool false) else none)) (Below M7 xw12) _ _ _ _ (by kernel_rfl) (size_dstG (by kernel_rfl)) (Below.refl _ _) ?_ ?_
            · intro i hi ac wa hI ha hv
              simp only [List.mem_cons, List.not_mem_nil, or_false] at hi
              rcases hi with rfl | rfl | rfl | rfl | rfl | rfl | rfl
              · exact potg_run rfl rfl (Value.agg (cellsOf (stC (stOf Wv Kv)) 273)) rfl (run_rw 76 (.tmp 3) rfl (M1 + 1) (ha 3 (not_dstG (by kernel_rfl))) 76 273 _ (Has.below k9 hI (Has.ltN k9 hM7)) undSt szSt) hM7 hI
              · exact potg_cl rfl rfl 44 _ _ rfl #[(Q 1#64)] (by kernel_rfl) (by kernel_rfl) (Value.agg (cellsOf (arC (numA (cR 1#64))) 11)) (fun K hK => Number_any 1#64 wa K hK) rfl hM7 hI
              · obtain ⟨v0, hv0a, hv0b⟩ := hv 0 (by simp) (by kernel_rfl)
                have ev0 := hv0b.val rfl
                subst ev0
                obtain ⟨v1, hv1a, hv1b⟩ := hv 1 (by simp) (by kernel_rfl)
                have ev1 := hv1b.val rfl
                subst ev1
                exact potg_cl rfl rfl 45 _ _ rfl #[(Value.agg (cellsOf (stC (stOf Wv Kv)) 273)), (Value.int .i64 (-8)), (Value.int .i64 3), (Value.agg (cellsOf (arC (numA (cR 1#64))) 11))] (by simp only [List.map_toArray, List.map_cons, List.map_nil, (show ac.eval (.tmp 193) = (Value.agg (cellsOf (stC (stOf Wv Kv)) 273)) from (hv0a 193 rfl)), (show ac.eval (.tmp 194) = (Value.agg (cellsOf (arC (numA (cR 1#64))) 11)) from (hv1a 194 rfl))] <;> rfl) (by kernel_rfl) (Value.tuple #[(Value.agg (cellsOf (stC (stOf Wv Kv)) 273)), (Value.bool false)]) (fun K hK => sv1 wa K hK) rfl hM7 hI
              · obtain ⟨v2, hv2a, hv2b⟩ := hv 2 (by simp) (by kernel_rfl)
                have ev2 := hv2b.val rfl
                subst ev2
                exact potg_run rfl rfl (Value.tuple #[(Value.agg (cellsOf (stC (stOf Wv Kv)) 273)), (Value.bool false)]) rfl (run_mv (x := (.tmp 195)) rfl _ (hv2a 195 rfl)) hM7 hI
              · obtain ⟨v3, hv3a, hv3b⟩ := hv 3 (by simp) (by kernel_rfl)
                have ev3 := hv3b.val rfl
                subst ev3
                exact potg_run rfl rfl (Value.agg (cellsOf (stC (stOf Wv Kv)) 273)) rfl (run_ex (x := (.tmp 192)) rfl _ (hv3a 192 rfl) rfl) hM7 hI
              · obtain ⟨v3, hv3a, hv3b⟩ := hv 3 (by simp) (by kernel_rfl)
                have ev3 := hv3b.val rfl
                subst ev3
                exact potg_run rfl rfl (Value.bool false) rfl (run_ex (x := (.tmp 192)) rfl _ (hv3a 192 rfl) rfl) hM7 hI
              · exact potg_al rfl rfl rfl zeSt rfl rfl hM7 hI
            · intro L vals w5_11_ hb5_11_ hF hG hL
              have l0 := hL 0 (by simp) rfl
              have l1 := hL 1 (by simp) rfl
              have l2 := hL 2 (by simp) rfl
              have l3 := hL 3 (by simp) rfl
              have l4 := hL 4 (by simp) rfl
              have l6 := hL 6 (by simp) rfl
              clear hL
              cases c5 : L 5
              · have e_11_0 := (hF 0 (by simp) l0).val rfl
                have e_11_1 := (hF 1 (by simp) l1).val rfl
                have e_11_2 := (hF 2 (by simp) l2).val rfl
                have e_11_3 := (hF 3 (by simp) l3).val rfl
                have e_11_4 := (hF 4 (by simp) l4).val rfl
                obtain ⟨b_11_6, bl_11_6, e_11_6, h_11_6⟩ := (hF 6 (by simp) l6).al rfl rfl
                clear hF hG
                rw [show left L [0, 1, 2, 3, 4, 5, 6] = 1 from by simp [left, l0, l1, l2, l3, l4, l6, c5]]
                refine wpAny_fuel (n := 3) (by kernel_rfl) ?_
                simp only [marks, puts, l0, l1, l2, l3, l4, l6, c5, if_true, if_false, Bool.false_eq_true, dstOf, List.getElem?_toArray, List.getElem?_cons_succ, List.getElem?_cons_zero, Option.bind_some, Act.put, List.setIfInBounds_toArray, List.set_cons_succ, List.set_cons_zero, e_11_0, e_11_1, e_11_2, e_11_3, e_11_4, e_11_6]
                clear e_11_0 e_11_1 e_11_2 e_11_3 e_11_4 e_11_6 l0 l1 l2 l3 l4 l6 c5
                have k13 := k8.below hb5_11_ (by omega)
                have k14 := k9.below hb5_11_ (by omega)
                have lo15 := lo10.trans (hb5_11_.mono (by omega))
                obtain ⟨M5, hM5⟩ := sz_some w5_11_
                have lM5 := below_sz hb5_11_ hM7 hM5
                clear k8 k9 lo10 hb5_11_
                refine wpAny_of_held (S := fun _ => True) _ _ _ _ ?_
                refine held_take (i := 5) (v := (Value.bool false)) (d := some 197) rfl (by kernel_rfl) (by kernel_rfl) (by kernel_rfl) (by kernel_rfl) (fun _ _ _ h => by cases h.1) (Or.inl ⟨by rfl, fun wq _ => run_ex (x := (.tmp 192)) rfl wq rfl rfl⟩) trivial ?_; simp only [pA]
                refine wpAnyH_all (rs := [7]) (by kernel_rfl) (by simp) ?_
                intro iq hiq; simp only [List.mem_singleton] at hiq; subst hiq
                refine opg_list rfl ?_
                refine wpl_storeN (by rfl) (by kernel_rfl) 76 (.tmp 19) (.tmp 196) rfl b_11_6 273 (stC (stOf Wv Kv)) rfl rfl 76 _ h_11_6 szSt (fun j _ => stC_one _ j) ?_
                intro xw16 t17 k18; try simp only [pA]
                have k19 := k13.touch t17 (by omega)
                have k20 := k14.touch t17 (by omega)
                have lo21 := t17.below lo15 (by omega)
                have h22 := t17.sz hM5
                clear h_11_6 k13 k14 lo15 hM5 t17
                refine ⟨trivial, ?_⟩
                refine wpAnyH_all (rs := [8]) (by kernel_rfl) (by simp) ?_
                intro iq hiq; simp only [List.mem_singleton] at hiq; subst hiq
                refine opg_list rfl ?_
                refine wpl_runD rfl (d := some 20) rfl (Value.bool false) (run_as (x := (.tmp 197)) rfl _ rfl) ?_; simp only [pA]
                refine ⟨trivial, ?_⟩
                refine wpAnyH_done (by kernel_rfl) ?_ _
                refine ⟨rfl, b_11_6, (by simp only [pA]), k18, bl_11_6, k19, k20, lo21⟩
              · have e_11_0 := (hF 0 (by simp) l0).val rfl
                have e_11_1 := (hF 1 (by simp) l1).val rfl
                have e_11_2 := (hF 2 (by simp) l2).val rfl
                have e_11_3 := (hF 3 (by simp) l3).val rfl
                have e_11_4 := (hF 4 (by simp) l4).val rfl
                have e_11_5 := (hF 5 (by simp) c5).val rfl
                obtain ⟨b_11_6, bl_11_6, e_11_6, h_11_6⟩ := (hF 6 (by simp) l6).al rfl rfl
                clear hF hG
                rw [show left L [0, 1, 2, 3, 4, 5, 6] = 0 from by simp [left, l0, l1, l2, l3, l4, l6, c5]]
                refine wpAny_fuel (n := 2) (by kernel_rfl) ?_
                simp only [marks, puts, l0, l1, l2, l3, l4, l6, c5, if_true, if_false, Bool.false_eq_true, dstOf, List.getElem?_toArray, List.getElem?_cons_succ, List.getElem?_cons_zero, Option.bind_some, Act.put, List.setIfInBounds_toArray, List.set_cons_succ, List.set_cons_zero, e_11_0, e_11_1, e_11_2, e_11_3, e_11_4, e_11_5, e_11_6]
                clear e_11_0 e_11_1 e_11_2 e_11_3 e_11_4 e_11_5 e_11_6 l0 l1 l2 l3 l4 l6 c5
                have k13 := k8.below hb5_11_ (by omega)
                have k14 := k9.below hb5_11_ (by omega)
                have lo15 := lo10.trans (hb5_11_.mono (by omega))
                obtain ⟨M5, hM5⟩ := sz_some w5_11_
                have lM5 := below_sz hb5_11_ hM7 hM5
                clear k8 k9 lo10 hb5_11_
                refine wpAny_of_held (S := fun _ => True) _ _ _ _ ?_
                refine wpAnyH_all (rs := [7]) (by kernel_rfl) (by simp) ?_
                intro iq hiq; simp only [List.mem_singleton] at hiq; subst hiq
                refine opg_list rfl ?_
                refine wpl_storeN (by rfl) (by kernel_rfl) 76 (.tmp 19) (.tmp 196) rfl b_11_6 273 (stC (stOf Wv Kv)) rfl rfl 76 _ h_11_6 szSt (fun j _ => stC_one _ j) ?_
                intro xw16 t17 k18; try simp only [pA]
                have k19 := k13.touch t17 (by omega)
                have k20 := k14.touch t17 (by omega)
                have lo21 := t17.below lo15 (by omega)
                have h22 := t17.sz hM5
                clear h_11_6 k13 k14 lo15 hM5 t17
                refine ⟨trivial, ?_⟩
                refine wpAnyH_all (rs := [8]) (by kernel_rfl) (by simp) ?_
                intro iq hiq; simp only [List.mem_singleton] at hiq; subst hiq
                refine opg_list rfl ?_
                refine wpl_runD rfl (d := some 20) rfl (Value.bool false) (run_as (x := (.tmp 197)) rfl _ rfl) ?_; simp only [pA]
                refine ⟨trivial, ?_⟩
                refine wpAnyH_done (by kernel_rfl) ?_ _
                refine ⟨rfl, b_11_6, (by simp only [pA]), k18, bl_11_6, k19, k20, lo21⟩
          · clear k8 k9 lo10
            rintro b_11_x0 xw16 ⟨k12, lb_11_x0, k13, k14, lo15⟩
            try dsimp only at *
            try simp only [pA]
            obtain ⟨M17, hM17⟩ := sz_some xw16
            have lt_18 := k13.ltN hM17
            have lt_19 := k14.ltN hM17
            have lt_20 := k12.ltN hM17
            go_upto_region 34 with fail
            refine wp_region_lit ?_
            try simp only [pA]
            change wpList _ _ _ ((_ :: _ :: _ :: _ :: _ :: _ :: []) ++ (_ :: _ :: _ :: [])) _ _
            refine wpList_prefix (C := fun w' => ∃ x : Later M17 xw16, w' = x.w') _ _ _ _ ⟨⟨_, Below.refl _ _⟩, rfl⟩ ?_
            refine later_row hM17 76 (.tmp 3) rfl ((M1 + 1)) rfl 76 273 _ k14 undSt szSt (by rfl) ?_; simp only [pA]
            refine later_val (fun q => run_bd 71 _ rfl (cellsOf (arC ⟨0, zeroR, 0, 0, 0, 0⟩) 11) (by kernel_rfl) q.w') (by rfl) ?_; simp only [pA]
            go_big_quiet_step ((go_at_call 45; exact later_of hM17 _ (fun K hK hKN => sv2 _ K hK)))
            go_big_quiet_step (fail)
            go_big_quiet_step (fail)
            go_big_quiet_step (fail)
            refine wpQuiet_nil ?_
            rintro xw21 ⟨qxw21, exw21⟩
            have hbxw21 := qxw21.b
            rw [← exw21] at hbxw21
            clear qxw21 exw21
            obtain ⟨M22, hM22⟩ := sz_some xw21
            have lM22 := below_sz hbxw21 hM17 hM22
            have k23 := k13.below hbxw21 (by omega)
            have k24 := k14.below hbxw21 (by omega)
            have k25 := k12.below hbxw21 (by omega)
            have lo26 := lo15.trans (hbxw21.mono (by omega))
            clear k13 k14 k12 lo15 hbxw21
            obtain ⟨b_xw27, eb_xw27⟩ : ∃ b_xw27, b_xw27 = M22 := ⟨_, rfl⟩
            have hzb_xw27 : Sz xw21 b_xw27 := by rw [eb_xw27]; exact hM22
            have lob_xw27 : M22 ≤ b_xw27 := by omega
            have upb_xw27 : b_xw27 ≤ M22 := by omega
            clear eb_xw27
            refine wpl_alloc rfl 76 rfl 273 (stC zeroS) zeSt b_xw27 hzb_xw27 ?_
            intro xw27 hMxw27 hbxw27 hhxw27; simp only [pA]
            have k28 := k23.below hbxw27 (by omega)
            have k29 := k24.below hbxw27 (by omega)
            have k30 := k25.below hbxw27 (by omega)
            have lo31 := lo26.trans (hbxw27.mono (by omega))
            clear k23 k24 k25 lo26 hbxw27 hzb_xw27
            obtain ⟨M32, eM32⟩ : ∃ M32, M32 = b_xw27 + 1 := ⟨_, rfl⟩
            rw [← eM32] at hMxw27
            have loM32 : b_xw27 + 1 ≤ M32 := by omega
            have upM32 : M32 ≤ b_xw27 + 1 := by omega
            clear eM32
            refine wpl_store rfl 76 (.tmp 21) (.tmp 202) rfl b_xw27 273 (stC (stOf Wv Kv)) rfl rfl 76 _ hhxw27 szSt (fun j _ => stC_one _ j) ?_
            intro xw33 t34 k35; try simp only [pA]
            have k36 := k28.touch t34 (by omega)
            have k37 := k29.touch t34 (by omega)
            have k38 := k30.touch t34 (by omega)
            have lo39 := t34.below lo31 (by omega)
            have h40 := t34.sz hMxw27
            clear hhxw27 k28 k29 k30 lo31 hMxw27 t34
            refine wpl_run rfl (Value.bool false) _ (run_as (x := (.tmp 203)) rfl _ rfl) ?_; simp only [pA]
            obtain ⟨M41, hM41⟩ := sz_some xw33
            have lt_42 := k36.ltN hM41
            have lt_43 := k37.ltN hM41
            have lt_44 := k38.ltN hM41
            have lt_45 := k35.ltN hM41
            go_upto_region 35 with fail
            refine wp_region_later1 (M41) ?_
            try simp only [pA]
            go_big_quiet_step (fail)
            go_big_quiet_step (fail)
            go_big_quiet_step (fail)
            go_big_quiet_step (fail)
            go_big_quiet_step (fail)
            go_big_quiet_step (fail)
            go_big_quiet_step (fail)
            refine later_row hM41 76 (.tmp 3) rfl ((M1 + 1)) rfl 76 273 _ k37 undSt szSt (by rfl) ?_; simp only [pA]
            go_big_quiet_step ((go_at_call 48; exact later_of hM41 _ (fun K hK hKN => rd1 _ K hK)))
            go_big_quiet_step (fail)
            go_big_quiet_step (fail)
            refine later_row hM41 76 (.tmp 3) rfl ((M1 + 1)) rfl 76 273 _ k37 undSt szSt (by rfl) ?_; simp only [pA]
            go_big_quiet_step ((go_at_call 48; exact later_of hM41 _ (fun K hK hKN => rd2 _ K hK)))
            go_big_quiet_step (fail)
            go_big_quiet_step (fail)
            go_big_quiet_step (fail)
            refine later_row hM41 76 (.tmp 3) rfl ((M1 + 1)) rfl 76 273 _ k37 undSt szSt (by rfl) ?_; simp only [pA]
            go_big_quiet_step ((go_at_call 48; exact later_of hM41 _ (fun K hK hKN => rd3 _ K hK)))
            go_big_quiet_step (fail)
            go_big_quiet_step (fail)
            go_big_quiet_step (fail)
            refine wpQuiet_nil ?_
            rintro xw46 ⟨qxw46, exw46⟩
            have hbxw46 := qxw46.b
            rw [← exw46] at hbxw46
            clear qxw46 exw46
            obtain ⟨M47, hM47⟩ := sz_some xw46
            have lM47 := below_sz hbxw46 hM41 hM47
            have k48 := k36.below hbxw46 (by omega)
            have k49 := k37.below hbxw46 (by omega)
            have k50 := k38.below hbxw46 (by omega)
            have k51 := k35.below hbxw46 (by omega)
            have lo52 := lo39.trans (hbxw46.mono (by omega))
            clear k36 k37 k38 k35 lo39 hbxw46
            go_wp2_with fail
            go_ret
            exact ⟨rfl, lo52⟩
end Go.Proofs.Ytcdhngceiochoaa
