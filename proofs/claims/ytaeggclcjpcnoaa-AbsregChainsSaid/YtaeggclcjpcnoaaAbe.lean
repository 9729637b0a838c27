/- States: whether one covers another one, given what sameMaybes tells. -/
import Derived.Test.YtaeggclcjpcnoaaAbd
namespace Go.Proofs.Ytaeggclcjpcnoaa
open Go Go.RowKit
theorem run_iaK {P : Program} {a : Act} {w : World} {o : Oper} {T e s n k : Nat} {x y : Operand} (ho : o.op = .indexAddr T x y) {b off : Nat} (hx : a.eval x = .pointer (some ⟨b, off, none⟩)) (hy : a.eval y = .int .i64 (k : Int))
    (hu : P.underlying T = some (.array n e)) (hs : (P.info? e).map (·.size) = some s) (hk : k < n) : (execOp a.eval o).run P w = .ok (.value (.pointer (some ⟨b, off + k * s, none⟩))) w := by
  cases hq : P.info? e with
  | none => simp [hq] at hs
  | some i =>
    have hi : i.size = s := by simpa [hq] using hs
    have h1 : ¬ (n ≤ k) := by omega
    unfold execOp
    simp only [ho, hx, hy]
    simp [Instr.indexAt, Instr.sureAddr, asIntOf, Sem.run_bind, run_underlying hu, sizeOf, typeInfo, hq, hi, Addr.add, h1, hk]
theorem undR11 : Try.prog.underlying 72 = some (.array 11 71) := by kernel_rfl
theorem undK8 : Try.prog.underlying 74 = some (.array 8 71) := by kernel_rfl
theorem undW64 : Try.prog.underlying 73 = some (.array 64 4) := by kernel_rfl
theorem run_rwA {P : Program} {a : Act} {w : World} {o : Oper} (ty : TypeId) (x : Operand) (ho : o.op = .load ty x) (b off : Nat) (hx : a.eval x = .pointer (some ⟨b, off, none⟩)) (T : TypeId) (s : St) (hh : Has w b T 273 (stC s)) (hm : off + 11 ≤ 273) (r : Ar) (hg : ∀ j, j < 11 → stC s (off + j) = arC r j) (hu : ∃ d, P.underlying ty = some d ∧ d.isRow = true) (hi : (P.info? ty).map (·.size) = some 11) : (execOp a.eval o).run P w = .ok (.value (.agg (cellsOf (arC r) 11))) w :=
  run_rwP ty x ho b off hx T 273 (stC s) hh 11 hm (arC r) hg hu hi
def allF (p : Nat → Bool) : Nat → Bool
  | 0 => true
  | n + 1 => allF p n && p n
theorem allF_iff (p : Nat → Bool) (n : Nat) : allF p n = true ↔ ∀ i, i < n → p i = true := by
  induction n with
  | zero => exact ⟨fun _ i hi => absurd hi (by omega), fun _ => rfl⟩
  | succ n ih =>
    show (allF p n && p n) = true ↔ _
    rw [Bool.and_eq_true, ih]
    constructor
    · intro h i hi
      by_cases e : i = n
      · subst e; exact h.2
      · exact h.1 i (by omega)
    · intro h; exact ⟨fun i hi => h i (by omega), h n (by omega)⟩
/-- Two Maybes of one Id in a state are it in the other one. -/
def pairB (s t : St) (y x : Nat) : Bool := !((prt s x).k == 6 && ((prt s y).k == 6 && ((prt s x).id == (prt s y).id))) || ((prt t x).id == (prt t y).id)
def sameB (s t : St) : Bool := allF (fun y => allF (pairB s t y) y) 19
def covR (s t : St) : Bool := allF (fun i => covA (s.R i) (t.R i)) 11
def covK (s t : St) : Bool := allF (fun i => covA (s.K i) (t.K i)) 8
def covW (s t : St) : Bool := allF (fun i => !(s.W i) || t.W i) 64
def covS (s t : St) : Bool := covR s t && (covK s t && (covW s t && sameB s t))
set_option maxRecDepth 100000 in
set_option maxHeartbeats 8000000 in
theorem Covers_of (s t : St) (hsame : ∀ w N, Sz w N → ∀ b c, Has w b 76 273 (stC s) → Has w c 76 273 (stC t) → Calls Try.prog 81 #[.pointer (some ⟨b, 0, none⟩), .pointer (some ⟨c, 0, none⟩)] w fun e w' => e = .returned (.bool (sameB s t)) ∧ Below N w w')
    (w : World) (N : Nat) (hN : Sz w N) : Calls Try.prog 50 #[stV s, stV t] w fun e w' => e = .returned (.bool (covS s t)) ∧ Below N w w' := by
  unfold stV
  obtain ⟨z, ez⟩ : ∃ z, z = covS s t := ⟨_, rfl⟩
  rw [← ez]
  have EZ := hid ez
  clear ez
  go_enter Try.func50, Try.ntmps50
  go_wp2_with (first
    | (refine wpl_box rfl 76 (.tmp 0) rfl 273 _ rfl N hN ?_; intro w1 hN1 hb1 h1)
    | (refine wpl_box rfl 76 (.tmp 1) rfl 273 _ rfl (N + 1) hN1 ?_; intro w2 hN2 hb2 h2; replace h1 := h1.below hb2 (by omega); replace hb2 := hb1.trans (hb2.mono (by omega)); clear hb1 hN1)
    | fail)
  go_loopw [5, 8] (fun x5 x8 wr => ∃ q : Nat, q ≤ 11 ∧ x8 = .int .i64 q ∧ allF (fun i => covA (s.R i) (t.R i)) q = true ∧ Has wr N 76 273 (stC s) ∧ Has wr (N + 1) 76 273 (stC t) ∧ Below N w wr) (fun _ x8 _ => 11 - (intOf x8).toNat)
  case atStart => exact ⟨0, by omega, rfl, rfl, h1, h2, hb2⟩
  case round =>
    clear h1 h2 hb2 hN2
    obtain ⟨q, hq, rfl, hC, h1, h2, hb⟩ := hrel
    have HC := hid hC
    clear hC
    obtain ⟨M, hM⟩ := sz_some wr
    have ltA := h1.ltN hM
    have ltB := h2.ltN hM
    have lNM := below_sz hb hN hM
    by_cases hlt : q < 11
    · have t1 : decide ((q : Int) < 11) = true := by simp; omega
      cases hc : covA (s.R q) (t.R q)
      · have ez : z = false := by
          rw [EZ.out]; unfold covS covR
          cases ha : allF (fun i => covA (s.R i) (t.R i)) 11
          · rfl
          · have := (allF_iff _ _).1 ha q hlt; rw [hc] at this; cases this
        have HCC := hid hc
        clear hc
        go_upto_region 4 with fail
        refine wp_region_later M (by kernel_rfl) (by kernel_rfl) ?_
        try simp only [pA]
        iterate 2 (go_big_quiet_step (fail))
        refine later_val (fun x => run_iaK (x := (.tmp 12)) (y := (.tmp 11)) rfl (b := N) (off := 0) (k := q) rfl rfl undR11 szAr hlt) (by rfl) ?_; simp only [pA]
        refine later_val (fun x => run_rwA 71 (.tmp 13) rfl N (0 + q * 11) rfl 76 s (Later.has hM h1 x) (by omega) (s.R q) (fun j hj => by rw [show 0 + q * 11 + j = 11 * q + j by omega]; exact stC_R s hlt hj) undAr szAr) (by rfl) ?_; simp only [pA]
        iterate 2 (go_big_quiet_step (fail))
        refine later_val (fun x => run_iaK (x := (.tmp 16)) (y := (.tmp 15)) rfl (b := N + 1) (off := 0) (k := q) rfl rfl undR11 szAr hlt) (by rfl) ?_; simp only [pA]
        refine later_val (fun x => run_rwA 71 (.tmp 17) rfl (N + 1) (0 + q * 11) rfl 76 t (Later.has hM h2 x) (by omega) (t.R q) (fun j hj => by rw [show 0 + q * 11 + j = 11 * q + j by omega]; exact stC_R t hlt hj) undAr szAr) (by rfl) ?_; simp only [pA]
        go_big_quiet_step ((go_at_call 80; exact later_of hM _ (fun K hK hKN => ret_is HCC.out (CoversA_any (s.R q) (t.R q)) _ K hK)))
        go_big_quiet_step (fail)
        refine wpQuiet_nil (laterE hM ?_)
        intro xw M2 hbx hM2 lM2
        replace h1 := h1.below hbx ltA
        replace h2 := h2.below hbx ltB
        replace hb := hb.trans (hbx.mono lNM)
        clear hbx hM
        go_wp2_with fail
        go_ret
        exact ⟨by rw [ez]; rfl, hb⟩
      · have HCC := hid hc
        clear hc
        go_upto_region 4 with fail
        refine wp_region_later M (by kernel_rfl) (by kernel_rfl) ?_
        try simp only [pA]
        iterate 2 (go_big_quiet_step (fail))
        refine later_val (fun x => run_iaK (x := (.tmp 12)) (y := (.tmp 11)) rfl (b := N) (off := 0) (k := q) rfl rfl undR11 szAr hlt) (by rfl) ?_; simp only [pA]
        refine later_val (fun x => run_rwA 71 (.tmp 13) rfl N (0 + q * 11) rfl 76 s (Later.has hM h1 x) (by omega) (s.R q) (fun j hj => by rw [show 0 + q * 11 + j = 11 * q + j by omega]; exact stC_R s hlt hj) undAr szAr) (by rfl) ?_; simp only [pA]
        iterate 2 (go_big_quiet_step (fail))
        refine later_val (fun x => run_iaK (x := (.tmp 16)) (y := (.tmp 15)) rfl (b := N + 1) (off := 0) (k := q) rfl rfl undR11 szAr hlt) (by rfl) ?_; simp only [pA]
        refine later_val (fun x => run_rwA 71 (.tmp 17) rfl (N + 1) (0 + q * 11) rfl 76 t (Later.has hM h2 x) (by omega) (t.R q) (fun j hj => by rw [show 0 + q * 11 + j = 11 * q + j by omega]; exact stC_R t hlt hj) undAr szAr) (by rfl) ?_; simp only [pA]
        go_big_quiet_step ((go_at_call 80; exact later_of hM _ (fun K hK hKN => ret_is HCC.out (CoversA_any (s.R q) (t.R q)) _ K hK)))
        go_big_quiet_step (fail)
        refine wpQuiet_nil (laterE hM ?_)
        intro xw M2 hbx hM2 lM2
        replace h1 := h1.below hbx ltA
        replace h2 := h2.below hbx ltB
        replace hb := hb.trans (hbx.mono lNM)
        clear hbx hM
        go_wp2_with fail
        refine ⟨⟨q + 1, by omega, by go_num, ?_, h1, h2, hb⟩, by simp [intOf]; omega⟩
        show (allF (fun i => covA (s.R i) (t.R i)) q && covA (s.R q) (t.R q)) = true
        rw [HC.out, HCC.out]; rfl
    · obtain rfl : q = 11 := by omega
      go_wp2_with fail
      go_loopw [6, 22] (fun x6 x22 wr => ∃ q : Nat, q ≤ 8 ∧ x22 = .int .i64 q ∧ allF (fun i => covA (s.K i) (t.K i)) q = true ∧ Has wr N 76 273 (stC s) ∧ Has wr (N + 1) 76 273 (stC t) ∧ Below N w wr) (fun _ x22 _ => 8 - (intOf x22).toNat)
      case atStart => exact ⟨0, by omega, rfl, rfl, h1, h2, hb⟩
      case round =>
        clear h1 h2 hb hM ltA ltB lNM
        obtain ⟨q, hq, rfl, hD, h1, h2, hb⟩ := hrel
        have HD := hid hD
        clear hD
        obtain ⟨M, hM⟩ := sz_some wr
        have ltA := h1.ltN hM
        have ltB := h2.ltN hM
        have lNM := below_sz hb hN hM
        by_cases hlt : q < 8
        · have t1 : decide ((q : Int) < 8) = true := by simp; omega
          cases hc : covA (s.K q) (t.K q)
          · have ez : z = false := by
              rw [EZ.out]; unfold covS covK
              cases ha : allF (fun i => covA (s.K i) (t.K i)) 8
              · rw [Bool.false_and, Bool.and_false]
              · have := (allF_iff _ _).1 ha q hlt; rw [hc] at this; cases this
            have HCC := hid hc
            clear hc
            go_upto_region 10 with fail
            refine wp_region_later M (by kernel_rfl) (by kernel_rfl) ?_
            try simp only [pA]
            iterate 2 (go_big_quiet_step (fail))
            refine later_val (fun x => run_iaK (x := (.tmp 26)) (y := (.tmp 25)) rfl (b := N) (off := 185) (k := q) rfl rfl undK8 szAr hlt) (by rfl) ?_; simp only [pA]
            refine later_val (fun x => run_rwA 71 (.tmp 27) rfl N (185 + q * 11) rfl 76 s (Later.has hM h1 x) (by omega) (s.K q) (fun j hj => by rw [show 185 + q * 11 + j = 185 + (11 * q + j) by omega]; exact stC_K s q hj) undAr szAr) (by rfl) ?_; simp only [pA]
            iterate 2 (go_big_quiet_step (fail))
            refine later_val (fun x => run_iaK (x := (.tmp 30)) (y := (.tmp 29)) rfl (b := N + 1) (off := 185) (k := q) rfl rfl undK8 szAr hlt) (by rfl) ?_; simp only [pA]
            refine later_val (fun x => run_rwA 71 (.tmp 31) rfl (N + 1) (185 + q * 11) rfl 76 t (Later.has hM h2 x) (by omega) (t.K q) (fun j hj => by rw [show 185 + q * 11 + j = 185 + (11 * q + j) by omega]; exact stC_K t q hj) undAr szAr) (by rfl) ?_; simp only [pA]
            go_big_quiet_step ((go_at_call 80; exact later_of hM _ (fun K hK hKN => ret_is HCC.out (CoversA_any (s.K q) (t.K q)) _ K hK)))
            go_big_quiet_step (fail)
            refine wpQuiet_nil (laterE hM ?_)
            intro xw M2 hbx hM2 lM2
            replace h1 := h1.below hbx ltA
            replace h2 := h2.below hbx ltB
            replace hb := hb.trans (hbx.mono lNM)
            clear hbx hM
            go_wp2_with fail
            go_ret
            exact ⟨by rw [ez]; rfl, hb⟩
          · have HCC := hid hc
            clear hc
            go_upto_region 10 with fail
            refine wp_region_later M (by kernel_rfl) (by kernel_rfl) ?_
            try simp only [pA]
            iterate 2 (go_big_quiet_step (fail))
            refine later_val (fun x => run_iaK (x := (.tmp 26)) (y := (.tmp 25)) rfl (b := N) (off := 185) (k := q) rfl rfl undK8 szAr hlt) (by rfl) ?_; simp only [pA]
            refine later_val (fun x => run_rwA 71 (.tmp 27) rfl N (185 + q * 11) rfl 76 s (Later.has hM h1 x) (by omega) (s.K q) (fun j hj => by rw [show 185 + q * 11 + j = 185 + (11 * q + j) by omega]; exact stC_K s q hj) undAr szAr) (by rfl) ?_; simp only [pA]
            iterate 2 (go_big_quiet_step (fail))
            refine later_val (fun x => run_iaK (x := (.tmp 30)) (y := (.tmp 29)) rfl (b := N + 1) (off := 185) (k := q) rfl rfl undK8 szAr hlt) (by rfl) ?_; simp only [pA]
            refine later_val (fun x => run_rwA 71 (.tmp 31) rfl (N + 1) (185 + q * 11) rfl 76 t (Later.has hM h2 x) (by omega) (t.K q) (fun j hj => by rw [show 185 + q * 11 + j = 185 + (11 * q + j) by omega]; exact stC_K t q hj) undAr szAr) (by rfl) ?_; simp only [pA]
            go_big_quiet_step ((go_at_call 80; exact later_of hM _ (fun K hK hKN => ret_is HCC.out (CoversA_any (s.K q) (t.K q)) _ K hK)))
            go_big_quiet_step (fail)
            refine wpQuiet_nil (laterE hM ?_)
            intro xw M2 hbx hM2 lM2
            replace h1 := h1.below hbx ltA
            replace h2 := h2.below hbx ltB
            replace hb := hb.trans (hbx.mono lNM)
            clear hbx hM
            go_wp2_with fail
            refine ⟨⟨q + 1, by omega, by go_num, ?_, h1, h2, hb⟩, by simp [intOf]; omega⟩
            show (allF (fun i => covA (s.K i) (t.K i)) q && covA (s.K q) (t.K q)) = true
            rw [HD.out, HCC.out]; rfl
        · obtain rfl : q = 8 := by omega
          go_wp2_with fail
          go_loopw [7, 36] (fun x7 x36 wr => ∃ q : Nat, q ≤ 64 ∧ x36 = .int .i64 q ∧ allF (fun i => !(s.W i) || t.W i) q = true ∧ Has wr N 76 273 (stC s) ∧ Has wr (N + 1) 76 273 (stC t) ∧ Below N w wr) (fun _ x36 _ => 64 - (intOf x36).toNat)
          case atStart => exact ⟨0, by omega, rfl, rfl, h1, h2, hb⟩
          case round =>
            clear h1 h2 hb hM ltA ltB lNM
            obtain ⟨q, hq, rfl, hE, h1, h2, hb⟩ := hrel
            have HE := hid hE
            clear hE
            by_cases hlt : q < 64
            · have t1 : decide ((q : Int) < 64) = true := by simp; omega
              have j1 : (0 : Int) ≤ (q : Int) := by omega
              have j2 : (q : Int) < 64 := by omega
              have c1 : wr.cell? ⟨N, 121 + q, none⟩ = some (.bool (s.W q)) := by (have h := h1.cell (j := 121 + q) (by omega); rw [stC_W s hlt] at h; exact h)
              have c2 : wr.cell? ⟨N + 1, 121 + q, none⟩ = some (.bool (t.W q)) := by (have h := h2.cell (j := 121 + q) (by omega); rw [stC_W t hlt] at h; exact h)
              cases ha : s.W q
              · rw [ha] at c1
                have HA := hid ha
                clear ha
                go_wp2_with fail
                refine ⟨⟨q + 1, by omega, by go_num, ?_, h1, h2, hb⟩, by simp [intOf]; omega⟩
                show (allF (fun i => !(s.W i) || t.W i) q && (!(s.W q) || t.W q)) = true
                rw [HE.out, HA.out]; rfl
              · rw [ha] at c1
                have HA := hid ha
                clear ha
                cases hb3 : t.W q
                · rw [hb3] at c2
                  have ez : z = false := by
                    rw [EZ.out]; unfold covS covW
                    cases hx : allF (fun i => !(s.W i) || t.W i) 64
                    · rw [Bool.false_and, Bool.and_false, Bool.and_false]
                    · have := (allF_iff _ _).1 hx q hlt; rw [HA.out, hb3] at this; cases this
                  clear hb3
                  go_wp2_with fail
                  go_ret
                  exact ⟨by rw [ez]; rfl, hb⟩
                · rw [hb3] at c2
                  have HB := hid hb3
                  clear hb3
                  go_wp2_with fail
                  refine ⟨⟨q + 1, by omega, by go_num, ?_, h1, h2, hb⟩, by simp [intOf]; omega⟩
                  show (allF (fun i => !(s.W i) || t.W i) q && (!(s.W q) || t.W q)) = true
                  rw [HE.out, HA.out, HB.out]; rfl
            · obtain rfl : q = 64 := by omega
              have ez : z = sameB s t := by
                rw [EZ.out]; unfold covS covR covK covW
                rw [HC.out, HD.out, HE.out]; rfl
              obtain ⟨M, hM⟩ := sz_some wr
              go_wp2_with (first
                | (go_at_call 81; refine (hsame _ M hM N (N + 1) h1 h2).mono ?_; rintro e w9 ⟨rfl, hb9⟩)
                | fail)
              go_ret
              exact ⟨by rw [ez]; rfl, hb.trans (hb9.mono (below_sz hb hN hM))⟩
end Go.Proofs.Ytaeggclcjpcnoaa
