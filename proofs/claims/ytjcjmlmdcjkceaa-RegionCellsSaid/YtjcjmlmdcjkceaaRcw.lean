/- RegionCells: its walk. -/
import Derived.Test.YtjcjmlmdcjkceaaRcl6
namespace Go.Proofs.Ytjcjmlmdcjkceaa
open Go Go.RowKit
theorem wpl_bsP1 {ops : Array Oper} {rest : List Oper} {o : Oper} {a : Act} {w : World} {Q : Exit → Act → World → Prop} (hgd : o.guard = none) (x : Operand) (ho : o.op = .buildSlice 67 1 #[(0, x)]) (r : Option Addr) (hx : a.eval x = .pointer r) (N : Nat) (hN : Sz w N)
    (h : ∀ w1, Sz w1 (N + 1) → Below N w w1 → Own w1 38 (some ⟨N, 0, none⟩) 1 1 (fun _ => .pointer r) → wpList Try.prog ops Q rest (a.put o.dst (.slice (some ⟨N, 0, none⟩) 1 1)) w1) : wpList Try.prog ops Q (o :: rest) a w := by
  have e : w.heap.size = N := hN
  subst e
  refine wpl_run hgd (.slice (some ⟨w.heap.size, 0, none⟩) 1 1) (w.alloc (.cells (cellsOf (fun _ => .pointer r) 1) 38)) ?_ (h _ (sz_alloc rfl _) (below_new _ _ _ rfl) ?_)
  · clear h hN
    generalize a.eval = ev at *
    unfold execOp
    simp only [ho]
    go_simp
    kernel_rfl
  · exact own_has (has_new rfl 38 1 _)
theorem spV_bd (l : Nat) : Try.prog.built 63 [(0, .int .i64 0), (1, .int .i64 4), (2, .int .i64 (l : Int)), (3, .int .i64 1)] = some #[.int .i64 ((0 : Nat) : Int), .int .i64 ((4 : Nat) : Int), .int .i64 (l : Int), .int .i64 ((1 : Nat) : Int)] := by kernel_rfl
theorem run_rem100 {P : Program} {a : Act} {o : Oper} {T ty : TypeId} {x y : Operand} {p : Int} (ho : o.op = .binOp .rem T x y ty) (hx : a.eval x = .int .i64 p) (hy : a.eval y = .int .i64 100) (w : World) : (execOp a.eval o).run P w = .ok (.value (.int .i64 (p.tmod 100))) w := by
  unfold execOp; simp only [ho, hx, hy]; go_simp
theorem undPMp : Try.prog.underlying 38 = some (.pointer (Try.prog.pointee 38)) := by kernel_rfl
theorem szMp6 : (Try.prog.info? (Try.prog.pointee 38)).map (·.size) = some 6 := by kernel_rfl
theorem eqPs (d : Nat) (q : Addr) (w : World) : (Op.equalIn (d + 1) 38 (.pointer (some q)) (.pointer (some q))).run Try.prog w = .ok true w := by
  have hs := szMp6
  cases hq : Try.prog.info? (Try.prog.pointee 38) with
  | none => simp [hq] at hs
  | some i =>
    have hi : i.size = 6 := by simpa [hq] using hs
    simp [Op.equalIn, run_underlying undPMp, sizeOf, typeInfo, hq, hi, sameAddr]
theorem neqPs (q : Addr) (w : World) : (binOp .neq 38 (.pointer (some q)) (.pointer (some q))).run Try.prog w = .ok (.bool false) w := by
  have h2 : (Op.equal 38 (.pointer (some q)) (.pointer (some q))).run Try.prog w = .ok true w := eqPs 9999 q w
  simp only [binOp, Sem.run_bind, h2, Result.andThen_ok, Sem.run_pure]
  rfl
theorem tmod100 (o : Int) : -100 < o.tmod 100 ∧ o.tmod 100 < 100 := ⟨by have := Int.lt_tmod_of_pos o (show (0 : Int) < 100 by omega); omega, Int.tmod_lt_of_pos o (by omega)⟩
def X7 (j : Nat) : W := if j = 0 then 7#64 else 0#64
set_option maxRecDepth 100000 in
set_option maxHeartbeats 64000000 in
theorem law_rcells (p : Option Addr) (n0 c0 : Nat) (D0 : Nat → BitVec 8) (sA : Nat → Int) (z : Int) (w : World) (N : Nat) (hN : Sz w N) (hnc : n0 ≤ c0) (hA : Ats w p n0 (fun j => By (D0 j))) : Calls Try.prog 4 #[.slice p n0 c0, .agg (cellsOf (fun j => .int .i64 (sA j)) 2), .int .i64 z] w fun e w' => e = .returned (.bool true) ∧ Below N w w' := by
  obtain ⟨m3, em3⟩ : ∃ m, min n0 63 = m := ⟨_, rfl⟩
  have hm3 : m3 ≤ 63 ∧ m3 ≤ n0 := by omega
  have EM := hid em3
  clear em3
  obtain ⟨C, eC⟩ : ∃ C : Nat → BitVec 8, ∀ j, C j = if j < m3 then D0 j else 1#8 := ⟨_, fun _ => rfl⟩
  have EC := hid eC
  clear eC
  have lo := Below.refl N w
  have hN0 := hN
  go_enter Try.func4, Try.ntmps4
  have hA0 := hA
  go_upto_region 2 with (first
    | ((with_reducible show wpList _ _ _ (_ :: _) _ _); first
      | (refine wpl_box rfl 59 (.tmp 1) rfl 2 _ rfl (N) hN0 ?_; intro w11 hM11 hb11 h4; replace hA := hA.below hN0 hb11; replace lo := lo.trans (hb11.mono (by omega)); clear hN0 hb11; try simp only [pA])
      | (refine wpl_lit0 rfl 32 5 rfl undSY szY1 (N + 1) hM11 (fun _ => By 0#8) ?_; intro w12 hM12 hb12 oE; replace hA := hA.below hM11 hb12; replace h4 := h4.below hb12 (by omega); replace lo := lo.trans (hb12.mono (by omega)); clear hM11 hb12; try simp only [pA])
      | (refine wpl_run rfl (.int .i64 ((n0 : Nat) : Int)) _ (run_lenS (x := .tmp 33) (T := 32) undSY rfl rfl _) ?_; try simp only [pA])
      | (refine wpl_run rfl (.int .i64 ((min n0 63 : Nat) : Int)) _ (run_minN (x := .tmp 34) (y := .const (.int .i64 63)) (m := 63) rfl rfl rfl _) ?_; rw [EM.out]; try simp only [pA])
      | (refine wpl_run rfl (.slice p m3 c0) _ (run_slTo 32 5 undSY szY1 (.tmp 32) (.tmp 35) rfl rfl rfl (k := m3) (by omega) _) ?_; try simp only [pA])
      | (refine wpl_app rfl (.tmp 31) (.tmp 36) 32 rfl 5 undSY oneY _ _ _ rfl _ oE p m3 c0 rfl _ ((hA0.below hN lo |>.cut (by omega)).cells) (fun _ _ => rfl) (by omega) ?_; intro p13 q13 w13 o1 g13 n13 e13; obtain ⟨M13, hM13⟩ := sz_some w13; have l13 : N + 1 + 1 ≤ M13 := (by have q1 := g13.size; have q2 := hM12; have q3 := hM13; unfold Sz at q2 q3; omega); replace hA := hA0.below hN (g13.below lo (by have q2 := hM12; unfold Sz at q2; omega) (fun g hg => by (simp [blk] at hg <;> omega))); replace h4 := h4.grew g13 (by simp [blk] <;> omega); replace lo := g13.below lo (by have q2 := hM12; unfold Sz at q2; omega) (fun g hg => by (simp [blk] at hg <;> omega)); have No1 : ∀ g, blk p13 = some g → N + 1 ≤ g := (fun g hg => by have q2 := hM12; unfold Sz at q2; rcases n13 with e8 | e8; rw [e8] at hg; (simp [blk] at hg <;> omega); rw [e8] at hg; have h6 := Option.some.inj hg; omega); clear hM12; try simp only [pA])
      | (refine wpl_bs1 rfl (.const (.int .u8 1)) rfl 1#8 rfl (M13) hM13 ?_; intro w14 hM14 hb14 h1; replace hA := hA.below hM13 hb14; replace h4 := h4.below hb14 (by omega); replace o1 := o1.below hb14 (Nat.le_of_eq hM13); replace lo := lo.trans (hb14.mono (by omega)); clear hM13 hb14; try simp only [pA])
      | (refine wpl_app rfl (.tmp 37) (.tmp 38) 32 rfl 5 undSY oneY _ _ _ rfl _ o1 (some ⟨M13, 0, none⟩) 1 1 rfl _ (h1.ats.cells) (fun _ _ => rfl) (by omega) ?_; intro p15 q15 w15 hO g15 n15 e15; obtain ⟨M15, hM15⟩ := sz_some w15; have l15 : M13 + 1 ≤ M15 := (by have q1 := g15.size; have q2 := hM14; have q3 := hM15; unfold Sz at q2 q3; omega); replace hA := hA0.below hN (g15.below lo (by have q2 := hM14; unfold Sz at q2; omega) (fun g hg => by have h9 := No1 g hg; omega)); replace h4 := h4.grew g15 (fun h => by have h9 := No1 _ h.symm; omega); replace lo := g15.below lo (by have q2 := hM14; unfold Sz at q2; omega) (fun g hg => by have h9 := No1 g hg; omega); have NhO : ∀ g, blk p15 = some g → N + 1 ≤ g := (fun g hg => by have q2 := hM14; unfold Sz at q2; rcases n15 with e8 | e8; rw [e8] at hg; have h9 := No1 g hg; omega; rw [e8] at hg; have h6 := Option.some.inj hg; omega); clear hM14; try simp only [pA]))
    | fail)
  have el : 0 + m3 + 1 = m3 + 1 := by omega
  rw [el] at hO
  rw [el]
  obtain ⟨l, ell⟩ : ∃ l, m3 + 1 = l := ⟨_, rfl⟩
  rw [ell] at hO
  rw [ell]
  have hl : 1 ≤ l ∧ l ≤ 64 := by omega
  clear el
  replace hO : Own _ _ _ _ _ (fun j => By (C j)) := hO.congr (fun j hj => by rw [EC.out j]; unfold cat; by_cases h9 : j < m3; rw [if_pos (by omega), if_neg (by omega), if_pos h9, Nat.sub_zero]; rw [if_neg (by omega), if_neg h9])
  have BhO : ∀ g, blk p15 = some g → N + 1 ≤ g ∧ g < M15 := fun g hg => ⟨NhO g hg, by have h9 := hO.lt g hg; have h8 := hM15; unfold Sz at h8; omega⟩
  clear h1 NhO hA
  obtain ⟨pB, epB⟩ : ∃ q, p15 = q := ⟨_, rfl⟩
  rw [epB] at hO BhO
  rw [epB]
  clear epB
  have N4 : N < M15 := by omega
  go_upto_region 5 with (first
    | (go_at_call 20; refine (New_cell l hl.1 hl.2 _ (M15) hM15).mono ?_; rintro e w16 ⟨mb, m, cb, db, lmb, rfl, hb16, A1⟩; obtain ⟨M16, hM16⟩ := sz_some w16; have l16 := below_sz hb16 hM15 hM16; replace h4 := h4.below hb16 (by omega); replace hO := hO.below hb16 (Nat.le_of_eq hM15); replace lo := lo.trans (hb16.mono (by omega)); clear hM15 hb16; try simp only [pA])
    | (go_at_call 10; refine (saves_any _ (M16) hM16).mono ?_; rintro e w17 ⟨rfl, hb17⟩; obtain ⟨M17, hM17⟩ := sz_some w17; have l17 := below_sz hb17 hM16 hM17; replace h4 := h4.below hb17 (by omega); replace hO := hO.below hb17 (Nat.le_of_eq hM16); replace A1 := A1.below hM16 hb17; replace lo := lo.trans (hb17.mono (by omega)); clear hM16 hb17; try simp only [pA])
    | (go_at_call 21; refine (A1.upd hM18 hl.1 hl.2 C _ _ _ _ h55.ats hO.ats).mono ?_; rintro e w19 ⟨rfl, T19, A2⟩; obtain ⟨M19, hM19⟩ := sz_some w19; have l19 : M17 + 1 ≤ M19 := (by have q1 := T19.size; have q2 := hM18; have q3 := hM19; unfold Sz at q2 q3; omega); have fd := A1.lo db (.inr (.inr ⟨0, A1.n0, .inr A1.ed.symm⟩)); replace hO := hO.turn T19 (fun g hg e => by have h9 := BhO g hg; omega); replace h4 := h4.turn T19 (by intro e; have h9 := N4; omega); replace lo := T19.below lo (fun j hj => by omega) (below_le lo hN); clear A1 h55 hM18; try simp only [pA])
    | ((with_reducible show wpList _ _ _ (_ :: _) _ _); first
      | (refine wpl_run rfl (.int .i64 ((l : Nat) : Int)) _ (run_lenS (x := .tmp 41) (T := 32) undSY rfl rfl _) ?_; try simp only [pA])
      | (refine wpl_run rfl (spV 0 4 l 1) _ (run_bd 63 #[(0, .const (.int .i64 0)), (1, .const (.int .i64 4)), (2, .tmp 42), (3, .const (.int .i64 1))] rfl _ (spV_bd l) _) ?_; try simp only [pA])
      | (refine wpl_want ?_ ?_; rotate_left; (refine wpl_bs4 rfl (.const (.int .u8 0)) (.const (.int .u8 0)) (.const (.int .u8 0)) (.const (.int .u8 0)) rfl 0#8 0#8 0#8 0#8 rfl rfl rfl rfl (M17) hM17 ?_; intro w18 hM18 hb18 h55; replace h4 := h4.below hb18 (by omega); replace hO := hO.below hb18 (Nat.le_of_eq hM17); replace A1 := A1.below hM17 hb18; replace lo := lo.trans (hb18.mono (by omega)); clear hM17 hb18); rotate_left; rfl; try simp only [pA]))
    | fail)
  generalize m.set 0 C = m2 at A2
  have FA2 : ∀ g, Foot m2 g → g < M19 := fun g hg => A2.a.lt hM19 g hg
  have FDB : db < M19 := FA2 db (.inr (.inr ⟨0, A2.n0, .inr A2.ed.symm⟩))
  have FMB : mb < M19 := FA2 mb (.inl A2.eb.symm)
  as_aux_lemma =>
    go_upto_region 7 with (first
      | (go_at_call 22; refine (A2.get hM20 _ _ h64.ats).mono ?_; rintro e w21 ⟨rfl, hb21⟩; obtain ⟨M21, hM21⟩ := sz_some w21; have l21 := below_sz hb21 hM20 hM21; replace h4 := h4.below hb21 (by omega); replace hO := hO.below hb21 (Nat.le_of_eq hM20); replace A2 := A2.below hM20 hb21; replace h64 := h64.below hb21 (by omega); replace lo := lo.trans (hb21.mono (by omega)); clear hM20 hb21; try simp only [pA])
      | (go_at_call 14; refine (New_one X7 _ _ mb _ (M21 + 1) hM22 oP).mono ?_; rintro e w23 ⟨rb, pm, cm, rfl, lrb, hb23, hh, oM⟩; obtain ⟨M23, hM23⟩ := sz_some w23; have l23 := below_sz hb23 hM22 hM23; replace h4 := h4.below hb23 (by omega); replace hO := hO.below hb23 (Nat.le_of_eq hM22); replace A2 := A2.below hM22 hb23; replace lo := lo.trans (hb23.mono (by omega)); have lrb2 := hh.ltN hM23; clear oP; clear hM22 hb23; try simp only [pA])
      | ((with_reducible show wpList _ _ _ (_ :: _) _ _); first
        | (refine wpl_bs4 rfl (.const (.int .u8 0)) (.const (.int .u8 0)) (.const (.int .u8 0)) (.const (.int .u8 0)) rfl 0#8 0#8 0#8 0#8 rfl rfl rfl rfl (M19) hM19 ?_; intro w20 hM20 hb20 h64; replace h4 := h4.below hb20 (by omega); replace hO := hO.below hb20 (Nat.le_of_eq hM19); replace A2 := A2.below hM19 hb20; replace lo := lo.trans (hb20.mono (by omega)); clear hM19 hb20; try simp only [pA])
        | (refine wpl_run rfl (.agg (cellsOf (xC X7) 32)) _ (run_bd 41 #[(0, .const (.int .u8 7))] rfl (cellsOf (xC X7) 32) (by kernel_rfl) _) ?_; try simp only [pA])
        | (refine wpl_bsP1 rfl (.tmp 67) rfl (some ⟨mb, 0, none⟩) rfl (M21) hM21 ?_; intro w22 hM22 hb22 oP; replace h4 := h4.below hb22 (by omega); replace hO := hO.below hb22 (Nat.le_of_eq hM21); replace A2 := A2.below hM21 hb22; replace lo := lo.trans (hb22.mono (by omega)); clear hM21 hb22; try simp only [pA]))
      | fail)
    obtain ⟨ms, rfl, hms⟩ := oM.cell (by omega)
    have qms := hms 0 (by omega)
    rw [Nat.add_zero] at qms
    clear hms
    as_aux_lemma =>
      go_upto_region 9 with (first
        | (go_at_call 13; refine (Map_0 rb _ ms cm mb rfl _ hh qms).mono ?_; rintro e u ⟨rfl, hu⟩; clear qms; have hu2 := hu.symm; subst hu2; clear hu; try simp only [pA])
        | fail)
      rename_i K7 hK7
      rw [neqPs]
      simp only [Result.andThen_ok]
      refine hK7 _ _ ?_
      clear hK7
      try simp only [pA]
      have hh1 := hh
      have hh2 := hh
      go_upto_region 9 with (first
        | (go_at_call 13; refine (Map_off rb _ ms cm rfl 1 (.inl rfl) _ hh1).mono ?_; rintro e u ⟨rfl, hu⟩; clear hh1; have hu2 := hu.symm; subst hu2; clear hu; try simp only [pA])
        | (go_at_call 13; refine (Map_off rb _ ms cm rfl (-1) (.inr rfl) _ hh2).mono ?_; rintro e u ⟨rfl, hu⟩; clear hh2; have hu2 := hu.symm; subst hu2; clear hu; try simp only [pA])
        | fail)
      have lrb3 := hh.ltN hM23
      as_aux_lemma =>
        have c0 : w23.cell? ⟨N, 0, none⟩ = some (.int .i64 (sA 0)) := h4.cell (j := 0) (by omega)
        have c1 : w23.cell? ⟨N, 1, none⟩ = some (.int .i64 (sA 1)) := h4.cell (j := 1) (by omega)
        have z0 := tmod100 (sA 0)
        have z1 := tmod100 (sA 1)
        refine wp_region_later (M23) (by kernel_rfl) (by kernel_rfl) ?_
        try simp only [pA]
        refine later_val (v := .pointer (some ⟨N, 0 + 0, none⟩)) (fun x => run_iaS (x := .tmp 4) (y := .const (.int .i64 0)) (b := N) (off := 0) (k := 0) (n := 2) (e := 2) rfl rfl rfl (by kernel_rfl) (by kernel_rfl) (by omega) _) (by rfl) ?_; try simp only [pA]
        refine later_c1 hM23 2 (.tmp 92) rfl rfl undI64 rfl c0 (by rfl) ?_; try simp only [pA]
        refine later_val (v := .int .i64 ((sA 0).tmod 100)) (fun x => run_rem100 (x := .tmp 93) (y := .const (.int .i64 100)) rfl rfl rfl _) (by rfl) ?_; try simp only [pA]
        refine later_val (v := .pointer (some ⟨N, 0 + 1, none⟩)) (fun x => run_iaS (x := .tmp 4) (y := .const (.int .i64 1)) (b := N) (off := 0) (k := 1) (n := 2) (e := 2) rfl rfl rfl (by kernel_rfl) (by kernel_rfl) (by omega) _) (by rfl) ?_; try simp only [pA]
        refine later_c1 hM23 2 (.tmp 95) rfl rfl undI64 rfl c1 (by rfl) ?_; try simp only [pA]
        refine later_val (v := .int .i64 ((sA 1).tmod 100)) (fun x => run_rem100 (x := .tmp 96) (y := .const (.int .i64 100)) rfl rfl rfl _) (by rfl) ?_; try simp only [pA]
        go_big_quiet_step (fail)
        go_big_quiet_step (fail)
        refine wpQuiet_nil (laterE hM23 ?_)
        intro w24 M24 hb24 hM24 l24
        replace h4 := h4.below hb24 (by omega)
        replace hO := hO.below hb24 (Nat.le_of_eq hM23)
        replace A2 := A2.below hM23 hb24
        replace hh := hh.below hb24 (by omega)
        replace oM := oM.below hb24 (Nat.le_of_eq hM23)
        replace lo := lo.trans (hb24.mono (by omega))
        clear hb24 hM23 c0 c1 h4
        obtain ⟨pl, epl⟩ : ∃ x, (sA 0).tmod 100 = x := ⟨_, rfl⟩
        obtain ⟨of, eof⟩ : ∃ x, (sA 1).tmod 100 = x := ⟨_, rfl⟩
        rw [epl] at z0
        rw [eof] at z1
        rw [epl, eof]
        clear epl eof
        obtain ⟨k, ek⟩ : ∃ k, k6 z = k := ⟨_, rfl⟩
        have hk := k6_ok z
        rw [ek] at hk
        have hk8 : k ≤ 8 ∧ 0 < k := by rcases hk with rfl | rfl | rfl | rfl <;> omega
        have HK := hid hk
        have EK := hid ek
        clear hk ek
        obtain ⟨fi, efi⟩ : ∃ x, pl + of = x := ⟨_, rfl⟩
        have hfi : -200 < fi ∧ fi < 200 := by omega
        have EFI := hid efi
        clear efi
        have BoM : ∀ g, blk (some (⟨ms, 0, none⟩ : Addr)) = some g → g < M24 := fun g hg => by have h9 := oM.lt g hg; have h8 := hM24; unfold Sz at h8; omega
        go_upto_region 13 with (first
          | (go_at_call 15; refine (Size_any z _ (M24) hM24).mono ?_; rintro e w25 ⟨rfl, hb25⟩; obtain ⟨M25, hM25⟩ := sz_some w25; have l25 := below_sz hb25 hM24 hM25; replace hO := hO.below hb25 (Nat.le_of_eq hM24); replace A2 := A2.below hM24 hb25; replace hh := hh.below hb25 (by omega); replace oM := oM.below hb25 (Nat.le_of_eq hM24); replace lo := lo.trans (hb25.mono (by omega)); rw [EK.out]; clear hM24 hb25; try simp only [pA])
          | ((with_reducible show wpList _ _ _ (_ :: _) _ _); first
            | (refine wpl_run rfl (Q (BitVec.ofInt 64 pl)) _ (run_iu (x := .tmp 100) (z := pl) rfl undI64 und64 rfl _) ?_; try simp only [pA])
            | (refine wpl_run rfl (.agg (cellsOf (vlC (cvV pl cb)) 4)) _ (run_bd 26 #[(0, .const (.int .i64 5)), (1, .tmp 101), (3, .tmp 102)] rfl (cellsOf (vlC (cvV pl cb)) 4) (by kernel_rfl) _) ?_; try simp only [pA])
            | (refine wpl_alloc rfl 26 rfl 4 (vlC zeroV) zeVl (M25) hM25 ?_; intro w26 hM26 hb26 h15; replace hO := hO.below hb26 (Nat.le_of_eq hM25); replace A2 := A2.below hM25 hb26; replace hh := hh.below hb26 (by omega); replace oM := oM.below hb26 (Nat.le_of_eq hM25); replace lo := lo.trans (hb26.mono (by omega)); clear hM25 hb26; try simp only [pA])
            | (refine wpl_store rfl 26 (.tmp 15) (.tmp 103) rfl (M25) 4 (vlC (cvV pl cb)) rfl rfl 26 _ h15 szVl (fun j _ => vlC_one _ j) ?_; intro w27 t27 k27; replace hO := hO.touch t27 (fun g hg => by have h9 := BhO g hg; omega); replace hh := hh.touch t27 (by omega); replace oM := oM.touch t27 (fun g hg => by have h9 := BoM g hg; omega); replace A2 := A2.touchM t27 (fun h => by have h9 := FA2 _ h; omega); replace lo := t27.below lo (by omega); have hM27 := t27.sz hM26; clear h15 t27 hM26; have h15 := k27; clear k27; try simp only [pA])
            | (refine wpl_run rfl (.int .i64 fi) _ (addZ (x := .tmp 104) (y := .tmp 105) rfl rfl rfl EFI.out (by omega) _) ?_; try simp only [pA]))
          | fail)
        obtain ⟨f, ef⟩ : ∃ f, fi.toNat = f := ⟨_, rfl⟩
        have EF := hid ef
        clear ef
        have NMS : ms ≠ db := oM.apart A2.bytes (by decide)
        have NMB : ms ≠ mb := by have h9 := A2.a.h; rw [A2.eb] at h9; exact oM.apart h9 (by decide)
        obtain ⟨bI, ebI⟩ : ∃ b, decide (0 ≤ fi ∧ fi + ((k : Nat) : Int) ≤ ((l : Nat) : Int)) = b := ⟨_, rfl⟩
        have EBI := hid ebI
        clear ebI
        as_aux_lemma =>
          go_cut [17] (fun v wx => v = (Value.bool bI) ∧ wx = w27)
          case first =>
            obtain ⟨c1, e1⟩ : ∃ c, decide (0 ≤ fi) = c := ⟨_, rfl⟩
            obtain ⟨c2, e2⟩ : ∃ c, decide (fi + ((k : Nat) : Int) ≤ ((l : Nat) : Int)) = c := ⟨_, rfl⟩
            have EC : Hid ((c1 && c2) = bI) := hid (by rw [← e1, ← e2, ← EBI.out, Bool.decide_and])
            have E1 := hid e1
            have E2 := hid e2
            clear e1 e2
            cases c1
            all_goals cases c2
            all_goals
              go_wp2_with (first
                | ((with_reducible show wpList _ _ _ (_ :: _) _ _); first
                  | (refine wpl_run rfl (.bool _) _ (run_geqI (x := .tmp 107) (y := .const (.int .i64 0)) rfl rfl rfl E1.out _) ?_; try simp only [pA])
                  | (refine wpl_want ?_ ?_; rotate_left; (refine wpl_run rfl (.int .i64 (fi + ((k : Nat) : Int))) _ (addZ (x := .tmp 110) (y := .tmp 111) rfl rfl rfl rfl (by omega) _) ?_); rotate_left; rfl; try simp only [pA])
                  | (refine wpl_want ?_ ?_; rotate_left; (refine wpl_run rfl (.int .i64 ((l : Nat) : Int)) _ (run_lenS (x := .tmp 113) (T := 32) undSY rfl rfl _) ?_); rotate_left; rfl; try simp only [pA])
                  | (refine wpl_want ?_ ?_; rotate_left; (refine wpl_run rfl (.bool _) _ (run_leqI (x := .tmp 112) (y := .tmp 114) rfl rfl rfl E2.out _) ?_); rotate_left; rfl; try simp only [pA]))
                | fail)
            all_goals (go_meet; exact ⟨congrArg Value.bool EC.out, rfl⟩)
          obtain ⟨rfl, ewc⟩ := hcut
          subst ewc
          go_upto_region 15 with (first
            | (go_at_call 8; refine (A2.loadb rb hM27 hl.2 pl of fi f EFI.out EF.out z0 z1 k HK.out bI EBI.out).mono ?_; rintro e w28 ⟨rfl, hb28⟩; obtain ⟨M28, hM28⟩ := sz_some w28; have l28 := below_sz hb28 hM27 hM28; replace hO := hO.below hb28 (Nat.le_of_eq hM27); replace A2 := A2.below hM27 hb28; replace hh := hh.below hb28 (by omega); replace oM := oM.below hb28 (Nat.le_of_eq hM27); replace h15 := h15.below hb28 (by omega); replace lo := lo.trans (hb28.mono (by omega)); clear hM27 hb28; try simp only [pA])
            | ((with_reducible show wpList _ _ _ (_ :: _) _ _); first
              | (refine wpl_load rfl 26 (.tmp 15) rfl (M25) rfl 26 4 _ h15 _ undVl.choose_spec.1 undVl.choose_spec.2 szVl ?_; try simp only [pA])
              | (refine wpl_alloc rfl 26 rfl 4 (vlC zeroV) zeVl (M28) hM28 ?_; intro w29 hM29 hb29 h18; replace hO := hO.below hb29 (Nat.le_of_eq hM28); replace A2 := A2.below hM28 hb29; replace hh := hh.below hb29 (by omega); replace oM := oM.below hb29 (Nat.le_of_eq hM28); replace h15 := h15.below hb29 (by omega); replace lo := lo.trans (hb29.mono (by omega)); clear hM28 hb29; try simp only [pA])
              | (refine wpl_store rfl 26 (.tmp 18) (.tmp 123) rfl (M28) 4 (vlC (ldB bI (numC C f k))) rfl rfl 26 _ h18 szVl (fun j _ => vlC_one _ j) ?_; intro w30 t30 k30; replace hO := hO.touch t30 (fun g hg => by have h9 := BhO g hg; omega); replace A2 := A2.touchM t30 (fun h => by have h9 := FA2 _ h; omega); replace hh := hh.touch t30 (by omega); replace oM := oM.touch t30 (fun g hg => by have h9 := BoM g hg; omega); replace h15 := h15.touch t30 (by omega); replace lo := t30.below lo (by omega); have hM30 := t30.sz hM29; clear h18 t30 hM29; have h18 := k30; clear k30; try simp only [pA]))
            | fail)
          as_aux_lemma =>
            go_upto_region 16 with (first
              | (go_at_call 11; refine (A2.saveb rb (newMp X7 (.slice (some ⟨ms, 0, none⟩) 1 cm)) ms cm rfl hM30 hh oM.q hl.2 pl of fi f EFI.out EF.out z0 z1 k HK.out bI EBI.out).mono ?_; rintro e w31 ⟨rfl, T31, m3_, A3, FA3⟩; obtain ⟨M31, hM31⟩ := sz_some w31; have l31 : M28 + 1 ≤ M31 := (by have q1 := T31.size; have q2 := hM30; have q3 := hM31; unfold Sz at q2 q3; omega); replace hO := hO.turn T31 (fun g hg e => by have h9 := BhO g hg; omega); replace oM := oM.turn T31 (fun g hg e => NMS ((Option.some.inj hg).trans e)); replace hh := hh.turn T31 (fun e => by omega); replace h15 := h15.turn T31 (fun e => by omega); replace h18 := h18.turn T31 (fun e => by omega); replace lo := T31.below lo (fun j hj => by omega) (below_le lo hN); replace FA2 : ∀ g, Foot m3_ g → g < _ := fun g hg => FA2 g (FA3 g hg); clear A2 FA3 hM30 T31; try simp only [pA])
              | ((with_reducible show wpList _ _ _ (_ :: _) _ _); first
                | (refine wpl_load rfl 26 (.tmp 15) rfl (M25) rfl 26 4 _ h15 _ undVl.choose_spec.1 undVl.choose_spec.2 szVl ?_; try simp only [pA])
                | (refine wpl_run rfl (.agg (cellsOf (vlC (nuV 12370169555311111083#64)) 4)) _ (run_bd 26 #[(0, .const (.int .i64 1)), (1, .const (.int .u64 12370169555311111083))] rfl (cellsOf (vlC (nuV 12370169555311111083#64)) 4) (by kernel_rfl) _) ?_; try simp only [pA]))
              | fail)
            go_upto_region 17 with (first
              | (go_at_call 11; refine (A3.savek rb (newMp X7 (.slice (some ⟨ms, 0, none⟩) 1 cm)) ms cm rfl hM31 hh oM.q hl.2 pl of z1).mono ?_; rintro e w32 ⟨rfl, hb32⟩; obtain ⟨M32, hM32⟩ := sz_some w32; have l32 := below_sz hb32 hM31 hM32; replace hO := hO.below hb32 (Nat.le_of_eq hM31); replace hh := hh.below hb32 (by omega); replace oM := oM.below hb32 (Nat.le_of_eq hM31); replace h15 := h15.below hb32 (by omega); replace h18 := h18.below hb32 (by omega); replace A3 := A3.below hM31 hb32; replace lo := lo.trans (hb32.mono (by omega)); clear hM31 hb32; try simp only [pA])
              | ((with_reducible show wpList _ _ _ (_ :: _) _ _); first
                | (refine wpl_load rfl 26 (.tmp 15) rfl (M25) rfl 26 4 _ h15 _ undVl.choose_spec.1 undVl.choose_spec.2 szVl ?_; try simp only [pA])
                | (refine wpl_run rfl (.agg (cellsOf (vlC ⟨4, 0#64, 0, none⟩) 4)) _ (run_bd 26 #[(0, .const (.int .i64 4))] rfl (cellsOf (vlC ⟨4, 0#64, 0, none⟩) 4) (by kernel_rfl) _) ?_; try simp only [pA]))
              | fail)
            go_upto_if 150 with (first
              | ((with_reducible show wpList _ _ _ (_ :: _) _ _); first
                | (refine wpl_run rfl (.bool bI) _ (run_eqlI (x := .tmp 136) (y := .const (.int .i64 0)) rfl rfl rfl (eB_eq bI) _) ?_; try simp only [pA])
                | (refine wpl_run rfl (.bool false) _ (run_neqB (x := .tmp 137) (y := .tmp 138) rfl rfl rfl (by cases bI <;> rfl) _) ?_; try simp only [pA])
                | (refine wpl_want ?_ ?_; rotate_left; (refine wpl_run rfl (.bool bI) _ (run_eqlI (x := .tmp 141) (y := .const (.int .i64 0)) rfl rfl rfl (eB_eq bI) _) ?_); rotate_left; rfl; try simp only [pA])
                | (refine wpl_want ?_ ?_; rotate_left; (refine wpl_run rfl (.bool false) _ (run_neqB (x := .tmp 142) (y := .tmp 143) rfl rfl rfl (by cases bI <;> rfl) _) ?_); rotate_left; rfl; try simp only [pA]))
              | fail)
            as_aux_lemma =>
              go_cut [] (fun wx => Own wx 5 pB l q15 (fun j => By (abB bI C f k j)) ∧ Has wx rb 83 193 (meC (newMp X7 (.slice (some ⟨ms, 0, none⟩) 1 cm))) ∧ Own wx 38 (some ⟨ms, 0, none⟩) 1 cm (fun _ => .pointer (some ⟨mb, 0, none⟩)) ∧ Cm wx (M15) mb l false cb db (abB bI C f k) m3_ ∧ Has wx (M25) 26 4 (vlC (cvV pl cb)) ∧ Below N w wx ∧ Sz wx (M32))
              case first =>
                cases bI
                · as_aux_lemma =>
                    go_wp2_with fail
                    go_meet
                    exact ⟨hO.congr (fun j _ => rfl), hh, oM, A3, h15, lo, hM32⟩
                · as_aux_lemma =>
                    have hin := of_decide_eq_true EBI.out
                    have ef : fi = ((f : Nat) : Int) := by have := EF.out; omega
                    subst ef
                    have hfk : f + k ≤ l := by omega
                    clear hin
                    obtain ⟨bb, rfl, hbb⟩ := hO.cell (by omega)
                    clear hbb
                    have NBM : ms ≠ bb := oM.apart2 hO (by decide)
                    go_wp2_with (first
                      | ((with_reducible show wpList _ _ _ (_ :: _) _ _); first
                        | (refine wpl_run rfl (.int .i64 (((k : Nat) : Int) - 1)) _ (subZ (x := .tmp 151) (y := .const (.int .i64 1)) rfl rfl rfl rfl (by omega) _) ?_; try simp only [pA]))
                      | fail)
                    go_loopw [22, 23] (fun x22 x23 wr => ∃ d : Nat, d ≤ k ∧ x23 = .int .i64 (((k : Nat) : Int) - 1 - ((d : Nat) : Int)) ∧ x22 = Q (accC (fun j => xt (C (f + j))) k d) ∧ Own wr 5 (some ⟨bb, 0, none⟩) l q15 (fun j => By (abT C f k d j)) ∧ Has wr rb 83 193 (meC (newMp X7 (.slice (some ⟨ms, 0, none⟩) 1 cm))) ∧ Own wr 38 (some ⟨ms, 0, none⟩) 1 cm (fun _ => .pointer (some ⟨mb, 0, none⟩)) ∧ Cm wr (M15) mb l false cb db (abB true C f k) m3_ ∧ Has wr (M25) 26 4 (vlC (cvV pl cb)) ∧ Has wr (M28) 26 4 (vlC (ldB true (numC C f k))) ∧ Below N w wr ∧ Sz wr (M32)) (fun _ x23 _ => (intOf x23 + 1).toNat)
                    case atStart => exact ⟨0, by omega, by simp, rfl, hO.congr (fun j _ => by rw [abT_0]), hh, oM, A3, h15, h18, lo, hM32⟩
                    case round =>
                      clear hO hh oM A3 h15 h18 lo hM32
                      obtain ⟨d, hd, rfl, rfl, hO, hh, oM, A3, h15, h18, lo, hMr⟩ := hrel
                      by_cases hlt : d < k
                      · obtain ⟨i, ei⟩ : ∃ i : Nat, i = k - 1 - d := ⟨_, rfl⟩
                        have ei2 : ((k : Nat) : Int) - 1 - ((d : Nat) : Int) = ((i : Nat) : Int) := by omega
                        rw [ei2]
                        have i0 : (0 : Int) ≤ (i : Int) := by omega
                        have t1 : decide ((0 : Int) ≤ (i : Int)) = true := decide_eq_true i0
                        have hik : i < k := by omega
                        have hcA : wr.cell? ⟨bb, f + i, none⟩ = some (Yv (xt (C (f + i)))) := by have h9 := hO.at_ (f + i) (by omega); rw [← abT_at C f k d i ei hlt]; exact h9
                        obtain ⟨acc, eacc⟩ : ∃ z, accC (fun j => xt (C (f + j))) k d = z := ⟨_, rfl⟩
                        rw [eacc]
                        have EACC := hid eacc
                        have EI := hid ei
                        have EI2 := hid ei2
                        clear ei ei2 eacc
                        go_wp2_with (first
                          | ((with_reducible show wpList _ _ _ (_ :: _) _ _); first
                            | (refine wpl_b rfl rfl (shl8C _ acc) rfl rfl ?_; try simp only [pA])
                            | (refine wpl_run rfl (.int .i64 ((f + i : Nat) : Int)) _ (run_addN (x := .tmp 160) (y := .tmp 161) (p := f) (q := i) rfl rfl rfl (by omega) _) ?_; try simp only [pA])
                            | (refine wpl_run rfl (.int .i64 ((f + i : Nat) : Int)) _ (run_addN (x := .tmp 168) (y := .tmp 169) (p := f) (q := i) rfl rfl rfl (by omega) _) ?_; try simp only [pA])
                            | (refine wpl_run rfl (.pointer (some ⟨bb, f + i, none⟩)) _ (run_ix0 32 5 undSY szY1 (.tmp 159) (.tmp 162) rfl rfl rfl (k := f + i) (by omega) _) ?_; try simp only [pA])
                            | (refine wpl_run rfl (.pointer (some ⟨bb, f + i, none⟩)) _ (run_ix0 32 5 undSY szY1 (.tmp 167) (.tmp 170) rfl rfl rfl (k := f + i) (by omega) _) ?_; try simp only [pA])
                            | (refine wpl_run rfl (Yv (xt (C (f + i)))) _ (run_c1 5 (.tmp 163) rfl ⟨bb, f + i, none⟩ rfl undY rfl hcA) ?_; try simp only [pA])
                            | (refine wpl_run rfl (Q (xt (C (f + i)))) _ (run_yu (x := .tmp 164) rfl undY und64 rfl _) ?_; try simp only [pA])
                            | (refine wpl_b rfl rfl (bin_or _ _ _) rfl rfl ?_; try simp only [pA])
                            | (refine wpl_setO rfl 5 (.tmp 171) (.const (.int .u8 171)) rfl bb (f + i) rfl (By 171#8) rfl szY1 rfl rfl 5 l q15 _ hO (by omega) ?_; intro wz tz hO2; replace hO := hO2.congr (fun j _ => abT_step C f k d i EI.out hlt j); clear hO2; have hb9 := BhO bb rfl; replace hh := hh.touch tz (by omega); replace oM := oM.touch tz (fun g hg => by have h9 : ms = g := Option.some.inj hg; omega); replace A3 := A3.touchM tz (fun h => by have h9 := A3.lo _ h; omega); replace h15 := h15.touch tz (by omega); replace h18 := h18.touch tz (by omega); replace lo := tz.below lo (by omega); replace hMr := tz.sz hMr; clear tz hb9; try simp only [pA])
                            | (refine wpl_run rfl (.int .i64 (((k : Nat) : Int) - 1 - ((d + 1 : Nat) : Int))) _ (subZ (x := .tmp 155) (y := .const (.int .i64 1)) (p := ((i : Nat) : Int)) rfl rfl rfl (by have := EI2.out; omega) (by omega) _) ?_; try simp only [pA]))
                          | fail)
                        refine ⟨⟨d + 1, by omega, rfl, ?_, hO, hh, oM, A3, h15, h18, lo, hMr⟩, by have h9 := EI2.out; simp [intOf]; omega⟩
                        show Q (acc <<< 8 ||| xt (C (f + i))) = Q ((accC (fun j => xt (C (f + j))) k d <<< 8) ||| xt (C (f + (k - 1 - d))))
                        rw [EACC.out, ← EI.out]
                      · obtain rfl : k = d := by omega
                        have t1 : decide ((0 : Int) ≤ ((k : Nat) : Int) - 1 - ((k : Nat) : Int)) = false := decide_eq_false (by omega)
                        have ex : ldB true (numC C f k) = nuV (accC (fun j => xt (C (f + j))) k k) := by show nuV (numC C f k) = _; rw [accC_num _ _ (xt_small C f k)]; rfl
                        rw [ex] at h18
                        clear ex
                        obtain ⟨acc, eacc⟩ : ∃ z, accC (fun j => xt (C (f + j))) k k = z := ⟨_, rfl⟩
                        rw [eacc] at h18
                        rw [eacc]
                        clear eacc
                        go_wp2_with (first
                          | ((with_reducible show wpList _ _ _ (_ :: _) _ _); first
                            | (refine wpl_load rfl 26 (.tmp 18) rfl (M28) rfl 26 4 _ h18 _ undVl.choose_spec.1 undVl.choose_spec.2 szVl ?_; try simp only [pA])
                            | (refine wpl_run rfl (.agg (cellsOf (vlC (nuV acc)) 4)) _ (run_bd 26 #[(0, .const (.int .i64 1)), (1, .tmp 173)] rfl (cellsOf (vlC (nuV acc)) 4) (by kernel_rfl) _) ?_; try simp only [pA])
                            | (refine wpl_run rfl (.bool false) _ (run_neq_op 26 26 (.tmp 172) (.tmp 174) rfl _ _ rfl rfl true (by kernel_rfl) (run_eqV_t rfl rfl _)) ?_; try simp only [pA]))
                          | fail)
                        go_meet
                        exact ⟨hO.congr (fun j _ => rfl), hh, oM, A3, h15, lo, hMr⟩
              clear hO hh oM A3 h15 h18 lo hM32
              obtain ⟨hO, hh, oM, A3, h15, lo, hMc⟩ := hcut
              as_aux_lemma =>
                go_upto_region 29 with (first
                  | (go_at_call 23; refine (A3.look hM33 hl.1 hl.2 _ _ h178.ats).mono ?_; rintro e w34 ⟨⟨bk, hbk, rfl, hk9⟩, hb34⟩; obtain ⟨M34, hM34⟩ := sz_some w34; have l34 := below_sz hb34 hM33 hM34; replace hO := hO.below hb34 (Nat.le_of_eq hM33); replace hh := hh.below hb34 (by omega); replace oM := oM.below hb34 (Nat.le_of_eq hM33); replace h15 := h15.below hb34 (by omega); replace A3 := A3.below hM33 hb34; replace lo := lo.trans (hb34.mono (by omega)); clear h178; clear hM33 hb34; try simp only [pA])
                  | ((with_reducible show wpList _ _ _ (_ :: _) _ _); first
                    | (refine wpl_bs4 rfl (.const (.int .u8 0)) (.const (.int .u8 0)) (.const (.int .u8 0)) (.const (.int .u8 0)) rfl 0#8 0#8 0#8 0#8 rfl rfl rfl rfl (M32) hMc ?_; intro w33 hM33 hb33 h178; replace hO := hO.below hb33 (Nat.le_of_eq hMc); replace hh := hh.below hb33 (by omega); replace oM := oM.below hb33 (Nat.le_of_eq hMc); replace h15 := h15.below hb33 (by omega); replace A3 := A3.below hMc hb33; replace lo := lo.trans (hb33.mono (by omega)); clear hMc hb33; try simp only [pA]))
                  | fail)
                obtain ⟨C2, eC2⟩ : ∃ x, abB bI C f k = x := ⟨_, rfl⟩
                rw [eC2] at hO A3 hk9
                clear eC2
                go_upto_region 31 with (first
                  | (go_at_call 24; refine (A3.freeze).mono ?_; rintro e w35 ⟨rfl, T35, A4⟩; replace hO := hO.touch T35 (fun g hg => by have h9 := BhO g hg; omega); replace oM := oM.touch T35 (fun g hg e => NMB ((Option.some.inj hg).trans e)); replace hh := hh.touch T35 (by omega); replace h15 := h15.touch T35 (by omega); replace lo := T35.below lo (by omega); have hM35 := T35.sz hM34; clear A3 hk9; try simp only [pA])
                  | ((with_reducible show wpList _ _ _ (_ :: _) _ _); first
                    | (refine wpl_want ?_ ?_; rotate_left; (refine wpl_run rfl (.string (strOf C2 l)) _ (run_cvS (src := 32) (dst := 9) (e := 5) undSY undY undSt (x := .tmp 185) rfl rfl _ C2 hk9.ats) ?_); rotate_left; rfl; try simp only [pA])
                    | (refine wpl_want ?_ ?_; rotate_left; (refine wpl_run rfl (.string (strOf C2 l)) _ (run_cvS (src := 32) (dst := 9) (e := 5) undSY undY undSt (x := .tmp 187) rfl rfl _ C2 hO.ats) ?_); rotate_left; rfl; try simp only [pA])
                    | (refine wpl_want ?_ ?_; rotate_left; (refine wpl_run rfl (.bool false) _ (run_neqS (x := .tmp 186) (y := .tmp 188) rfl rfl rfl _) ?_); rotate_left; rfl; try simp only [pA]))
                  | fail)
                as_aux_lemma =>
                  go_upto_region 32 with (first
                    | (go_at_call 8; refine (A4.loadb rb hM35 hl.2 pl of fi f EFI.out EF.out z0 z1 k HK.out bI EBI.out).mono ?_; rintro e w36 ⟨rfl, hb36⟩; obtain ⟨M36, hM36⟩ := sz_some w36; have l36 := below_sz hb36 hM35 hM36; replace hO := hO.below hb36 (Nat.le_of_eq hM35); replace hh := hh.below hb36 (by omega); replace oM := oM.below hb36 (Nat.le_of_eq hM35); replace h15 := h15.below hb36 (by omega); replace A4 := A4.below hM35 hb36; replace lo := lo.trans (hb36.mono (by omega)); clear hM35 hb36; try simp only [pA])
                    | ((with_reducible show wpList _ _ _ (_ :: _) _ _); first
                      | (refine wpl_load rfl 26 (.tmp 15) rfl (M25) rfl 26 4 _ h15 _ undVl.choose_spec.1 undVl.choose_spec.2 szVl ?_; try simp only [pA])
                      | (refine wpl_alloc rfl 26 rfl 4 (vlC zeroV) zeVl (M36) hM36 ?_; intro w37 hM37 hb37 h26; replace hO := hO.below hb37 (Nat.le_of_eq hM36); replace hh := hh.below hb37 (by omega); replace oM := oM.below hb37 (Nat.le_of_eq hM36); replace h15 := h15.below hb37 (by omega); replace A4 := A4.below hM36 hb37; replace lo := lo.trans (hb37.mono (by omega)); clear hM36 hb37; try simp only [pA])
                      | (refine wpl_store rfl 26 (.tmp 26) (.tmp 202) rfl (M36) 4 (vlC (ldB bI (numC C2 f k))) rfl rfl 26 _ h26 szVl (fun j _ => vlC_one _ j) ?_; intro w38 t38 k38; replace hO := hO.touch t38 (fun g hg => by have h9 := BhO g hg; omega); replace hh := hh.touch t38 (by omega); replace oM := oM.touch t38 (fun g hg => by have h9 := BoM g hg; omega); replace h15 := h15.touch t38 (by omega); replace A4 := A4.touchM t38 (fun h => by have h9 := FA2 _ h; omega); replace lo := t38.below lo (by omega); have hM38 := t38.sz hM37; clear h26 t38 hM37; have h26 := k38; clear k38; try simp only [pA]))
                    | fail)
                  as_aux_lemma =>
                    go_cut [231] (fun v wx => v = (Value.bool false) ∧ Has wx rb 83 193 (meC (newMp X7 (.slice (some ⟨ms, 0, none⟩) 1 cm))) ∧ Below N w wx)
                    case first =>
                      cases bI
                      · as_aux_lemma =>
                          go_wp2_with (first
                            | (go_at_call 11; refine (A4.shut rb (newMp X7 (.slice (some ⟨ms, 0, none⟩) 1 cm)) ms cm rfl hM38 hh oM.q hl.2 pl of z1 k HK.out).mono ?_; rintro e w39 ⟨rfl, hb39⟩; obtain ⟨M39, hM39⟩ := sz_some w39; have l39 := below_sz hb39 hM38 hM39; replace hO := hO.below hb39 (Nat.le_of_eq hM38); replace hh := hh.below hb39 (by omega); replace oM := oM.below hb39 (Nat.le_of_eq hM38); replace h15 := h15.below hb39 (by omega); replace A4 := A4.below hM38 hb39; replace h26 := h26.below hb39 (by omega); replace lo := lo.trans (hb39.mono (by omega)); clear hM38 hb39; try simp only [pA])
                            | (go_at_call 12; refine (A4.fill rb (newMp X7 (.slice (some ⟨ms, 0, none⟩) 1 cm)) ms cm rfl hM40 hh oM.q hl.2 pl _ 1 _ (by omega)).mono ?_; rintro e w41 ⟨rfl, hb41⟩; obtain ⟨M41, hM41⟩ := sz_some w41; have l41 := below_sz hb41 hM40 hM41; replace hO := hO.below hb41 (Nat.le_of_eq hM40); replace hh := hh.below hb41 (by omega); replace oM := oM.below hb41 (Nat.le_of_eq hM40); replace h15 := h15.below hb41 (by omega); replace A4 := A4.below hM40 hb41; replace h26 := h26.below hb41 (by omega); replace lo := lo.trans (hb41.mono (by omega)); clear hM40 hb41; try simp only [pA])
                            | ((with_reducible show wpList _ _ _ (_ :: _) _ _); first
                              | (refine wpl_run rfl (.bool false) _ (run_eqlI (x := .tmp 204) (y := .const (.int .i64 0)) rfl rfl rfl (eB_eq false) _) ?_; try simp only [pA])
                              | (refine wpl_run rfl (.bool false) _ (run_neqB (x := .tmp 205) (y := .tmp 206) rfl rfl rfl rfl _) ?_; try simp only [pA])
                              | (refine wpl_want ?_ ?_; rotate_left; (refine wpl_load rfl 26 (.tmp 15) rfl (M25) rfl 26 4 _ h15 _ undVl.choose_spec.1 undVl.choose_spec.2 szVl ?_); rotate_left; rfl; try simp only [pA])
                              | (refine wpl_want ?_ ?_; rotate_left; (refine wpl_run rfl (.agg (cellsOf (vlC (nuV 0#64)) 4)) _ (run_bd 26 #[(0, .const (.int .i64 1))] rfl (cellsOf (vlC (nuV 0#64)) 4) (by kernel_rfl) _) ?_); rotate_left; rfl; try simp only [pA])
                              | (refine wpl_want ?_ ?_; rotate_left; (refine wpl_bs1 rfl (.const (.int .u8 1)) rfl 1#8 rfl (M39) hM39 ?_; intro w40 hM40 hb40 h228; replace hO := hO.below hb40 (Nat.le_of_eq hM39); replace hh := hh.below hb40 (by omega); replace oM := oM.below hb40 (Nat.le_of_eq hM39); replace h15 := h15.below hb40 (by omega); replace A4 := A4.below hM39 hb40; replace h26 := h26.below hb40 (by omega); replace lo := lo.trans (hb40.mono (by omega)); clear hM39 hb40); rotate_left; rfl; try simp only [pA]))
                            | fail)
                          go_meet
                          exact ⟨rfl, hh, lo⟩
                      · as_aux_lemma =>
                          go_wp2_with (first
                            | (go_at_call 11; refine (A4.shut rb (newMp X7 (.slice (some ⟨ms, 0, none⟩) 1 cm)) ms cm rfl hM38 hh oM.q hl.2 pl of z1 k HK.out).mono ?_; rintro e w39 ⟨rfl, hb39⟩; obtain ⟨M39, hM39⟩ := sz_some w39; have l39 := below_sz hb39 hM38 hM39; replace hO := hO.below hb39 (Nat.le_of_eq hM38); replace hh := hh.below hb39 (by omega); replace oM := oM.below hb39 (Nat.le_of_eq hM38); replace h15 := h15.below hb39 (by omega); replace A4 := A4.below hM38 hb39; replace h26 := h26.below hb39 (by omega); replace lo := lo.trans (hb39.mono (by omega)); clear hM38 hb39; try simp only [pA])
                            | (go_at_call 12; refine (A4.fill rb (newMp X7 (.slice (some ⟨ms, 0, none⟩) 1 cm)) ms cm rfl hM40 hh oM.q hl.2 pl _ 1 _ (by omega)).mono ?_; rintro e w41 ⟨rfl, hb41⟩; obtain ⟨M41, hM41⟩ := sz_some w41; have l41 := below_sz hb41 hM40 hM41; replace hO := hO.below hb41 (Nat.le_of_eq hM40); replace hh := hh.below hb41 (by omega); replace oM := oM.below hb41 (Nat.le_of_eq hM40); replace h15 := h15.below hb41 (by omega); replace A4 := A4.below hM40 hb41; replace h26 := h26.below hb41 (by omega); replace lo := lo.trans (hb41.mono (by omega)); clear hM40 hb41; try simp only [pA])
                            | ((with_reducible show wpList _ _ _ (_ :: _) _ _); first
                              | (refine wpl_run rfl (.bool true) _ (run_eqlI (x := .tmp 204) (y := .const (.int .i64 0)) rfl rfl rfl (eB_eq true) _) ?_; try simp only [pA])
                              | (refine wpl_run rfl (.bool false) _ (run_neqB (x := .tmp 205) (y := .tmp 206) rfl rfl rfl rfl _) ?_; try simp only [pA])
                              | (refine wpl_want ?_ ?_; rotate_left; (refine wpl_run rfl (.pointer (some ⟨M36, 0, none⟩)) _ (run_fa 26 (.tmp 26) 0 0 rfl rfl faVl0) ?_); rotate_left; rfl; try simp only [pA])
                              | (refine wpl_want ?_ ?_; rotate_left; (refine wpl_run rfl (.int .i64 1) _ (run_c1 3 (.tmp 211) rfl ⟨M36, 0, none⟩ rfl undInt rfl (by exact h26.cell (j := 0) (by omega))) ?_); rotate_left; rfl; try simp only [pA])
                              | (refine wpl_want ?_ ?_; rotate_left; (refine wpl_load rfl 26 (.tmp 15) rfl (M25) rfl 26 4 _ h15 _ undVl.choose_spec.1 undVl.choose_spec.2 szVl ?_); rotate_left; rfl; try simp only [pA])
                              | (refine wpl_want ?_ ?_; rotate_left; (refine wpl_run rfl (.agg (cellsOf (vlC (nuV 0#64)) 4)) _ (run_bd 26 #[(0, .const (.int .i64 1))] rfl (cellsOf (vlC (nuV 0#64)) 4) (by kernel_rfl) _) ?_); rotate_left; rfl; try simp only [pA])
                              | (refine wpl_want ?_ ?_; rotate_left; (refine wpl_bs1 rfl (.const (.int .u8 1)) rfl 1#8 rfl (M39) hM39 ?_; intro w40 hM40 hb40 h228; replace hO := hO.below hb40 (Nat.le_of_eq hM39); replace hh := hh.below hb40 (by omega); replace oM := oM.below hb40 (Nat.le_of_eq hM39); replace h15 := h15.below hb40 (by omega); replace A4 := A4.below hM39 hb40; replace h26 := h26.below hb40 (by omega); replace lo := lo.trans (hb40.mono (by omega)); clear hM39 hb40); rotate_left; rfl; try simp only [pA]))
                            | fail)
                          go_meet
                          exact ⟨rfl, hh, lo⟩
                    clear hO hh oM A4 h15 h26 lo hM38
                    obtain ⟨rfl, hh, lo⟩ := hcut
                    obtain ⟨Mc, hMc⟩ := sz_some wc
                    have lrbc := hh.ltN hMc
                    have lNc := below_sz lo hN hMc
                    as_aux_lemma =>
                      go_upto_region 35 with (first
                        | ((with_reducible show wpList _ _ _ (_ :: _) _ _); first
                          | (refine wpl_run rfl (Q (BitVec.ofInt 64 pl)) _ (run_iu (x := .tmp 232) (z := pl) rfl undI64 und64 rfl _) ?_; try simp only [pA])
                          | (refine wpl_run rfl (.agg (cellsOf (vlC (cxV pl)) 4)) _ (run_bd 26 #[(0, .const (.int .i64 2)), (1, .tmp 233)] rfl (cellsOf (vlC (cxV pl)) 4) (by kernel_rfl) _) ?_; try simp only [pA])
                          | (refine wpl_alloc rfl 26 rfl 4 (vlC zeroV) zeVl (Mc) hMc ?_; intro w42 hM42 hb42 h28; replace hh := hh.below hb42 (by omega); replace lo := lo.trans (hb42.mono (by omega)); clear hMc hb42; try simp only [pA])
                          | (refine wpl_store rfl 26 (.tmp 28) (.tmp 234) rfl (Mc) 4 (vlC (cxV pl)) rfl rfl 26 _ h28 szVl (fun j _ => vlC_one _ j) ?_; intro w43 t43 k43; replace hh := hh.touch t43 (by omega); replace lo := t43.below lo (by omega); have hM43 := t43.sz hM42; clear h28 t43 hM42; have h28 := k43; clear k43; try simp only [pA]))
                        | fail)
                      obtain ⟨bX, ebX⟩ : ∃ b, decide (0 ≤ fi ∧ fi < 32) = b := ⟨_, rfl⟩
                      have EBX := hid ebX
                      clear ebX
                      go_upto_region 36 with (first
                        | (go_at_call 8; refine (LoadX_b rb (newMp X7 (.slice (some ⟨ms, 0, none⟩) 1 cm)) hM43 hh pl of fi EFI.out z0 z1 bX EBX.out).mono ?_; rintro e w44 ⟨⟨x9, rfl⟩, hb44⟩; obtain ⟨M44, hM44⟩ := sz_some w44; have l44 := below_sz hb44 hM43 hM44; replace hh := hh.below hb44 (by omega); replace h28 := h28.below hb44 (by omega); replace lo := lo.trans (hb44.mono (by omega)); clear hM43 hb44; try simp only [pA])
                        | ((with_reducible show wpList _ _ _ (_ :: _) _ _); first
                          | (refine wpl_load rfl 26 (.tmp 28) rfl (Mc) rfl 26 4 _ h28 _ undVl.choose_spec.1 undVl.choose_spec.2 szVl ?_; try simp only [pA])
                          | (refine wpl_alloc rfl 26 rfl 4 (vlC zeroV) zeVl (M44) hM44 ?_; intro w45 hM45 hb45 h29; replace hh := hh.below hb45 (by omega); replace h28 := h28.below hb45 (by omega); replace lo := lo.trans (hb45.mono (by omega)); clear hM44 hb45; try simp only [pA])
                          | (refine wpl_store rfl 26 (.tmp 29) (.tmp 240) rfl (M44) 4 (vlC (ldB bX x9)) rfl rfl 26 _ h29 szVl (fun j _ => vlC_one _ j) ?_; intro w46 t46 k46; replace hh := hh.touch t46 (by omega); replace h28 := h28.touch t46 (by omega); replace lo := t46.below lo (by omega); have hM46 := t46.sz hM45; clear h29 t46 hM45; have h29 := k46; clear k46; try simp only [pA]))
                        | fail)
                      as_aux_lemma =>
                        by_cases h1 : 0 ≤ fi
                        · by_cases h2 : fi < 32
                          · as_aux_lemma =>
                              obtain rfl : bX = true := by rw [← EBX.out]; exact decide_eq_true ⟨h1, h2⟩
                              have E1 : Hid (decide (0 ≤ fi) = true) := hid (decide_eq_true h1)
                              have E2 : Hid (decide (fi < 32) = true) := hid (decide_eq_true h2)
                              clear h1 h2
                              go_wp2_with (first
                                | (go_at_call 11; refine (SaveX_b rb hM46 pl of z1).mono ?_; rintro e w47 ⟨rfl, hb47⟩; obtain ⟨M47, hM47⟩ := sz_some w47; have l47 := below_sz hb47 hM46 hM47; replace hh := hh.below hb47 (by omega); replace h28 := h28.below hb47 (by omega); replace h29 := h29.below hb47 (by omega); replace lo := lo.trans (hb47.mono (by omega)); clear hM46 hb47; try simp only [pA])
                                | (go_at_call 12; refine (FillX_b rb hM47 pl).mono ?_; rintro e w48 ⟨rfl, hb48⟩; obtain ⟨M48, hM48⟩ := sz_some w48; have l48 := below_sz hb48 hM47 hM48; replace hh := hh.below hb48 (by omega); replace h28 := h28.below hb48 (by omega); replace h29 := h29.below hb48 (by omega); replace lo := lo.trans (hb48.mono (by omega)); clear hM47 hb48; try simp only [pA])
                                | ((with_reducible show wpList _ _ _ (_ :: _) _ _); first
                                  | (refine wpl_run rfl (.bool true) _ (run_eqlI (x := .tmp 242) (y := .const (.int .i64 0)) rfl rfl rfl (eB_eq true) _) ?_; try simp only [pA])
                                  | (refine wpl_run rfl (.bool true) _ (run_geqI (x := .tmp 244) (y := .const (.int .i64 0)) rfl rfl rfl E1.out _) ?_; try simp only [pA])
                                  | (refine wpl_want ?_ ?_; rotate_left; (refine wpl_run rfl (.bool true) _ (run_lssI (x := .tmp 247) (y := .const (.int .i64 32)) rfl rfl rfl E2.out _) ?_); rotate_left; rfl; try simp only [pA])
                                  | (refine wpl_run rfl (.bool true) _ (run_eqlB (x := .tmp 243) (y := .tmp 249) rfl rfl rfl rfl _) ?_; try simp only [pA])
                                  | (refine wpl_want ?_ ?_; rotate_left; (refine wpl_run rfl (.bool false) _ (run_neqI (x := .tmp 252) (y := .const (.int .i64 0)) rfl rfl rfl rfl _) ?_); rotate_left; rfl; try simp only [pA])
                                  | (refine wpl_want ?_ ?_; rotate_left; (refine wpl_run rfl (.pointer (some ⟨M44, 0, none⟩)) _ (run_fa 26 (.tmp 29) 0 0 rfl rfl faVl0) ?_); rotate_left; rfl; try simp only [pA])
                                  | (refine wpl_want ?_ ?_; rotate_left; (refine wpl_run rfl (.int .i64 1) _ (run_c1 3 (.tmp 255) rfl ⟨M44, 0, none⟩ rfl undInt rfl (by exact h29.cell (j := 0) (by omega))) ?_); rotate_left; rfl; try simp only [pA])
                                  | (refine wpl_want ?_ ?_; rotate_left; (refine wpl_load rfl 26 (.tmp 28) rfl (Mc) rfl 26 4 _ h28 _ undVl.choose_spec.1 undVl.choose_spec.2 szVl ?_); rotate_left; rfl; try simp only [pA])
                                  | (refine wpl_want ?_ ?_; rotate_left; (refine wpl_run rfl (.agg (cellsOf (vlC (nuV 0#64)) 4)) _ (run_bd 26 #[(0, .const (.int .i64 1))] rfl (cellsOf (vlC (nuV 0#64)) 4) (by kernel_rfl) _) ?_); rotate_left; rfl; try simp only [pA]))
                                | fail)
                              go_ret
                              exact ⟨rfl, lo⟩
                          · as_aux_lemma =>
                              obtain rfl : bX = false := by rw [← EBX.out]; exact decide_eq_false (fun h => h2 h.2)
                              have E1 : Hid (decide (0 ≤ fi) = true) := hid (decide_eq_true h1)
                              have E2 : Hid (decide (fi < 32) = false) := hid (decide_eq_false h2)
                              clear h1 h2
                              go_wp2_with (first
                                | (go_at_call 11; refine (SaveX_b rb hM46 pl of z1).mono ?_; rintro e w47 ⟨rfl, hb47⟩; obtain ⟨M47, hM47⟩ := sz_some w47; have l47 := below_sz hb47 hM46 hM47; replace hh := hh.below hb47 (by omega); replace h28 := h28.below hb47 (by omega); replace h29 := h29.below hb47 (by omega); replace lo := lo.trans (hb47.mono (by omega)); clear hM46 hb47; try simp only [pA])
                                | (go_at_call 12; refine (FillX_b rb hM47 pl).mono ?_; rintro e w48 ⟨rfl, hb48⟩; obtain ⟨M48, hM48⟩ := sz_some w48; have l48 := below_sz hb48 hM47 hM48; replace hh := hh.below hb48 (by omega); replace h28 := h28.below hb48 (by omega); replace h29 := h29.below hb48 (by omega); replace lo := lo.trans (hb48.mono (by omega)); clear hM47 hb48; try simp only [pA])
                                | ((with_reducible show wpList _ _ _ (_ :: _) _ _); first
                                  | (refine wpl_run rfl (.bool false) _ (run_eqlI (x := .tmp 242) (y := .const (.int .i64 0)) rfl rfl rfl (eB_eq false) _) ?_; try simp only [pA])
                                  | (refine wpl_run rfl (.bool true) _ (run_geqI (x := .tmp 244) (y := .const (.int .i64 0)) rfl rfl rfl E1.out _) ?_; try simp only [pA])
                                  | (refine wpl_want ?_ ?_; rotate_left; (refine wpl_run rfl (.bool false) _ (run_lssI (x := .tmp 247) (y := .const (.int .i64 32)) rfl rfl rfl E2.out _) ?_); rotate_left; rfl; try simp only [pA])
                                  | (refine wpl_run rfl (.bool true) _ (run_eqlB (x := .tmp 243) (y := .tmp 249) rfl rfl rfl rfl _) ?_; try simp only [pA])
                                  | (refine wpl_want ?_ ?_; rotate_left; (refine wpl_run rfl (.bool true) _ (run_neqI (x := .tmp 252) (y := .const (.int .i64 0)) rfl rfl rfl rfl _) ?_); rotate_left; rfl; try simp only [pA])
                                  | (refine wpl_want ?_ ?_; rotate_left; (refine wpl_load rfl 26 (.tmp 28) rfl (Mc) rfl 26 4 _ h28 _ undVl.choose_spec.1 undVl.choose_spec.2 szVl ?_); rotate_left; rfl; try simp only [pA])
                                  | (refine wpl_want ?_ ?_; rotate_left; (refine wpl_run rfl (.agg (cellsOf (vlC (nuV 0#64)) 4)) _ (run_bd 26 #[(0, .const (.int .i64 1))] rfl (cellsOf (vlC (nuV 0#64)) 4) (by kernel_rfl) _) ?_); rotate_left; rfl; try simp only [pA]))
                                | fail)
                              go_ret
                              exact ⟨rfl, lo⟩
                        · as_aux_lemma =>
                            obtain rfl : bX = false := by rw [← EBX.out]; exact decide_eq_false (fun h => h1 h.1)
                            have E1 : Hid (decide (0 ≤ fi) = false) := hid (decide_eq_false h1)
                            clear h1
                            go_wp2_with (first
                              | (go_at_call 11; refine (SaveX_b rb hM46 pl of z1).mono ?_; rintro e w47 ⟨rfl, hb47⟩; obtain ⟨M47, hM47⟩ := sz_some w47; have l47 := below_sz hb47 hM46 hM47; replace hh := hh.below hb47 (by omega); replace h28 := h28.below hb47 (by omega); replace h29 := h29.below hb47 (by omega); replace lo := lo.trans (hb47.mono (by omega)); clear hM46 hb47; try simp only [pA])
                              | (go_at_call 12; refine (FillX_b rb hM47 pl).mono ?_; rintro e w48 ⟨rfl, hb48⟩; obtain ⟨M48, hM48⟩ := sz_some w48; have l48 := below_sz hb48 hM47 hM48; replace hh := hh.below hb48 (by omega); replace h28 := h28.below hb48 (by omega); replace h29 := h29.below hb48 (by omega); replace lo := lo.trans (hb48.mono (by omega)); clear hM47 hb48; try simp only [pA])
                              | ((with_reducible show wpList _ _ _ (_ :: _) _ _); first
                                | (refine wpl_run rfl (.bool false) _ (run_eqlI (x := .tmp 242) (y := .const (.int .i64 0)) rfl rfl rfl (eB_eq false) _) ?_; try simp only [pA])
                                | (refine wpl_run rfl (.bool false) _ (run_geqI (x := .tmp 244) (y := .const (.int .i64 0)) rfl rfl rfl E1.out _) ?_; try simp only [pA])
                                | (refine wpl_run rfl (.bool true) _ (run_eqlB (x := .tmp 243) (y := .tmp 249) rfl rfl rfl rfl _) ?_; try simp only [pA])
                                | (refine wpl_want ?_ ?_; rotate_left; (refine wpl_run rfl (.bool true) _ (run_neqI (x := .tmp 252) (y := .const (.int .i64 0)) rfl rfl rfl rfl _) ?_); rotate_left; rfl; try simp only [pA])
                                | (refine wpl_want ?_ ?_; rotate_left; (refine wpl_load rfl 26 (.tmp 28) rfl (Mc) rfl 26 4 _ h28 _ undVl.choose_spec.1 undVl.choose_spec.2 szVl ?_); rotate_left; rfl; try simp only [pA])
                                | (refine wpl_want ?_ ?_; rotate_left; (refine wpl_run rfl (.agg (cellsOf (vlC (nuV 0#64)) 4)) _ (run_bd 26 #[(0, .const (.int .i64 1))] rfl (cellsOf (vlC (nuV 0#64)) 4) (by kernel_rfl) _) ?_); rotate_left; rfl; try simp only [pA]))
                              | fail)
                            go_ret
                            exact ⟨rfl, lo⟩
end Go.Proofs.Ytjcjmlmdcjkceaa
