/- BmapCells: the walk. -/
import Derived.Test.YteicoheihalnnaaBc1
import Derived.Test.YteicoheihalnnaaBc3
import Derived.Test.YteicoheihalnnaaTill
namespace Go.Proofs.Yteicoheihalnnaa
open Go Go.RowKit
section
variable {P : Program} {ops : Array Oper} {rest : List Oper} {o : Oper} {a : Act} {w : World} {Q : Exit → Act → World → Prop}
/-- A copy of nothing. -/
theorem wpl_copy_zero (hg : o.guard = none) (d s : Operand) (dT sT : TypeId) (ho : o.op = .call { callee := .builtin .copy, args := #[d, s], argTypes := #[dT, sT] })
    (elem : TypeId) (hu : P.underlying dT = some (.slice elem)) (hsz : (P.info? elem).map (·.size) = some 1)
    (b off dLen dCap : Nat) (hd : a.eval d = .slice (some ⟨b, off, none⟩) dLen dCap) (q : Option Addr) (sCap : Nat) (hs : a.eval s = .slice q 0 sCap)
    (h : wpList P ops Q rest (a.put o.dst (.int .i64 0)) w) : wpList P ops Q (o :: rest) a w := by
  refine wpList_plain hg fun K hK => ?_
  cases hq : P.info? elem with
  | none => simp [hq] at hsz
  | some i =>
    have hrun : (Builtin.copy_ #[dT, sT] o.type #[.slice (some ⟨b, off, none⟩) dLen dCap, .slice q 0 sCap]).run P w = .ok (.int .i64 0) w := by
      cases q <;> simp [Builtin.copy_, run_underlying hu, sizeOf, typeInfo, hq, Builtin.lenOf, Builtin.firstCells, loadCells, loadCellsFrom, storeCells, goInt]
    unfold Oper.wp
    simp [execOp, ho, resolve, invoke, builtin, hd, hs, hrun, Result.andThen]
    exact hK _ _ h
end
def keyC (l : Nat) (D : Nat → BitVec 8) : Nat → BitVec 8 := fun j => if j < l then D j else 0#8
set_option maxRecDepth 100000 in
set_option maxHeartbeats 4000000 in
theorem cells_any (q0 : Option Addr) (l0 c0 : Nat) (D0 : Nat → BitVec 8) (q1 : Option Addr) (l1 c1 : Nat) (D1 : Nat → BitVec 8) (w : World) (N : Nat) (hN : Sz w N) (h1 : l1 ≤ 9223372036854775807) (hc1 : l1 ≤ c1)
    (hr : Ats w q0 l0 (fun j => By (D0 j))) (hf : Ats w q1 l1 (fun j => By (D1 j))) :
    Calls Try.prog 3 #[.slice q0 l0 c0, .slice q1 l1 c1] w fun e w' => e = .returned (.bool true) ∧ Below N w w' := by
  have hS : SpecOk 1 4 1 4 := ⟨⟨1, 16, .inr (.inl ⟨rfl, rfl, rfl⟩), by omega, by omega⟩, by omega, by omega, by omega, by omega⟩
  have HS := hid hS
  clear hS
  go_enter Try.func3, Try.ntmps3
  go_upto_region 3 with (first
    | (go_at_call 8; refine (New_plain 1 4 1 4 HS.out (by decide) _ N hN).mono ?_; rintro e w1 ⟨⟨b, hb, rfl, A1⟩, hb1⟩; obtain ⟨M1, hM1⟩ := sz_some w1; have L1 := below_sz hb1 hN hM1)
    | (refine wpl_bs4 rfl (.const (.int .u8 0)) (.const (.int .u8 0)) (.const (.int .u8 0)) (.const (.int .u8 0)) rfl 0#8 0#8 0#8 0#8 rfl rfl rfl rfl M1 hM1 ?_; intro w2 hM2 hb2 hk2)
    | fail)
  go_cut [] (fun wx => Turn (fun j => j = M1) w2 wx ∧ Sz wx (M1 + 1) ∧ Has wx M1 5 4 (fun j => By (keyC l0 D0 j)))
  case first =>
    by_cases hl : l0 = 0
    · subst hl
      go_wp2_with (first
        | (refine wpl_copy_zero rfl (.tmp 21) (.tmp 22) 22 22 rfl 5 undBB szBy M1 0 4 4 rfl q0 c0 rfl ?_)
        | fail)
      go_meet
      refine ⟨Turn.refl _ _, hM2, hk2.congr (fun j hj => ?_)⟩
      rcases (show j = 0 ∨ j = 1 ∨ j = 2 ∨ j = 3 by omega) with rfl | rfl | rfl | rfl <;> rfl
    · obtain ⟨rb, ro, rfl, hrc⟩ := hr (by omega)
      have hrb : rb < N := by
        have := World.block_lt_of_cell? w _ (hrc 0 (by omega))
        have e : w.heap.size = N := hN
        simp only at this; omega
      obtain ⟨mm, hmm⟩ : ∃ mm, mm = Nat.min l0 4 := ⟨_, rfl⟩
      have m1 : mm ≤ l0 := by rw [hmm]; exact Nat.min_le_left l0 4
      have m2 : mm ≤ 4 := by rw [hmm]; exact Nat.min_le_right l0 4
      have m3 : ∀ j, j < l0 → j < 4 → j < mm := fun j a b => by rw [hmm]; exact Nat.lt_min.2 ⟨a, b⟩
      have Hmm := hid hmm
      have Hm3 := hid m3
      have hcp : ∀ j, j < mm → w2.cell? ((⟨rb, ro, none⟩ : Addr).add j) = some (By (D0 j)) := fun j hj => by
        rw [Addr.add_mid]
        exact ((hb1.trans (hb2.mono L1)).cell (p := ⟨rb, ro + j, none⟩) hrb).trans (hrc j (by omega))
      have Hcp := hid hcp
      clear hrc hmm m3 hcp
      go_wp2_with (first
        | (refine wpl_copy rfl (.tmp 21) (.tmp 22) 22 22 rfl 5 undBB szBy M1 0 4 4 rfl ⟨rb, ro, none⟩ l0 c0 rfl 5 4 _ hk2 mm (fun j => By (D0 j)) Hmm.out Hcp.out (by omega) (fun _ _ => rfl) ?_; intro w3 ht3 hk3)
        | fail)
      go_meet
      refine ⟨ht3.turn, ht3.sz hM2, hk3.congr (fun j hj => ?_)⟩
      unfold lay keyC
      by_cases hjl : j < l0
      · rw [if_pos ⟨by omega, by have := Hm3.out j hjl hj; omega⟩, if_pos hjl]
        rfl
      · rw [if_neg (by omega), if_neg hjl]
        rcases (show j = 0 ∨ j = 1 ∨ j = 2 ∨ j = 3 by omega) with rfl | rfl | rfl | rfl <;> rfl
  case rest =>
    clear hk2
    obtain ⟨hbc, hMc, hkc⟩ := hcut
    have hbN : b < M1 := A1.lt hM1 b (.inl rfl)
    have bw : Below N w wc := hbc.below (hb1.trans (hb2.mono L1)) (fun j hj => by omega) (by have e : w2.heap.size = M1 + 1 := hM2; omega)
    have A2 : MpAt wc (mp0 1 4 1 4 b) := (A1.below hM1 hb2).turn hbc (fun k hk e => by have := A1.lt hM1 k hk; omega)
    have K0 : KeyIs (mp0 1 4 1 4 b) (keyC l0 D0) (strOf (keyC l0 D0) 4) := keyIs_of _ 1 4 rfl rfl (by decide) _
    have HK0 := hid K0
    clear K0 A1 hb1 hb2 hbc hM1 hM2
    go_upto_region 9 with (first
      | (go_at_call 9; refine (maps_any _ (M1 + 1) hMc).mono ?_; rintro e w4 ⟨rfl, hb4⟩; obtain ⟨M4, hM4⟩ := sz_some w4; have L4 := below_sz hb4 hMc hM4; have A4 := A2.below hMc hb4; have k4 := hkc.below hb4 (by omega))
      | (refine wpl_want (by rfl) ?_; refine wpl_bs1 rfl (.const (.int .u8 1)) rfl 1#8 rfl M4 hM4 ?_; intro w5 hM5 hb5 v5; have A5 := A4.below hM4 hb5; have k5 := k4.below hb5 (by omega))
      | (go_at_call 10; refine (Upd_new (mp0 1 4 1 4 b) (keyC l0 D0) (strOf (keyC l0 D0) 4) HK0.out rfl (show (1 : Nat) ≠ 0 by decide) (fun i hi => absurd hi (Nat.not_lt_zero i)) 0 (by omega) (show 0 < 4 by decide) (show 4 ≤ 64 by decide) (show 1 ≤ 1 by decide) (show 1 ≤ 64 by decide) (some ⟨M1, 0, none⟩) 4 (some ⟨M4, 0, none⟩) 1 (fun _ => 1#8) _ (M4 + 1) hM5 A5 k5.ats v5.ats).mono ?_; rintro e w6 ⟨rfl, K, hK, T6, p6, cap6, A6, hp6⟩; have k6 := k5.turn T6 (fun h => by rcases h with h | h; exact absurd h (by show ¬ M1 = b; omega); cases h); obtain ⟨M6, hM6⟩ := sz_some w6)
      | (go_at_call 11; refine (Cell_at ((mp0 1 4 1 4 b).put p6 cap6 K (strOf (keyC l0 D0) 4) (fun _ => 1#8)) (keyC l0 D0) (strOf (keyC l0 D0) 4) (keyIs_of _ 1 4 rfl rfl (by decide) _) (show (1 : Nat) ≠ 2 by decide) 0 ⟨Nat.zero_lt_one, rfl, fun i hi => absurd hi (Nat.not_lt_zero i)⟩ (show 1 ≤ 1000 by decide) (some ⟨M1, 0, none⟩) 4 _ M6 hM6 A6 k6.ats).mono ?_; rintro e w7 ⟨he, hb7⟩; have he' : e = Ending.returned (.tuple #[.pointer (some ⟨K, 0, none⟩), .int .i64 0]) := he; clear he; subst he')
      | fail)
    have C0 : Ce w N b K (K + 1) M1 (keyC l0 D0) (strOf (keyC l0 D0) 4) 1#8 ((mp0 1 4 1 4 b).put p6 cap6 K (strOf (keyC l0 D0) 4) (fun _ => 1#8)) w7 := by
      have hfoot : ∀ k, Foot ((mp0 1 4 1 4 b).put p6 cap6 K (strOf (keyC l0 D0) 4) (fun _ => 1#8)) k → k = b ∨ M4 + 1 ≤ k := fun k hk => by
        rcases hk with hk | hk | ⟨i, hi, hk⟩
        · exact .inl hk
        · rcases hp6 with hp6 | hp6
          · rw [show blk ((mp0 1 4 1 4 b).put p6 cap6 K (strOf (keyC l0 D0) 4) (fun _ => 1#8)).p = blk p6 from rfl, hp6] at hk; cases hk
          · exact .inr (by have := hp6 k hk; omega)
        · have hi : i < 1 := hi
          obtain rfl : i = 0 := by omega
          have hk : k = K ∨ k = K + 1 := hk
          exact .inr (by omega)
      refine ⟨A6.below hM6 hb7, rfl, rfl, rfl, rfl, rfl, rfl, rfl, rfl, rfl, rfl, rfl, rfl, k6.below hb7 (k6.ltN hM6), fun hk => ?_, fun k hk => ?_, ?_⟩
      · rcases hfoot _ hk with hk | hk <;> omega
      · rcases hfoot _ hk with hk | hk <;> omega
      · have b5 : Below N w w5 := (bw.trans (hb4.mono (by omega))).trans (hb5.mono (by omega))
        have b6 : Below N w w6 := T6.below b5 (fun j hj => by rcases hj with rfl | hj; exact hb; cases hj) (by have e : w5.heap.size = M4 + 1 := hM5; omega)
        exact b6.trans (hb7.mono (by have := sz_turn T6 hM5 hM6; omega))
    have H0 := hid C0
    have hKM : M1 + 1 ≤ K := by omega
    clear C0 A2 A4 A5 A6 k4 k5 k6 v5 hkc bw hb4 hb5 hb7 T6 hp6 hMc hM4 hM5 hM6 HK0 HS
    go_wp2_with fail
    go_loopg [10] 20 (fun g i wr => ∃ (k : Nat) (x : BitVec 8) (m : Mp), k ≤ 20 ∧ g = 20 - k ∧ i = .int .i64 k ∧ Ce w N b K (K + 1) M1 (keyC l0 D0) (strOf (keyC l0 D0) 4) x m wr)
    case atStart => exact ⟨0, 1#8, _, by omega, rfl, rfl, H0.out⟩
    case round =>
      clear H0
      obtain ⟨k, x, m, hk, rfl, rfl, C⟩ := hrel
      obtain ⟨M, hM⟩ := sz_some wr
      have hNM := below_sz C.bel hN hM
      have k0 : (0 : Int) ≤ (k : Int) := by omega
      have k20 : (k : Int) ≤ 20 := by omega
      by_cases hlt : k < l1 ∧ k < 20
      · obtain ⟨hl1, hl2⟩ := hlt
        have i1 : (k : Int) < (l1 : Int) := by omega
        have i2 : (k : Int) < 20 := by omega
        obtain ⟨vb, vo, rfl, hfc⟩ := hf (by omega)
        have dv0 : w.cell? ⟨vb, vo + k, none⟩ = some (.int .u8 (v8 (D1 k))) := hfc k hl1
        have hvb : vb < N := by
          have := World.block_lt_of_cell? w _ dv0
          have e : w.heap.size = N := hN
          simp only at this; omega
        have Dv0 := hid dv0
        clear dv0 hfc
        have s1 : ∀ w, (Instr.sliceAt 22 (.slice (some ⟨vb, vo, none⟩) l1 c1) (some (.int .i64 (k : Int))) (some (.int .i64 ((k : Int) + 1))) none).run Try.prog w = .ok (.slice (some ⟨vb, vo + k, none⟩) 1 (c1 - k)) w := fun w => by
          have := run_cut_at (P := Try.prog) 22 5 1 undBB szBy vb vo l1 c1 k (k + 1) (by omega) (by omega) (by omega) w
          rw [show k + 1 - k = 1 by omega, Nat.mul_one] at this
          exact this
        have xa : Ats wr.drew (some ⟨vb, vo + k, none⟩) 1 (fun _ => By (D1 k)) := one_ats ((C.bel.cell (p := ⟨vb, vo + k, none⟩) hvb).trans Dv0.out)
        have Cd : Ce w N b K (K + 1) M1 (keyC l0 D0) (strOf (keyC l0 D0) 4) x m wr.drew := C.drewN 1
        have hMd : Sz wr.drew M := hM
        generalize D1 k = z at Dv0 xa
        clear C hM
        go_wp2_with fail
        refine wp_region_any (by kernel_rfl) ?_
        change wpAny _ _ _ _ _ _ _ (World.drew _)
        generalize World.drew wr = wd at *
        refine anyI_any (I := fun _ => True) _ _ _ _ ?_
        have hne := inn_ne (I := fun _ : World => True) (w := wd) trivial
        refine anyI_reads [0, 1, 2, 3, 4, 5, 6] _ _ _ (w := wd) trivial (by kernel_rfl) (fun _ _ _ d _ h => by cases d <;> exact h) ?_
        simp only [pickO, List.map_cons, List.map_nil, List.getElem?_toArray, List.getElem?_cons_succ, List.getElem?_cons_zero, Option.getD_some, Act.put, List.setIfInBounds_toArray, List.set_cons_succ, List.set_cons_zero]
        iterate 7 go_big_quiet_step (fail)
        refine wpQuiet_nil ?_
        clear hne s1
        refine anyI_part [7] _ _ _ _ (by kernel_rfl) ?_
        simp only [List.filterMap_cons, List.filterMap_nil, List.getElem?_toArray, List.getElem?_cons_succ, List.getElem?_cons_zero]
        change wpList _ _ _ [_] _ _
        go_wp2_with fail
        refine (Ce_upd w wd N M b K (K + 1) M1 (keyC l0 D0) (strOf (keyC l0 D0) 4) x z m Cd hMd hNM 4 _ _ xa).mono ?_
        rintro e x3 ⟨rfl, m3, C3⟩
        dsimp only
        go_step
        refine ⟨trivial, ?_⟩
        change anyI _ _ _ _ _ _ _ _ _
        try simp only [Act.put, List.setIfInBounds_toArray, List.set_cons_succ, List.set_cons_zero, List.getElem_toArray, List.getElem_cons_succ, List.getElem_cons_zero]
        refine anyI_true _ _ _ _ ?_
        refine anyI_any (I := fun w' => w' = x3) _ _ _ _ ?_
        have hne := inn_ne (I := fun w' => w' = x3) (w := x3) rfl
        have dc : x3.cell? ⟨K, 0, none⟩ = some (.slice (some ⟨K + 1, 0, none⟩) 1 1) := C3.cell.cell (by omega)
        have db : x3.cell? ⟨K + 1, 0, none⟩ = some (.int .u8 (v8 z)) := C3.byte.cell (by omega)
        have dv : x3.cell? ⟨vb, vo + k, none⟩ = some (.int .u8 (v8 z)) := (C3.bel.cell (p := ⟨vb, vo + k, none⟩) hvb).trans Dv0.out
        have hlA : ∀ w', w' = x3 → (Instr.loadAt 22 (.pointer (some ⟨K, 0, none⟩))).run Try.prog w' = .ok (.slice (some ⟨K + 1, 0, none⟩) 1 1) w' := fun w' h => by subst h; go_simp
        have hlB : ∀ w', w' = x3 → (Instr.loadAt 5 (.pointer (some ⟨K + 1, 0, none⟩))).run Try.prog w' = .ok (.int .u8 (v8 z)) w' := fun w' h => by subst h; go_simp
        have hlV : ∀ w', w' = x3 → (Instr.loadAt 5 (.pointer (some ⟨vb, vo + k, none⟩))).run Try.prog w' = .ok (.int .u8 (v8 z)) w' := fun w' h => by subst h; go_simp
        refine anyI_reads [8, 9, 10, 11, 12, 13, 14, 15, 16, 17, 18, 19, 20, 21, 22, 23, 24, 25, 26, 27, 28, 29] _ _ _ (w := x3) rfl (by kernel_rfl) (fun _ _ _ d _ h => by cases d <;> exact h) ?_
        simp only [pickO, List.map_cons, List.map_nil, List.getElem?_toArray, List.getElem?_cons_succ, List.getElem?_cons_zero, Option.getD_some, Act.put, List.setIfInBounds_toArray, List.set_cons_succ, List.set_cons_zero]
        iterate 5 go_big_quiet_step (fail)
        refine inn_val (fun x => ld_one 22 (.tmp 71) rfl ⟨K, 0, none⟩ rfl _ (hlA x.w' x.h)) (by rfl) ?_
        simp only [Act.put, List.setIfInBounds_toArray, List.set_cons_succ, List.set_cons_zero]
        iterate 7 go_big_quiet_step (fail)
        refine inn_val (fun x => ld_one 22 (.tmp 79) rfl ⟨K, 0, none⟩ rfl _ (hlA x.w' x.h)) (by rfl) ?_
        simp only [Act.put, List.setIfInBounds_toArray, List.set_cons_succ, List.set_cons_zero]
        iterate 1 go_big_quiet_step (fail)
        refine inn_val (fun x => ld_one 5 (.tmp 81) rfl ⟨K + 1, 0, none⟩ rfl _ (hlB x.w' x.h)) (by rfl) ?_
        simp only [Act.put, List.setIfInBounds_toArray, List.set_cons_succ, List.set_cons_zero]
        iterate 3 go_big_quiet_step (fail)
        refine inn_val (fun x => ld_one 5 (.tmp 85) rfl ⟨vb, vo + k, none⟩ rfl _ (hlV x.w' x.h)) (by rfl) ?_
        simp only [Act.put, List.setIfInBounds_toArray, List.set_cons_succ, List.set_cons_zero]
        iterate 2 go_big_quiet_step (fail)
        refine wpQuiet_nil ?_
        refine anyI_done (by kernel_rfl) ?_
        clear hne hlA hlB hlV
        go_wp2
        refine wp_region_quiet_tail 10 (by kernel_rfl) (by kernel_rfl) ?_
        simp only [List.take_succ_cons, List.take_zero, List.drop_succ_cons, List.drop_zero]
        iterate 10 go_big_quiet_step (fail)
        refine wpQuiet_nil ?_
        rintro _ ⟨y4, rfl⟩
        have C4 := C3.drewN y4
        obtain ⟨M4, hM4⟩ := sz_some (x3.drewN y4)
        clear dc db dv C3
        generalize x3.drewN y4 = x4 at *
        have L4 := below_sz C4.bel hN hM4
        go_wp2_with (first
          | (refine wpl_set rfl 5 (.tmp 98) (.tmp 97) rfl (K + 1) 0 rfl (.int .u8 (bits .xor .u8 (v8 z) 7)) rfl szBy rfl rfl 5 1 _ C4.byte (by omega) ?_; intro x5 t5 h5; have h5' : Has x5 (K + 1) 5 1 (fun _ => By (z ^^^ 7#8)) := h5.congr (fun j hj => by (obtain rfl : j = 0 := by omega); unfold upd; rw [if_pos rfl]; unfold By; rw [← xor_seven]); have C5 := C4.poke (z ^^^ 7#8) hM4 L4 t5 h5'; have hM5 := t5.sz hM4; clear h5 h5')
          | (go_at_call 12; refine (Ce_look w x5 N M4 b K (K + 1) M1 (keyC l0 D0) (strOf (keyC l0 D0) 4) (z ^^^ 7#8) _ C5 hM5 L4 4).mono ?_; rintro e x6 ⟨⟨K1, hK1, rfl, hv6⟩, hb6, C6⟩)
          | fail)
        have d1 : x6.cell? ⟨K1, 0, none⟩ = some (.int .u8 (bits .xor .u8 (v8 z) 7)) := (hv6.cell (j := 0) (by omega)).trans (by rw [xor_seven]; rfl)
        have d2 : x6.cell? ⟨vb, vo + k, none⟩ = some (.int .u8 (v8 z)) := (C6.bel.cell (p := ⟨vb, vo + k, none⟩) hvb).trans Dv0.out
        go_quiet (fail)
        go_wp2
        go_roundg (20 - (k + 1))
        case measure => omega
        case rel =>
          exact ⟨k + 1, _, _, by omega, rfl, by go_num, C6.drewN _⟩
      · have t1 : ¬ ((k : Int) < (l1 : Int)) ∨ ((k : Int) < (l1 : Int) ∧ ¬ ((k : Int) < 20)) := by omega
        rcases t1 with t1 | ⟨t1, t2⟩
        all_goals
          go_wp2_with (first
            | (go_at_call 13; refine (Ce_del w wr N M b K (K + 1) M1 (keyC l0 D0) (strOf (keyC l0 D0) 4) x m C hM hNM 4).mono ?_; rintro e x1 ⟨rfl, m1, E1⟩; obtain ⟨X1, hX1⟩ := sz_some x1; have l1 := below_sz E1.bel hN hX1)
            | (refine wpl_want (by rfl) ?_; refine wpl_bs1 rfl (.const (.int .u8 9)) rfl 9#8 rfl X1 hX1 ?_; intro x2 hX2 hbx2 v2; have E2 := E1.low hX1 hbx2 l1)
            | (go_at_call 10; refine (Em_new w x2 N (X1 + 1) b K (K + 1) M1 (keyC l0 D0) (strOf (keyC l0 D0) 4) x 9#8 m1 E2 hX2 (by omega) 4 _ _ v2.ats).mono ?_; rintro e x3 ⟨rfl, m3, cb3, bb3, C3, o3, p3, f3, hkb, hlb⟩; have dc : x3.cell? ⟨K, 0, none⟩ = some (.slice (some ⟨K + 1, 0, none⟩) 1 1) := o3.cell (by omega))
            | (refine wpl_set rfl 5 (.tmp 138) (.const (.int .u8 5)) rfl (K + 1) 0 rfl (.int .u8 5) rfl szBy rfl rfl 5 1 _ p3 (by omega) ?_; intro x4 t4 h4; have C4 := C3.touch t4 f3 hkb hlb; obtain ⟨X4, hX4⟩ := sz_some x4; have l4 := below_sz C4.bel hN hX4; clear dc)
            | (go_at_call 12; refine (Ce_look w x4 N X4 b cb3 bb3 M1 (keyC l0 D0) (strOf (keyC l0 D0) 4) 9#8 m3 C4 hX4 l4 4).mono ?_; rintro e x5 ⟨⟨K5, hK5, rfl, hv5⟩, hb5, C5⟩; have d5 : x5.cell? ⟨K5, 0, none⟩ = some (.int .u8 9) := hv5.cell (by omega))
            | fail)
          go_ret
          exact ⟨rfl, C5.bel⟩
end Go.Proofs.Yteicoheihalnnaa
