/- BmapFrozen: the document's use. -/
import Derived.Test.YtjdclgnlnehjlaaDoorFx3
namespace Go.Proofs.YtjdclgnlnehjlaaDoor
open Go Go.RowKit
theorem rwRE : ∃ d, Tryd.prog.underlying 66 = some d ∧ d.isRow = true := row_ofS (by kernel_rfl)
theorem zeRE : (Tryd.prog.info? 66).map (fun i => (i.zero, i.size)) = some (some (.agg (cellsOf (re1 ⟨⟨#[]⟩, ⟨#[]⟩⟩) 2)), 2) := by kernel_rfl
def RIx (m : Rm) (w : World) (N : Nat) (e : Ending) (w' : World) : Prop := ∃ (i : Nat) (m' : Rm), e = .returned (.int .i64 (i : Int)) ∧ i < m'.n ∧ RNx m w N w' m'
def useR (E : Nat → Re) (k n : Nat) : Nat → Re := fun i => if i = n - 1 then E k else delF E k i
theorem reC_use (E : Nat → Re) (k n : Nat) (hk : k < n) (z : Nat → Value) (j : Nat) (hj : j < n * 2) : cat (cat (cat z (0 * 2) (reC E)) (k * 2) (fun j => reC E ((k + 1) * 2 + j))) ((k + (n - (k + 1))) * 2) (re1 (E k)) j = reC (useR E k n) j := by
  rw [show k + (n - (k + 1)) = n - 1 by omega]
  by_cases h : j < (n - 1) * 2
  · have := reC_cat E k n hk z j h
    unfold cat at this ⊢
    rw [if_pos h, this]
    unfold reC useR
    rw [if_neg (by omega)]
  · unfold cat
    rw [if_neg h]
    unfold reC useR
    rw [if_pos (by omega), show j % 2 = j - (n - 1) * 2 by omega]
theorem RNx.used {m : Rm} {wd w4 w5 : World} {M cap4 : Nat} {p4 : Option Addr} {z : Nat → Value} (hMd : Sz wd M) (Ad : RmAt wd m) (h2 : m.ty = 2) (k : Nat) (hk : k < m.n) (b4 : Below M wd w4)
    (v4 : OwnK w4 66 2 p4 (k + (m.n - (k + 1)) + 1) cap4 (cat (cat (cat z (0 * 2) (reC m.E)) (k * 2) (fun j => reC m.E ((k + 1) * 2 + j))) ((k + (m.n - (k + 1))) * 2) (re1 (m.E k)))) (k4 : ∀ g, blk p4 = some g → M ≤ g) (t5 : Touch m.b w4 w5)
    (h5 : Has w5 m.b 64 6 (upd (rmC m) 4 (.slice p4 (k + (m.n - (k + 1)) + 1) cap4))) : RNx m wd M w5 (m.lst p4 (k + (m.n - (k + 1)) + 1) cap4 (useR m.E k m.n)) := by
  have hn := Ad.n
  exact RNx.list hMd Ad b4 (v4.congr (fun j hj => reC_use m.E k m.n hk _ j (by omega))) k4 t5 h5 (by omega) (fun h => absurd (h2.symm.trans h) (by decide))
set_option maxRecDepth 100000 in
set_option maxHeartbeats 8000000 in
theorem RUse_any (m : Rm) (k : Nat) (hk : k < m.n) (w : World) (N : Nat) (hN : Sz w N) (hA : RmAt w m) :
    Calls Tryd.prog 54 #[.pointer (some ⟨m.b, 0, none⟩), .int .i64 (k : Int)] w (RIx m w N) := by
  have c0 := hA.c0
  by_cases h2 : m.ty = 2
  · have H2 := hid h2
    rw [h2] at c0
    clear h2
    have d4 := hid hA.c4
    have hn := hA.n
    have hl := hA.e.le
    obtain ⟨g, hg⟩ := hA.ptr (by omega)
    have HG := hid hg
    have hce : ∀ j, j < 2 → w.cell? ⟨g, k * 2 + j, none⟩ = some (re1 (m.E k) j) := fun j hj => hA.at hg k hk j hj
    have HCE := hid hce
    have kk0 : (0 : Int) ≤ (k : Int) := by omega
    have kk1 : (k : Int) ≤ 1000 := by omega
    obtain ⟨_, rw1, rw2⟩ := rwRE
    have RW1 := hid rw1
    have RW2 := hid rw2
    clear hg hce rw1 rw2
    go_enter Tryd.func54, Tryd.ntmps54
    go_upto_region 4 with (first
      | ((with_reducible show wpList _ _ _ (_ :: _) _ _); first
        | (refine wpl_run rfl (.slice m.p m.n m.cap) _ (run_cell1 (x := .tmp 15) 62 rfl rfl undRE rfl d4.out) ?_; try simp only [pA])
        | (refine wpl_run rfl (.pointer (some ⟨g, k * 2, none⟩)) _ (run_iaS2 (x := .tmp 16) (y := .tmp 17) rfl rfl HG.out rfl undRE szRE hk _) ?_; try simp only [pA])
        | (refine wpl_load_cells rfl 66 (.tmp 18) rfl g (k * 2) rfl 2 (re1 (m.E k)) HCE.out _ RW1.out RW2.out szRE ?_; try simp only [pA])
        | (refine wpl_alloc rfl 66 rfl 2 _ zeRE N hN ?_; intro w1 hM1 b1 k1; refine id ?_; try simp only [pA])
        | (refine wpl_store rfl 66 (.tmp 5) (.tmp 19) rfl N 2 (re1 (m.E k)) rfl rfl 66 _ k1 szRE (fun j _ => re1_one _ j) ?_; intro w2 t2 k2; refine id ?_; try simp only [pA]))
      | fail)
    have M2 : Sz w2 (N + 1) := t2.sz hM1
    have hb2 := t2.below b1 (Nat.le_refl N)
    have A2 := hA.below hN hb2
    have hI : Has w2 m.b 64 6 (rmC m) ∧ Has w2 N 66 2 (re1 (m.E k)) := ⟨A2.h, k2⟩
    have s2 := A2.cutF k hk
    have s3 := A2.cutT k hk
    clear b1 k1 t2 hM1 d4 HCE c0
    refine wp_region_any (by kernel_rfl) ?_
    change wpAny _ _ _ _ _ _ _ (World.drew _)
    refine anyT_any (s := 22) (I := fun w' => Has w' m.b 64 6 (rmC m) ∧ Has w' N 66 2 (re1 (m.E k))) _ _ _ _ ?_
    have hne := inn_ne (I := fun w' => Has w' m.b 64 6 (rmC m) ∧ Has w' N 66 2 (re1 (m.E k))) ⟨A2.h, k2⟩
    refine anyT_reads [0, 2, 3, 4, 5, 6, 7, 9, 10, 11, 12, 13, 14, 15, 17] _ _ _ ⟨A2.h, k2⟩ (by kernel_rfl) (fun _ _ _ d _ h => by cases d <;> exact h) ?_
    simp only [pickO, List.map_cons, List.map_nil, List.getElem?_toArray, List.getElem?_cons_succ, List.getElem?_cons_zero, Option.getD_some, Act.put, List.setIfInBounds_toArray, List.set_cons_succ, List.set_cons_zero]
    repeat first
      | (refine inn_val (fun x => ld_one 62 (.tmp 24) rfl ⟨m.b, 4, none⟩ rfl _ (ldL4 x.h.1)) (by rfl) ?_; simp only [Act.put, List.setIfInBounds_toArray, List.set_cons_succ, List.set_cons_zero])
      | (refine inn_val (fun x => ld_one 62 (.tmp 31) rfl ⟨m.b, 4, none⟩ rfl _ (ldL4 x.h.1)) (by rfl) ?_; simp only [Act.put, List.setIfInBounds_toArray, List.set_cons_succ, List.set_cons_zero])
      | (refine inn_val (fun x => run_ld 66 (.tmp 5) rfl N rfl 66 2 _ x.h.2 _ RW1.out RW2.out szRE) (by rfl) ?_; simp only [Act.put, List.setIfInBounds_toArray, List.set_cons_succ, List.set_cons_zero])
      | go_big_quiet_step (fail)
    refine wpQuiet_nil ?_
    clear hne s2 s3
    have hMd : Sz w2.drew (N + 1) := M2
    have Ad : RmAt w2.drew m := A2.below M2 (Below.refl _ _).drew
    have kd : Has w2.drew N 66 2 (re1 (m.E k)) := k2
    have pre : ∀ w5 m2, RNx m w2.drew (N + 1) w5 m2 → RNx m w N w5 m2 := fun w5 m2 h => h.pre hN hb2.drew M2
    clear hI A2 k2 M2 hb2
    generalize World.drew w2 = wd at *
    obtain ⟨M, eM⟩ : ∃ M, M = N + 1 := ⟨_, rfl⟩
    rw [← eM] at hMd pre
    have kN : N < M := by omega
    refine anyT_two 1 18 _ _ _ _ (by kernel_rfl) ?_ ?_
    · simp only [List.filterMap_cons, List.filterMap_nil, List.getElem?_toArray, List.getElem?_cons_succ, List.getElem?_cons_zero]
      obtain ⟨z11, hz11⟩ := sz_some wd
      have lz11 : M ≤ z11 := below_sz (Below.refl M wd) hMd hz11
      refine wpl_bsR0 rfl rfl z11 hz11 (reC m.E) ?_
      intro w11_ y11 c11 v11
      have b11 := (Below.refl M wd).trans (c11.mono lz11)
      have k11 : ∀ g, blk (some (⟨z11, 0, none⟩ : Addr)) = some g → M ≤ g := fun g hg => by have : z11 = g := Option.some.inj hg; omega
      refine ⟨fun _ => ⟨(Ad.below hMd b11).h, kd.below b11 kN⟩, ?_⟩
      change anyT _ _ _ _ _ _ _ _ _ _
      try simp only [pA]
      refine anyT_two 8 18 _ _ _ _ (by kernel_rfl) ?_ ?_
      · simp only [List.filterMap_cons, List.filterMap_nil, List.getElem?_toArray, List.getElem?_cons_succ, List.getElem?_cons_zero]
        refine wpl_appK rfl (.tmp 21) (.tmp 27) 62 rfl 66 2 (by omega) undRE kRE (some ⟨z11, 0, none⟩) 0 0 rfl _ v11 m.p k m.cap rfl (reC m.E) ((Ad.below hMd b11).front k hk) (fun j _ => reC_one _ _) (by omega) ?_
        intro p12 cap12 w12_ v12 g12 q12 m12_
        have b12 := g12.below b11 (below_le b11 hMd) k11
        have k12 := ge_step k11 q12 (below_le b11 hMd)
        rw [Nat.zero_add] at v12
        rw [Nat.zero_add]
        refine ⟨fun _ => ⟨(Ad.below hMd b12).h, kd.below b12 kN⟩, ?_⟩
        change anyT _ _ _ _ _ _ _ _ _ _
        try simp only [pA]
        refine anyT_two 16 18 _ _ _ _ (by kernel_rfl) ?_ ?_
        · simp only [List.filterMap_cons, List.filterMap_nil, List.getElem?_toArray, List.getElem?_cons_succ, List.getElem?_cons_zero]
          refine wpl_appK rfl (.tmp 28) (.tmp 35) 62 rfl 66 2 (by omega) undRE kRE p12 k cap12 rfl _ v12 (tailP m k) (m.n - (k + 1)) (m.cap - (k + 1)) rfl (fun j => reC m.E ((k + 1) * 2 + j)) ((Ad.below hMd b12).tail k hk) (fun j _ => reC_one _ _) (by omega) ?_
          intro p13 cap13 w13_ v13 g13 q13 m13_
          have b13 := g13.below b12 (below_le b12 hMd) k12
          have k13 := ge_step k12 q13 (below_le b12 hMd)
          refine ⟨fun _ => ⟨(Ad.below hMd b13).h, kd.below b13 kN⟩, ?_⟩
          change anyT _ _ _ _ _ _ _ _ _ _
          try simp only [pA]
          refine anyT_one 18 _ _ _ _ (by kernel_rfl) ?_
          simp only [List.filterMap_cons, List.filterMap_nil, List.getElem?_toArray, List.getElem?_cons_succ, List.getElem?_cons_zero]
          obtain ⟨z14, hz14⟩ := sz_some w13_
          have lz14 : M ≤ z14 := below_sz b13 hMd hz14
          refine wpl_bsRE rfl (.tmp 37) rfl (m.E k) rfl z14 hz14 ?_
          intro w14_ y14 c14 x14
          have b14 := b13.trans (c14.mono lz14)
          have v14 := v13.below c14 (Nat.le_of_eq hz14)
          have n14 : blk p13 ≠ some z14 := fun h => by have := v13.lt _ h; have e : w13_.heap.size = z14 := hz14; omega
          refine ⟨fun _ => ⟨(Ad.below hMd b14).h, kd.below b14 kN⟩, ?_⟩
          change anyT _ _ _ _ _ _ _ _ _ _
          try simp only [pA]
          refine anyT_one 19 _ _ _ _ (by kernel_rfl) ?_
          simp only [List.filterMap_cons, List.filterMap_nil, List.getElem?_toArray, List.getElem?_cons_succ, List.getElem?_cons_zero]
          refine wpl_appK rfl (.tmp 36) (.tmp 38) 62 rfl 66 2 (by omega) undRE kRE p13 (k + (m.n - (k + 1))) cap13 rfl _ v14 (some ⟨z14, 0, none⟩) 1 1 rfl (re1 (m.E k)) (x14.cells) (fun j _ => re1_one _ _) (by omega) ?_
          intro p15 cap15 w15_ v15 g15 q15 m15_
          have b15 := g15.below b14 (below_le b14 hMd) k13
          have k15 := ge_step k13 q15 (below_le b14 hMd)
          refine ⟨fun _ => ⟨(Ad.below hMd b15).h, kd.below b15 kN⟩, ?_⟩
          change anyT _ _ _ _ _ _ _ _ _ _
          try simp only [pA]
          refine anyT_one 20 _ _ _ _ (by kernel_rfl) ?_
          simp only [List.filterMap_cons, List.filterMap_nil, List.getElem?_toArray, List.getElem?_cons_succ, List.getElem?_cons_zero]
          refine wpl_pure rfl (v := .pointer (some ⟨m.b, 0, none⟩)) (by intro w; first | rfl | (go_simp; first | done | with_reducible rfl)) ?_
          refine ⟨fun _ => ⟨(Ad.below hMd b15).h, kd.below b15 kN⟩, ?_⟩
          change anyT _ _ _ _ _ _ _ _ _ _
          try simp only [pA]
          refine anyT_one 21 _ _ _ _ (by kernel_rfl) ?_
          simp only [List.filterMap_cons, List.filterMap_nil, List.getElem?_toArray, List.getElem?_cons_succ, List.getElem?_cons_zero]
          refine wpl_pure rfl (v := .pointer (some ⟨m.b, 4, none⟩)) (by intro w; first | rfl | (go_simp; first | done | with_reducible rfl)) ?_
          refine ⟨fun _ => ⟨(Ad.below hMd b15).h, kd.below b15 kN⟩, ?_⟩
          change anyT _ _ _ _ _ _ _ _ _ _
          try simp only [pA]
          refine anyT_one 22 _ _ _ _ (by kernel_rfl) ?_
          simp only [List.filterMap_cons, List.filterMap_nil, List.getElem?_toArray, List.getElem?_cons_succ, List.getElem?_cons_zero]
          refine wpl_set rfl 62 (.tmp 41) (.tmp 39) rfl m.b 4 rfl (.slice p15 (k + (m.n - (k + 1)) + 1) cap15) rfl szSlRE rfl rfl 64 6 _ (Ad.below hMd b15).h (by omega) ?_
          intro w5 t5 h5
          refine ⟨fun h => absurd h (by simp), ?_⟩
          refine anyT_of_any _ _ _ _ (by kernel_rfl) ?_
          change wpAny _ _ _ _ _ _ _ _
          refine wpAny_done (by kernel_rfl) ?_ _
          try simp only [pA]
          have X5 := hid (pre _ _ (RNx.used hMd Ad H2.out k hk b15 v15 k15 t5 h5))
          have D5 : Hid (w5.cell? ⟨m.b, 4, none⟩ = some (.slice p15 (k + (m.n - (k + 1)) + 1) cap15)) := hid X5.out.at_.c4
          have E47 := hid (show ((k + (m.n - (k + 1)) + 1 : Nat) : Int) - 1 = ((m.n - 1 : Nat) : Int) by omega)
          go_wp2_with (first
            | ((with_reducible show wpList _ _ _ (_ :: _) _ _); first
              | (refine wpl_run rfl (.slice p15 (k + (m.n - (k + 1)) + 1) cap15) _ (run_cell1 (x := .tmp 44) 62 rfl rfl undRE rfl D5.out) ?_; try simp only [pA])
              | (refine wpl_run rfl (.int .i64 ((k + (m.n - (k + 1)) + 1 : Nat) : Int)) _ (run_lenL (x := .tmp 45) rfl undRE rfl _) ?_; try simp only [pA])
              | (refine wpl_run rfl (.int .i64 ((m.n - 1 : Nat) : Int)) _ (run_subN (x := .tmp 46) rfl rfl rfl E47.out (by omega) (by omega) _) ?_; try simp only [pA]))
            | fail)
          go_ret
          exact ⟨m.n - 1, _, rfl, show m.n - 1 < k + (m.n - (k + 1)) + 1 by omega, X5.out⟩
        · simp only [List.filterMap_cons, List.filterMap_nil, List.getElem?_toArray, List.getElem?_cons_succ, List.getElem?_cons_zero]
          obtain ⟨z16, hz16⟩ := sz_some w12_
          have lz16 : M ≤ z16 := below_sz b12 hMd hz16
          refine wpl_bsRE rfl (.tmp 37) rfl (m.E k) rfl z16 hz16 ?_
          intro w16_ y16 c16 x16
          have b16 := b12.trans (c16.mono lz16)
          have v16 := v12.below c16 (Nat.le_of_eq hz16)
          have n16 : blk p12 ≠ some z16 := fun h => by have := v12.lt _ h; have e : w12_.heap.size = z16 := hz16; omega
          refine ⟨fun _ => ⟨(Ad.below hMd b16).h, kd.below b16 kN⟩, ?_⟩
          change anyT _ _ _ _ _ _ _ _ _ _
          try simp only [pA]
          refine anyT_one 16 _ _ _ _ (by kernel_rfl) ?_
          simp only [List.filterMap_cons, List.filterMap_nil, List.getElem?_toArray, List.getElem?_cons_succ, List.getElem?_cons_zero]
          refine wpl_appK rfl (.tmp 28) (.tmp 35) 62 rfl 66 2 (by omega) undRE kRE p12 k cap12 rfl _ v16 (tailP m k) (m.n - (k + 1)) (m.cap - (k + 1)) rfl (fun j => reC m.E ((k + 1) * 2 + j)) ((Ad.below hMd b16).tail k hk) (fun j _ => reC_one _ _) (by omega) ?_
          intro p17 cap17 w17_ v17 g17 q17 m17_
          have b17 := g17.below b16 (below_le b16 hMd) k12
          have k17 := ge_step k12 q17 (below_le b16 hMd)
          have x17 := x16.grew g17 (fun e => n16 e.symm)
          have n17 : blk p17 ≠ some z16 := fun h => by rcases q17 with e | e; exact n16 (by rw [← e]; exact h); (rw [e] at h; have := Option.some.inj h; have := x16.lt; omega)
          refine ⟨fun _ => ⟨(Ad.below hMd b17).h, kd.below b17 kN⟩, ?_⟩
          change anyT _ _ _ _ _ _ _ _ _ _
          try simp only [pA]
          refine anyT_one 19 _ _ _ _ (by kernel_rfl) ?_
          simp only [List.filterMap_cons, List.filterMap_nil, List.getElem?_toArray, List.getElem?_cons_succ, List.getElem?_cons_zero]
          refine wpl_appK rfl (.tmp 36) (.tmp 38) 62 rfl 66 2 (by omega) undRE kRE p17 (k + (m.n - (k + 1))) cap17 rfl _ v17 (some ⟨z16, 0, none⟩) 1 1 rfl (re1 (m.E k)) (x17.cells) (fun j _ => re1_one _ _) (by omega) ?_
          intro p18 cap18 w18_ v18 g18 q18 m18_
          have b18 := g18.below b17 (below_le b17 hMd) k17
          have k18 := ge_step k17 q18 (below_le b17 hMd)
          refine ⟨fun _ => ⟨(Ad.below hMd b18).h, kd.below b18 kN⟩, ?_⟩
          change anyT _ _ _ _ _ _ _ _ _ _
          try simp only [pA]
          refine anyT_one 20 _ _ _ _ (by kernel_rfl) ?_
          simp only [List.filterMap_cons, List.filterMap_nil, List.getElem?_toArray, List.getElem?_cons_succ, List.getElem?_cons_zero]
          refine wpl_pure rfl (v := .pointer (some ⟨m.b, 0, none⟩)) (by intro w; first | rfl | (go_simp; first | done | with_reducible rfl)) ?_
          refine ⟨fun _ => ⟨(Ad.below hMd b18).h, kd.below b18 kN⟩, ?_⟩
          change anyT _ _ _ _ _ _ _ _ _ _
          try simp only [pA]
          refine anyT_one 21 _ _ _ _ (by kernel_rfl) ?_
          simp only [List.filterMap_cons, List.filterMap_nil, List.getElem?_toArray, List.getElem?_cons_succ, List.getElem?_cons_zero]
          refine wpl_pure rfl (v := .pointer (some ⟨m.b, 4, none⟩)) (by intro w; first | rfl | (go_simp; first | done | with_reducible rfl)) ?_
          refine ⟨fun _ => ⟨(Ad.below hMd b18).h, kd.below b18 kN⟩, ?_⟩
          change anyT _ _ _ _ _ _ _ _ _ _
          try simp only [pA]
          refine anyT_one 22 _ _ _ _ (by kernel_rfl) ?_
          simp only [List.filterMap_cons, List.filterMap_nil, List.getElem?_toArray, List.getElem?_cons_succ, List.getElem?_cons_zero]
          refine wpl_set rfl 62 (.tmp 41) (.tmp 39) rfl m.b 4 rfl (.slice p18 (k + (m.n - (k + 1)) + 1) cap18) rfl szSlRE rfl rfl 64 6 _ (Ad.below hMd b18).h (by omega) ?_
          intro w5 t5 h5
          refine ⟨fun h => absurd h (by simp), ?_⟩
          refine anyT_of_any _ _ _ _ (by kernel_rfl) ?_
          change wpAny _ _ _ _ _ _ _ _
          refine wpAny_done (by kernel_rfl) ?_ _
          try simp only [pA]
          have X5 := hid (pre _ _ (RNx.used hMd Ad H2.out k hk b18 v18 k18 t5 h5))
          have D5 : Hid (w5.cell? ⟨m.b, 4, none⟩ = some (.slice p18 (k + (m.n - (k + 1)) + 1) cap18)) := hid X5.out.at_.c4
          have E47 := hid (show ((k + (m.n - (k + 1)) + 1 : Nat) : Int) - 1 = ((m.n - 1 : Nat) : Int) by omega)
          go_wp2_with (first
            | ((with_reducible show wpList _ _ _ (_ :: _) _ _); first
              | (refine wpl_run rfl (.slice p18 (k + (m.n - (k + 1)) + 1) cap18) _ (run_cell1 (x := .tmp 44) 62 rfl rfl undRE rfl D5.out) ?_; try simp only [pA])
              | (refine wpl_run rfl (.int .i64 ((k + (m.n - (k + 1)) + 1 : Nat) : Int)) _ (run_lenL (x := .tmp 45) rfl undRE rfl _) ?_; try simp only [pA])
              | (refine wpl_run rfl (.int .i64 ((m.n - 1 : Nat) : Int)) _ (run_subN (x := .tmp 46) rfl rfl rfl E47.out (by omega) (by omega) _) ?_; try simp only [pA]))
            | fail)
          go_ret
          exact ⟨m.n - 1, _, rfl, show m.n - 1 < k + (m.n - (k + 1)) + 1 by omega, X5.out⟩
      · simp only [List.filterMap_cons, List.filterMap_nil, List.getElem?_toArray, List.getElem?_cons_succ, List.getElem?_cons_zero]
        obtain ⟨z19, hz19⟩ := sz_some w11_
        have lz19 : M ≤ z19 := below_sz b11 hMd hz19
        refine wpl_bsRE rfl (.tmp 37) rfl (m.E k) rfl z19 hz19 ?_
        intro w19_ y19 c19 x19
        have b19 := b11.trans (c19.mono lz19)
        have v19 := v11.below c19 (Nat.le_of_eq hz19)
        have n19 : blk (some ⟨z11, 0, none⟩) ≠ some z19 := fun h => by have := v11.lt _ h; have e : w11_.heap.size = z19 := hz19; omega
        refine ⟨fun _ => ⟨(Ad.below hMd b19).h, kd.below b19 kN⟩, ?_⟩
        change anyT _ _ _ _ _ _ _ _ _ _
        try simp only [pA]
        refine anyT_one 8 _ _ _ _ (by kernel_rfl) ?_
        simp only [List.filterMap_cons, List.filterMap_nil, List.getElem?_toArray, List.getElem?_cons_succ, List.getElem?_cons_zero]
        refine wpl_appK rfl (.tmp 21) (.tmp 27) 62 rfl 66 2 (by omega) undRE kRE (some ⟨z11, 0, none⟩) 0 0 rfl _ v19 m.p k m.cap rfl (reC m.E) ((Ad.below hMd b19).front k hk) (fun j _ => reC_one _ _) (by omega) ?_
        intro p20 cap20 w20_ v20 g20 q20 m20_
        have b20 := g20.below b19 (below_le b19 hMd) k11
        have k20 := ge_step k11 q20 (below_le b19 hMd)
        rw [Nat.zero_add] at v20
        rw [Nat.zero_add]
        have x20 := x19.grew g20 (fun e => n19 e.symm)
        have n20 : blk p20 ≠ some z19 := fun h => by rcases q20 with e | e; exact n19 (by rw [← e]; exact h); (rw [e] at h; have := Option.some.inj h; have := x19.lt; omega)
        refine ⟨fun _ => ⟨(Ad.below hMd b20).h, kd.below b20 kN⟩, ?_⟩
        change anyT _ _ _ _ _ _ _ _ _ _
        try simp only [pA]
        refine anyT_one 16 _ _ _ _ (by kernel_rfl) ?_
        simp only [List.filterMap_cons, List.filterMap_nil, List.getElem?_toArray, List.getElem?_cons_succ, List.getElem?_cons_zero]
        refine wpl_appK rfl (.tmp 28) (.tmp 35) 62 rfl 66 2 (by omega) undRE kRE p20 k cap20 rfl _ v20 (tailP m k) (m.n - (k + 1)) (m.cap - (k + 1)) rfl (fun j => reC m.E ((k + 1) * 2 + j)) ((Ad.below hMd b20).tail k hk) (fun j _ => reC_one _ _) (by omega) ?_
        intro p21 cap21 w21_ v21 g21 q21 m21_
        have b21 := g21.below b20 (below_le b20 hMd) k20
        have k21 := ge_step k20 q21 (below_le b20 hMd)
        have x21 := x20.grew g21 (fun e => n20 e.symm)
        have n21 : blk p21 ≠ some z19 := fun h => by rcases q21 with e | e; exact n20 (by rw [← e]; exact h); (rw [e] at h; have := Option.some.inj h; have := x20.lt; omega)
        refine ⟨fun _ => ⟨(Ad.below hMd b21).h, kd.below b21 kN⟩, ?_⟩
        change anyT _ _ _ _ _ _ _ _ _ _
        try simp only [pA]
        refine anyT_one 19 _ _ _ _ (by kernel_rfl) ?_
        simp only [List.filterMap_cons, List.filterMap_nil, List.getElem?_toArray, List.getElem?_cons_succ, List.getElem?_cons_zero]
        refine wpl_appK rfl (.tmp 36) (.tmp 38) 62 rfl 66 2 (by omega) undRE kRE p21 (k + (m.n - (k + 1))) cap21 rfl _ v21 (some ⟨z19, 0, none⟩) 1 1 rfl (re1 (m.E k)) (x21.cells) (fun j _ => re1_one _ _) (by omega) ?_
        intro p22 cap22 w22_ v22 g22 q22 m22_
        have b22 := g22.below b21 (below_le b21 hMd) k21
        have k22 := ge_step k21 q22 (below_le b21 hMd)
        refine ⟨fun _ => ⟨(Ad.below hMd b22).h, kd.below b22 kN⟩, ?_⟩
        change anyT _ _ _ _ _ _ _ _ _ _
        try simp only [pA]
        refine anyT_one 20 _ _ _ _ (by kernel_rfl) ?_
        simp only [List.filterMap_cons, List.filterMap_nil, List.getElem?_toArray, List.getElem?_cons_succ, List.getElem?_cons_zero]
        refine wpl_pure rfl (v := .pointer (some ⟨m.b, 0, none⟩)) (by intro w; first | rfl | (go_simp; first | done | with_reducible rfl)) ?_
        refine ⟨fun _ => ⟨(Ad.below hMd b22).h, kd.below b22 kN⟩, ?_⟩
        change anyT _ _ _ _ _ _ _ _ _ _
        try simp only [pA]
        refine anyT_one 21 _ _ _ _ (by kernel_rfl) ?_
        simp only [List.filterMap_cons, List.filterMap_nil, List.getElem?_toArray, List.getElem?_cons_succ, List.getElem?_cons_zero]
        refine wpl_pure rfl (v := .pointer (some ⟨m.b, 4, none⟩)) (by intro w; first | rfl | (go_simp; first | done | with_reducible rfl)) ?_
        refine ⟨fun _ => ⟨(Ad.below hMd b22).h, kd.below b22 kN⟩, ?_⟩
        change anyT _ _ _ _ _ _ _ _ _ _
        try simp only [pA]
        refine anyT_one 22 _ _ _ _ (by kernel_rfl) ?_
        simp only [List.filterMap_cons, List.filterMap_nil, List.getElem?_toArray, List.getElem?_cons_succ, List.getElem?_cons_zero]
        refine wpl_set rfl 62 (.tmp 41) (.tmp 39) rfl m.b 4 rfl (.slice p22 (k + (m.n - (k + 1)) + 1) cap22) rfl szSlRE rfl rfl 64 6 _ (Ad.below hMd b22).h (by omega) ?_
        intro w5 t5 h5
        refine ⟨fun h => absurd h (by simp), ?_⟩
        refine anyT_of_any _ _ _ _ (by kernel_rfl) ?_
        change wpAny _ _ _ _ _ _ _ _
        refine wpAny_done (by kernel_rfl) ?_ _
        try simp only [pA]
        have X5 := hid (pre _ _ (RNx.used hMd Ad H2.out k hk b22 v22 k22 t5 h5))
        have D5 : Hid (w5.cell? ⟨m.b, 4, none⟩ = some (.slice p22 (k + (m.n - (k + 1)) + 1) cap22)) := hid X5.out.at_.c4
        have E47 := hid (show ((k + (m.n - (k + 1)) + 1 : Nat) : Int) - 1 = ((m.n - 1 : Nat) : Int) by omega)
        go_wp2_with (first
          | ((with_reducible show wpList _ _ _ (_ :: _) _ _); first
            | (refine wpl_run rfl (.slice p22 (k + (m.n - (k + 1)) + 1) cap22) _ (run_cell1 (x := .tmp 44) 62 rfl rfl undRE rfl D5.out) ?_; try simp only [pA])
            | (refine wpl_run rfl (.int .i64 ((k + (m.n - (k + 1)) + 1 : Nat) : Int)) _ (run_lenL (x := .tmp 45) rfl undRE rfl _) ?_; try simp only [pA])
            | (refine wpl_run rfl (.int .i64 ((m.n - 1 : Nat) : Int)) _ (run_subN (x := .tmp 46) rfl rfl rfl E47.out (by omega) (by omega) _) ?_; try simp only [pA]))
          | fail)
        go_ret
        exact ⟨m.n - 1, _, rfl, show m.n - 1 < k + (m.n - (k + 1)) + 1 by omega, X5.out⟩
    · simp only [List.filterMap_cons, List.filterMap_nil, List.getElem?_toArray, List.getElem?_cons_succ, List.getElem?_cons_zero]
      obtain ⟨z23, hz23⟩ := sz_some wd
      have lz23 : M ≤ z23 := below_sz (Below.refl M wd) hMd hz23
      refine wpl_bsRE rfl (.tmp 37) rfl (m.E k) rfl z23 hz23 ?_
      intro w23_ y23 c23 x23
      have b23 := (Below.refl M wd).trans (c23.mono lz23)
      refine ⟨fun _ => ⟨(Ad.below hMd b23).h, kd.below b23 kN⟩, ?_⟩
      change anyT _ _ _ _ _ _ _ _ _ _
      try simp only [pA]
      refine anyT_one 1 _ _ _ _ (by kernel_rfl) ?_
      simp only [List.filterMap_cons, List.filterMap_nil, List.getElem?_toArray, List.getElem?_cons_succ, List.getElem?_cons_zero]
      obtain ⟨z24, hz24⟩ := sz_some w23_
      have lz24 : M ≤ z24 := below_sz b23 hMd hz24
      refine wpl_bsR0 rfl rfl z24 hz24 (reC m.E) ?_
      intro w24_ y24 c24 v24
      have b24 := b23.trans (c24.mono lz24)
      have k24 : ∀ g, blk (some (⟨z24, 0, none⟩ : Addr)) = some g → M ≤ g := fun g hg => by have : z24 = g := Option.some.inj hg; omega
      have x24 := x23.below c24 (x23.ltN hz24)
      have n24 : blk (some (⟨z24, 0, none⟩ : Addr)) ≠ some z23 := fun h => by have : z24 = z23 := Option.some.inj h; have := x23.ltN hz24; omega
      refine ⟨fun _ => ⟨(Ad.below hMd b24).h, kd.below b24 kN⟩, ?_⟩
      change anyT _ _ _ _ _ _ _ _ _ _
      try simp only [pA]
      refine anyT_one 8 _ _ _ _ (by kernel_rfl) ?_
      simp only [List.filterMap_cons, List.filterMap_nil, List.getElem?_toArray, List.getElem?_cons_succ, List.getElem?_cons_zero]
      refine wpl_appK rfl (.tmp 21) (.tmp 27) 62 rfl 66 2 (by omega) undRE kRE (some ⟨z24, 0, none⟩) 0 0 rfl _ v24 m.p k m.cap rfl (reC m.E) ((Ad.below hMd b24).front k hk) (fun j _ => reC_one _ _) (by omega) ?_
      intro p25 cap25 w25_ v25 g25 q25 m25_
      have b25 := g25.below b24 (below_le b24 hMd) k24
      have k25 := ge_step k24 q25 (below_le b24 hMd)
      rw [Nat.zero_add] at v25
      rw [Nat.zero_add]
      have x25 := x24.grew g25 (fun e => n24 e.symm)
      have n25 : blk p25 ≠ some z23 := fun h => by rcases q25 with e | e; exact n24 (by rw [← e]; exact h); (rw [e] at h; have := Option.some.inj h; have := x24.lt; omega)
      refine ⟨fun _ => ⟨(Ad.below hMd b25).h, kd.below b25 kN⟩, ?_⟩
      change anyT _ _ _ _ _ _ _ _ _ _
      try simp only [pA]
      refine anyT_one 16 _ _ _ _ (by kernel_rfl) ?_
      simp only [List.filterMap_cons, List.filterMap_nil, List.getElem?_toArray, List.getElem?_cons_succ, List.getElem?_cons_zero]
      refine wpl_appK rfl (.tmp 28) (.tmp 35) 62 rfl 66 2 (by omega) undRE kRE p25 k cap25 rfl _ v25 (tailP m k) (m.n - (k + 1)) (m.cap - (k + 1)) rfl (fun j => reC m.E ((k + 1) * 2 + j)) ((Ad.below hMd b25).tail k hk) (fun j _ => reC_one _ _) (by omega) ?_
      intro p26 cap26 w26_ v26 g26 q26 m26_
      have b26 := g26.below b25 (below_le b25 hMd) k25
      have k26 := ge_step k25 q26 (below_le b25 hMd)
      have x26 := x25.grew g26 (fun e => n25 e.symm)
      have n26 : blk p26 ≠ some z23 := fun h => by rcases q26 with e | e; exact n25 (by rw [← e]; exact h); (rw [e] at h; have := Option.some.inj h; have := x25.lt; omega)
      refine ⟨fun _ => ⟨(Ad.below hMd b26).h, kd.below b26 kN⟩, ?_⟩
      change anyT _ _ _ _ _ _ _ _ _ _
      try simp only [pA]
      refine anyT_one 19 _ _ _ _ (by kernel_rfl) ?_
      simp only [List.filterMap_cons, List.filterMap_nil, List.getElem?_toArray, List.getElem?_cons_succ, List.getElem?_cons_zero]
      refine wpl_appK rfl (.tmp 36) (.tmp 38) 62 rfl 66 2 (by omega) undRE kRE p26 (k + (m.n - (k + 1))) cap26 rfl _ v26 (some ⟨z23, 0, none⟩) 1 1 rfl (re1 (m.E k)) (x26.cells) (fun j _ => re1_one _ _) (by omega) ?_
      intro p27 cap27 w27_ v27 g27 q27 m27_
      have b27 := g27.below b26 (below_le b26 hMd) k26
      have k27 := ge_step k26 q27 (below_le b26 hMd)
      refine ⟨fun _ => ⟨(Ad.below hMd b27).h, kd.below b27 kN⟩, ?_⟩
      change anyT _ _ _ _ _ _ _ _ _ _
      try simp only [pA]
      refine anyT_one 20 _ _ _ _ (by kernel_rfl) ?_
      simp only [List.filterMap_cons, List.filterMap_nil, List.getElem?_toArray, List.getElem?_cons_succ, List.getElem?_cons_zero]
      refine wpl_pure rfl (v := .pointer (some ⟨m.b, 0, none⟩)) (by intro w; first | rfl | (go_simp; first | done | with_reducible rfl)) ?_
      refine ⟨fun _ => ⟨(Ad.below hMd b27).h, kd.below b27 kN⟩, ?_⟩
      change anyT _ _ _ _ _ _ _ _ _ _
      try simp only [pA]
      refine anyT_one 21 _ _ _ _ (by kernel_rfl) ?_
      simp only [List.filterMap_cons, List.filterMap_nil, List.getElem?_toArray, List.getElem?_cons_succ, List.getElem?_cons_zero]
      refine wpl_pure rfl (v := .pointer (some ⟨m.b, 4, none⟩)) (by intro w; first | rfl | (go_simp; first | done | with_reducible rfl)) ?_
      refine ⟨fun _ => ⟨(Ad.below hMd b27).h, kd.below b27 kN⟩, ?_⟩
      change anyT _ _ _ _ _ _ _ _ _ _
      try simp only [pA]
      refine anyT_one 22 _ _ _ _ (by kernel_rfl) ?_
      simp only [List.filterMap_cons, List.filterMap_nil, List.getElem?_toArray, List.getElem?_cons_succ, List.getElem?_cons_zero]
      refine wpl_set rfl 62 (.tmp 41) (.tmp 39) rfl m.b 4 rfl (.slice p27 (k + (m.n - (k + 1)) + 1) cap27) rfl szSlRE rfl rfl 64 6 _ (Ad.below hMd b27).h (by omega) ?_
      intro w5 t5 h5
      refine ⟨fun h => absurd h (by simp), ?_⟩
      refine anyT_of_any _ _ _ _ (by kernel_rfl) ?_
      change wpAny _ _ _ _ _ _ _ _
      refine wpAny_done (by kernel_rfl) ?_ _
      try simp only [pA]
      have X5 := hid (pre _ _ (RNx.used hMd Ad H2.out k hk b27 v27 k27 t5 h5))
      have D5 : Hid (w5.cell? ⟨m.b, 4, none⟩ = some (.slice p27 (k + (m.n - (k + 1)) + 1) cap27)) := hid X5.out.at_.c4
      have E47 := hid (show ((k + (m.n - (k + 1)) + 1 : Nat) : Int) - 1 = ((m.n - 1 : Nat) : Int) by omega)
      go_wp2_with (first
        | ((with_reducible show wpList _ _ _ (_ :: _) _ _); first
          | (refine wpl_run rfl (.slice p27 (k + (m.n - (k + 1)) + 1) cap27) _ (run_cell1 (x := .tmp 44) 62 rfl rfl undRE rfl D5.out) ?_; try simp only [pA])
          | (refine wpl_run rfl (.int .i64 ((k + (m.n - (k + 1)) + 1 : Nat) : Int)) _ (run_lenL (x := .tmp 45) rfl undRE rfl _) ?_; try simp only [pA])
          | (refine wpl_run rfl (.int .i64 ((m.n - 1 : Nat) : Int)) _ (run_subN (x := .tmp 46) rfl rfl rfl E47.out (by omega) (by omega) _) ?_; try simp only [pA]))
        | fail)
      go_ret
      exact ⟨m.n - 1, _, rfl, show m.n - 1 < k + (m.n - (k + 1)) + 1 by omega, X5.out⟩
  · have E11 : ((m.ty : Int) != 2) = true := by rw [bne_iff_ne]; omega
    clear h2
    go_enter Tryd.func54, Tryd.ntmps54
    go_wp2
    go_ret
    exact ⟨k, m, rfl, hk, RNx.stay hN hA (Below.refl N w)⟩
end Go.Proofs.YtjdclgnlnehjlaaDoor
