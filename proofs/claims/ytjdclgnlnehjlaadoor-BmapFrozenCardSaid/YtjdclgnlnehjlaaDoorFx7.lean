/- BmapFrozen: the document's New. -/
import Derived.Test.YtjdclgnlnehjlaaDoorFx6
namespace Go.Proofs.YtjdclgnlnehjlaaDoor
open Go Go.RowKit
theorem zeBy1 : (Tryd.prog.info? 5).map (fun i => (i.zero, i.size, i.bytes)) = some (some (.int .u8 0), 1, 1) := by kernel_rfl
theorem undInt64 : Tryd.prog.underlying 3 = some (.int .i64) := by kernel_rfl
def RNewR (ty key val ent : Nat) (N : Nat) (w : World) (e : Ending) (w' : World) : Prop := ∃ r : Rm, e = .returned (.pointer (some ⟨r.b, 0, none⟩)) ∧ RmAt w' r ∧ (r.ty = ty ∧ r.key = key ∧ r.val = val ∧ r.ent = ent) ∧ Below N w w' ∧ ∀ x, RFoot r x → N ≤ x
structure NewL (ty key val ent b B : Nat) (w1 wr : World) (i : Nat) (r : Rm) : Prop where
  at_ : RmAt wr r
  n : r.n = i
  b : r.b = b
  p : r.ty = ty ∧ r.key = key ∧ r.val = val ∧ r.ent = ent
  bel : Below B w1 wr
  low : ∀ x, RFoot r x → B ≤ x
theorem szSpR : (Tryd.prog.info? 23).map (·.size) = some 4 := by kernel_rfl
theorem rwSpR : ∃ d, Tryd.prog.underlying 23 = some d ∧ d.isRow = true := row_ofS (by kernel_rfl)
theorem NewL.next {ty key val ent b B M i : Nat} {w1 wd w5 : World} {r r' : Rm} (h : NewL ty key val ent b B w1 wd i r) (hM : Sz wd M) (k : RNx r wd M w5 r') (hn : r'.n = i + 1) : NewL ty key val ent b B w1 w5 (i + 1) r' := by
  have hB : B ≤ wd.heap.size := by
    have h1 := h.at_.lt hM r.b (.inl rfl)
    have h2 := h.low r.b (.inl rfl)
    have e : wd.heap.size = M := hM
    omega
  exact ⟨k.at_, hn, k.sm.1.trans h.b, ⟨k.sm.2.1.trans h.p.1, k.sm.2.2.1.trans h.p.2.1, k.sm.2.2.2.1.trans h.p.2.2.1, k.sm.2.2.2.2.trans h.p.2.2.2⟩, k.turn.below h.bel h.low hB,
    fun x hx => (k.ft x hx).elim (h.low x) (fun hl => by have e : wd.heap.size = M := hM; omega)⟩
set_option maxRecDepth 100000 in
set_option maxHeartbeats 16000000 in
theorem RNew_any (ty key val ent : Nat) (h : SpecOk ty key val ent) (w : World) (N : Nat) (hN : Sz w N) :
    Calls Tryd.prog 9 #[.agg (cellsOf (sp4 (ty : Int) (key : Int) (val : Int) (ent : Int)) 4)] w (RNewR ty key val ent N w) := by
  have h' := h
  obtain ⟨⟨lo, hi, hz, hl, hh⟩, v1, v64, e1, e64⟩ := h'
  obtain ⟨dS, s1, s2⟩ := rwSpR
  have S1 := hid s1
  have S2 := hid s2
  clear s1 s2
  obtain ⟨m0, em0⟩ : ∃ m0 : Rm, m0 = ⟨ty, key, val, ent, false, N + 1, none, 0, 0, fun _ => ⟨⟨#[]⟩, ⟨#[]⟩⟩⟩ := ⟨_, rfl⟩
  go_enter Tryd.func9, Tryd.ntmps9
  go_upto_region 2 with (first
    | ((with_reducible show wpList _ _ _ (_ :: _) _ _); first
      | (refine wpl_box rfl 23 (.tmp 0) rfl 4 (sp4 (ty : Int) (key : Int) (val : Int) (ent : Int)) rfl N hN ?_; intro w1 hM1 b1 k1; refine id ?_; try simp only [pA])
      | (refine wpl_load rfl 23 (.tmp 1) rfl N rfl 23 4 _ k1 _ S1.out S2.out szSpR ?_; try simp only [pA])
      | (refine wpl_build rfl 64 _ rfl (cellsOf (rmC m0) 6) (by rw [em0]; kernel_rfl) ?_; try simp only [pA])
      | (refine wpl_box rfl 64 (.tmp 6) rfl 6 (rmC m0) rfl (N + 1) hM1 ?_; intro w2 hM2 b2 k2; refine id ?_; try simp only [pA]))
    | fail)
  have K1 := k1.below b2 (by omega)
  have hb12 : Below (N + 1) w1 w2 := b2
  have R0 : NewL ty key val ent (N + 1) (N + 1) w1 w2 0 m0 := by
    subst em0
    refine ⟨⟨k2, .inl ⟨rfl, rfl, rfl⟩, fun h5 => ⟨?_, ?_, fun i hi => absurd hi (Nat.not_lt_zero i)⟩, show 0 ≤ 100 by omega, ?_⟩, rfl, rfl, ⟨rfl, rfl, rfl, rfl⟩, b2, fun x hx => ?_⟩
    · have h5' : ty = 5 := h5
      show 4 ≤ key
      unfold Sizes at hz
      omega
    · have h5' : ty = 5 := h5
      show key ≤ 16
      unfold Sizes at hz
      omega
    · show key ≤ 16 ∧ val ≤ 64 ∧ ent ≤ 64 ∧ 1 ≤ ent
      unfold Sizes at hz
      omega
    · rcases hx with hx | hx
      · exact Nat.le_of_eq hx.symm
      · cases hx
  have K1H := hid k1
  have hb1 := b1
  clear k1 k2 K1 hb12 em0 b1 b2 h hz lo hi hl hh
  go_wp2_with fail
  go_loopw [4] (fun x4 wr => ∃ (i : Nat) (r : Rm), x4 = .int .i64 (i : Int) ∧ i ≤ ent ∧ NewL ty key val ent (N + 1) (N + 1) w1 wr i r) (fun x4 _ => ent - (intOf x4).toNat)
  case atStart => exact ⟨0, m0, rfl, by omega, R0⟩
  case round =>
    clear R0
    obtain ⟨i, r, rfl, hi, R⟩ := hrel
    obtain ⟨M, hM⟩ := sz_some wr
    have hNM := below_sz R.bel hM1 hM
    have kS := K1H.out.below R.bel (by omega)
    have c0 : wr.cell? ⟨N, 0, none⟩ = some (.int .i64 (ty : Int)) := kS.cell (by omega)
    have c3 : wr.cell? ⟨N, 3, none⟩ = some (.int .i64 (ent : Int)) := kS.cell (by omega)
    by_cases h0 : ty = 0 ∧ i < ent
    · obtain ⟨h0, h1⟩ := h0
      have E10 := hid (show ((ty : Int) == 0) = true by rw [h0]; rfl)
      have E15 := hid (show decide ((i : Int) < (ent : Int)) = true from decide_eq_true (by omega))
      have H0 := hid h0
      clear h0
      go_upto_region 5 with (first
        | ((with_reducible show wpList _ _ _ (_ :: _) _ _); first
          | (refine wpl_run rfl (.int .i64 (ty : Int)) _ (run_cell1 (x := .tmp 8) 3 rfl rfl undIt rfl c0) ?_; try simp only [pA])
          | (refine wpl_run rfl (.bool true) _ (run_eqK (x := .tmp 9) rfl rfl rfl E10.out _) ?_; try simp only [pA])
          | (refine wpl_want (by rfl) ?_; refine wpl_run rfl (.int .i64 (ent : Int)) _ (run_cell1 (x := .tmp 13) 3 rfl rfl undIt rfl c3) ?_; try simp only [pA])
          | (refine wpl_want (by rfl) ?_; refine wpl_run rfl (.bool true) _ (run_lssK (x := .tmp 12) rfl rfl rfl E15.out _) ?_; try simp only [pA]))
        | fail)
      have A := R.at_
      have eb : r.b = N + 1 := R.b
      have c4 := hid A.c4
      have hn100 : r.n = i := R.n
      have hI0 : Has wr (N + 1) 64 6 (rmC r) := by have := A.h; rw [eb] at this; exact this
      have hI : Has wr (N + 1) 64 6 (rmC r) ∧ Has wr N 23 4 (sp4 (ty : Int) (key : Int) (val : Int) (ent : Int)) := ⟨hI0, kS⟩
      have s2 : True := trivial
      have s3 : True := trivial
      clear c0 c3 c4 E10 E15
      refine wp_region_any (by kernel_rfl) ?_
      change wpAny _ _ _ _ _ _ _ (World.drew _)
      refine anyT_any (s := 18) (I := fun w' => Has w' (N + 1) 64 6 (rmC r) ∧ Has w' N 23 4 (sp4 (ty : Int) (key : Int) (val : Int) (ent : Int))) _ _ _ _ ?_
      have hne := inn_ne (I := fun w' => Has w' (N + 1) 64 6 (rmC r) ∧ Has w' N 23 4 (sp4 (ty : Int) (key : Int) (val : Int) (ent : Int))) ⟨hI0, kS⟩
      refine anyT_reads [0, 1, 2, 3, 4, 5, 6, 9, 10] _ _ _ ⟨hI0, kS⟩ (by kernel_rfl) (fun _ _ _ d _ h => by cases d <;> exact h) ?_
      simp only [pickO, List.map_cons, List.map_nil, List.getElem?_toArray, List.getElem?_cons_succ, List.getElem?_cons_zero, Option.getD_some, Act.put, List.setIfInBounds_toArray, List.set_cons_succ, List.set_cons_zero]
      repeat first
        | (refine inn_val (fun x => ld_one 62 (.tmp 22) rfl ⟨N + 1, 4, none⟩ rfl _ (ldL4b x.h.1)) (by rfl) ?_; simp only [Act.put, List.setIfInBounds_toArray, List.set_cons_succ, List.set_cons_zero])
        | (refine inn_val (fun x => run_cell1 (x := .tmp 28) 3 rfl rfl undIt rfl (x.h.2.cell (j := 2) (by omega))) (by rfl) ?_; simp only [Act.put, List.setIfInBounds_toArray, List.set_cons_succ, List.set_cons_zero])
        | (refine inn_val (fun x => run_cv8 (x := .tmp 24) rfl undInt64 undBy rfl _) (by rfl) ?_; simp only [Act.put, List.setIfInBounds_toArray, List.set_cons_succ, List.set_cons_zero])
        | go_big_quiet_step (fail)
      refine wpQuiet_nil ?_
      clear hne s2 s3
      have hMd : Sz wr.drew M := hM
      have Ad : RmAt wr.drew r := A.below hM (Below.refl _ _).drew
      have Rd : NewL ty key val ent (N + 1) (N + 1) w1 wr.drew i r := ⟨Ad, R.n, R.b, R.p, R.bel.drew, R.low⟩
      have kd : Has wr.drew N 23 4 (sp4 (ty : Int) (key : Int) (val : Int) (ent : Int)) := kS
      clear hI hI0 A R kS hM
      generalize World.drew wr = wd at *
      have kN : N < M := by omega
      have HI : ∀ wv, Below M wd wv → Has wv (N + 1) 64 6 (rmC r) ∧ Has wv N 23 4 (sp4 (ty : Int) (key : Int) (val : Int) (ent : Int)) := fun wv b => ⟨by have := (Ad.below hMd b).h; rw [eb] at this; exact this, kd.below b kN⟩
      refine anyT_two 7 11 _ _ _ _ (by kernel_rfl) ?_ ?_
      · simp only [List.filterMap_cons, List.filterMap_nil, List.getElem?_toArray, List.getElem?_cons_succ, List.getElem?_cons_zero]
        obtain ⟨z1, hz1⟩ := sz_some wd
        have lz1 : M ≤ z1 := below_sz (Below.refl M wd) hMd hz1
        refine wpl_bs4 rfl (.tmp 25) (.const (.int .u8 0)) (.const (.int .u8 0)) (.const (.int .u8 0)) rfl (BitVec.ofInt 8 (i : Int)) 0#8 0#8 0#8 rfl rfl rfl rfl z1 hz1 ?_
        intro v1 y1 c1 a1
        have b1 := (Below.refl M wd).trans (c1.mono lz1)
        refine ⟨fun _ => HI _ b1, ?_⟩
        change anyT _ _ _ _ _ _ _ _ _ _
        try simp only [pA]
        refine anyT_two 8 11 _ _ _ _ (by kernel_rfl) ?_ ?_
        · simp only [List.filterMap_cons, List.filterMap_nil, List.getElem?_toArray, List.getElem?_cons_succ, List.getElem?_cons_zero]
          refine wpl_conv rfl 35 9 (.tmp 26) rfl _ (.string (strOf (four (BitVec.ofInt 8 (i : Int)) 0#8 0#8 0#8) 4)) rfl (run_string v1 35 9 5 undBB undBy undBS (some ⟨z1, 0, none⟩) 4 4 _ (fun _ => ⟨z1, 0, rfl, fun j hj => by rw [Nat.zero_add]; exact a1.cell hj⟩)) ?_
          refine ⟨fun _ => HI _ b1, ?_⟩
          change anyT _ _ _ _ _ _ _ _ _ _
          try simp only [pA]
          refine anyT_one 11 _ _ _ _ (by kernel_rfl) ?_
          simp only [List.filterMap_cons, List.filterMap_nil, List.getElem?_toArray, List.getElem?_cons_succ, List.getElem?_cons_zero]
          obtain ⟨z3, hz3⟩ := sz_some v1
          have lz3 : M ≤ z3 := below_sz b1 hMd hz3
          refine wpl_make_full rfl 35 (.tmp 29) (.tmp 29) rfl val rfl rfl 5 (.int .u8 0) 1 undBB zeBy1 (by omega) rfl (by omega) z3 hz3 ?_
          intro v3 y3 c3 a3
          have b3 := b1.trans (c3.mono lz3)
          refine ⟨fun _ => HI _ b3, ?_⟩
          change anyT _ _ _ _ _ _ _ _ _ _
          try simp only [pA]
          refine anyT_one 12 _ _ _ _ (by kernel_rfl) ?_
          simp only [List.filterMap_cons, List.filterMap_nil, List.getElem?_toArray, List.getElem?_cons_succ, List.getElem?_cons_zero]
          refine wpl_conv rfl 35 9 (.tmp 30) rfl _ (.string (strOf (fun _ => 0#8) val)) rfl (run_string v3 35 9 5 undBB undBy undBS (some ⟨z3, 0, none⟩) val val (fun _ => 0#8) (fun _ => ⟨z3, 0, rfl, fun j hj => by rw [Nat.zero_add]; exact a3.cell hj⟩)) ?_
          refine ⟨fun _ => HI _ b3, ?_⟩
          change anyT _ _ _ _ _ _ _ _ _ _
          try simp only [pA]
          refine anyT_one 13 _ _ _ _ (by kernel_rfl) ?_
          simp only [List.filterMap_cons, List.filterMap_nil, List.getElem?_toArray, List.getElem?_cons_succ, List.getElem?_cons_zero]
          refine wpl_build rfl 66 _ rfl (cellsOf (re1 ⟨strOf (four (BitVec.ofInt 8 (i : Int)) 0#8 0#8 0#8) 4, strOf (fun _ => 0#8) val⟩) 2) (by kernel_rfl) ?_
          refine ⟨fun _ => HI _ b3, ?_⟩
          change anyT _ _ _ _ _ _ _ _ _ _
          try simp only [pA]
          obtain ⟨z5, hz5⟩ := sz_some v3
          have lz5 : M ≤ z5 := below_sz b3 hMd hz5
          refine anyT_one 14 _ _ _ _ (by kernel_rfl) ?_
          simp only [List.filterMap_cons, List.filterMap_nil, List.getElem?_toArray, List.getElem?_cons_succ, List.getElem?_cons_zero]
          refine wpl_bsRE rfl (.tmp 32) rfl ⟨strOf (four (BitVec.ofInt 8 (i : Int)) 0#8 0#8 0#8) 4, strOf (fun _ => 0#8) val⟩ rfl z5 hz5 ?_
          intro w6 y6 c6 k6
          have b6 := b3.trans (c6.mono lz5)
          have A6 := Ad.below hMd b6
          have e6 : w6.heap.size = z5 + 1 := y6
          refine ⟨fun _ => HI _ b6, ?_⟩
          change anyT _ _ _ _ _ _ _ _ _ _
          try simp only [pA]
          refine anyT_one 15 _ _ _ _ (by kernel_rfl) ?_
          simp only [List.filterMap_cons, List.filterMap_nil, List.getElem?_toArray, List.getElem?_cons_succ, List.getElem?_cons_zero]
          refine wpl_appK rfl (.tmp 23) (.tmp 33) 62 rfl 66 2 (by omega) undRE kRE r.p r.n r.cap rfl (reC r.E) A6.e (some ⟨z5, 0, none⟩) 1 1 rfl (re1 ⟨strOf (four (BitVec.ofInt 8 (i : Int)) 0#8 0#8 0#8) 4, strOf (fun _ => 0#8) val⟩) k6.cells (fun j _ => re1_one _ j) (by omega) ?_
          intro p4 cap4 w4 o4 g4 q4 n4
          have h4 : Has w4 (N + 1) 64 6 (rmC r) := (HI _ b6).1.turn g4.turn (fun e => by rw [← eb] at e; exact has_own A6.h A6.e (by decide) _ e rfl)
          have h4s : Has w4 N 23 4 (sp4 (ty : Int) (key : Int) (val : Int) (ent : Int)) := (HI _ b6).2.turn g4.turn (fun e => by have := Rd.low N (.inr e); omega)
          refine ⟨fun _ => ⟨h4, h4s⟩, ?_⟩
          change anyT _ _ _ _ _ _ _ _ _ _
          try simp only [pA]
          refine anyT_one 16 _ _ _ _ (by kernel_rfl) ?_
          simp only [List.filterMap_cons, List.filterMap_nil, List.getElem?_toArray, List.getElem?_cons_succ, List.getElem?_cons_zero]
          refine wpl_pure rfl (v := .pointer (some ⟨N + 1, 0, none⟩)) (by intro w; first | rfl | (go_simp; first | done | with_reducible rfl)) ?_
          refine ⟨fun _ => ⟨h4, h4s⟩, ?_⟩
          change anyT _ _ _ _ _ _ _ _ _ _
          try simp only [pA]
          refine anyT_one 17 _ _ _ _ (by kernel_rfl) ?_
          simp only [List.filterMap_cons, List.filterMap_nil, List.getElem?_toArray, List.getElem?_cons_succ, List.getElem?_cons_zero]
          refine wpl_pure rfl (v := .pointer (some ⟨N + 1, 4, none⟩)) (by intro w; first | rfl | (go_simp; first | done | with_reducible rfl)) ?_
          refine ⟨fun _ => ⟨h4, h4s⟩, ?_⟩
          change anyT _ _ _ _ _ _ _ _ _ _
          try simp only [pA]
          refine anyT_one 18 _ _ _ _ (by kernel_rfl) ?_
          simp only [List.filterMap_cons, List.filterMap_nil, List.getElem?_toArray, List.getElem?_cons_succ, List.getElem?_cons_zero]
          refine wpl_set rfl 62 (.tmp 36) (.tmp 34) rfl (N + 1) 4 rfl (.slice p4 (r.n + 1) cap4) rfl szSlRE rfl rfl 64 6 _ h4 (by omega) ?_
          intro w5 t5 h5
          refine ⟨fun h => absurd h (by simp), ?_⟩
          refine anyT_of_any _ _ _ _ (by kernel_rfl) ?_
          change wpAny _ _ _ _ _ _ _ _
          refine wpAny_done (by kernel_rfl) ?_ _
          try simp only [pA]
          rw [← eb] at t5 h5
          have X5 := Rd.next hMd (RNx.put1 hMd Ad b6 (by omega) o4 g4 q4 t5 h5 (by omega) (fun h => absurd ((Rd.p.1.symm.trans h).symm.trans H0.out) (by decide))) (by show r.n + 1 = i + 1; omega)
          clear g4 q4 n4 o4 h4 h4s t5 h5 b6 c6 k6 A6 HI Ad Rd e6 y6
          go_wp2_with (first
            | ((with_reducible show wpList _ _ _ (_ :: _) _ _); first
              | (refine wpl_run rfl (.int .i64 ((i + 1 : Nat) : Int)) _ (run_inc (x := .tmp 17) rfl rfl rfl rfl (by omega) _) ?_; try simp only [pA]))
            | fail)
          exact ⟨⟨i + 1, _, rfl, by omega, X5⟩, by simp [intOf]; omega⟩
        · simp only [List.filterMap_cons, List.filterMap_nil, List.getElem?_toArray, List.getElem?_cons_succ, List.getElem?_cons_zero]
          obtain ⟨z6, hz6⟩ := sz_some v1
          have lz6 : M ≤ z6 := below_sz b1 hMd hz6
          refine wpl_make_full rfl 35 (.tmp 29) (.tmp 29) rfl val rfl rfl 5 (.int .u8 0) 1 undBB zeBy1 (by omega) rfl (by omega) z6 hz6 ?_
          intro v6 y6 c6 a6
          have b6 := b1.trans (c6.mono lz6)
          have m6 := a1.below c6 (a1.ltN hz6)
          refine ⟨fun _ => HI _ b6, ?_⟩
          change anyT _ _ _ _ _ _ _ _ _ _
          try simp only [pA]
          refine anyT_two 8 12 _ _ _ _ (by kernel_rfl) ?_ ?_
          · simp only [List.filterMap_cons, List.filterMap_nil, List.getElem?_toArray, List.getElem?_cons_succ, List.getElem?_cons_zero]
            refine wpl_conv rfl 35 9 (.tmp 26) rfl _ (.string (strOf (four (BitVec.ofInt 8 (i : Int)) 0#8 0#8 0#8) 4)) rfl (run_string v6 35 9 5 undBB undBy undBS (some ⟨z1, 0, none⟩) 4 4 _ (fun _ => ⟨z1, 0, rfl, fun j hj => by rw [Nat.zero_add]; exact m6.cell hj⟩)) ?_
            refine ⟨fun _ => HI _ b6, ?_⟩
            change anyT _ _ _ _ _ _ _ _ _ _
            try simp only [pA]
            refine anyT_one 12 _ _ _ _ (by kernel_rfl) ?_
            simp only [List.filterMap_cons, List.filterMap_nil, List.getElem?_toArray, List.getElem?_cons_succ, List.getElem?_cons_zero]
            refine wpl_conv rfl 35 9 (.tmp 30) rfl _ (.string (strOf (fun _ => 0#8) val)) rfl (run_string v6 35 9 5 undBB undBy undBS (some ⟨z6, 0, none⟩) val val (fun _ => 0#8) (fun _ => ⟨z6, 0, rfl, fun j hj => by rw [Nat.zero_add]; exact a6.cell hj⟩)) ?_
            refine ⟨fun _ => HI _ b6, ?_⟩
            change anyT _ _ _ _ _ _ _ _ _ _
            try simp only [pA]
            refine anyT_one 13 _ _ _ _ (by kernel_rfl) ?_
            simp only [List.filterMap_cons, List.filterMap_nil, List.getElem?_toArray, List.getElem?_cons_succ, List.getElem?_cons_zero]
            refine wpl_build rfl 66 _ rfl (cellsOf (re1 ⟨strOf (four (BitVec.ofInt 8 (i : Int)) 0#8 0#8 0#8) 4, strOf (fun _ => 0#8) val⟩) 2) (by kernel_rfl) ?_
            refine ⟨fun _ => HI _ b6, ?_⟩
            change anyT _ _ _ _ _ _ _ _ _ _
            try simp only [pA]
            obtain ⟨z9, hz9⟩ := sz_some v6
            have lz9 : M ≤ z9 := below_sz b6 hMd hz9
            refine anyT_one 14 _ _ _ _ (by kernel_rfl) ?_
            simp only [List.filterMap_cons, List.filterMap_nil, List.getElem?_toArray, List.getElem?_cons_succ, List.getElem?_cons_zero]
            refine wpl_bsRE rfl (.tmp 32) rfl ⟨strOf (four (BitVec.ofInt 8 (i : Int)) 0#8 0#8 0#8) 4, strOf (fun _ => 0#8) val⟩ rfl z9 hz9 ?_
            intro w6 y6 c6 k6
            have b6 := b6.trans (c6.mono lz9)
            have A6 := Ad.below hMd b6
            have e6 : w6.heap.size = z9 + 1 := y6
            refine ⟨fun _ => HI _ b6, ?_⟩
            change anyT _ _ _ _ _ _ _ _ _ _
            try simp only [pA]
            refine anyT_one 15 _ _ _ _ (by kernel_rfl) ?_
            simp only [List.filterMap_cons, List.filterMap_nil, List.getElem?_toArray, List.getElem?_cons_succ, List.getElem?_cons_zero]
            refine wpl_appK rfl (.tmp 23) (.tmp 33) 62 rfl 66 2 (by omega) undRE kRE r.p r.n r.cap rfl (reC r.E) A6.e (some ⟨z9, 0, none⟩) 1 1 rfl (re1 ⟨strOf (four (BitVec.ofInt 8 (i : Int)) 0#8 0#8 0#8) 4, strOf (fun _ => 0#8) val⟩) k6.cells (fun j _ => re1_one _ j) (by omega) ?_
            intro p4 cap4 w4 o4 g4 q4 n4
            have h4 : Has w4 (N + 1) 64 6 (rmC r) := (HI _ b6).1.turn g4.turn (fun e => by rw [← eb] at e; exact has_own A6.h A6.e (by decide) _ e rfl)
            have h4s : Has w4 N 23 4 (sp4 (ty : Int) (key : Int) (val : Int) (ent : Int)) := (HI _ b6).2.turn g4.turn (fun e => by have := Rd.low N (.inr e); omega)
            refine ⟨fun _ => ⟨h4, h4s⟩, ?_⟩
            change anyT _ _ _ _ _ _ _ _ _ _
            try simp only [pA]
            refine anyT_one 16 _ _ _ _ (by kernel_rfl) ?_
            simp only [List.filterMap_cons, List.filterMap_nil, List.getElem?_toArray, List.getElem?_cons_succ, List.getElem?_cons_zero]
            refine wpl_pure rfl (v := .pointer (some ⟨N + 1, 0, none⟩)) (by intro w; first | rfl | (go_simp; first | done | with_reducible rfl)) ?_
            refine ⟨fun _ => ⟨h4, h4s⟩, ?_⟩
            change anyT _ _ _ _ _ _ _ _ _ _
            try simp only [pA]
            refine anyT_one 17 _ _ _ _ (by kernel_rfl) ?_
            simp only [List.filterMap_cons, List.filterMap_nil, List.getElem?_toArray, List.getElem?_cons_succ, List.getElem?_cons_zero]
            refine wpl_pure rfl (v := .pointer (some ⟨N + 1, 4, none⟩)) (by intro w; first | rfl | (go_simp; first | done | with_reducible rfl)) ?_
            refine ⟨fun _ => ⟨h4, h4s⟩, ?_⟩
            change anyT _ _ _ _ _ _ _ _ _ _
            try simp only [pA]
            refine anyT_one 18 _ _ _ _ (by kernel_rfl) ?_
            simp only [List.filterMap_cons, List.filterMap_nil, List.getElem?_toArray, List.getElem?_cons_succ, List.getElem?_cons_zero]
            refine wpl_set rfl 62 (.tmp 36) (.tmp 34) rfl (N + 1) 4 rfl (.slice p4 (r.n + 1) cap4) rfl szSlRE rfl rfl 64 6 _ h4 (by omega) ?_
            intro w5 t5 h5
            refine ⟨fun h => absurd h (by simp), ?_⟩
            refine anyT_of_any _ _ _ _ (by kernel_rfl) ?_
            change wpAny _ _ _ _ _ _ _ _
            refine wpAny_done (by kernel_rfl) ?_ _
            try simp only [pA]
            rw [← eb] at t5 h5
            have X5 := Rd.next hMd (RNx.put1 hMd Ad b6 (by omega) o4 g4 q4 t5 h5 (by omega) (fun h => absurd ((Rd.p.1.symm.trans h).symm.trans H0.out) (by decide))) (by show r.n + 1 = i + 1; omega)
            clear g4 q4 n4 o4 h4 h4s t5 h5 b6 c6 k6 A6 HI Ad Rd e6 y6
            go_wp2_with (first
              | ((with_reducible show wpList _ _ _ (_ :: _) _ _); first
                | (refine wpl_run rfl (.int .i64 ((i + 1 : Nat) : Int)) _ (run_inc (x := .tmp 17) rfl rfl rfl rfl (by omega) _) ?_; try simp only [pA]))
              | fail)
            exact ⟨⟨i + 1, _, rfl, by omega, X5⟩, by simp [intOf]; omega⟩
          · simp only [List.filterMap_cons, List.filterMap_nil, List.getElem?_toArray, List.getElem?_cons_succ, List.getElem?_cons_zero]
            refine wpl_conv rfl 35 9 (.tmp 30) rfl _ (.string (strOf (fun _ => 0#8) val)) rfl (run_string v6 35 9 5 undBB undBy undBS (some ⟨z6, 0, none⟩) val val (fun _ => 0#8) (fun _ => ⟨z6, 0, rfl, fun j hj => by rw [Nat.zero_add]; exact a6.cell hj⟩)) ?_
            refine ⟨fun _ => HI _ b6, ?_⟩
            change anyT _ _ _ _ _ _ _ _ _ _
            try simp only [pA]
            refine anyT_one 8 _ _ _ _ (by kernel_rfl) ?_
            simp only [List.filterMap_cons, List.filterMap_nil, List.getElem?_toArray, List.getElem?_cons_succ, List.getElem?_cons_zero]
            refine wpl_conv rfl 35 9 (.tmp 26) rfl _ (.string (strOf (four (BitVec.ofInt 8 (i : Int)) 0#8 0#8 0#8) 4)) rfl (run_string v6 35 9 5 undBB undBy undBS (some ⟨z1, 0, none⟩) 4 4 _ (fun _ => ⟨z1, 0, rfl, fun j hj => by rw [Nat.zero_add]; exact m6.cell hj⟩)) ?_
            refine ⟨fun _ => HI _ b6, ?_⟩
            change anyT _ _ _ _ _ _ _ _ _ _
            try simp only [pA]
            refine anyT_one 13 _ _ _ _ (by kernel_rfl) ?_
            simp only [List.filterMap_cons, List.filterMap_nil, List.getElem?_toArray, List.getElem?_cons_succ, List.getElem?_cons_zero]
            refine wpl_build rfl 66 _ rfl (cellsOf (re1 ⟨strOf (four (BitVec.ofInt 8 (i : Int)) 0#8 0#8 0#8) 4, strOf (fun _ => 0#8) val⟩) 2) (by kernel_rfl) ?_
            refine ⟨fun _ => HI _ b6, ?_⟩
            change anyT _ _ _ _ _ _ _ _ _ _
            try simp only [pA]
            obtain ⟨z12, hz12⟩ := sz_some v6
            have lz12 : M ≤ z12 := below_sz b6 hMd hz12
            refine anyT_one 14 _ _ _ _ (by kernel_rfl) ?_
            simp only [List.filterMap_cons, List.filterMap_nil, List.getElem?_toArray, List.getElem?_cons_succ, List.getElem?_cons_zero]
            refine wpl_bsRE rfl (.tmp 32) rfl ⟨strOf (four (BitVec.ofInt 8 (i : Int)) 0#8 0#8 0#8) 4, strOf (fun _ => 0#8) val⟩ rfl z12 hz12 ?_
            intro w6 y6 c6 k6
            have b6 := b6.trans (c6.mono lz12)
            have A6 := Ad.below hMd b6
            have e6 : w6.heap.size = z12 + 1 := y6
            refine ⟨fun _ => HI _ b6, ?_⟩
            change anyT _ _ _ _ _ _ _ _ _ _
            try simp only [pA]
            refine anyT_one 15 _ _ _ _ (by kernel_rfl) ?_
            simp only [List.filterMap_cons, List.filterMap_nil, List.getElem?_toArray, List.getElem?_cons_succ, List.getElem?_cons_zero]
            refine wpl_appK rfl (.tmp 23) (.tmp 33) 62 rfl 66 2 (by omega) undRE kRE r.p r.n r.cap rfl (reC r.E) A6.e (some ⟨z12, 0, none⟩) 1 1 rfl (re1 ⟨strOf (four (BitVec.ofInt 8 (i : Int)) 0#8 0#8 0#8) 4, strOf (fun _ => 0#8) val⟩) k6.cells (fun j _ => re1_one _ j) (by omega) ?_
            intro p4 cap4 w4 o4 g4 q4 n4
            have h4 : Has w4 (N + 1) 64 6 (rmC r) := (HI _ b6).1.turn g4.turn (fun e => by rw [← eb] at e; exact has_own A6.h A6.e (by decide) _ e rfl)
            have h4s : Has w4 N 23 4 (sp4 (ty : Int) (key : Int) (val : Int) (ent : Int)) := (HI _ b6).2.turn g4.turn (fun e => by have := Rd.low N (.inr e); omega)
            refine ⟨fun _ => ⟨h4, h4s⟩, ?_⟩
            change anyT _ _ _ _ _ _ _ _ _ _
            try simp only [pA]
            refine anyT_one 16 _ _ _ _ (by kernel_rfl) ?_
            simp only [List.filterMap_cons, List.filterMap_nil, List.getElem?_toArray, List.getElem?_cons_succ, List.getElem?_cons_zero]
            refine wpl_pure rfl (v := .pointer (some ⟨N + 1, 0, none⟩)) (by intro w; first | rfl | (go_simp; first | done | with_reducible rfl)) ?_
            refine ⟨fun _ => ⟨h4, h4s⟩, ?_⟩
            change anyT _ _ _ _ _ _ _ _ _ _
            try simp only [pA]
            refine anyT_one 17 _ _ _ _ (by kernel_rfl) ?_
            simp only [List.filterMap_cons, List.filterMap_nil, List.getElem?_toArray, List.getElem?_cons_succ, List.getElem?_cons_zero]
            refine wpl_pure rfl (v := .pointer (some ⟨N + 1, 4, none⟩)) (by intro w; first | rfl | (go_simp; first | done | with_reducible rfl)) ?_
            refine ⟨fun _ => ⟨h4, h4s⟩, ?_⟩
            change anyT _ _ _ _ _ _ _ _ _ _
            try simp only [pA]
            refine anyT_one 18 _ _ _ _ (by kernel_rfl) ?_
            simp only [List.filterMap_cons, List.filterMap_nil, List.getElem?_toArray, List.getElem?_cons_succ, List.getElem?_cons_zero]
            refine wpl_set rfl 62 (.tmp 36) (.tmp 34) rfl (N + 1) 4 rfl (.slice p4 (r.n + 1) cap4) rfl szSlRE rfl rfl 64 6 _ h4 (by omega) ?_
            intro w5 t5 h5
            refine ⟨fun h => absurd h (by simp), ?_⟩
            refine anyT_of_any _ _ _ _ (by kernel_rfl) ?_
            change wpAny _ _ _ _ _ _ _ _
            refine wpAny_done (by kernel_rfl) ?_ _
            try simp only [pA]
            rw [← eb] at t5 h5
            have X5 := Rd.next hMd (RNx.put1 hMd Ad b6 (by omega) o4 g4 q4 t5 h5 (by omega) (fun h => absurd ((Rd.p.1.symm.trans h).symm.trans H0.out) (by decide))) (by show r.n + 1 = i + 1; omega)
            clear g4 q4 n4 o4 h4 h4s t5 h5 b6 c6 k6 A6 HI Ad Rd e6 y6
            go_wp2_with (first
              | ((with_reducible show wpList _ _ _ (_ :: _) _ _); first
                | (refine wpl_run rfl (.int .i64 ((i + 1 : Nat) : Int)) _ (run_inc (x := .tmp 17) rfl rfl rfl rfl (by omega) _) ?_; try simp only [pA]))
              | fail)
            exact ⟨⟨i + 1, _, rfl, by omega, X5⟩, by simp [intOf]; omega⟩
      · simp only [List.filterMap_cons, List.filterMap_nil, List.getElem?_toArray, List.getElem?_cons_succ, List.getElem?_cons_zero]
        obtain ⟨z13, hz13⟩ := sz_some wd
        have lz13 : M ≤ z13 := below_sz (Below.refl M wd) hMd hz13
        refine wpl_make_full rfl 35 (.tmp 29) (.tmp 29) rfl val rfl rfl 5 (.int .u8 0) 1 undBB zeBy1 (by omega) rfl (by omega) z13 hz13 ?_
        intro v13 y13 c13 a13
        have b13 := (Below.refl M wd).trans (c13.mono lz13)
        refine ⟨fun _ => HI _ b13, ?_⟩
        change anyT _ _ _ _ _ _ _ _ _ _
        try simp only [pA]
        refine anyT_two 7 12 _ _ _ _ (by kernel_rfl) ?_ ?_
        · simp only [List.filterMap_cons, List.filterMap_nil, List.getElem?_toArray, List.getElem?_cons_succ, List.getElem?_cons_zero]
          obtain ⟨z14, hz14⟩ := sz_some v13
          have lz14 : M ≤ z14 := below_sz b13 hMd hz14
          refine wpl_bs4 rfl (.tmp 25) (.const (.int .u8 0)) (.const (.int .u8 0)) (.const (.int .u8 0)) rfl (BitVec.ofInt 8 (i : Int)) 0#8 0#8 0#8 rfl rfl rfl rfl z14 hz14 ?_
          intro v14 y14 c14 a14
          have b14 := b13.trans (c14.mono lz14)
          have m14 := a13.below c14 (a13.ltN hz14)
          refine ⟨fun _ => HI _ b14, ?_⟩
          change anyT _ _ _ _ _ _ _ _ _ _
          try simp only [pA]
          refine anyT_two 8 12 _ _ _ _ (by kernel_rfl) ?_ ?_
          · simp only [List.filterMap_cons, List.filterMap_nil, List.getElem?_toArray, List.getElem?_cons_succ, List.getElem?_cons_zero]
            refine wpl_conv rfl 35 9 (.tmp 26) rfl _ (.string (strOf (four (BitVec.ofInt 8 (i : Int)) 0#8 0#8 0#8) 4)) rfl (run_string v14 35 9 5 undBB undBy undBS (some ⟨z14, 0, none⟩) 4 4 _ (fun _ => ⟨z14, 0, rfl, fun j hj => by rw [Nat.zero_add]; exact a14.cell hj⟩)) ?_
            refine ⟨fun _ => HI _ b14, ?_⟩
            change anyT _ _ _ _ _ _ _ _ _ _
            try simp only [pA]
            refine anyT_one 12 _ _ _ _ (by kernel_rfl) ?_
            simp only [List.filterMap_cons, List.filterMap_nil, List.getElem?_toArray, List.getElem?_cons_succ, List.getElem?_cons_zero]
            refine wpl_conv rfl 35 9 (.tmp 30) rfl _ (.string (strOf (fun _ => 0#8) val)) rfl (run_string v14 35 9 5 undBB undBy undBS (some ⟨z13, 0, none⟩) val val (fun _ => 0#8) (fun _ => ⟨z13, 0, rfl, fun j hj => by rw [Nat.zero_add]; exact m14.cell hj⟩)) ?_
            refine ⟨fun _ => HI _ b14, ?_⟩
            change anyT _ _ _ _ _ _ _ _ _ _
            try simp only [pA]
            refine anyT_one 13 _ _ _ _ (by kernel_rfl) ?_
            simp only [List.filterMap_cons, List.filterMap_nil, List.getElem?_toArray, List.getElem?_cons_succ, List.getElem?_cons_zero]
            refine wpl_build rfl 66 _ rfl (cellsOf (re1 ⟨strOf (four (BitVec.ofInt 8 (i : Int)) 0#8 0#8 0#8) 4, strOf (fun _ => 0#8) val⟩) 2) (by kernel_rfl) ?_
            refine ⟨fun _ => HI _ b14, ?_⟩
            change anyT _ _ _ _ _ _ _ _ _ _
            try simp only [pA]
            obtain ⟨z17, hz17⟩ := sz_some v14
            have lz17 : M ≤ z17 := below_sz b14 hMd hz17
            refine anyT_one 14 _ _ _ _ (by kernel_rfl) ?_
            simp only [List.filterMap_cons, List.filterMap_nil, List.getElem?_toArray, List.getElem?_cons_succ, List.getElem?_cons_zero]
            refine wpl_bsRE rfl (.tmp 32) rfl ⟨strOf (four (BitVec.ofInt 8 (i : Int)) 0#8 0#8 0#8) 4, strOf (fun _ => 0#8) val⟩ rfl z17 hz17 ?_
            intro w6 y6 c6 k6
            have b6 := b14.trans (c6.mono lz17)
            have A6 := Ad.below hMd b6
            have e6 : w6.heap.size = z17 + 1 := y6
            refine ⟨fun _ => HI _ b6, ?_⟩
            change anyT _ _ _ _ _ _ _ _ _ _
            try simp only [pA]
            refine anyT_one 15 _ _ _ _ (by kernel_rfl) ?_
            simp only [List.filterMap_cons, List.filterMap_nil, List.getElem?_toArray, List.getElem?_cons_succ, List.getElem?_cons_zero]
            refine wpl_appK rfl (.tmp 23) (.tmp 33) 62 rfl 66 2 (by omega) undRE kRE r.p r.n r.cap rfl (reC r.E) A6.e (some ⟨z17, 0, none⟩) 1 1 rfl (re1 ⟨strOf (four (BitVec.ofInt 8 (i : Int)) 0#8 0#8 0#8) 4, strOf (fun _ => 0#8) val⟩) k6.cells (fun j _ => re1_one _ j) (by omega) ?_
            intro p4 cap4 w4 o4 g4 q4 n4
            have h4 : Has w4 (N + 1) 64 6 (rmC r) := (HI _ b6).1.turn g4.turn (fun e => by rw [← eb] at e; exact has_own A6.h A6.e (by decide) _ e rfl)
            have h4s : Has w4 N 23 4 (sp4 (ty : Int) (key : Int) (val : Int) (ent : Int)) := (HI _ b6).2.turn g4.turn (fun e => by have := Rd.low N (.inr e); omega)
            refine ⟨fun _ => ⟨h4, h4s⟩, ?_⟩
            change anyT _ _ _ _ _ _ _ _ _ _
            try simp only [pA]
            refine anyT_one 16 _ _ _ _ (by kernel_rfl) ?_
            simp only [List.filterMap_cons, List.filterMap_nil, List.getElem?_toArray, List.getElem?_cons_succ, List.getElem?_cons_zero]
            refine wpl_pure rfl (v := .pointer (some ⟨N + 1, 0, none⟩)) (by intro w; first | rfl | (go_simp; first | done | with_reducible rfl)) ?_
            refine ⟨fun _ => ⟨h4, h4s⟩, ?_⟩
            change anyT _ _ _ _ _ _ _ _ _ _
            try simp only [pA]
            refine anyT_one 17 _ _ _ _ (by kernel_rfl) ?_
            simp only [List.filterMap_cons, List.filterMap_nil, List.getElem?_toArray, List.getElem?_cons_succ, List.getElem?_cons_zero]
            refine wpl_pure rfl (v := .pointer (some ⟨N + 1, 4, none⟩)) (by intro w; first | rfl | (go_simp; first | done | with_reducible rfl)) ?_
            refine ⟨fun _ => ⟨h4, h4s⟩, ?_⟩
            change anyT _ _ _ _ _ _ _ _ _ _
            try simp only [pA]
            refine anyT_one 18 _ _ _ _ (by kernel_rfl) ?_
            simp only [List.filterMap_cons, List.filterMap_nil, List.getElem?_toArray, List.getElem?_cons_succ, List.getElem?_cons_zero]
            refine wpl_set rfl 62 (.tmp 36) (.tmp 34) rfl (N + 1) 4 rfl (.slice p4 (r.n + 1) cap4) rfl szSlRE rfl rfl 64 6 _ h4 (by omega) ?_
            intro w5 t5 h5
            refine ⟨fun h => absurd h (by simp), ?_⟩
            refine anyT_of_any _ _ _ _ (by kernel_rfl) ?_
            change wpAny _ _ _ _ _ _ _ _
            refine wpAny_done (by kernel_rfl) ?_ _
            try simp only [pA]
            rw [← eb] at t5 h5
            have X5 := Rd.next hMd (RNx.put1 hMd Ad b6 (by omega) o4 g4 q4 t5 h5 (by omega) (fun h => absurd ((Rd.p.1.symm.trans h).symm.trans H0.out) (by decide))) (by show r.n + 1 = i + 1; omega)
            clear g4 q4 n4 o4 h4 h4s t5 h5 b6 c6 k6 A6 HI Ad Rd e6 y6
            go_wp2_with (first
              | ((with_reducible show wpList _ _ _ (_ :: _) _ _); first
                | (refine wpl_run rfl (.int .i64 ((i + 1 : Nat) : Int)) _ (run_inc (x := .tmp 17) rfl rfl rfl rfl (by omega) _) ?_; try simp only [pA]))
              | fail)
            exact ⟨⟨i + 1, _, rfl, by omega, X5⟩, by simp [intOf]; omega⟩
          · simp only [List.filterMap_cons, List.filterMap_nil, List.getElem?_toArray, List.getElem?_cons_succ, List.getElem?_cons_zero]
            refine wpl_conv rfl 35 9 (.tmp 30) rfl _ (.string (strOf (fun _ => 0#8) val)) rfl (run_string v14 35 9 5 undBB undBy undBS (some ⟨z13, 0, none⟩) val val (fun _ => 0#8) (fun _ => ⟨z13, 0, rfl, fun j hj => by rw [Nat.zero_add]; exact m14.cell hj⟩)) ?_
            refine ⟨fun _ => HI _ b14, ?_⟩
            change anyT _ _ _ _ _ _ _ _ _ _
            try simp only [pA]
            refine anyT_one 8 _ _ _ _ (by kernel_rfl) ?_
            simp only [List.filterMap_cons, List.filterMap_nil, List.getElem?_toArray, List.getElem?_cons_succ, List.getElem?_cons_zero]
            refine wpl_conv rfl 35 9 (.tmp 26) rfl _ (.string (strOf (four (BitVec.ofInt 8 (i : Int)) 0#8 0#8 0#8) 4)) rfl (run_string v14 35 9 5 undBB undBy undBS (some ⟨z14, 0, none⟩) 4 4 _ (fun _ => ⟨z14, 0, rfl, fun j hj => by rw [Nat.zero_add]; exact a14.cell hj⟩)) ?_
            refine ⟨fun _ => HI _ b14, ?_⟩
            change anyT _ _ _ _ _ _ _ _ _ _
            try simp only [pA]
            refine anyT_one 13 _ _ _ _ (by kernel_rfl) ?_
            simp only [List.filterMap_cons, List.filterMap_nil, List.getElem?_toArray, List.getElem?_cons_succ, List.getElem?_cons_zero]
            refine wpl_build rfl 66 _ rfl (cellsOf (re1 ⟨strOf (four (BitVec.ofInt 8 (i : Int)) 0#8 0#8 0#8) 4, strOf (fun _ => 0#8) val⟩) 2) (by kernel_rfl) ?_
            refine ⟨fun _ => HI _ b14, ?_⟩
            change anyT _ _ _ _ _ _ _ _ _ _
            try simp only [pA]
            obtain ⟨z20, hz20⟩ := sz_some v14
            have lz20 : M ≤ z20 := below_sz b14 hMd hz20
            refine anyT_one 14 _ _ _ _ (by kernel_rfl) ?_
            simp only [List.filterMap_cons, List.filterMap_nil, List.getElem?_toArray, List.getElem?_cons_succ, List.getElem?_cons_zero]
            refine wpl_bsRE rfl (.tmp 32) rfl ⟨strOf (four (BitVec.ofInt 8 (i : Int)) 0#8 0#8 0#8) 4, strOf (fun _ => 0#8) val⟩ rfl z20 hz20 ?_
            intro w6 y6 c6 k6
            have b6 := b14.trans (c6.mono lz20)
            have A6 := Ad.below hMd b6
            have e6 : w6.heap.size = z20 + 1 := y6
            refine ⟨fun _ => HI _ b6, ?_⟩
            change anyT _ _ _ _ _ _ _ _ _ _
            try simp only [pA]
            refine anyT_one 15 _ _ _ _ (by kernel_rfl) ?_
            simp only [List.filterMap_cons, List.filterMap_nil, List.getElem?_toArray, List.getElem?_cons_succ, List.getElem?_cons_zero]
            refine wpl_appK rfl (.tmp 23) (.tmp 33) 62 rfl 66 2 (by omega) undRE kRE r.p r.n r.cap rfl (reC r.E) A6.e (some ⟨z20, 0, none⟩) 1 1 rfl (re1 ⟨strOf (four (BitVec.ofInt 8 (i : Int)) 0#8 0#8 0#8) 4, strOf (fun _ => 0#8) val⟩) k6.cells (fun j _ => re1_one _ j) (by omega) ?_
            intro p4 cap4 w4 o4 g4 q4 n4
            have h4 : Has w4 (N + 1) 64 6 (rmC r) := (HI _ b6).1.turn g4.turn (fun e => by rw [← eb] at e; exact has_own A6.h A6.e (by decide) _ e rfl)
            have h4s : Has w4 N 23 4 (sp4 (ty : Int) (key : Int) (val : Int) (ent : Int)) := (HI _ b6).2.turn g4.turn (fun e => by have := Rd.low N (.inr e); omega)
            refine ⟨fun _ => ⟨h4, h4s⟩, ?_⟩
            change anyT _ _ _ _ _ _ _ _ _ _
            try simp only [pA]
            refine anyT_one 16 _ _ _ _ (by kernel_rfl) ?_
            simp only [List.filterMap_cons, List.filterMap_nil, List.getElem?_toArray, List.getElem?_cons_succ, List.getElem?_cons_zero]
            refine wpl_pure rfl (v := .pointer (some ⟨N + 1, 0, none⟩)) (by intro w; first | rfl | (go_simp; first | done | with_reducible rfl)) ?_
            refine ⟨fun _ => ⟨h4, h4s⟩, ?_⟩
            change anyT _ _ _ _ _ _ _ _ _ _
            try simp only [pA]
            refine anyT_one 17 _ _ _ _ (by kernel_rfl) ?_
            simp only [List.filterMap_cons, List.filterMap_nil, List.getElem?_toArray, List.getElem?_cons_succ, List.getElem?_cons_zero]
            refine wpl_pure rfl (v := .pointer (some ⟨N + 1, 4, none⟩)) (by intro w; first | rfl | (go_simp; first | done | with_reducible rfl)) ?_
            refine ⟨fun _ => ⟨h4, h4s⟩, ?_⟩
            change anyT _ _ _ _ _ _ _ _ _ _
            try simp only [pA]
            refine anyT_one 18 _ _ _ _ (by kernel_rfl) ?_
            simp only [List.filterMap_cons, List.filterMap_nil, List.getElem?_toArray, List.getElem?_cons_succ, List.getElem?_cons_zero]
            refine wpl_set rfl 62 (.tmp 36) (.tmp 34) rfl (N + 1) 4 rfl (.slice p4 (r.n + 1) cap4) rfl szSlRE rfl rfl 64 6 _ h4 (by omega) ?_
            intro w5 t5 h5
            refine ⟨fun h => absurd h (by simp), ?_⟩
            refine anyT_of_any _ _ _ _ (by kernel_rfl) ?_
            change wpAny _ _ _ _ _ _ _ _
            refine wpAny_done (by kernel_rfl) ?_ _
            try simp only [pA]
            rw [← eb] at t5 h5
            have X5 := Rd.next hMd (RNx.put1 hMd Ad b6 (by omega) o4 g4 q4 t5 h5 (by omega) (fun h => absurd ((Rd.p.1.symm.trans h).symm.trans H0.out) (by decide))) (by show r.n + 1 = i + 1; omega)
            clear g4 q4 n4 o4 h4 h4s t5 h5 b6 c6 k6 A6 HI Ad Rd e6 y6
            go_wp2_with (first
              | ((with_reducible show wpList _ _ _ (_ :: _) _ _); first
                | (refine wpl_run rfl (.int .i64 ((i + 1 : Nat) : Int)) _ (run_inc (x := .tmp 17) rfl rfl rfl rfl (by omega) _) ?_; try simp only [pA]))
              | fail)
            exact ⟨⟨i + 1, _, rfl, by omega, X5⟩, by simp [intOf]; omega⟩
        · simp only [List.filterMap_cons, List.filterMap_nil, List.getElem?_toArray, List.getElem?_cons_succ, List.getElem?_cons_zero]
          refine wpl_conv rfl 35 9 (.tmp 30) rfl _ (.string (strOf (fun _ => 0#8) val)) rfl (run_string v13 35 9 5 undBB undBy undBS (some ⟨z13, 0, none⟩) val val (fun _ => 0#8) (fun _ => ⟨z13, 0, rfl, fun j hj => by rw [Nat.zero_add]; exact a13.cell hj⟩)) ?_
          refine ⟨fun _ => HI _ b13, ?_⟩
          change anyT _ _ _ _ _ _ _ _ _ _
          try simp only [pA]
          refine anyT_one 7 _ _ _ _ (by kernel_rfl) ?_
          simp only [List.filterMap_cons, List.filterMap_nil, List.getElem?_toArray, List.getElem?_cons_succ, List.getElem?_cons_zero]
          obtain ⟨z22, hz22⟩ := sz_some v13
          have lz22 : M ≤ z22 := below_sz b13 hMd hz22
          refine wpl_bs4 rfl (.tmp 25) (.const (.int .u8 0)) (.const (.int .u8 0)) (.const (.int .u8 0)) rfl (BitVec.ofInt 8 (i : Int)) 0#8 0#8 0#8 rfl rfl rfl rfl z22 hz22 ?_
          intro v22 y22 c22 a22
          have b22 := b13.trans (c22.mono lz22)
          refine ⟨fun _ => HI _ b22, ?_⟩
          change anyT _ _ _ _ _ _ _ _ _ _
          try simp only [pA]
          refine anyT_one 8 _ _ _ _ (by kernel_rfl) ?_
          simp only [List.filterMap_cons, List.filterMap_nil, List.getElem?_toArray, List.getElem?_cons_succ, List.getElem?_cons_zero]
          refine wpl_conv rfl 35 9 (.tmp 26) rfl _ (.string (strOf (four (BitVec.ofInt 8 (i : Int)) 0#8 0#8 0#8) 4)) rfl (run_string v22 35 9 5 undBB undBy undBS (some ⟨z22, 0, none⟩) 4 4 _ (fun _ => ⟨z22, 0, rfl, fun j hj => by rw [Nat.zero_add]; exact a22.cell hj⟩)) ?_
          refine ⟨fun _ => HI _ b22, ?_⟩
          change anyT _ _ _ _ _ _ _ _ _ _
          try simp only [pA]
          refine anyT_one 13 _ _ _ _ (by kernel_rfl) ?_
          simp only [List.filterMap_cons, List.filterMap_nil, List.getElem?_toArray, List.getElem?_cons_succ, List.getElem?_cons_zero]
          refine wpl_build rfl 66 _ rfl (cellsOf (re1 ⟨strOf (four (BitVec.ofInt 8 (i : Int)) 0#8 0#8 0#8) 4, strOf (fun _ => 0#8) val⟩) 2) (by kernel_rfl) ?_
          refine ⟨fun _ => HI _ b22, ?_⟩
          change anyT _ _ _ _ _ _ _ _ _ _
          try simp only [pA]
          obtain ⟨z24, hz24⟩ := sz_some v22
          have lz24 : M ≤ z24 := below_sz b22 hMd hz24
          refine anyT_one 14 _ _ _ _ (by kernel_rfl) ?_
          simp only [List.filterMap_cons, List.filterMap_nil, List.getElem?_toArray, List.getElem?_cons_succ, List.getElem?_cons_zero]
          refine wpl_bsRE rfl (.tmp 32) rfl ⟨strOf (four (BitVec.ofInt 8 (i : Int)) 0#8 0#8 0#8) 4, strOf (fun _ => 0#8) val⟩ rfl z24 hz24 ?_
          intro w6 y6 c6 k6
          have b6 := b22.trans (c6.mono lz24)
          have A6 := Ad.below hMd b6
          have e6 : w6.heap.size = z24 + 1 := y6
          refine ⟨fun _ => HI _ b6, ?_⟩
          change anyT _ _ _ _ _ _ _ _ _ _
          try simp only [pA]
          refine anyT_one 15 _ _ _ _ (by kernel_rfl) ?_
          simp only [List.filterMap_cons, List.filterMap_nil, List.getElem?_toArray, List.getElem?_cons_succ, List.getElem?_cons_zero]
          refine wpl_appK rfl (.tmp 23) (.tmp 33) 62 rfl 66 2 (by omega) undRE kRE r.p r.n r.cap rfl (reC r.E) A6.e (some ⟨z24, 0, none⟩) 1 1 rfl (re1 ⟨strOf (four (BitVec.ofInt 8 (i : Int)) 0#8 0#8 0#8) 4, strOf (fun _ => 0#8) val⟩) k6.cells (fun j _ => re1_one _ j) (by omega) ?_
          intro p4 cap4 w4 o4 g4 q4 n4
          have h4 : Has w4 (N + 1) 64 6 (rmC r) := (HI _ b6).1.turn g4.turn (fun e => by rw [← eb] at e; exact has_own A6.h A6.e (by decide) _ e rfl)
          have h4s : Has w4 N 23 4 (sp4 (ty : Int) (key : Int) (val : Int) (ent : Int)) := (HI _ b6).2.turn g4.turn (fun e => by have := Rd.low N (.inr e); omega)
          refine ⟨fun _ => ⟨h4, h4s⟩, ?_⟩
          change anyT _ _ _ _ _ _ _ _ _ _
          try simp only [pA]
          refine anyT_one 16 _ _ _ _ (by kernel_rfl) ?_
          simp only [List.filterMap_cons, List.filterMap_nil, List.getElem?_toArray, List.getElem?_cons_succ, List.getElem?_cons_zero]
          refine wpl_pure rfl (v := .pointer (some ⟨N + 1, 0, none⟩)) (by intro w; first | rfl | (go_simp; first | done | with_reducible rfl)) ?_
          refine ⟨fun _ => ⟨h4, h4s⟩, ?_⟩
          change anyT _ _ _ _ _ _ _ _ _ _
          try simp only [pA]
          refine anyT_one 17 _ _ _ _ (by kernel_rfl) ?_
          simp only [List.filterMap_cons, List.filterMap_nil, List.getElem?_toArray, List.getElem?_cons_succ, List.getElem?_cons_zero]
          refine wpl_pure rfl (v := .pointer (some ⟨N + 1, 4, none⟩)) (by intro w; first | rfl | (go_simp; first | done | with_reducible rfl)) ?_
          refine ⟨fun _ => ⟨h4, h4s⟩, ?_⟩
          change anyT _ _ _ _ _ _ _ _ _ _
          try simp only [pA]
          refine anyT_one 18 _ _ _ _ (by kernel_rfl) ?_
          simp only [List.filterMap_cons, List.filterMap_nil, List.getElem?_toArray, List.getElem?_cons_succ, List.getElem?_cons_zero]
          refine wpl_set rfl 62 (.tmp 36) (.tmp 34) rfl (N + 1) 4 rfl (.slice p4 (r.n + 1) cap4) rfl szSlRE rfl rfl 64 6 _ h4 (by omega) ?_
          intro w5 t5 h5
          refine ⟨fun h => absurd h (by simp), ?_⟩
          refine anyT_of_any _ _ _ _ (by kernel_rfl) ?_
          change wpAny _ _ _ _ _ _ _ _
          refine wpAny_done (by kernel_rfl) ?_ _
          try simp only [pA]
          rw [← eb] at t5 h5
          have X5 := Rd.next hMd (RNx.put1 hMd Ad b6 (by omega) o4 g4 q4 t5 h5 (by omega) (fun h => absurd ((Rd.p.1.symm.trans h).symm.trans H0.out) (by decide))) (by show r.n + 1 = i + 1; omega)
          clear g4 q4 n4 o4 h4 h4s t5 h5 b6 c6 k6 A6 HI Ad Rd e6 y6
          go_wp2_with (first
            | ((with_reducible show wpList _ _ _ (_ :: _) _ _); first
              | (refine wpl_run rfl (.int .i64 ((i + 1 : Nat) : Int)) _ (run_inc (x := .tmp 17) rfl rfl rfl rfl (by omega) _) ?_; try simp only [pA]))
            | fail)
          exact ⟨⟨i + 1, _, rfl, by omega, X5⟩, by simp [intOf]; omega⟩
    · by_cases h1 : ty = 0
      · have E10 := hid (show ((ty : Int) == 0) = true by rw [h1]; rfl)
        have E15 := hid (show decide ((i : Int) < (ent : Int)) = false from decide_eq_false (by omega))
        go_wp2_with (first
          | ((with_reducible show wpList _ _ _ (_ :: _) _ _); first
            | (refine wpl_run rfl (.int .i64 (ty : Int)) _ (run_cell1 (x := .tmp 8) 3 rfl rfl undIt rfl c0) ?_; try simp only [pA])
            | (refine wpl_run rfl (.bool true) _ (run_eqK (x := .tmp 9) rfl rfl rfl E10.out _) ?_; try simp only [pA])
            | (refine wpl_want (by rfl) ?_; refine wpl_run rfl (.int .i64 (ent : Int)) _ (run_cell1 (x := .tmp 13) 3 rfl rfl undIt rfl c3) ?_; try simp only [pA])
            | (refine wpl_want (by rfl) ?_; refine wpl_run rfl (.bool false) _ (run_lssK (x := .tmp 12) rfl rfl rfl E15.out _) ?_; try simp only [pA]))
          | fail)
        go_ret
        refine ⟨r, by rw [R.b]; rfl, R.at_, R.p, ?_, fun x hx => by have := R.low x hx; omega⟩
        exact hb1.trans (R.bel.mono (by omega))
      · have E10 := hid (show ((ty : Int) == 0) = false by rw [beq_eq_false_iff_ne]; omega)
        go_wp2_with (first
          | ((with_reducible show wpList _ _ _ (_ :: _) _ _); first
            | (refine wpl_run rfl (.int .i64 (ty : Int)) _ (run_cell1 (x := .tmp 8) 3 rfl rfl undIt rfl c0) ?_; try simp only [pA])
            | (refine wpl_run rfl (.bool false) _ (run_eqK (x := .tmp 9) rfl rfl rfl E10.out _) ?_; try simp only [pA]))
          | fail)
        go_ret
        refine ⟨r, by rw [R.b]; rfl, R.at_, R.p, ?_, fun x hx => by have := R.low x hx; omega⟩
        exact hb1.trans (R.bel.mono (by omega))
end Go.Proofs.YtjdclgnlnehjlaaDoor
