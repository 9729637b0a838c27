/- BmapFrozen: the law's to. BmapFrozen: Freeze. BmapFrozen: the document's map with another list of the call's own. BmapFrozen: the document's Delete. -/
import Derived.Test.YtjdclgnlnehjlaaDoorMgFy7
namespace Go.Proofs.YtjdclgnlnehjlaaDoor
open Go Go.RowKit
theorem zeSp4 : (Tryd.prog.info? 31).map (fun i => (i.zero, i.size)) = some (some (.agg (cellsOf (sp4 0 0 0 0) 4)), 4) := by kernel_rfl
theorem szSp4 : (Tryd.prog.info? 31).map (·.size) = some 4 := by kernel_rfl
theorem sp4_one (a b c d : Int) (j : Nat) : (sp4 a b c d j).oneCell' = true := by unfold sp4; split; rfl; split; rfl; split <;> rfl
set_option maxRecDepth 100000 in
theorem to_any (a b c d : Int) (w : World) (N : Nat) (hN : Sz w N) :
    Calls Tryd.prog 8 #[.agg (cellsOf (sp4 a b c d) 4)] w fun e w' => e = .returned (.agg (cellsOf (sp4 a b c d) 4)) ∧ Below N w w' := by
  obtain ⟨dS, s1, s2⟩ := rwSp
  go_enter Tryd.func8, Tryd.ntmps8
  go_wp2_with (first
    | ((with_reducible show wpList _ _ _ (_ :: _) _ _); first
      | (refine wpl_box rfl 23 (.tmp 0) rfl 4 (sp4 a b c d) rfl N hN ?_; intro w1 hM1 b1 k1; try simp only [pA])
      | (refine wpl_alloc rfl 31 rfl 4 _ zeSp4 (N + 1) hM1 ?_; intro w2 hM2 b2 k2; have k12 := k1.below b2 (by omega); have c0 := k12.cell (j := 0) (by omega); have c1 := k12.cell (j := 1) (by omega); have c2 := k12.cell (j := 2) (by omega); have c3 := k12.cell (j := 3) (by omega); try simp only [pA])
      | (refine wpl_run rfl (.int .i64 a) _ (run_cell1 (x := .tmp 3) 3 rfl rfl undIt rfl c0) ?_; try simp only [pA])
      | (refine wpl_run rfl (.int .i64 b) _ (run_cell1 (x := .tmp 5) 3 rfl rfl undIt rfl c1) ?_; try simp only [pA])
      | (refine wpl_run rfl (.int .i64 c) _ (run_cell1 (x := .tmp 7) 3 rfl rfl undIt rfl c2) ?_; try simp only [pA])
      | (refine wpl_run rfl (.int .i64 d) _ (run_cell1 (x := .tmp 9) 3 rfl rfl undIt rfl c3) ?_; try simp only [pA])
      | (refine wpl_build rfl 31 _ rfl (cellsOf (sp4 a b c d) 4) (by kernel_rfl) ?_; try simp only [pA])
      | (refine wpl_store rfl 31 (.tmp 2) (.tmp 11) rfl (N + 1) 4 (sp4 a b c d) rfl rfl 31 _ k2 szSp4 (fun j _ => sp4_one _ _ _ _ j) ?_; intro w3 t3 k3; try simp only [pA]))
    | fail)
  exact post_cell (p := 2) (T := 31) rfl (N + 1) rfl k3 _ s1 s2 szSp4 rfl ⟨rfl, t3.below (b1.trans (b2.mono (by omega))) (by omega)⟩
end Go.Proofs.YtjdclgnlnehjlaaDoor
namespace Go.Proofs.YtjdclgnlnehjlaaDoor
open Go Go.RowKit
def Mp.frz (m : Mp) : Mp := { m with fz := true }
theorem FInv.frz {m : Mp} (h : FInv m) : FInv m.frz := ⟨⟨h.sp.ty, h.sp.key, h.sp.k5, h.sp.k3, h.sp.v1, h.sp.v64, h.sp.e1, h.sp.ent, h.sp.n⟩, h.k, h.dis⟩
/-- Freeze of a map that is none: it is frozen, and has the same sum. -/
theorem Freeze_any (m : Mp) (hm : FInv m) (hfz : m.fz = false) (w : World) (N : Nat) (hA : MpAt w m) :
    Calls Tryd.prog 12 #[.pointer (some ⟨m.b, 0, none⟩)] w fun e w' => e = .returned (.int .i64 0) ∧ MpAt w' m.frz ∧ FInv m.frz ∧ Turn (Foot m) w w' :=
  (Freeze_ok m hfz w hA).mono fun e w' ⟨he, t, A⟩ => ⟨he, A, hm.frz, t.turn.mono (fun x hx => .inl hx)⟩
end Go.Proofs.YtjdclgnlnehjlaaDoor
namespace Go.Proofs.YtjdclgnlnehjlaaDoor
open Go Go.RowKit
def Rm.lst (m : Rm) (p' : Option Addr) (n' cap' : Nat) (E' : Nat → Re) : Rm := { m with p := p', n := n', cap := cap', E := E' }
theorem RNx.list {m : Rm} {w w4 w5 : World} {N n' cap' : Nat} {p' : Option Addr} {E' : Nat → Re} (hN : Sz w N) (hA : RmAt w m) (b4 : Below N w w4) (o4 : OwnK w4 66 2 p' n' cap' (reC E'))
    (k4 : ∀ g, blk p' = some g → N ≤ g) (t5 : Touch m.b w4 w5) (h5 : Has w5 m.b 64 6 (upd (rmC m) 4 (.slice p' n' cap'))) (hn : n' ≤ 100) (hk : m.ty = 5 → ∀ i, i < n' → (E' i).k.size = m.key) : RNx m w N w5 (m.lst p' n' cap' E') := by
  have hbN := hA.lt hN m.b (.inl rfl)
  refine ⟨⟨rfl, rfl, rfl, rfl, rfl⟩, ⟨h5.congr (fun j hj => ?_), o4.touch t5 (fun g hg => by have := k4 g hg; omega), fun h => ⟨(hA.k h).1, (hA.k h).2.1, hk h⟩, hn, hA.sm⟩,
    (turn_below hN b4 (RFoot m)).trans t5.turn (fun j hj _ => .inl hj), fun x hx => ?_⟩
  · unfold upd
    show _ = rmC (m.lst p' n' cap' E') j
    unfold rmC
    by_cases h4 : j = 4
    · subst h4; rfl
    · rw [if_neg h4, if_neg h4, if_neg h4]; rfl
  · rcases hx with hx | hx
    · exact .inl (.inl hx)
    · exact .inr (k4 x hx)
section
variable {ops : Array Oper} {rest : List Oper} {o : Oper} {a : Act} {w : World} {Q : Exit → Act → World → Prop}
theorem wpl_bsR0 (hgd : o.guard = none) (ho : o.op = .buildSlice 62 0 #[]) (N : Nat) (hN : Sz w N) (f : Nat → Value)
    (h : ∀ w1, Sz w1 (N + 1) → Below N w w1 → OwnK w1 66 2 (some ⟨N, 0, none⟩) 0 0 f → wpList Tryd.prog ops Q rest (a.put o.dst (.slice (some ⟨N, 0, none⟩) 0 0)) w1) : wpList Tryd.prog ops Q (o :: rest) a w := by
  have e : w.heap.size = N := hN
  subst e
  refine wpl_run hgd (.slice (some ⟨w.heap.size, 0, none⟩) 0 0) (w.alloc (.cells #[] 66)) ?_ (h _ (sz_alloc rfl _) (below_new _ _ _ rfl) (.inr ⟨_, #[], rfl, heap_alloc_new w _, Nat.le_refl _, by simp, fun j hj => by omega⟩))
  clear h hN
  generalize a.eval = ev at *
  unfold execOp
  simp only [ho]
  go_simp
end
theorem reC_cat (E : Nat → Re) (k n : Nat) (hk : k < n) (z : Nat → Value) (j : Nat) (hj : j < (n - 1) * 2) : cat (cat z (0 * 2) (reC E)) (k * 2) (fun j => reC E ((k + 1) * 2 + j)) j = reC (delF E k) j := by
  unfold cat
  by_cases h : j < k * 2
  · rw [if_pos h, if_neg (by omega)]
    unfold reC delF
    rw [show (j - 0 * 2) = j by omega, if_pos (show j / 2 < k by omega)]
  · rw [if_neg h]
    unfold reC delF
    dsimp only
    rw [if_neg (show ¬ j / 2 < k by omega), show ((k + 1) * 2 + (j - k * 2)) % 2 = j % 2 by omega, show ((k + 1) * 2 + (j - k * 2)) / 2 = j / 2 + 1 by omega]
/-- The slices that are cut out of the list. -/
theorem RmAt.front {w : World} {m : Rm} (h : RmAt w m) (k : Nat) (hk : k < m.n) : Cells w m.p (k * 2) (reC m.E) := fun h0 => by
  obtain ⟨g, hg, hc⟩ := h.e.cell (by omega)
  exact ⟨⟨g, 0, none⟩, hg, fun j hj => by rw [Addr.add_mid]; exact hc j (by omega)⟩
def tailP (m : Rm) (k : Nat) : Option Addr := if m.cap = k + 1 then m.p else m.p.map (·.add ((k + 1) * 2))
theorem RmAt.tail {w : World} {m : Rm} (h : RmAt w m) (k : Nat) (hk : k < m.n) : Cells w (tailP m k) ((m.n - (k + 1)) * 2) (fun j => reC m.E ((k + 1) * 2 + j)) := fun h0 => by
  obtain ⟨g, hg, hc⟩ := h.e.cell (by omega)
  have hl := h.e.le
  refine ⟨⟨g, (k + 1) * 2, none⟩, ?_, fun j hj => ?_⟩
  · unfold tailP
    rw [if_neg (by omega), hg]
    simp [Addr.add_mid]
  · have := hc ((k + 1) * 2 + j) (by omega)
    rw [Nat.zero_add] at this
    rw [Addr.add_mid, this]
theorem RmAt.cutF {w : World} {m : Rm} (h : RmAt w m) (k : Nat) (hk : k < m.n) (w' : World) : (Instr.sliceAt 62 (.slice m.p m.n m.cap) none (some (.int .i64 (k : Int))) none).run Tryd.prog w' = .ok (.slice m.p k m.cap) w' := by
  obtain ⟨g, hg⟩ := h.ptr (by omega)
  have hl := h.e.le
  rw [hg]
  exact run_cut_front 62 66 2 undRE szRE g m.n m.cap k (by omega) w'
theorem RmAt.cutT {w : World} {m : Rm} (h : RmAt w m) (k : Nat) (hk : k < m.n) (w' : World) : (Instr.sliceAt 62 (.slice m.p m.n m.cap) (some (.int .i64 ((k : Int) + 1))) none none).run Tryd.prog w' = .ok (.slice (tailP m k) (m.n - (k + 1)) (m.cap - (k + 1))) w' := by
  have := run_cut_tail 62 66 2 undRE szRE m.p m.n m.cap (k + 1) (by omega) w'
  rw [show (((k + 1 : Nat)) : Int) = (k : Int) + 1 by omega] at this
  exact this
theorem ldL4 {w : World} {m : Rm} (h : Has w m.b 64 6 (rmC m)) : (Instr.loadAt 62 (.pointer (some ⟨m.b, 4, none⟩))).run Tryd.prog w = .ok (.slice m.p m.n m.cap) w := by
  have c : w.cell? ⟨m.b, 4, none⟩ = some (.slice m.p m.n m.cap) := h.cell (by omega)
  go_simp
end Go.Proofs.YtjdclgnlnehjlaaDoor
namespace Go.Proofs.YtjdclgnlnehjlaaDoor
open Go Go.RowKit
theorem RNx.del {m : Rm} {wd w4 w5 : World} {M cap4 : Nat} {p4 : Option Addr} {z : Nat → Value} (hMd : Sz wd M) (Ad : RmAt wd m) (k : Nat) (hk : k < m.n) (b4 : Below M wd w4)
    (v4 : OwnK w4 66 2 p4 (k + (m.n - (k + 1))) cap4 (cat (cat z (0 * 2) (reC m.E)) (k * 2) (fun j => reC m.E ((k + 1) * 2 + j)))) (k4 : ∀ g, blk p4 = some g → M ≤ g) (t5 : Touch m.b w4 w5)
    (h5 : Has w5 m.b 64 6 (upd (rmC m) 4 (.slice p4 (k + (m.n - (k + 1))) cap4))) : RNx m wd M w5 (m.lst p4 (k + (m.n - (k + 1))) cap4 (delF m.E k)) := by
  have hn := Ad.n
  refine RNx.list hMd Ad b4 (v4.congr (fun j hj => reC_cat m.E k m.n hk _ j (by omega))) k4 t5 h5 (by omega) (fun h i hi => ?_)
  unfold delF
  split
  · exact (Ad.k h).2.2 i (by omega)
  · exact (Ad.k h).2.2 (i + 1) (by omega)
set_option maxRecDepth 100000 in
set_option maxHeartbeats 8000000 in
theorem DDel_any (m : Rm) (t : ByteArray) (w : World) (N : Nat) (hN : Sz w N) (hA : RmAt w m) :
    Calls Tryd.prog 30 #[.pointer (some ⟨m.b, 0, none⟩), .string t] w (RErr m w N) := by
  have c0 := hA.c0
  have c5 := hA.c5
  cases hfz : m.fz with
  | true =>
    rw [hfz] at c5
    clear hfz c0
    go_enter Tryd.func30, Tryd.ntmps30
    go_wp2
    go_ret
    exact ⟨1, m, rfl, RNx.stay hN hA (Below.refl N w)⟩
  | false =>
    rw [hfz] at c5
    clear hfz
    go_enter Tryd.func30, Tryd.ntmps30
    go_wp2_with fail
    refine (may_any m t _ N hN hA).mono ?_
    rintro e w1 ⟨⟨r, rfl, hr⟩, hb1⟩
    obtain ⟨M1, hM1⟩ := sz_some w1
    have L1 := below_sz hb1 hN hM1
    have A1 := hA.below hN hb1
    clear c0 c5
    have d0 := hid A1.c0
    cases r
    · go_wp2_with fail
      go_ret
      exact ⟨22, m, rfl, RNx.stay hN hA hb1⟩
    · obtain ⟨hts, h3, h4, h5⟩ := hr rfl
      have hk5 := hid (show m.ty = 5 → 4 ≤ t.size ∧ t.size ≤ 16 from fun h => by rw [hts]; exact ⟨(hA.k h).1, (hA.k h).2.1⟩)
      clear hr hts h3 h4 h5
      by_cases h0 : m.ty = 0
      · have E := hid (show ((m.ty : Int) == 0) = true by rw [h0]; rfl)
        clear h0
        go_wp2_with (first
          | ((with_reducible show wpList _ _ _ (_ :: _) _ _); first
            | (refine wpl_want (by rfl) ?_; refine wpl_run rfl (.int .i64 (m.ty : Int)) _ (run_cell1 (x := .tmp 18) 3 rfl rfl undIt rfl d0.out) ?_; try simp only [pA])
            | (refine wpl_want (by rfl) ?_; refine wpl_run rfl (.bool true) _ (run_eqK (x := .tmp 19) rfl rfl rfl E.out _) ?_; try simp only [pA]))
          | fail)
        go_ret
        exact ⟨22, m, rfl, RNx.stay hN hA hb1⟩
      · have E := hid (show ((m.ty : Int) == 0) = false by rw [beq_eq_false_iff_ne]; omega)
        clear h0
        go_wp2_with (first
          | ((with_reducible show wpList _ _ _ (_ :: _) _ _); first
            | (refine wpl_want (by rfl) ?_; refine wpl_run rfl (.int .i64 (m.ty : Int)) _ (run_cell1 (x := .tmp 18) 3 rfl rfl undIt rfl d0.out) ?_; try simp only [pA])
            | (refine wpl_want (by rfl) ?_; refine wpl_run rfl (.bool false) _ (run_eqK (x := .tmp 19) rfl rfl rfl E.out _) ?_; try simp only [pA]))
          | fail)
        refine (exact_any m t hk5.out _ M1 hM1 A1).mono ?_
        rintro e w2 ⟨hP, hb2⟩
        obtain ⟨M, hM⟩ := sz_some w2
        have hb := hb1.trans (hb2.mono L1)
        have A := hA.below hN hb
        clear hb1 hb2 A1 d0 E hM1 L1
        rcases hP with ⟨k, hk, rfl⟩ | rfl
        · have hn := A.n
          have kk0 : (0 : Int) ≤ (k : Int) := by omega
          have kk1 : (k : Int) ≤ 1000 := by omega
          have k0 : ¬ ((k : Int) < 0) := by omega
          go_upto_region 8 with fail
          have pre : ∀ w5 m2, RNx m w2.drew M w5 m2 → RNx m w N w5 m2 := fun w5 m2 h => h.pre hN hb.drew hM
          have hI := A.h
          have s2 := A.cutF k hk
          have s3 := A.cutT k hk
          refine wp_region_any (by kernel_rfl) ?_
          change wpAny _ _ _ _ _ _ _ (World.drew _)
          refine anyT_any (s := 19) (I := fun w' => Has w' m.b 64 6 (rmC m)) _ _ _ _ ?_
          have hne := inn_ne (I := fun w' => Has w' m.b 64 6 (rmC m)) hI
          refine anyT_reads [0, 2, 3, 4, 5, 6, 7, 9, 10, 11, 12, 13, 14, 15] _ _ _ hI.drew (by kernel_rfl) (fun _ _ _ d _ h => by cases d <;> exact h) ?_
          simp only [pickO, List.map_cons, List.map_nil, List.getElem?_toArray, List.getElem?_cons_succ, List.getElem?_cons_zero, Option.getD_some, Act.put, List.setIfInBounds_toArray, List.set_cons_succ, List.set_cons_zero]
          repeat first
            | (refine inn_val (fun x => ld_one 62 (.tmp 31) rfl ⟨m.b, 4, none⟩ rfl _ (ldL4 x.h)) (by rfl) ?_; simp only [Act.put, List.setIfInBounds_toArray, List.set_cons_succ, List.set_cons_zero])
            | (refine inn_val (fun x => ld_one 62 (.tmp 38) rfl ⟨m.b, 4, none⟩ rfl _ (ldL4 x.h)) (by rfl) ?_; simp only [Act.put, List.setIfInBounds_toArray, List.set_cons_succ, List.set_cons_zero])
            | go_big_quiet_step (fail)
          refine wpQuiet_nil ?_
          clear hne s2 s3
          have hMd : Sz w2.drew M := hM
          have Ad : RmAt w2.drew m := A.below hM (Below.refl _ _).drew
          clear hI A hb hM
          generalize World.drew w2 = wd at *
          refine anyT_one 1 _ _ _ _ (by kernel_rfl) ?_
          simp only [List.filterMap_cons, List.filterMap_nil, List.getElem?_toArray, List.getElem?_cons_succ, List.getElem?_cons_zero]
          refine wpl_bsR0 rfl rfl M hMd (reC m.E) ?_
          intro w1 z1 b1 v1
          have e1 : w1.heap.size = M + 1 := z1
          refine ⟨fun _ => (Ad.below hMd b1).h, ?_⟩
          change anyT _ _ _ _ _ _ _ _ _ _
          try simp only [pA]
          refine anyT_one 8 _ _ _ _ (by kernel_rfl) ?_
          simp only [List.filterMap_cons, List.filterMap_nil, List.getElem?_toArray, List.getElem?_cons_succ, List.getElem?_cons_zero]
          refine wpl_appK rfl (.tmp 28) (.tmp 34) 62 rfl 66 2 (by omega) undRE kRE (some ⟨M, 0, none⟩) 0 0 rfl (reC m.E) v1 m.p k m.cap rfl (reC m.E) ((Ad.below hMd b1).front k hk) (fun j _ => reC_one _ _) (by omega) ?_
          intro p2 cap2 w3 v2 g2 q2 n2
          have k1 : ∀ g, blk (some (⟨M, 0, none⟩ : Addr)) = some g → M ≤ g := fun g hg => Nat.le_of_eq (Option.some.inj hg)
          have b2 := g2.below b1 (below_le b1 hMd) k1
          have k2 := ge_step k1 q2 (below_le b1 hMd)
          rw [Nat.zero_add] at v2
          rw [Nat.zero_add]
          refine ⟨fun _ => (Ad.below hMd b2).h, ?_⟩
          change anyT _ _ _ _ _ _ _ _ _ _
          try simp only [pA]
          refine anyT_one 16 _ _ _ _ (by kernel_rfl) ?_
          simp only [List.filterMap_cons, List.filterMap_nil, List.getElem?_toArray, List.getElem?_cons_succ, List.getElem?_cons_zero]
          refine wpl_appK rfl (.tmp 35) (.tmp 42) 62 rfl 66 2 (by omega) undRE kRE p2 k cap2 rfl _ v2 (tailP m k) (m.n - (k + 1)) (m.cap - (k + 1)) rfl (fun j => reC m.E ((k + 1) * 2 + j)) ((Ad.below hMd b2).tail k hk) (fun j _ => reC_one _ _) (by omega) ?_
          intro p4 cap4 w4 v4 g4 q4 n4
          have b4 := g4.below b2 (below_le b2 hMd) k2
          have k4 := ge_step k2 q4 (below_le b2 hMd)
          refine ⟨fun _ => (Ad.below hMd b4).h, ?_⟩
          change anyT _ _ _ _ _ _ _ _ _ _
          try simp only [pA]
          refine anyT_one 17 _ _ _ _ (by kernel_rfl) ?_
          simp only [List.filterMap_cons, List.filterMap_nil, List.getElem?_toArray, List.getElem?_cons_succ, List.getElem?_cons_zero]
          refine wpl_pure rfl (v := .pointer (some ⟨m.b, 0, none⟩)) (by intro w; first | rfl | (go_simp; first | done | with_reducible rfl)) ?_
          refine ⟨fun _ => (Ad.below hMd b4).h, ?_⟩
          change anyT _ _ _ _ _ _ _ _ _ _
          try simp only [pA]
          refine anyT_one 18 _ _ _ _ (by kernel_rfl) ?_
          simp only [List.filterMap_cons, List.filterMap_nil, List.getElem?_toArray, List.getElem?_cons_succ, List.getElem?_cons_zero]
          refine wpl_pure rfl (v := .pointer (some ⟨m.b, 4, none⟩)) (by intro w; first | rfl | (go_simp; first | done | with_reducible rfl)) ?_
          refine ⟨fun _ => (Ad.below hMd b4).h, ?_⟩
          change anyT _ _ _ _ _ _ _ _ _ _
          try simp only [pA]
          refine anyT_one 19 _ _ _ _ (by kernel_rfl) ?_
          simp only [List.filterMap_cons, List.filterMap_nil, List.getElem?_toArray, List.getElem?_cons_succ, List.getElem?_cons_zero]
          refine wpl_set rfl 62 (.tmp 45) (.tmp 43) rfl m.b 4 rfl (.slice p4 (k + (m.n - (k + 1))) cap4) rfl szSlRE rfl rfl 64 6 _ (Ad.below hMd b4).h (by omega) ?_
          intro w5 t5 h5
          refine ⟨fun h => absurd h (by simp), ?_⟩
          refine anyT_of_any _ _ _ _ (by kernel_rfl) ?_
          change wpAny _ _ _ _ _ _ _ _
          refine wpAny_done (by kernel_rfl) ?_ _
          try simp only [pA]
          have X5 := hid (pre _ _ (RNx.del hMd Ad k hk b4 v4 k4 t5 h5))
          clear v1 v2 v4 g2 g4 q2 q4 n2 n4 k1 k2 k4 t5 h5 b1 b2 b4 Ad z1 e1
          go_wp2_with fail
          go_ret
          exact ⟨0, _, rfl, X5.out⟩
        · go_wp2_with fail
          go_ret
          exact ⟨2, m, rfl, RNx.stay hN hA hb⟩
end Go.Proofs.YtjdclgnlnehjlaaDoor
