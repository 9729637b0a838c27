/- BmapFrozen: the document's Update. -/
import Derived.Test.YtjdclgnlnehjlaaDoorFx4
namespace Go.Proofs.YtjdclgnlnehjlaaDoor
open Go Go.RowKit
theorem reC_setv (E : Nat → Re) (i : Nat) (u : ByteArray) (j : Nat) : upd (reC E) (i * 2 + 1) (.string u) j = reC (setF E i ⟨(E i).k, u⟩) j := by
  unfold upd
  by_cases h : j = i * 2 + 1
  · rw [if_pos h]
    unfold reC setF
    rw [if_pos (by omega), show j % 2 = 1 by omega]
    rfl
  · rw [if_neg h]
    unfold reC setF
    by_cases h2 : j / 2 = i
    · rw [if_pos h2, h2, show j % 2 = 0 by omega]; rfl
    · rw [if_neg h2]
theorem RNx.setv {m m' : Rm} {w w2 w3 : World} {N i g : Nat} {u : ByteArray} (h : RNx m w N w2 m') (hN : Sz w N) (hi : i < m'.n) (hg : m'.p = some ⟨g, 0, none⟩) (t : Touch g w2 w3)
    (o : OwnK w3 66 2 (some ⟨g, 0, none⟩) m'.n m'.cap (upd (reC m'.E) (i * 2 + 1) (.string u))) : RNx m w N w3 (m'.lst m'.p m'.n m'.cap (setF m'.E i ⟨(m'.E i).k, u⟩)) := by
  have hbg : g ≠ m'.b := fun e => has_own h.at_.h h.at_.e (by decide) g (by rw [hg]; rfl) e.symm
  refine ⟨h.sm, ⟨h.at_.h.touch t (fun e => hbg e.symm), ?_, fun h5 => ⟨(h.at_.k h5).1, (h.at_.k h5).2.1, fun j hj => ?_⟩, h.at_.n, h.at_.sm⟩, h.turn.trans t.turn (fun j hj hjw => ?_), h.ft⟩
  · show OwnK w3 _ 2 m'.p m'.n m'.cap _
    rw [hg]
    exact o.congr (fun j _ => reC_setv m'.E i u j)
  · show (setF m'.E i ⟨(m'.E i).k, u⟩ j).k.size = m'.key
    by_cases e : j = i
    · rw [e, setF_self]; exact (h.at_.k h5).2.2 i hi
    · rw [setF_ne _ _ _ e]; exact (h.at_.k h5).2.2 j hj
  · have e : j = g := hj
    have hl : j < N := by have e2 : w.heap.size = N := hN; omega
    rcases h.ft g (.inr (by rw [hg]; rfl)) with q | q
    · rw [e]; exact q
    · omega
theorem RNx.trans {m m1 m2 : Rm} {w w1 w2 : World} {N M : Nat} (h : RNx m w N w1 m1) (hN : Sz w N) (hM : Sz w1 M) (k : RNx m1 w1 M w2 m2) : RNx m w N w2 m2 :=
  ⟨⟨k.sm.1.trans h.sm.1, k.sm.2.1.trans h.sm.2.1, k.sm.2.2.1.trans h.sm.2.2.1, k.sm.2.2.2.1.trans h.sm.2.2.2.1, k.sm.2.2.2.2.trans h.sm.2.2.2.2⟩, k.at_,
    h.turn.trans k.turn (fun j hj hjw => (h.ft j hj).resolve_right (fun hl => by have e : w.heap.size = N := hN; omega)), fun x hx => by
      rcases k.ft x hx with q | q
      · exact h.ft x q
      · have : N ≤ M := by have := h.turn.size; have e : w.heap.size = N := hN; have e2 : w1.heap.size = M := hM; omega
        exact .inr (by omega)⟩
theorem reC_tl (E : Nat → Re) (n : Nat) (z : Nat → Value) (j : Nat) (hj : j < (n - 1) * 2) : cat z (0 * 2) (fun j => reC E ((0 + 1) * 2 + j)) j = reC (delF E 0) j := by
  unfold cat
  rw [if_neg (by omega)]
  unfold reC delF
  dsimp only
  rw [if_neg (by omega), show ((0 + 1) * 2 + (j - 0 * 2)) % 2 = j % 2 by omega, show ((0 + 1) * 2 + (j - 0 * 2)) / 2 = j / 2 + 1 by omega]
theorem RNx.shed {m : Rm} {wd w4 w5 : World} {M cap4 : Nat} {p4 : Option Addr} {z : Nat → Value} (hMd : Sz wd M) (Ad : RmAt wd m) (h0 : 0 < m.n) (b4 : Below M wd w4)
    (v4 : OwnK w4 66 2 p4 (0 + (m.n - (0 + 1))) cap4 (cat z (0 * 2) (fun j => reC m.E ((0 + 1) * 2 + j)))) (k4 : ∀ g, blk p4 = some g → M ≤ g) (t5 : Touch m.b w4 w5)
    (h5 : Has w5 m.b 64 6 (upd (rmC m) 4 (.slice p4 (0 + (m.n - (0 + 1))) cap4))) : RNx m wd M w5 (m.lst p4 (0 + (m.n - (0 + 1))) cap4 (delF m.E 0)) := by
  have hn := Ad.n
  refine RNx.list hMd Ad b4 (v4.congr (fun j hj => reC_tl m.E m.n _ j (by omega))) k4 t5 h5 (by omega) (fun h i hi => ?_)
  unfold delF
  rw [if_neg (Nat.not_lt_zero i)]
  exact (Ad.k h).2.2 (i + 1) (by omega)
theorem RNx.put1 {m : Rm} {w w3 w4 w5 : World} {N : Nat} {p' : Option Addr} {cap' : Nat} {e : Re} (hN : Sz w N) (hA : RmAt w m) (b3 : Below N w w3) (hN3 : N ≤ w3.heap.size)
    (o4 : OwnK w4 66 2 p' (m.n + 1) cap' (cat (reC m.E) (m.n * 2) (re1 e))) (g4 : Grew (blk m.p) w3 w4) (q4 : blk p' = blk m.p ∨ blk p' = some w3.heap.size)
    (t5 : Touch m.b w4 w5) (h5 : Has w5 m.b 64 6 (upd (rmC m) 4 (.slice p' (m.n + 1) cap'))) (hn : m.n + 1 ≤ 100) (hk : m.ty = 5 → e.k.size = m.key) : RNx m w N w5 (m.put p' cap' e) := by
  have hbN := hA.lt hN m.b (.inl rfl)
  have hpb : ∀ g, blk p' = some g → g ≠ m.b := fun g hg => by
    rcases q4 with q | q
    · rw [q] at hg; exact fun e => has_own hA.h hA.e (by decide) g hg e.symm
    · rw [q] at hg; have := Option.some.inj hg; omega
  refine ⟨⟨rfl, rfl, rfl, rfl, rfl⟩, ⟨h5.congr (fun j hj => ?_), (o4.touch t5 hpb).congr (fun j hj => reC_set m.E m.n e _ (fun j _ => rfl) j hj), fun h => ⟨(hA.k h).1, (hA.k h).2.1, fun i hi => ?_⟩, hn, hA.sm⟩,
    ((turn_below hN b3 (RFoot m)).trans g4.turn (fun j hj _ => .inr hj)).trans t5.turn (fun j hj _ => .inl hj), fun x hx => ?_⟩
  · unfold upd
    show _ = rmC (m.put p' cap' e) j
    unfold rmC
    by_cases h4 : j = 4
    · subst h4; rfl
    · rw [if_neg h4, if_neg h4, if_neg h4]; rfl
  · have hi' : i < m.n + 1 := hi
    show (setF m.E m.n e i).k.size = m.key
    by_cases ei : i = m.n
    · rw [ei, setF_self]; exact hk h
    · rw [setF_ne _ _ _ ei]; exact (hA.k h).2.2 i (by omega)
  · rcases hx with hx | hx
    · exact .inl (.inl hx)
    · have hx' : blk p' = some x := hx
      rcases q4 with q | q
      · exact .inl (.inr (by rw [← q]; exact hx'))
      · rw [q] at hx'; have := Option.some.inj hx'; exact .inr (by omega)
theorem run_slAt {P : Program} {a : Act} {o : Oper} {T : TypeId} {x y : Operand} {vx vy v : Value} {w : World} (ho : o.op = .slice T x (some y) none none) (hx : a.eval x = vx) (hy : a.eval y = vy) (h : (Instr.sliceAt T vx (some vy) none none).run P w = .ok v w) : (execOp a.eval o).run P w = .ok (.value v) w := by
  unfold execOp
  simp only [ho, Option.map, hx, hy]
  simp [Sem.run_bind, h]

theorem ldL4b {w : World} {b : Nat} {m : Rm} (h : Has w b 64 6 (rmC m)) : (Instr.loadAt 62 (.pointer (some ⟨b, 4, none⟩))).run Tryd.prog w = .ok (.slice m.p m.n m.cap) w := by
  have c : w.cell? ⟨b, 4, none⟩ = some (.slice m.p m.n m.cap) := h.cell (by omega)
  go_simp
theorem szStr1 : (Tryd.prog.info? 9).map (·.size) = some 1 := by kernel_rfl
set_option maxRecDepth 100000 in
set_option maxHeartbeats 16000000 in
theorem DUpd_any (m : Rm) (t u : ByteArray) (f : Int) (w : World) (N : Nat) (hN : Sz w N) (hA : RmAt w m) :
    Calls Tryd.prog 28 #[.pointer (some ⟨m.b, 0, none⟩), .string t, .string u, .int .u64 f] w (RErr m w N) := by
  have c5 := hA.c5
  cases hfz : m.fz with
  | true =>
    rw [hfz] at c5
    clear hfz
    go_enter Tryd.func28, Tryd.ntmps28
    go_wp2
    go_ret
    exact ⟨1, m, rfl, RNx.stay hN hA (Below.refl N w)⟩
  | false =>
    rw [hfz] at c5
    clear hfz
    obtain ⟨L, hL⟩ : ∃ L, u.size = L := ⟨_, rfl⟩
    have HL := hid hL
    clear hL
    go_enter Tryd.func28, Tryd.ntmps28
    go_wp2_with fail
    refine (may_any m t _ N hN hA).mono ?_
    rintro e w1 ⟨⟨r, rfl, hr⟩, hb1⟩
    obtain ⟨M1, hM1⟩ := sz_some w1
    have L1 := below_sz hb1 hN hM1
    have A1 := hA.below hN hb1
    clear c5
    have d2 := hid A1.c2
    cases r
    · go_wp2_with fail
      go_ret
      exact ⟨22, m, rfl, RNx.stay hN hA hb1⟩
    · obtain ⟨hts, h3, h4, h5⟩ := hr rfl
      have hkk : m.ty = 5 → t.size = m.key ∧ 4 ≤ m.key ∧ m.key ≤ 16 := fun h => ⟨hts, (hA.k h).1, (hA.k h).2.1⟩
      have hk5 := hid (show m.ty = 5 → 4 ≤ t.size ∧ t.size ≤ 16 from fun h => by rw [hts]; exact ⟨(hA.k h).1, (hA.k h).2.1⟩)
      have HKK := hid hkk
      clear hr hts h3 h4 h5 hkk
      by_cases hv : L = m.val
      · have E27 := hid (show ((L : Int) != (m.val : Int)) = false by rw [hv]; simp)
        clear hv
        by_cases h2 : 2 < f
        · have E31 := hid (decide_eq_true h2)
          clear h2
          go_wp2_with (first
            | ((with_reducible show wpList _ _ _ (_ :: _) _ _); first
              | (refine wpl_want (by rfl) ?_; refine wpl_run rfl (.int .i64 (L : Int)) _ (run_lenS (x := .tmp 20) rfl undBS rfl HL.out _) ?_; try simp only [pA])
              | (refine wpl_want (by rfl) ?_; refine wpl_run rfl (.int .i64 (m.val : Int)) _ (run_cell1 (x := .tmp 25) 3 rfl rfl undIt rfl d2.out) ?_; try simp only [pA])
              | (refine wpl_want (by rfl) ?_; refine wpl_run rfl (.bool false) _ (run_neqZ (x := .tmp 21) rfl rfl rfl E27.out _) ?_; try simp only [pA])
              | (refine wpl_want (by rfl) ?_; refine wpl_run rfl (.bool true) _ (run_gtrK (x := .tmp 30) rfl rfl rfl E31.out _) ?_; try simp only [pA]))
            | fail)
          go_ret
          exact ⟨22, m, rfl, RNx.stay hN hA hb1⟩
        · have E31 := hid (decide_eq_false h2)
          go_wp2_with (first
            | ((with_reducible show wpList _ _ _ (_ :: _) _ _); first
              | (refine wpl_want (by rfl) ?_; refine wpl_run rfl (.int .i64 (L : Int)) _ (run_lenS (x := .tmp 20) rfl undBS rfl HL.out _) ?_; try simp only [pA])
              | (refine wpl_want (by rfl) ?_; refine wpl_run rfl (.int .i64 (m.val : Int)) _ (run_cell1 (x := .tmp 25) 3 rfl rfl undIt rfl d2.out) ?_; try simp only [pA])
              | (refine wpl_want (by rfl) ?_; refine wpl_run rfl (.bool false) _ (run_neqZ (x := .tmp 21) rfl rfl rfl E27.out _) ?_; try simp only [pA])
              | (refine wpl_want (by rfl) ?_; refine wpl_run rfl (.bool false) _ (run_gtrK (x := .tmp 30) rfl rfl rfl E31.out _) ?_; try simp only [pA]))
            | fail)
          refine (exact_any m t hk5.out _ M1 hM1 A1).mono ?_
          rintro e w2 ⟨hP, hb2⟩
          obtain ⟨M, hM⟩ := sz_some w2
          have hb := hb1.trans (hb2.mono L1)
          have A := hA.below hN hb
          clear hb1 hb2 A1 d2 E27 E31 HL hM1 L1 h2
          have d0 := hid A.c0
          rcases hP with ⟨k, hk, rfl⟩ | rfl
          · have E37 := hid (show decide ((0 : Int) ≤ (k : Int)) = true from decide_eq_true (by omega))
            have E43 := hid (show decide ((k : Int) < 0) = false from decide_eq_false (by omega))
            by_cases h1 : f = 1
            · have E40 := hid (show (f == 1) = true by rw [h1]; rfl)
              clear h1
              go_wp2_with (first
                | ((with_reducible show wpList _ _ _ (_ :: _) _ _); first
                  | (refine wpl_run rfl (.bool true) _ (run_geqK (x := .tmp 36) rfl rfl rfl E37.out _) ?_; try simp only [pA])
                  | (refine wpl_want (by rfl) ?_; refine wpl_run rfl (.bool true) _ (run_eqK (x := .tmp 39) rfl rfl rfl E40.out _) ?_; try simp only [pA]))
                | fail)
              go_ret
              exact ⟨17, m, rfl, RNx.stay hN hA hb⟩
            · have E40 := hid (show (f == 1) = false from beq_eq_false_iff_ne.2 h1)
              clear h1
              go_wp2_with (first
                | ((with_reducible show wpList _ _ _ (_ :: _) _ _); first
                  | (refine wpl_run rfl (.bool true) _ (run_geqK (x := .tmp 36) rfl rfl rfl E37.out _) ?_; try simp only [pA])
                  | (refine wpl_want (by rfl) ?_; refine wpl_run rfl (.bool false) _ (run_eqK (x := .tmp 39) rfl rfl rfl E40.out _) ?_; try simp only [pA])
                  | (refine wpl_run rfl (.bool false) _ (run_lssK (x := .tmp 42) rfl rfl rfl E43.out _) ?_; try simp only [pA])
                  | (refine wpl_run rfl (.bool false) _ (run_lssK (x := .tmp 52) rfl rfl rfl E43.out _) ?_; try simp only [pA])
                  | (refine wpl_run rfl (.bool true) _ (run_geqK (x := .tmp 58) rfl rfl rfl E37.out _) ?_; try simp only [pA]))
                | fail)
              refine (RUse_any m k hk _ M hM A).mono ?_
              rintro e w3 ⟨i, m1, rfl, hi, X0⟩
              have X := X0.pre hN hb hM
              have D4 : Hid (w3.cell? ⟨m.b, 4, none⟩ = some (.slice m1.p m1.n m1.cap)) := by have := X.at_.c4; rw [X.sm.1] at this; exact this
              obtain ⟨g, hg⟩ := X.at_.ptr (by omega)
              have o3 := X.at_.e
              rw [hg] at o3
              have HG := hid hg
              clear hg X0 A hb hM d0 E37 E40 E43
              go_wp2_with (first
                | ((with_reducible show wpList _ _ _ (_ :: _) _ _); first
                  | (refine wpl_run rfl (.slice m1.p m1.n m1.cap) _ (run_cell1 (x := .tmp 65) 62 rfl rfl undRE rfl D4.out) ?_; try simp only [pA])
                  | (refine wpl_run rfl (.pointer (some ⟨g, i * 2, none⟩)) _ (run_iaS2 (x := .tmp 66) (y := .tmp 67) rfl rfl HG.out rfl undRE szRE hi _) ?_; try simp only [pA])
                  | (refine wpl_setK rfl 9 (.tmp 70) (.tmp 68) rfl g (i * 2 + 1) rfl (.string u) rfl szStr1 rfl rfl 66 2 m1.n m1.cap (reC m1.E) o3 (by omega) ?_; intro w4 t4 o4; refine id ?_; try simp only [pA]))
                | fail)
              go_ret
              exact ⟨0, _, rfl, X.setv hN hi HG.out t4 o4⟩
          · by_cases h0 : m.ty = 0
            · have E50 := hid (show ((m.ty : Int) == 0) = true by rw [h0]; rfl)
              clear h0
              go_wp2_with (first
                | ((with_reducible show wpList _ _ _ (_ :: _) _ _); first
                  | (refine wpl_want (by rfl) ?_; refine wpl_run rfl (.int .i64 (m.ty : Int)) _ (run_cell1 (x := .tmp 48) 3 rfl rfl undIt rfl d0.out) ?_; try simp only [pA])
                  | (refine wpl_want (by rfl) ?_; refine wpl_run rfl (.bool true) _ (run_eqK (x := .tmp 49) rfl rfl rfl E50.out _) ?_; try simp only [pA]))
                | fail)
              go_ret
              exact ⟨7, m, rfl, RNx.stay hN hA hb⟩
            · have E50 := hid (show ((m.ty : Int) == 0) = false by rw [beq_eq_false_iff_ne]; omega)
              by_cases h2 : f = 2
              · have E56 := hid (show (f == 2) = true by rw [h2]; rfl)
                clear h2 h0
                go_wp2_with (first
                  | ((with_reducible show wpList _ _ _ (_ :: _) _ _); first
                    | (refine wpl_want (by rfl) ?_; refine wpl_run rfl (.int .i64 (m.ty : Int)) _ (run_cell1 (x := .tmp 48) 3 rfl rfl undIt rfl d0.out) ?_; try simp only [pA])
                    | (refine wpl_want (by rfl) ?_; refine wpl_run rfl (.bool false) _ (run_eqK (x := .tmp 49) rfl rfl rfl E50.out _) ?_; try simp only [pA])
                    | (refine wpl_want (by rfl) ?_; refine wpl_run rfl (.bool true) _ (run_eqK (x := .tmp 55) rfl rfl rfl E56.out _) ?_; try simp only [pA]))
                  | fail)
                go_ret
                exact ⟨2, m, rfl, RNx.stay hN hA hb⟩
              · have E56 := hid (show (f == 2) = false from beq_eq_false_iff_ne.2 h2)
                clear h2
                have hn := A.n
                have d3 := A.c3
                have d4 := A.c4
                by_cases hf : m.n < m.ent
                · have hge : ¬ ((m.ent : Int) ≤ (m.n : Int)) := by omega
                  go_upto_region 16 with (first
                    | ((with_reducible show wpList _ _ _ (_ :: _) _ _); first
                      | (refine wpl_want (by rfl) ?_; refine wpl_run rfl (.int .i64 (m.ty : Int)) _ (run_cell1 (x := .tmp 48) 3 rfl rfl undIt rfl d0.out) ?_; try simp only [pA])
                      | (refine wpl_want (by rfl) ?_; refine wpl_run rfl (.bool false) _ (run_eqK (x := .tmp 49) rfl rfl rfl E50.out _) ?_; try simp only [pA])
                      | (refine wpl_want (by rfl) ?_; refine wpl_run rfl (.bool false) _ (run_eqK (x := .tmp 55) rfl rfl rfl E56.out _) ?_; try simp only [pA]))
                    | fail)
                  go_quiet (fail)
                  have hM2 : Sz (w2.drewN nq) M := hM
                  have hf : ∃ m1, RNx m w N (w2.drewN nq) m1 ∧ m1.n + 1 ≤ 100 := ⟨m, RNx.stay hN hA (below_drewN hb _), by have := A.sm.2.2.1; omega⟩
                  clear d3 d4 A hb hM E56 E50 d0 h0 hn hge
                  generalize w2.drewN nq = wx at *
                  have hM := hM2
                  clear hM2
                  go_upto_region 20 with fail
                  obtain ⟨m1, X1, hn1⟩ := hf
                  have eb : m1.b = m.b := X1.sm.1
                  have hk1 : m1.ty = 5 → 4 ≤ t.size ∧ t.size ≤ 16 := fun h => hk5.out (by rw [← X1.sm.2.1]; exact h)
                  have hk2 := hid (show m1.ty = 5 → t.size = m1.key from fun h => by rw [X1.sm.2.2.1]; exact (HKK.out (by rw [← X1.sm.2.1]; exact h)).1)
                  have HP := fun wv K hK hAv => plain_any m1 t hk1 wv K hK hAv
                  rw [eb] at HP
                  have HPH := hid HP
                  clear HP hk1
                  have A := X1.at_
                  have hn100 := A.n
                  have he64 := A.sm.2.2.1
                  have hI : Has wx m.b 64 6 (rmC m1) := by have := A.h; rw [eb] at this; exact this
                  have s2 : True := trivial
                  have s3 : True := trivial
                  refine wp_region_any (by kernel_rfl) ?_
                  change wpAny _ _ _ _ _ _ _ (World.drew _)
                  refine anyT_any (s := 14) (I := fun w' => Has w' m.b 64 6 (rmC m1)) _ _ _ _ ?_
                  have hne := inn_ne (I := fun w' => Has w' m.b 64 6 (rmC m1)) hI
                  refine anyT_reads [0, 1, 2, 3, 4, 5, 6, 8] _ _ _ hI.drew (by kernel_rfl) (fun _ _ _ d _ h => by cases d <;> exact h) ?_
                  simp only [pickO, List.map_cons, List.map_nil, List.getElem?_toArray, List.getElem?_cons_succ, List.getElem?_cons_zero, Option.getD_some, Act.put, List.setIfInBounds_toArray, List.set_cons_succ, List.set_cons_zero]
                  repeat first
                    | (refine inn_val (fun x => ld_one 62 (.tmp 101) rfl ⟨m.b, 4, none⟩ rfl _ (ldL4b x.h)) (by rfl) ?_; simp only [Act.put, List.setIfInBounds_toArray, List.set_cons_succ, List.set_cons_zero])
                    | go_big_quiet_step (fail)
                  refine wpQuiet_nil ?_
                  clear hne s2 s3
                  have hMd : Sz wx.drew M := hM
                  have Ad : RmAt wx.drew m1 := A.below hM (Below.refl _ _).drew
                  have X2 := hid (RNx.post X1 hM (Below.refl _ _).drew)
                  clear hI A hM X1
                  generalize World.drew wx = wd at *
                  have HI : ∀ wv, Below M wd wv → Has wv m.b 64 6 (rmC m1) := fun wv b => by have := (Ad.below hMd b).h; rw [eb] at this; exact this
                  refine anyT_one 7 _ _ _ _ (by kernel_rfl) ?_
                  simp only [List.filterMap_cons, List.filterMap_nil, List.getElem?_toArray, List.getElem?_cons_succ, List.getElem?_cons_zero]
                  change wpList _ _ _ [_] _ _
                  go_wp2_with fail
                  refine (HPH.out wd M hMd Ad).mono ?_
                  rintro e w7 ⟨rfl, b7⟩
                  dsimp only
                  go_step
                  refine ⟨fun _ => HI _ b7, ?_⟩
                  change anyT _ _ _ _ _ _ _ _ _ _
                  try simp only [pA]
                  refine anyT_one 9 _ _ _ _ (by kernel_rfl) ?_
                  simp only [List.filterMap_cons, List.filterMap_nil, List.getElem?_toArray, List.getElem?_cons_succ, List.getElem?_cons_zero]
                  refine wpl_build rfl 66 _ rfl (cellsOf (re1 ⟨plainT m1.ty t, u⟩) 2) (by kernel_rfl) ?_
                  refine ⟨fun _ => HI _ b7, ?_⟩
                  change anyT _ _ _ _ _ _ _ _ _ _
                  try simp only [pA]
                  obtain ⟨z, hz⟩ := sz_some w7
                  have lz : M ≤ z := below_sz b7 hMd hz
                  refine anyT_one 10 _ _ _ _ (by kernel_rfl) ?_
                  simp only [List.filterMap_cons, List.filterMap_nil, List.getElem?_toArray, List.getElem?_cons_succ, List.getElem?_cons_zero]
                  refine wpl_bsRE rfl (.tmp 107) rfl ⟨plainT m1.ty t, u⟩ rfl z hz ?_
                  intro w6 y6 c6 k6
                  have b6 := b7.trans (c6.mono lz)
                  have A6 := Ad.below hMd b6
                  have e6 : w6.heap.size = z + 1 := y6
                  refine ⟨fun _ => HI _ b6, ?_⟩
                  change anyT _ _ _ _ _ _ _ _ _ _
                  try simp only [pA]
                  refine anyT_one 11 _ _ _ _ (by kernel_rfl) ?_
                  simp only [List.filterMap_cons, List.filterMap_nil, List.getElem?_toArray, List.getElem?_cons_succ, List.getElem?_cons_zero]
                  refine wpl_appK rfl (.tmp 102) (.tmp 108) 62 rfl 66 2 (by omega) undRE kRE m1.p m1.n m1.cap rfl (reC m1.E) A6.e (some ⟨z, 0, none⟩) 1 1 rfl (re1 ⟨plainT m1.ty t, u⟩) k6.cells (fun j _ => re1_one _ j) (by omega) ?_
                  intro p4 cap4 w4 o4 g4 q4 n4
                  have h4 : Has w4 m.b 64 6 (rmC m1) := (HI _ b6).turn g4.turn (fun e => by rw [← eb] at e; exact has_own A6.h A6.e (by decide) _ e rfl)
                  refine ⟨fun _ => h4, ?_⟩
                  change anyT _ _ _ _ _ _ _ _ _ _
                  try simp only [pA]
                  refine anyT_one 12 _ _ _ _ (by kernel_rfl) ?_
                  simp only [List.filterMap_cons, List.filterMap_nil, List.getElem?_toArray, List.getElem?_cons_succ, List.getElem?_cons_zero]
                  refine wpl_pure rfl (v := .pointer (some ⟨m.b, 0, none⟩)) (by intro w; first | rfl | (go_simp; first | done | with_reducible rfl)) ?_
                  refine ⟨fun _ => h4, ?_⟩
                  change anyT _ _ _ _ _ _ _ _ _ _
                  try simp only [pA]
                  refine anyT_one 13 _ _ _ _ (by kernel_rfl) ?_
                  simp only [List.filterMap_cons, List.filterMap_nil, List.getElem?_toArray, List.getElem?_cons_succ, List.getElem?_cons_zero]
                  refine wpl_pure rfl (v := .pointer (some ⟨m.b, 4, none⟩)) (by intro w; first | rfl | (go_simp; first | done | with_reducible rfl)) ?_
                  refine ⟨fun _ => h4, ?_⟩
                  change anyT _ _ _ _ _ _ _ _ _ _
                  try simp only [pA]
                  refine anyT_one 14 _ _ _ _ (by kernel_rfl) ?_
                  simp only [List.filterMap_cons, List.filterMap_nil, List.getElem?_toArray, List.getElem?_cons_succ, List.getElem?_cons_zero]
                  refine wpl_set rfl 62 (.tmp 111) (.tmp 109) rfl m.b 4 rfl (.slice p4 (m1.n + 1) cap4) rfl szSlRE rfl rfl 64 6 _ h4 (by omega) ?_
                  intro w5 t5 h5
                  refine ⟨fun h => absurd h (by simp), ?_⟩
                  refine anyT_of_any _ _ _ _ (by kernel_rfl) ?_
                  change wpAny _ _ _ _ _ _ _ _
                  refine wpAny_done (by kernel_rfl) ?_ _
                  try simp only [pA]
                  rw [← eb] at t5 h5
                  have X5 := hid (X2.out.trans hN hMd (RNx.put1 hMd Ad b6 (by omega) o4 g4 q4 t5 h5 hn1 (fun h => by rw [plainT_size]; exact hk2.out h)))
                  clear g4 q4 n4 o4 h4 t5 h5 b6 b7 c6 k6 A6 HI Ad X2 hn1 hk2 HPH e6 y6 lz hz
                  go_wp2_with fail
                  go_ret
                  exact ⟨0, _, rfl, X5.out⟩
                · have hge : (m.ent : Int) ≤ (m.n : Int) := by omega
                  by_cases ht : m.ty = 2
                  · have he0 := A.sm.2.2.2
                    have E87 := hid (show ((m.ty : Int) != 2) = false by rw [ht]; rfl)
                    go_upto_region 16 with (first
                      | ((with_reducible show wpList _ _ _ (_ :: _) _ _); first
                        | (refine wpl_want (by rfl) ?_; refine wpl_run rfl (.int .i64 (m.ty : Int)) _ (run_cell1 (x := .tmp 48) 3 rfl rfl undIt rfl d0.out) ?_; try simp only [pA])
                        | (refine wpl_want (by rfl) ?_; refine wpl_run rfl (.bool false) _ (run_eqK (x := .tmp 49) rfl rfl rfl E50.out _) ?_; try simp only [pA])
                        | (refine wpl_want (by rfl) ?_; refine wpl_run rfl (.bool false) _ (run_eqK (x := .tmp 55) rfl rfl rfl E56.out _) ?_; try simp only [pA]))
                      | fail)
                    go_quiet (fail)
                    have hM' : Sz (w2.drewN nq) M := hM
                    have A' : RmAt (w2.drewN nq) m := A.below hM (below_drewN (Below.refl _ _) _)
                    have hb' : Below N w (w2.drewN nq) := below_drewN hb _
                    clear d3 d4 A hb hM E56 E50 hge
                    generalize w2.drewN nq = wx at *
                    have e0 := hid A'.c0
                    have e4 := hid A'.c4
                    have s3 : Hid (∀ w', (Instr.sliceAt 62 (.slice m.p m.n m.cap) (some (.int .i64 1)) none none).run Tryd.prog w' = .ok (.slice (tailP m 0) (m.n - (0 + 1)) (m.cap - (0 + 1))) w') := hid (A'.cutT 0 (by omega))
                    go_upto_region 20 with (first
                      | ((with_reducible show wpList _ _ _ (_ :: _) _ _); first
                        | (refine wpl_run rfl (.int .i64 (m.ty : Int)) _ (run_cell1 (x := .tmp 85) 3 rfl rfl undIt rfl e0.out) ?_; try simp only [pA])
                        | (refine wpl_run rfl (.bool false) _ (run_neqZ (x := .tmp 86) rfl rfl rfl E87.out _) ?_; try simp only [pA])
                        | (refine wpl_bsR0 rfl rfl M hM' (reC m.E) ?_; intro w3 y3 b3 v3; have f4 := hid (A'.below hM' b3).c4; refine id ?_; try simp only [pA])
                        | (refine wpl_run rfl (.slice m.p m.n m.cap) _ (run_cell1 (x := .tmp 92) 62 rfl rfl undRE rfl f4.out) ?_; try simp only [pA])
                        | (refine wpl_run rfl (.slice (tailP m 0) (m.n - (0 + 1)) (m.cap - (0 + 1))) _ (run_slAt (T := 62) (x := .tmp 93) (y := .const (.int .i64 1)) (vx := .slice m.p m.n m.cap) (vy := .int .i64 1) rfl rfl rfl (s3.out _)) ?_; try simp only [pA])
                        | (refine wpl_appK rfl (.tmp 89) (.tmp 94) 62 rfl 66 2 (by omega) undRE kRE (some ⟨M, 0, none⟩) 0 0 rfl (reC m.E) v3 (tailP m 0) (m.n - (0 + 1)) (m.cap - (0 + 1)) rfl (fun j => reC m.E ((0 + 1) * 2 + j)) ((A'.below hM' b3).tail 0 (by omega)) (fun j _ => reC_one _ _) (by omega) ?_; intro p4 cap4 w4 v4 g4 q4 n4; have k3 : ∀ g, blk (some (⟨M, 0, none⟩ : Addr)) = some g → M ≤ g := fun g hg => Nat.le_of_eq (Option.some.inj hg); have b4 := g4.below b3 (below_le b3 hM') k3; have k4 := ge_step k3 q4 (below_le b3 hM'); refine id ?_; try simp only [pA])
                        | (refine wpl_set rfl 62 (.tmp 97) (.tmp 95) rfl m.b 4 rfl (.slice p4 (0 + (m.n - (0 + 1))) cap4) rfl szSlRE rfl rfl 64 6 _ (A'.below hM' b4).h (by omega) ?_; intro w5_ t5 h5; have Y := RNx.shed hM' A' (by omega) b4 v4 k4 t5 h5; refine id ?_; try simp only [pA]))
                      | fail)
                    have YN := Y.pre hN hb' hM'
                    clear t5 h5 v3 v4 k3 k4 b3 b4 g4 q4 n4 f4 s3 e0 e4 A' hb' hM'
                    have hf : ∃ m1, RNx m w N w5_ m1 ∧ m1.n + 1 ≤ 100 := ⟨_, YN, show 0 + (m.n - (0 + 1)) + 1 ≤ 100 by omega⟩
                    clear YN Y E87 ht
                    generalize w5_ = wx at *
                    obtain ⟨M, hM⟩ := sz_some wx
                    obtain ⟨m1, X1, hn1⟩ := hf
                    have eb : m1.b = m.b := X1.sm.1
                    have hk1 : m1.ty = 5 → 4 ≤ t.size ∧ t.size ≤ 16 := fun h => hk5.out (by rw [← X1.sm.2.1]; exact h)
                    have hk2 := hid (show m1.ty = 5 → t.size = m1.key from fun h => by rw [X1.sm.2.2.1]; exact (HKK.out (by rw [← X1.sm.2.1]; exact h)).1)
                    have HP := fun wv K hK hAv => plain_any m1 t hk1 wv K hK hAv
                    rw [eb] at HP
                    have HPH := hid HP
                    clear HP hk1
                    have A := X1.at_
                    have hn100 := A.n
                    have he64 := A.sm.2.2.1
                    have hI : Has wx m.b 64 6 (rmC m1) := by have := A.h; rw [eb] at this; exact this
                    have s2 : True := trivial
                    have s3 : True := trivial
                    refine wp_region_any (by kernel_rfl) ?_
                    change wpAny _ _ _ _ _ _ _ (World.drew _)
                    refine anyT_any (s := 14) (I := fun w' => Has w' m.b 64 6 (rmC m1)) _ _ _ _ ?_
                    have hne := inn_ne (I := fun w' => Has w' m.b 64 6 (rmC m1)) hI
                    refine anyT_reads [0, 1, 2, 3, 4, 5, 6, 8] _ _ _ hI.drew (by kernel_rfl) (fun _ _ _ d _ h => by cases d <;> exact h) ?_
                    simp only [pickO, List.map_cons, List.map_nil, List.getElem?_toArray, List.getElem?_cons_succ, List.getElem?_cons_zero, Option.getD_some, Act.put, List.setIfInBounds_toArray, List.set_cons_succ, List.set_cons_zero]
                    repeat first
                      | (refine inn_val (fun x => ld_one 62 (.tmp 101) rfl ⟨m.b, 4, none⟩ rfl _ (ldL4b x.h)) (by rfl) ?_; simp only [Act.put, List.setIfInBounds_toArray, List.set_cons_succ, List.set_cons_zero])
                      | go_big_quiet_step (fail)
                    refine wpQuiet_nil ?_
                    clear hne s2 s3
                    have hMd : Sz wx.drew M := hM
                    have Ad : RmAt wx.drew m1 := A.below hM (Below.refl _ _).drew
                    have X2 := hid (RNx.post X1 hM (Below.refl _ _).drew)
                    clear hI A hM X1
                    generalize World.drew wx = wd at *
                    have HI : ∀ wv, Below M wd wv → Has wv m.b 64 6 (rmC m1) := fun wv b => by have := (Ad.below hMd b).h; rw [eb] at this; exact this
                    refine anyT_one 7 _ _ _ _ (by kernel_rfl) ?_
                    simp only [List.filterMap_cons, List.filterMap_nil, List.getElem?_toArray, List.getElem?_cons_succ, List.getElem?_cons_zero]
                    change wpList _ _ _ [_] _ _
                    go_wp2_with fail
                    refine (HPH.out wd M hMd Ad).mono ?_
                    rintro e w7 ⟨rfl, b7⟩
                    dsimp only
                    go_step
                    refine ⟨fun _ => HI _ b7, ?_⟩
                    change anyT _ _ _ _ _ _ _ _ _ _
                    try simp only [pA]
                    refine anyT_one 9 _ _ _ _ (by kernel_rfl) ?_
                    simp only [List.filterMap_cons, List.filterMap_nil, List.getElem?_toArray, List.getElem?_cons_succ, List.getElem?_cons_zero]
                    refine wpl_build rfl 66 _ rfl (cellsOf (re1 ⟨plainT m1.ty t, u⟩) 2) (by kernel_rfl) ?_
                    refine ⟨fun _ => HI _ b7, ?_⟩
                    change anyT _ _ _ _ _ _ _ _ _ _
                    try simp only [pA]
                    obtain ⟨z, hz⟩ := sz_some w7
                    have lz : M ≤ z := below_sz b7 hMd hz
                    refine anyT_one 10 _ _ _ _ (by kernel_rfl) ?_
                    simp only [List.filterMap_cons, List.filterMap_nil, List.getElem?_toArray, List.getElem?_cons_succ, List.getElem?_cons_zero]
                    refine wpl_bsRE rfl (.tmp 107) rfl ⟨plainT m1.ty t, u⟩ rfl z hz ?_
                    intro w6 y6 c6 k6
                    have b6 := b7.trans (c6.mono lz)
                    have A6 := Ad.below hMd b6
                    have e6 : w6.heap.size = z + 1 := y6
                    refine ⟨fun _ => HI _ b6, ?_⟩
                    change anyT _ _ _ _ _ _ _ _ _ _
                    try simp only [pA]
                    refine anyT_one 11 _ _ _ _ (by kernel_rfl) ?_
                    simp only [List.filterMap_cons, List.filterMap_nil, List.getElem?_toArray, List.getElem?_cons_succ, List.getElem?_cons_zero]
                    refine wpl_appK rfl (.tmp 102) (.tmp 108) 62 rfl 66 2 (by omega) undRE kRE m1.p m1.n m1.cap rfl (reC m1.E) A6.e (some ⟨z, 0, none⟩) 1 1 rfl (re1 ⟨plainT m1.ty t, u⟩) k6.cells (fun j _ => re1_one _ j) (by omega) ?_
                    intro p4 cap4 w4 o4 g4 q4 n4
                    have h4 : Has w4 m.b 64 6 (rmC m1) := (HI _ b6).turn g4.turn (fun e => by rw [← eb] at e; exact has_own A6.h A6.e (by decide) _ e rfl)
                    refine ⟨fun _ => h4, ?_⟩
                    change anyT _ _ _ _ _ _ _ _ _ _
                    try simp only [pA]
                    refine anyT_one 12 _ _ _ _ (by kernel_rfl) ?_
                    simp only [List.filterMap_cons, List.filterMap_nil, List.getElem?_toArray, List.getElem?_cons_succ, List.getElem?_cons_zero]
                    refine wpl_pure rfl (v := .pointer (some ⟨m.b, 0, none⟩)) (by intro w; first | rfl | (go_simp; first | done | with_reducible rfl)) ?_
                    refine ⟨fun _ => h4, ?_⟩
                    change anyT _ _ _ _ _ _ _ _ _ _
                    try simp only [pA]
                    refine anyT_one 13 _ _ _ _ (by kernel_rfl) ?_
                    simp only [List.filterMap_cons, List.filterMap_nil, List.getElem?_toArray, List.getElem?_cons_succ, List.getElem?_cons_zero]
                    refine wpl_pure rfl (v := .pointer (some ⟨m.b, 4, none⟩)) (by intro w; first | rfl | (go_simp; first | done | with_reducible rfl)) ?_
                    refine ⟨fun _ => h4, ?_⟩
                    change anyT _ _ _ _ _ _ _ _ _ _
                    try simp only [pA]
                    refine anyT_one 14 _ _ _ _ (by kernel_rfl) ?_
                    simp only [List.filterMap_cons, List.filterMap_nil, List.getElem?_toArray, List.getElem?_cons_succ, List.getElem?_cons_zero]
                    refine wpl_set rfl 62 (.tmp 111) (.tmp 109) rfl m.b 4 rfl (.slice p4 (m1.n + 1) cap4) rfl szSlRE rfl rfl 64 6 _ h4 (by omega) ?_
                    intro w5 t5 h5
                    refine ⟨fun h => absurd h (by simp), ?_⟩
                    refine anyT_of_any _ _ _ _ (by kernel_rfl) ?_
                    change wpAny _ _ _ _ _ _ _ _
                    refine wpAny_done (by kernel_rfl) ?_ _
                    try simp only [pA]
                    rw [← eb] at t5 h5
                    have X5 := hid (X2.out.trans hN hMd (RNx.put1 hMd Ad b6 (by omega) o4 g4 q4 t5 h5 hn1 (fun h => by rw [plainT_size]; exact hk2.out h)))
                    clear g4 q4 n4 o4 h4 t5 h5 b6 b7 c6 k6 A6 HI Ad X2 hn1 hk2 HPH e6 y6 lz hz
                    go_wp2_with fail
                    go_ret
                    exact ⟨0, _, rfl, X5.out⟩
                  · have E87 := hid (show ((m.ty : Int) != 2) = true by rw [bne_iff_ne]; omega)
                    clear ht
                    go_upto_region 16 with (first
                      | ((with_reducible show wpList _ _ _ (_ :: _) _ _); first
                        | (refine wpl_want (by rfl) ?_; refine wpl_run rfl (.int .i64 (m.ty : Int)) _ (run_cell1 (x := .tmp 48) 3 rfl rfl undIt rfl d0.out) ?_; try simp only [pA])
                        | (refine wpl_want (by rfl) ?_; refine wpl_run rfl (.bool false) _ (run_eqK (x := .tmp 49) rfl rfl rfl E50.out _) ?_; try simp only [pA])
                        | (refine wpl_want (by rfl) ?_; refine wpl_run rfl (.bool false) _ (run_eqK (x := .tmp 55) rfl rfl rfl E56.out _) ?_; try simp only [pA]))
                      | fail)
                    go_quiet (fail)
                    have e0 : Hid ((w2.drewN nq).cell? ⟨m.b, 0, none⟩ = some (.int .i64 (m.ty : Int))) := d0
                    go_wp2_with (first
                      | ((with_reducible show wpList _ _ _ (_ :: _) _ _); first
                        | (refine wpl_run rfl (.int .i64 (m.ty : Int)) _ (run_cell1 (x := .tmp 85) 3 rfl rfl undIt rfl e0.out) ?_; try simp only [pA])
                        | (refine wpl_run rfl (.bool true) _ (run_neqZ (x := .tmp 86) rfl rfl rfl E87.out _) ?_; try simp only [pA]))
                      | fail)
                    go_ret
                    exact ⟨7, m, rfl, RNx.stay hN hA (below_drewN hb _)⟩
      · have E27 := hid (show ((L : Int) != (m.val : Int)) = true by rw [bne_iff_ne]; omega)
        clear hv
        go_wp2_with (first
          | ((with_reducible show wpList _ _ _ (_ :: _) _ _); first
            | (refine wpl_want (by rfl) ?_; refine wpl_run rfl (.int .i64 (L : Int)) _ (run_lenS (x := .tmp 20) rfl undBS rfl HL.out _) ?_; try simp only [pA])
            | (refine wpl_want (by rfl) ?_; refine wpl_run rfl (.int .i64 (m.val : Int)) _ (run_cell1 (x := .tmp 25) 3 rfl rfl undIt rfl d2.out) ?_; try simp only [pA])
            | (refine wpl_want (by rfl) ?_; refine wpl_run rfl (.bool true) _ (run_neqZ (x := .tmp 21) rfl rfl rfl E27.out _) ?_; try simp only [pA]))
          | fail)
        go_ret
        exact ⟨22, m, rfl, RNx.stay hN hA hb1⟩
end Go.Proofs.YtjdclgnlnehjlaaDoor
