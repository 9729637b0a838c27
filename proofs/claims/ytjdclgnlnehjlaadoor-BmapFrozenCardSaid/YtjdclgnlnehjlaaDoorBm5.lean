/- bmap: use. -/
import Derived.Test.YtjdclgnlnehjlaaDoorMgBm4
import Derived.Test.YtjdclgnlnehjlaaDoorInns
namespace Go.Proofs.YtjdclgnlnehjlaaDoor
open Go Go.RowKit
def Mp.use (m : Mp) (k : Nat) : Mp := { m with E := setF (delF m.E k) (m.n - 1) (m.E k) }
theorem foot_use {m : Mp} {k x : Nat} (hk : k < m.n) (h : Foot (m.use k) x) : Foot m x := by
  rcases h with h | h | ⟨i, hi, h⟩
  · exact .inl h
  · exact .inr (.inl h)
  · have hi : i < m.n := hi
    simp only [Mp.use, setF, delF] at h
    by_cases hin : i = m.n - 1
    · rw [if_pos hin] at h; exact .inr (.inr ⟨k, hk, h⟩)
    · rw [if_neg hin] at h
      by_cases hik : i < k
      · rw [if_pos hik] at h; exact .inr (.inr ⟨i, hi, h⟩)
      · rw [if_neg hik] at h; exact .inr (.inr ⟨i + 1, by omega, h⟩)
set_option maxRecDepth 100000 in
theorem use_plain (m : Mp) (k : Nat) (hk : k < m.n) (hn : m.n ≤ 1000) (ht : m.ty ≠ 2) (w : World) (N : Nat) (hN : Sz w N) (hA : MpAt w m) :
    Calls Tryd.prog 44 #[.pointer (some ⟨m.b, 0, none⟩), .int .i64 (k : Int)] w fun e w' => e = .returned (.pointer (some ⟨(m.E k).c, 0, none⟩)) ∧ Below N w w' := by
  obtain ⟨g, hg⟩ := hA.ptr (by omega)
  obtain ⟨fs, hfs⟩ := stBE
  have Hce := hid (fun i hi => hA.at hg k hk i hi)
  have d5 := hA.c5
  rw [hg] at d5
  clear hg
  have hlt : (k : Int) < (m.n : Int) := by omega
  have t2 : ((m.ty : Int) == 2) = false := by rw [beq_eq_false_iff_ne]; omega
  go_enter Tryd.func44, Tryd.ntmps44
  go_wp2_with (first
    | (refine wpl_load_cells rfl 82 (.tmp 11) rfl g (k * 2) rfl 2 (me1 (m.E k)) Hce.out _ hfs rfl szBE ?_)
    | (refine wpl_alloc rfl 82 rfl 2 _ zBE N hN ?_; intro x1 hX1 hb1 ha1)
    | (refine wpl_store rfl 82 (.tmp 5) (.tmp 12) rfl N 2 (me1 (m.E k)) rfl rfl 82 _ ha1 szBE (fun j _ => me1_one _ j) ?_; intro x2 ht2 ha2; have hb2 := ht2.below hb1 (Nat.le_refl N); have cs1 : x2.cell? ⟨N, 1, none⟩ = some (.pointer (some ⟨(m.E k).c, 0, none⟩)) := ha2.cell (by omega); have d0 := (hA.below hN hb2).c0; clear d5)
    | fail)
  go_ret
  exact ⟨rfl, hb2⟩
set_option maxRecDepth 100000 in
set_option maxHeartbeats 1000000 in
theorem use_lru (m : Mp) (k : Nat) (hk : k < m.n) (hn : m.n ≤ 1000) (ht : m.ty = 2) (w : World) (N : Nat) (hN : Sz w N) (hA : MpAt w m) :
    Calls Tryd.prog 44 #[.pointer (some ⟨m.b, 0, none⟩), .int .i64 (k : Int)] w fun e w' => e = .returned (.pointer (some ⟨(m.E k).c, 0, none⟩)) ∧ Turn (Top m) w w' ∧ MpAt w' (m.use k) := by
  obtain ⟨g, hg⟩ := hA.ptr (by omega)
  obtain ⟨fs, hfs⟩ := stBE
  have Hce := hid (fun i hi => hA.at hg k hk i hi)
  have d5 := hA.c5
  rw [hg] at d5
  have hlt : (k : Int) < (m.n : Int) := by omega
  have Hg := hid hg
  have Ht := hid ht
  clear hg ht
  go_enter Tryd.func44, Tryd.ntmps44
  go_wp2_with (first
    | (refine wpl_load_cells rfl 82 (.tmp 11) rfl g (k * 2) rfl 2 (me1 (m.E k)) Hce.out _ hfs rfl szBE ?_)
    | (refine wpl_alloc rfl 82 rfl 2 _ zBE N hN ?_; intro x1 hX1 hb1 ha1)
    | (refine wpl_store rfl 82 (.tmp 5) (.tmp 12) rfl N 2 (me1 (m.E k)) rfl rfl 82 _ ha1 szBE (fun j _ => me1_one _ j) ?_; intro x2 ht2 ha2; have hb2 := ht2.below hb1 (Nat.le_refl N); have A2 := hA.below hN hb2; have d0 : x2.cell? ⟨m.b, 0, none⟩ = some (.int .i64 2) := A2.c0.trans (by rw [Ht.out]; rfl); clear d5)
    | (go_at_call 39; refine (remove_any m k hk hn _ A2).mono ?_; rintro e w3 ⟨rfl, ht3, hs3, A3⟩; clear d0)
    | fail)
  have ha3 : Has w3 N 82 2 (me1 (m.E k)) := ha2.turn ht3 (fun h => by have := hA.lt hN N (top_foot h); omega)
  have hgp : blk m.p = some g := by rw [Hg.out]; rfl
  have hgb : g ≠ m.b := hA.pb g hgp
  obtain ⟨r, hr⟩ : ∃ r, m.n = r + 1 := ⟨m.n - 1, by omega⟩
  have h3 : Has w3 m.b 59 6 (mpC (m.del k)) := A3.h
  have e3 : OwnK w3 82 2 (some ⟨g, 0, none⟩) r m.cap (meC (delF m.E k)) := by
    have h := A3.e
    have e : (m.del k).p = some ⟨g, 0, none⟩ := Hg.out
    have e' : (m.del k).n = r := by show m.n - 1 = r; omega
    rw [e, e'] at h
    exact h
  have hrcap : r + 1 ≤ m.cap := by have := hA.e.le; omega
  have T3 : Turn (Top m) w w3 := (turn_below hN hb2 (Top m)).trans ht3 (fun j hj _ => hj)
  obtain ⟨M, hM⟩ := sz_some w3
  have hNM : N ≤ M := sz_turn T3 hN hM
  have hNN : N < M := ha3.ltN hM
  have d53 : ∀ w', Has w' m.b 59 6 (mpC (m.del k)) → w'.cell? ⟨m.b, 5, none⟩ = some (.slice (some ⟨g, 0, none⟩) r m.cap) := fun w' h => (h.cell (j := 5) (by omega)).trans (by
    have e : (m.del k).p = some ⟨g, 0, none⟩ := Hg.out
    have e' : (m.del k).n = r := by show m.n - 1 = r; omega
    show some (Value.slice (m.del k).p (m.del k).n (m.del k).cap) = _
    rw [e, e']
    rfl)
  have hlA : ∀ w', Has w' m.b 59 6 (mpC (m.del k)) → (Instr.loadAt 57 (.pointer (some ⟨m.b, 5, none⟩))).run Tryd.prog w' = .ok (.slice (some ⟨g, 0, none⟩) r m.cap) w' := fun w' h => by
    have c := d53 w' h
    go_simp
  have hbm : m.b < N := hA.lt hN m.b (.inl rfl)
  clear d53 hlt Hce hb2 ht2 ha1 hb1 hX1
  refine wp_region_any (by kernel_rfl) ?_
  change wpAny _ _ _ _ _ _ _ (World.drew _)
  refine anyT_any (s := 10) (I := fun w' => Has w' m.b 59 6 (mpC (m.del k)) ∧ Has w' N 82 2 (me1 (m.E k))) _ _ _ _ ?_
  have hne := inn_ne (I := fun w' => Has w' m.b 59 6 (mpC (m.del k)) ∧ Has w' N 82 2 (me1 (m.E k))) ⟨h3, ha3⟩
  refine anyT_reads [0, 1, 2, 3, 4, 5] _ _ _ ⟨h3.drew, ha3.drew⟩ (by kernel_rfl) (fun _ _ _ d _ h => by cases d <;> exact h) ?_
  simp only [pickO, List.map_cons, List.map_nil, List.getElem?_toArray, List.getElem?_cons_succ, List.getElem?_cons_zero, Option.getD_some, Act.put, List.setIfInBounds_toArray, List.set_cons_succ, List.set_cons_zero]
  repeat first
    | (refine inn_val (fun x => ld_one 57 (.tmp 25) rfl ⟨m.b, 5, none⟩ rfl _ (hlA x.w' x.h.1)) (by rfl) ?_; simp only [Act.put, List.setIfInBounds_toArray, List.set_cons_succ, List.set_cons_zero])
    | (refine inn_val (fun x => run_ld 82 (.tmp 5) rfl N rfl 82 2 _ x.h.2 _ hfs rfl szBE) (by rfl) ?_; simp only [Act.put, List.setIfInBounds_toArray, List.set_cons_succ, List.set_cons_zero])
    | go_big_quiet_step (fail)
  refine wpQuiet_nil ?_
  clear hne hlA
  have hMd : Sz w3.drew M := hM
  have hd := h3.drew
  have ad := ha3.drew
  have ed := e3.drew
  have Ad := A3.drew
  have Td : Turn (Top m) w w3.drew := T3.trans (turn_drew (fun _ => False) w3) (fun _ h => h.elim)
  clear h3 e3 T3 hM ht3 A3 ha3
  generalize World.drew w3 = wd at *
  refine anyT_one 6 _ _ _ _ (by kernel_rfl) ?_
  simp only [List.filterMap_cons, List.filterMap_nil, List.getElem?_toArray, List.getElem?_cons_succ, List.getElem?_cons_zero]
  refine wpl_runs rfl (.slice (some ⟨wd.heap.size, 0, none⟩) 1 1) (wd.alloc (.cells (cellsOf (me1 (m.E k)) 2) 82)) (by rw [me1_two]; go_simp) ?_
  have em : wd.heap.size = M := hMd
  have h1 := hd.alloc (.cells (cellsOf (me1 (m.E k)) 2) 82)
  have a1 := ad.alloc (.cells (cellsOf (me1 (m.E k)) 2) 82)
  have e1 := ed.alloc (.cells (cellsOf (me1 (m.E k)) 2) 82)
  have k1 := (has_new hMd 82 2 (me1 (m.E k))).cells
  have A1 := Ad.turn (turn_alloc (fun _ => False) wd (.cells (cellsOf (me1 (m.E k)) 2) 82)) (fun _ _ h => h)
  have T1 := Td.trans (turn_alloc (fun _ => False) wd (.cells (cellsOf (me1 (m.E k)) 2) 82)) (fun _ h => h.elim)
  rw [em]
  generalize wd.alloc (.cells (cellsOf (me1 (m.E k)) 2) 82) = w1 at *
  refine ⟨fun _ => ⟨h1, a1⟩, ?_⟩
  change anyT _ _ _ _ _ _ _ _ _ _
  try simp only [Act.put, List.setIfInBounds_toArray, List.set_cons_succ, List.set_cons_zero, List.getElem_toArray, List.getElem_cons_succ, List.getElem_cons_zero]
  refine anyT_one 7 _ _ _ _ (by kernel_rfl) ?_
  simp only [List.filterMap_cons, List.filterMap_nil, List.getElem?_toArray, List.getElem?_cons_succ, List.getElem?_cons_zero]
  refine wpl_app_room rfl (.tmp 26) (.tmp 28) 57 rfl 82 2 (by omega) undBE kBE g r m.cap rfl (meC (delF m.E k)) e1 _ 1 1 rfl (me1 (m.E k)) k1 (fun j _ => me1_one _ j) (r + 1) rfl hrcap ?_
  intro w2 e2 t2
  have h2 := h1.touch t2 (fun e => hgb e.symm)
  have hgN : g < N := hA.lt hN g (.inr (.inl hgp))
  have a2 := a1.touch t2 (by omega)
  refine ⟨fun _ => ⟨h2, a2⟩, ?_⟩
  change anyT _ _ _ _ _ _ _ _ _ _
  try simp only [Act.put, List.setIfInBounds_toArray, List.set_cons_succ, List.set_cons_zero, List.getElem_toArray, List.getElem_cons_succ, List.getElem_cons_zero]
  refine anyT_one 8 _ _ _ _ (by kernel_rfl) ?_
  simp only [List.filterMap_cons, List.filterMap_nil, List.getElem?_toArray, List.getElem?_cons_succ, List.getElem?_cons_zero]
  refine wpl_pure rfl (v := .pointer (some ⟨m.b, 0, none⟩)) (by intro w; first | rfl | (go_simp; first | done | with_reducible rfl)) ?_
  refine ⟨fun _ => ⟨h2, a2⟩, ?_⟩
  change anyT _ _ _ _ _ _ _ _ _ _
  try simp only [Act.put, List.setIfInBounds_toArray, List.set_cons_succ, List.set_cons_zero, List.getElem_toArray, List.getElem_cons_succ, List.getElem_cons_zero]
  refine anyT_one 9 _ _ _ _ (by kernel_rfl) ?_
  simp only [List.filterMap_cons, List.filterMap_nil, List.getElem?_toArray, List.getElem?_cons_succ, List.getElem?_cons_zero]
  refine wpl_pure rfl (v := .pointer (some ⟨m.b, 5, none⟩)) (by intro w; first | rfl | (go_simp; first | done | with_reducible rfl)) ?_
  refine ⟨fun _ => ⟨h2, a2⟩, ?_⟩
  change anyT _ _ _ _ _ _ _ _ _ _
  try simp only [Act.put, List.setIfInBounds_toArray, List.set_cons_succ, List.set_cons_zero, List.getElem_toArray, List.getElem_cons_succ, List.getElem_cons_zero]
  refine anyT_one 10 _ _ _ _ (by kernel_rfl) ?_
  simp only [List.filterMap_cons, List.filterMap_nil, List.getElem?_toArray, List.getElem?_cons_succ, List.getElem?_cons_zero]
  refine wpl_set rfl 57 (.tmp 31) (.tmp 29) rfl m.b 5 rfl (.slice (some ⟨g, 0, none⟩) (r + 1) m.cap) rfl szSlBE rfl rfl 59 6 _ h2 (by omega) ?_
  intro w4 t4 h4
  refine ⟨fun h => absurd h (by simp), ?_⟩
  refine anyT_of_any _ _ _ _ (by kernel_rfl) ?_
  change wpAny _ _ _ _ _ _ _ _
  refine wpAny_done (by kernel_rfl) ?_ _
  try simp only [Act.put, List.setIfInBounds_toArray, List.set_cons_succ, List.set_cons_zero, List.getElem_toArray, List.getElem_cons_succ, List.getElem_cons_zero]
  have a4 := a2.touch t4 (by omega)
  have c1 : w4.cell? ⟨N, 1, none⟩ = some (.pointer (some ⟨(m.E k).c, 0, none⟩)) := a4.cell (by omega)
  have T14 : Turn (fun j => j = m.b ∨ j = g) w1 w4 := (t2.turn.mono (fun j hj => .inr hj)).trans t4.turn (fun j hj _ => .inl hj)
  have T4 : Turn (Top m) w w4 := T1.trans T14 (fun j hj _ => by rcases hj with rfl | rfl; exact .inl rfl; exact .inr hgp)
  have AU : MpAt w4 (m.use k) := by
    have hc : ∀ i, i < m.n → Has w4 (m.E i).c 78 1 (fun _ => .slice (some ⟨(m.E i).b, 0, none⟩) m.val m.val) := fun i hi => (hA.c i hi).turn T4 (fun h => h.elim (hA.cb i hi).1 (fun h => (hA.cp i hi _ h).1 rfl))
    have hv : ∀ i, i < m.n → Has w4 (m.E i).b 5 m.val (fun j => By ((m.E i).v j)) := fun i hi => (hA.v i hi).turn T4 (fun h => h.elim (hA.cb i hi).2 (fun h => (hA.cp i hi _ h).2 rfl))
    have hx : ∀ i, i < m.n → ∃ x, x < m.n ∧ (m.use k).E i = m.E x ∧ (i = m.n - 1 → x = k) ∧ (i ≠ m.n - 1 → x = if i < k then i else i + 1) := fun i hi => by
      by_cases hin : i = m.n - 1
      · exact ⟨k, hk, by simp only [Mp.use, setF, if_pos hin], fun _ => rfl, fun h => absurd hin h⟩
      · by_cases hik : i < k
        · exact ⟨i, hi, by simp only [Mp.use, setF, delF, if_neg hin, if_pos hik], fun h => absurd h hin, fun _ => by rw [if_pos hik]⟩
        · exact ⟨i + 1, by omega, by simp only [Mp.use, setF, delF, if_neg hin, if_neg hik], fun h => absurd h hin, fun _ => by rw [if_neg hik]⟩
    refine ⟨h4.congr (fun j hj => ?_), ?_, fun i hi => ?_, fun i hi => ?_, fun i j hi hj hij => ?_⟩
    · by_cases h5 : j = 5
      · subst h5
        simp only [upd, mpC, Mp.use, if_pos rfl, Hg.out, hr]
        rfl
      · unfold upd
        rw [if_neg h5]
        unfold mpC
        by_cases h4 : j < 4
        · rw [if_pos h4, if_pos h4]; rfl
        · rw [if_neg h4, if_neg h4, if_pos (by omega), if_pos (by omega)]; rfl
    · have h := (e2.touch t4 (fun g' hg' => by obtain rfl : g = g' := by simpa [blk] using hg'
                                               exact hgb)).congr (fun j hj => meC_set (delF m.E k) r (m.E k) _ (fun j _ => rfl) j hj)
      show OwnK w4 _ 2 m.p m.n m.cap (meC (setF (delF m.E k) (m.n - 1) (m.E k)))
      rw [Hg.out, show m.n - 1 = r by omega, hr]
      exact h
    · obtain ⟨x, hx1, hx2, _⟩ := hx i hi
      rw [hx2]
      exact hc x hx1
    · obtain ⟨x, hx1, hx2, _⟩ := hx i hi
      rw [hx2]
      exact hv x hx1
    · have hi : i < m.n := hi
      have hj : j < m.n := hj
      obtain ⟨x, hx1, hx2, hx3, hx4⟩ := hx i hi
      obtain ⟨y, hy1, hy2, hy3, hy4⟩ := hx j hj
      rw [hx2, hy2]
      refine hA.inj x y hx1 hy1 (fun e => ?_)
      by_cases hin : i = m.n - 1
      · have a := hx3 hin
        have b := hy4 (by omega)
        split at b <;> omega
      · have a := hx4 hin
        by_cases hjn : j = m.n - 1
        · have b := hy3 hjn
          split at a <;> omega
        · have b := hy4 hjn
          split at a <;> split at b <;> omega
  clear h1 h2 a1 a2 a4 h4 e1 e2 k1 t2 t4 hd ad ed Ad Td T1 T14 A1 A2 hr hMd em
  go_wp2
  go_ret
  exact ⟨rfl, T4, AU⟩
end Go.Proofs.YtjdclgnlnehjlaaDoor
