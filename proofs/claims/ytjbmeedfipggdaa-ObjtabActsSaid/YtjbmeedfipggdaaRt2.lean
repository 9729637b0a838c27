/- The document's table of layer 7: DocHold, DocDrop. -/
import Derived.Test.YtjbmeedfipggdaaRt1
namespace Go.Proofs.Ytjbmeedfipggdaa
open Go Go.RowKit
section
variable (b : Nat) (size last : Int) (p : Option Addr) (n cap : Nat) (E : Nat → En Int) (z : Int)
set_option maxRecDepth 100000 in
theorem RHold_no (hl : ∀ i, i < n → (E i).id ≠ z) (hn : n ≤ 1000) (w : World) (hO : Rt w b size last p n cap E) :
    Calls Try.prog 19 #[.pointer (some ⟨b, 0, none⟩), .int .i64 z] w fun e w' => e = .returned (.int .i64 2) ∧ w = w' := by
  go_enter Try.func19, Try.ntmps19
  go_wp2_with (first
    | (go_at_call 21; refine (RFind_no b size last p n cap E z hl hn _ hO).mono ?_; rintro e w1 ⟨rfl, rfl⟩; clear hl)
    | fail)
  go_ret
  exact ⟨rfl, rfl⟩
set_option maxRecDepth 100000 in
theorem RHold_most (k : Nat) (hk : k < n) (hz : (E k).id = z) (hl : ∀ i, i < k → (E i).id ≠ z) (hh : (E k).x = 1000) (hn : n ≤ 1000) (w : World) (hO : Rt w b size last p n cap E) :
    Calls Try.prog 19 #[.pointer (some ⟨b, 0, none⟩), .int .i64 z] w fun e w' => e = .returned (.int .i64 28) ∧ w = w' := by
  obtain ⟨g, rfl⟩ := hO.ptr (by omega)
  have hlt : (k : Int) < (n : Int) := by omega
  have k0 : ¬ ((k : Int) < 0) := by omega
  have d2 := hO.c2
  have dk : w.cell? ⟨g, k * 3 + 2, none⟩ = some (.int .i64 1000) := (hO.at k hk 2 (by omega)).trans (by show some (Value.int .i64 (E k).x) = _; rw [hh])
  have Hz := hid hz
  have Hl := hid hl
  clear hh hz hl
  go_enter Try.func19, Try.ntmps19
  go_wp2_with (first
    | (go_at_call 21; refine (RFind_at b size last _ n cap E z k hk Hz.out Hl.out hn _ hO).mono ?_; rintro e w1 ⟨rfl, rfl⟩)
    | fail)
  go_ret
  exact ⟨rfl, rfl⟩
set_option maxRecDepth 100000 in
theorem RHold_ok (k : Nat) (hk : k < n) (hz : (E k).id = z) (hl : ∀ i, i < k → (E i).id ≠ z) (h0 : 0 ≤ (E k).x) (h1 : (E k).x < 1000) (hn : n ≤ 1000) (w : World) (hO : Rt w b size last p n cap E) :
    Calls Try.prog 19 #[.pointer (some ⟨b, 0, none⟩), .int .i64 z] w fun e w' => e = .returned (.int .i64 0) ∧ Turn (fun j => blk p = some j) w w' ∧ Rt w' b size last p n cap (setE E k ⟨(E k).id, (E k).held, (E k).x + 1⟩) := by
  obtain ⟨g, rfl⟩ := hO.ptr (by omega)
  have hgb := hO.ne g rfl
  have hlt : (k : Int) < (n : Int) := by omega
  have k0 : ¬ ((k : Int) < 0) := by omega
  have d2 := hO.c2
  obtain ⟨h, hh⟩ : ∃ h, h = (E k).x := ⟨_, rfl⟩
  have dk : w.cell? ⟨g, k * 3 + 2, none⟩ = some (.int .i64 h) := (hO.at k hk 2 (by omega)).trans (by show some (Value.int .i64 (E k).x) = _; rw [hh])
  rw [← hh] at h0 h1
  have hle : ¬ ((1000 : Int) ≤ h) := by omega
  have Hh := hid hh
  have Hz := hid hz
  have Hl := hid hl
  clear hh hz hl
  go_enter Try.func19, Try.ntmps19
  go_wp2_with (first
    | (go_at_call 21; refine (RFind_at b size last _ n cap E z k hk Hz.out Hl.out hn _ hO).mono ?_; rintro e w1 ⟨rfl, rfl⟩)
    | (refine wpl_setK rfl 3 (.tmp 30) (.tmp 28) rfl g (k * 3 + 2) rfl (.int .i64 (h + 1)) rfl intSzR rfl rfl 45 3 n cap _ hO.e (by omega) ?_; intro w2 ht2 o2)
    | fail)
  go_ret
  refine ⟨rfl, ht2.turn.mono (fun j hj => by subst hj; rfl), hO.h.touch ht2 (fun e => hgb e.symm), o2.congr (fun j _ => ?_), hO.ne⟩
  rw [Hh.out]
  exact upd_x E k _ j
set_option maxRecDepth 100000 in
theorem RDrop_no (hl : ∀ i, i < n → (E i).id ≠ z) (hn : n ≤ 1000) (w : World) (hO : Rt w b size last p n cap E) :
    Calls Try.prog 20 #[.pointer (some ⟨b, 0, none⟩), .int .i64 z] w fun e w' => e = .returned (.tuple #[.bool false, .int .i64 2]) ∧ w = w' := by
  go_enter Try.func20, Try.ntmps20
  go_wp2_with (first
    | (go_at_call 21; refine (RFind_no b size last p n cap E z hl hn _ hO).mono ?_; rintro e w1 ⟨rfl, rfl⟩; clear hl)
    | fail)
  go_ret2
  exact ⟨rfl, rfl⟩
set_option maxRecDepth 100000 in
theorem RDrop_more (k : Nat) (hk : k < n) (hz : (E k).id = z) (hl : ∀ i, i < k → (E i).id ≠ z) (h0 : 2 ≤ (E k).x) (h1 : (E k).x ≤ 1000) (hn : n ≤ 1000) (w : World) (hO : Rt w b size last p n cap E) :
    Calls Try.prog 20 #[.pointer (some ⟨b, 0, none⟩), .int .i64 z] w fun e w' => e = .returned (.tuple #[.bool false, .int .i64 0]) ∧ Turn (fun j => blk p = some j) w w' ∧ Rt w' b size last p n cap (setE E k ⟨(E k).id, (E k).held, (E k).x - 1⟩) := by
  obtain ⟨g, rfl⟩ := hO.ptr (by omega)
  have hgb := hO.ne g rfl
  have hlt : (k : Int) < (n : Int) := by omega
  have k0 : ¬ ((k : Int) < 0) := by omega
  have d2 := hO.c2
  obtain ⟨h, hh⟩ : ∃ h, h = (E k).x := ⟨_, rfl⟩
  have dk : w.cell? ⟨g, k * 3 + 2, none⟩ = some (.int .i64 h) := (hO.at k hk 2 (by omega)).trans (by show some (Value.int .i64 (E k).x) = _; rw [hh])
  rw [← hh] at h0 h1
  have hpos : 0 < h - 1 := by omega
  have Hh := hid hh
  have Hz := hid hz
  have Hl := hid hl
  clear hh hz hl
  go_enter Try.func20, Try.ntmps20
  go_wp2_with (first
    | (go_at_call 21; refine (RFind_at b size last _ n cap E z k hk Hz.out Hl.out hn _ hO).mono ?_; rintro e w1 ⟨rfl, rfl⟩)
    | (refine wpl_setK rfl 3 (.tmp 22) (.tmp 20) rfl g (k * 3 + 2) rfl (.int .i64 (h - 1)) rfl intSzR rfl rfl 45 3 n cap _ hO.e (by omega) ?_; intro w2 ht2 o2; clear d2 dk; have O2 : Rt w2 b size last (some ⟨g, 0, none⟩) n cap (setE E k ⟨(E k).id, (E k).held, h - 1⟩) := ⟨hO.h.touch ht2 (fun e => hgb e.symm), o2.congr (fun j _ => upd_x E k _ j), hO.ne⟩; have d2 := O2.c2; have dk : w2.cell? ⟨g, k * 3 + 2, none⟩ = some (.int .i64 (h - 1)) := (O2.at k hk 2 (by omega)).trans (by show some (Value.int .i64 (setE E k ⟨(E k).id, (E k).held, h - 1⟩ k).x) = _; unfold setE; rw [if_pos rfl]))
    | fail)
  go_ret2
  rw [← Hh.out]
  exact ⟨rfl, ht2.turn.mono (fun j hj => by subst hj; rfl), O2⟩
theorem own_emptyK (w : World) (E s : Nat) (f : Nat → Value) (M : Nat) (hM : Sz w M) : OwnK (w.alloc (.cells #[] E)) E s (some ⟨M, 0, none⟩) 0 0 f := by
  have e : w.heap.size = M := hM
  subst e
  exact .inr ⟨_, #[], rfl, heap_alloc_new w _, Nat.le_refl _, by simp, fun j hj => by omega⟩
set_option maxRecDepth 100000 in
set_option maxHeartbeats 1000000 in
theorem RDrop_last (k : Nat) (hk : k < n) (hz : (E k).id = z) (hl : ∀ i, i < k → (E i).id ≠ z) (h1 : (E k).x = 1) (hn : n ≤ 1000) (w : World) (N : Nat) (hN : Sz w N) (hO : Rt w b size last p n cap E) :
    Calls Try.prog 20 #[.pointer (some ⟨b, 0, none⟩), .int .i64 z] w fun e w' => ∃ p' cap', e = .returned (.tuple #[.bool true, .int .i64 0]) ∧ Turn (fun j => j = b ∨ blk p = some j) w w' ∧ (∀ g, blk p' = some g → N ≤ g) ∧ Rt w' b size last p' (n - 1) cap' (delE E k) := by
  obtain ⟨g, rfl⟩ := hO.ptr (by omega)
  have hgb := hO.ne g rfl
  have hbN : b < N := hO.h.ltN hN
  have hcap := hO.e.le
  have hlt : (k : Int) < (n : Int) := by omega
  have k0 : ¬ ((k : Int) < 0) := by omega
  have kk0 : (0 : Int) ≤ (k : Int) := by omega
  have kk1 : (k : Int) ≤ 1000 := by omega
  have d2 := hO.c2
  have dk : w.cell? ⟨g, k * 3 + 2, none⟩ = some (.int .i64 1) := (hO.at k hk 2 (by omega)).trans (by show some (Value.int .i64 (E k).x) = _; rw [h1])
  have Hz := hid hz
  have Hl := hid hl
  clear h1 hz hl
  have s2 : ∀ w, (Instr.sliceAt 38 (.slice (some ⟨g, 0, none⟩) n cap) none (some (.int .i64 (k : Int))) none).run Try.prog w = .ok (.slice (some ⟨g, 0, none⟩) k cap) w := fun w =>
    run_cut_front 38 45 3 undOne szOne g n cap k (by omega) w
  have s3 : ∀ w, (Instr.sliceAt 38 (.slice (some ⟨g, 0, none⟩) n cap) (some (.int .i64 ((k : Int) + 1))) none none).run Try.prog w = .ok (.slice (if cap = k + 1 then some ⟨g, 0, none⟩ else (some (⟨g, 0, none⟩ : Addr)).map (·.add ((k + 1) * 3))) (n - (k + 1)) (cap - (k + 1))) w := fun w =>
    run_cut_tail 38 45 3 undOne szOne (some ⟨g, 0, none⟩) n cap (k + 1) (by omega) w
  obtain ⟨q, hq⟩ : ∃ q, q = (if cap = k + 1 then some ⟨g, 0, none⟩ else (some (⟨g, 0, none⟩ : Addr)).map (·.add ((k + 1) * 3))) := ⟨_, rfl⟩
  rw [← hq] at s3
  have Hc : ∀ (w' : World) (F : Nat → En Int), OwnK w' 45 3 (some ⟨g, 0, none⟩) n cap (enC (Value.int .i64) F) → Cells w' q ((n - (k + 1)) * 3) (fun j => enC (Value.int .i64) F ((k + 1) * 3 + j)) := fun w' F hO h0 => by
    obtain ⟨g', hg, hc⟩ := hO.cell (by omega)
    obtain rfl : g = g' := by injection hg with hg; injection hg
    refine ⟨⟨g, (k + 1) * 3, none⟩, ?_, fun j hj => ?_⟩
    · rw [hq, if_neg (by omega)]
      simp [Addr.add_mid]
    · have := hc ((k + 1) * 3 + j) (by omega)
      rw [Nat.zero_add] at this
      rw [Addr.add_mid, this]
  have Hd : ∀ (w' : World) (F : Nat → En Int), OwnK w' 45 3 (some ⟨g, 0, none⟩) n cap (enC (Value.int .i64) F) → Cells w' (some ⟨g, 0, none⟩) (k * 3) (enC (Value.int .i64) F) := fun w' F hO h0 => by
    obtain ⟨g', hg, hc⟩ := hO.cell (by omega)
    obtain rfl : g = g' := by injection hg with hg; injection hg
    exact ⟨⟨g, 0, none⟩, rfl, fun j hj => by rw [Addr.add_mid]; exact hc j (by omega)⟩
  have HC := hid Hc
  have HD := hid Hd
  clear hq Hc Hd
  obtain ⟨m, hm⟩ : ∃ m, m = n - (k + 1) := ⟨_, rfl⟩
  have Hkm := hid (show n - 1 = k + m by omega)
  have hmk : k + m ≤ 1000 := by omega
  rw [← hm] at s3 HC
  have Hm := hid hm
  clear hm
  go_enter Try.func20, Try.ntmps20
  go_wp2_with (first
    | (go_at_call 21; refine (RFind_at b size last _ n cap E z k hk Hz.out Hl.out hn _ hO).mono ?_; rintro e w1 ⟨rfl, rfl⟩)
    | (refine wpl_setK rfl 3 (.tmp 22) (.tmp 20) rfl g (k * 3 + 2) rfl (.int .i64 0) rfl intSzR rfl rfl 45 3 n cap _ hO.e (by omega) ?_; intro w2 ht2 o2; clear d2 dk; have O2 : Rt w2 b size last (some ⟨g, 0, none⟩) n cap (setE E k ⟨(E k).id, (E k).held, 0⟩) := ⟨hO.h.touch ht2 (fun e => hgb e.symm), o2.congr (fun j _ => upd_x E k _ j), hO.ne⟩; have d2 := O2.c2; have dk : w2.cell? ⟨g, k * 3 + 2, none⟩ = some (.int .i64 0) := (O2.at k hk 2 (by omega)).trans (by show some (Value.int .i64 (setE E k ⟨(E k).id, (E k).held, 0⟩ k).x) = _; unfold setE; rw [if_pos rfl]))
    | fail)
  have T2 : Turn (fun j => j = b ∨ blk (some (⟨g, 0, none⟩ : Addr)) = some j) w w2 := ht2.turn.mono (fun j hj => .inr (by subst hj; rfl))
  have HF := hid (show ∀ i, i < n - 1 → delE (setE E k ⟨(E k).id, (E k).held, 0⟩) k i = delE E k i from fun i hi => by
    unfold delE setE
    by_cases h : i < k
    · rw [if_pos h, if_pos h, if_neg (by omega)]
    · rw [if_neg h, if_neg h, if_neg (by omega)])
  generalize setE E k ⟨(E k).id, (E k).held, 0⟩ = F at O2 HF
  have hN2 : Sz w2 N := ht2.sz hN
  have hO2 := hid hO.ne
  clear dk d2 o2 ht2 hO Hz Hl
  have h6 := O2.h
  have hlA : ∀ w', Has w' b 40 3 (obC size last (some ⟨g, 0, none⟩) n cap) → (Instr.loadAt 38 (.pointer (some ⟨b, 2, none⟩))).run Try.prog w' = .ok (.slice (some ⟨g, 0, none⟩) n cap) w' := fun w' h => by
    have c : w'.cell? ⟨b, 2, none⟩ = some (.slice (some ⟨g, 0, none⟩) n cap) := h.cell (by omega)
    go_simp
  refine wp_region_any (by kernel_rfl) ?_
  change wpAny _ _ _ _ _ _ _ (World.drew _)
  refine anyT_any (s := 19) (I := fun w' => Has w' b 40 3 (obC size last (some ⟨g, 0, none⟩) n cap)) _ _ _ _ ?_
  have hne := inn_ne (I := fun w' => Has w' b 40 3 (obC size last (some ⟨g, 0, none⟩) n cap)) h6
  refine anyT_reads [0, 2, 3, 4, 5, 6, 7, 9, 10, 11, 12, 13, 14, 15] _ _ _ h6.drew (by kernel_rfl) (fun _ _ _ d _ h => by cases d <;> exact h) ?_
  simp only [pickO, List.map_cons, List.map_nil, List.getElem?_toArray, List.getElem?_cons_succ, List.getElem?_cons_zero, Option.getD_some, Act.put, List.setIfInBounds_toArray, List.set_cons_succ, List.set_cons_zero]
  repeat first
    | (refine inn_val (fun x => ld_one 38 (.tmp 36) rfl ⟨b, 2, none⟩ rfl _ (hlA x.w' x.h)) (by rfl) ?_; simp only [Act.put, List.setIfInBounds_toArray, List.set_cons_succ, List.set_cons_zero])
    | (refine inn_val (fun x => ld_one 38 (.tmp 43) rfl ⟨b, 2, none⟩ rfl _ (hlA x.w' x.h)) (by rfl) ?_; simp only [Act.put, List.setIfInBounds_toArray, List.set_cons_succ, List.set_cons_zero])
    | go_big_quiet_step (fail)
  refine wpQuiet_nil ?_
  clear hne hlA s2 s3
  have hMd : Sz w2.drew N := hN2
  have hd := h6.drew
  have ed := O2.e.drew
  have Td : Turn (fun j => j = b ∨ blk (some (⟨g, 0, none⟩ : Addr)) = some j) w w2.drew := T2.trans (turn_drew (fun _ => False) w2) (fun _ h => h.elim)
  clear h6 T2 hN2 O2
  generalize World.drew w2 = wd at *
  have gN : g < N := by have := ed.lt g rfl; have e : wd.heap.size = N := hMd; omega
  refine anyT_one 1 _ _ _ _ (by kernel_rfl) ?_
  simp only [List.filterMap_cons, List.filterMap_nil, List.getElem?_toArray, List.getElem?_cons_succ, List.getElem?_cons_zero]
  refine wpl_runs rfl (.slice (some ⟨wd.heap.size, 0, none⟩) 0 0) (wd.alloc (.cells #[] 45)) (by go_simp) ?_
  have em : wd.heap.size = N := hMd
  have h1 := hd.alloc (.cells #[] 45)
  have e1 := ed.alloc (.cells #[] 45)
  have v1 := own_emptyK wd 45 3 (enC (Value.int .i64) F) N hMd
  have z1 := sz_alloc hMd (.cells #[] 45)
  have T1 := Td.trans (turn_alloc (fun _ => False) wd (.cells #[] 45)) (fun _ h => h.elim)
  rw [em]
  generalize wd.alloc (.cells #[] 45) = w1 at *
  refine ⟨fun _ => h1, ?_⟩
  change anyT _ _ _ _ _ _ _ _ _ _
  try simp only [Act.put, List.setIfInBounds_toArray, List.set_cons_succ, List.set_cons_zero, List.getElem_toArray, List.getElem_cons_succ, List.getElem_cons_zero]
  refine anyT_one 8 _ _ _ _ (by kernel_rfl) ?_
  simp only [List.filterMap_cons, List.filterMap_nil, List.getElem?_toArray, List.getElem?_cons_succ, List.getElem?_cons_zero]
  refine wpl_appK rfl (.tmp 33) (.tmp 39) 38 rfl 45 3 (by omega) undOne kOne (some ⟨N, 0, none⟩) 0 0 rfl (enC (Value.int .i64) F) v1 _ k cap rfl (enC (Value.int .i64) F) (HD.out _ F e1) (fun j _ => enC_one (fun _ => rfl) _ _) (by omega) ?_
  intro p2 cap2 w3 v2 g2 q2 n2
  rw [Nat.zero_add] at v2
  have h2 := h1.grew g2 (fun e => by simp [blk] at e; omega)
  have e2 := e1.grew g2 (.inr (fun e => by simp [blk] at e; omega))
  have e1s : w1.heap.size = N + 1 := z1
  have k2 : ∀ g', blk p2 = some g' → N ≤ g' := ge_step (a := blk (some (⟨N, 0, none⟩ : Addr))) (fun g' hg' => by simp [blk] at hg'; omega) (by rw [e1s] at q2; exact q2) (by omega)
  have T3 : Turn (fun j => j = b ∨ blk (some (⟨g, 0, none⟩ : Addr)) = some j) w w3 := T1.trans g2.turn (fun j hj hlt => by simp [blk] at hj; have e : w.heap.size = N := hN; omega)
  rw [Nat.zero_add]
  refine ⟨fun _ => h2, ?_⟩
  change anyT _ _ _ _ _ _ _ _ _ _
  try simp only [Act.put, List.setIfInBounds_toArray, List.set_cons_succ, List.set_cons_zero, List.getElem_toArray, List.getElem_cons_succ, List.getElem_cons_zero]
  refine anyT_one 16 _ _ _ _ (by kernel_rfl) ?_
  simp only [List.filterMap_cons, List.filterMap_nil, List.getElem?_toArray, List.getElem?_cons_succ, List.getElem?_cons_zero]
  refine wpl_appK rfl (.tmp 40) (.tmp 47) 38 rfl 45 3 (by omega) undOne kOne p2 k cap2 rfl _ v2 q m (cap - (k + 1)) rfl (fun j => enC (Value.int .i64) F ((k + 1) * 3 + j)) (HC.out _ F e2) (fun j _ => enC_one (fun _ => rfl) _ _) (by omega) ?_
  intro p4 cap4 w4 v4 g4 q4 n4
  have h4 := h2.grew g4 (fun e => by have := k2 b e.symm; omega)
  have lw3 : N ≤ w3.heap.size := by have := g2.size; omega
  have k4 : ∀ g', blk p4 = some g' → N ≤ g' := fun g' hg' => by
    rcases q4 with e | e
    · exact k2 g' (by rw [← e]; exact hg')
    · rw [e, Option.some.injEq] at hg'; omega
  have T4 : Turn (fun j => j = b ∨ blk (some (⟨g, 0, none⟩ : Addr)) = some j) w w4 := T3.trans g4.turn (fun j hj hlt => by have := k2 j hj; have e : w.heap.size = N := hN; omega)
  refine ⟨fun _ => h4, ?_⟩
  change anyT _ _ _ _ _ _ _ _ _ _
  try simp only [Act.put, List.setIfInBounds_toArray, List.set_cons_succ, List.set_cons_zero, List.getElem_toArray, List.getElem_cons_succ, List.getElem_cons_zero]
  refine anyT_one 17 _ _ _ _ (by kernel_rfl) ?_
  simp only [List.filterMap_cons, List.filterMap_nil, List.getElem?_toArray, List.getElem?_cons_succ, List.getElem?_cons_zero]
  refine wpl_pure rfl (v := .pointer (some ⟨b, 0, none⟩)) (by intro w; first | rfl | (go_simp; first | done | with_reducible rfl)) ?_
  refine ⟨fun _ => h4, ?_⟩
  change anyT _ _ _ _ _ _ _ _ _ _
  try simp only [Act.put, List.setIfInBounds_toArray, List.set_cons_succ, List.set_cons_zero, List.getElem_toArray, List.getElem_cons_succ, List.getElem_cons_zero]
  refine anyT_one 18 _ _ _ _ (by kernel_rfl) ?_
  simp only [List.filterMap_cons, List.filterMap_nil, List.getElem?_toArray, List.getElem?_cons_succ, List.getElem?_cons_zero]
  refine wpl_pure rfl (v := .pointer (some ⟨b, 2, none⟩)) (by intro w; first | rfl | (go_simp; first | done | with_reducible rfl)) ?_
  refine ⟨fun _ => h4, ?_⟩
  change anyT _ _ _ _ _ _ _ _ _ _
  try simp only [Act.put, List.setIfInBounds_toArray, List.set_cons_succ, List.set_cons_zero, List.getElem_toArray, List.getElem_cons_succ, List.getElem_cons_zero]
  refine anyT_one 19 _ _ _ _ (by kernel_rfl) ?_
  simp only [List.filterMap_cons, List.filterMap_nil, List.getElem?_toArray, List.getElem?_cons_succ, List.getElem?_cons_zero]
  refine wpl_set rfl 38 (.tmp 50) (.tmp 48) rfl b 2 rfl (.slice p4 (k + m) cap4) rfl szOneSl rfl rfl 40 3 _ h4 (by omega) ?_
  intro w5 t5 h5
  refine ⟨fun h => absurd h (by simp), ?_⟩
  refine anyT_of_any _ _ _ _ (by kernel_rfl) ?_
  change wpAny _ _ _ _ _ _ _ _
  refine wpAny_done (by kernel_rfl) ?_ _
  try simp only [Act.put, List.setIfInBounds_toArray, List.set_cons_succ, List.set_cons_zero, List.getElem_toArray, List.getElem_cons_succ, List.getElem_cons_zero]
  have hnb : ∀ g', blk p4 = some g' → g' ≠ b := fun g' hg' => by have := k4 g' hg'; omega
  have h5' : Has w5 b 40 3 (obC size last p4 (k + m) cap4) := h5.congr (fun j hj => by
    unfold upd obC
    rcases (show j = 0 ∨ j = 1 ∨ j = 2 by omega) with rfl | rfl | rfl <;> rfl)
  have e5 : OwnK w5 45 3 p4 (k + m) cap4 (enC (Value.int .i64) (delE E k)) := (v4.touch t5 hnb).congr (fun j hj => by
    have hj' : j < (n - 1) * 3 := by rw [Hkm.out]; exact hj
    have e : cat (cat (enC (Value.int .i64) F) (0 * 3) (enC (Value.int .i64) F)) (k * 3) (fun j => enC (Value.int .i64) F ((k + 1) * 3 + j)) j = cat (enC (Value.int .i64) F) (k * 3) (fun j => enC (Value.int .i64) F ((k + 1) * 3 + j)) j := by
      unfold cat
      by_cases h : j < k * 3
      · rw [if_pos h, if_pos h, if_neg (by omega)]; simp
      · rw [if_neg h, if_neg h]
    rw [e, cat_del _ F k n hk j hj']
    exact enC_congr (n := n - 1) HF.out j hj')
  have T5 : Turn (fun j => j = b ∨ blk (some (⟨g, 0, none⟩ : Addr)) = some j) w w5 := T4.trans t5.turn (fun j hj _ => .inl hj)
  clear Td T1 T3 T4 g2 g4 v1 v2 v4 h1 h2 h4 h5 t5 hd ed e1 e2 q2 q4 n2 n4 HC HD
  go_wp2_with fail
  go_ret2
  exact ⟨p4, cap4, rfl, T5, k4, by rw [Hkm.out]; exact h5', by rw [Hkm.out]; exact e5, hnb⟩
end
end Go.Proofs.Ytjbmeedfipggdaa
