/- The law LamportBents: its walk. -/
import Derived.Test.YtneffelpdaigoaaDoorLaw13
namespace Go.Proofs.YtneffelpdaigoaaDoor
open Go Go.RowKit Sha
/-- A turn's cells: a place, a byte, another sum, whether it is that. -/
def bentC (z : Int) (y : BitVec 8) (t : Nat → BitVec 8) (els : Bool) : Nat → Value := fun j => if j = 0 then .int .i64 z else if j = 1 then By y else if j < 34 then By (t (j - 2)) else .bool els
theorem inf50 : (Tryd.prog.info? 50).map (·.size) = some 35 := by kernel_rfl
/-- A signature one of whose bytes is turned. -/
def bentS (sig : Nat → BitVec 8) (i : Nat) (y : BitVec 8) : Nat → BitVec 8 := fun j => if j = i then sig j ^^^ y else sig j
theorem Own.free {w : World} {E : TypeId} {g n cap : Nat} {f : Nat → Value} (h : Own w E (some ⟨g, 0, none⟩) n cap f) (k : Nat) : w.frozen? ⟨g, k, none⟩ = false := by
  rcases h with ⟨e, _⟩ | ⟨b, C, e, hg, _⟩
  · cases e
  · simp only [Option.some.injEq, Addr.mk.injEq, and_true] at e
    subst e
    simp [World.frozen?, hg]
theorem bent_bytes {w : World} {g cap : Nat} {sig : Nat → BitVec 8} (h : Own w 5 (some ⟨g, 0, none⟩) 2048 cap (fun j => By (sig j))) (i : Nat) (hi : i < 2048) (y : BitVec 8) :
    Bytes (w.setCell ⟨g, i, none⟩ (.int .u8 (bits .xor .u8 (v8 (sig i)) (v8 y)))) (some ⟨g, 0, none⟩) 2048 (bentS sig i y) := fun _ => ⟨g, 0, rfl, fun j hj => by
  rw [Nat.zero_add]
  unfold bentS
  by_cases e : j = i
  · subst e
    rw [if_pos rfl, World.cell?_setCell_same' w _ _ (by rw [h.cell' j hj]; rfl), xor_v8]; rfl
  · have hne : (⟨g, i, none⟩ : Addr) ≠ ⟨g, j, none⟩ := fun h => e (by injection h with _ h2; exact h2.symm)
    rw [if_neg e]
    refine Eq.trans ?_ (h.cell' j hj)
    apply World.cell?_setCell_other
    exact hne⟩
theorem Bytes.drew {w : World} {p : Option Addr} {n : Nat} {D : Nat → BitVec 8} (h : Bytes w p n D) : Bytes w.drew p n D := h
set_option maxRecDepth 100000 in
set_option maxHeartbeats 1000000 in
theorem law_bents (p : Option Addr) (n cap : Nat) (D s : Nat → BitVec 8) (z : Int) (y : BitVec 8) (t : Nat → BitVec 8) (els : Bool) (w : World) (N : Nat) (hN : Sz w N) (hT : Tabs w) (hcap : n ≤ cap) (hD : Bytes w p n D) :
    Calls Tryd.prog 9 #[.slice p n cap, .agg (cellsOf (fun j => By (s j)) 32), .agg (cellsOf (bentC z y t els) 35)] w fun e w' => e = .returned (.bool true) ∧ Below N w w' := by
  have hTN := hT.ltN hN
  obtain ⟨c, hc⟩ : ∃ c, c = min n 20 := ⟨_, rfl⟩
  have Hc := hid hc
  have hc1 : c ≤ n := by omega
  have hc2 : c ≤ 20 := by omega
  clear hc
  have hsl : ∀ w, (Instr.sliceAt 22 (.slice p n cap) none (some (.int .i64 (c : Int))) none).run Tryd.prog w = .ok (.slice p c cap) w := run_cut_head 22 5 und22 inf5 p n cap c (by omega)
  have hDc : Bytes w p c D := fun h0 => by
    obtain ⟨bb, off, e, h⟩ := hD (by omega)
    exact ⟨bb, off, e, fun j hj => h j (by omega)⟩
  go_enter Tryd.func9, Tryd.ntmps9
  go_wp2_with (first
    | (refine wpl_box rfl 23 (.tmp 1) rfl 32 _ rfl N hN ?_; intro w1 hN1 hb1 h1)
    | (refine wpl_box rfl 50 (.tmp 2) rfl 35 _ rfl (N + 1) hN1 ?_; intro w6 hM6 hb6 h6)
    | (refine wpl_min rfl (.tmp 11) (.const (.int .i64 20)) 3 rfl n 20 c rfl rfl Hc ?_)
    | fail)
  have h16 := h1.below hb6 (by omega)
  have bN6 := hb1.trans (hb6.mono (by omega))
  have hB6 := hDc.below hN bN6
  have hT6 := hT.below bN6 hTN
  have hle : c ≤ cap := by omega
  have I6 : Below (N + 2) w6 w6 := Below.refl _ _
  have hT0 := hT
  clear hb6 h1 hb1 hsl hDc hT
  try simp only [Act.put, List.setIfInBounds_toArray, List.set_cons_succ, List.set_cons_zero, List.getElem_toArray, List.getElem_cons_succ, List.getElem_cons_zero]
  refine wp_mid (fun a (x : Nat × Option Addr × Nat) => (((((((a.put (some 14) (.slice p c cap)).put (some 15) (.agg (cellsOf (fun j => By (keyD c D j)) 32))).put (some 16) (.slice p c cap)).put (some 17) (.agg (cellsOf (fun j => By (s j)) 32))).put (some 18) (.slice x.2.1 2048 x.2.2)).put (some 7) (.pointer (some ⟨x.1, 0, none⟩))).put (some 8) (.slice x.2.1 2048 x.2.2)))
    (fun x w' => Has w' x.1 23 32 (fun j => By (keyD c D j)) ∧ Own w' 5 x.2.1 2048 x.2.2 (fun j => By (sigD c D s j)) ∧ Below (N + 2) w6 w' ∧ N + 2 ≤ x.1 ∧ (∀ g, blk x.2.1 = some g → N + 2 ≤ g ∧ g ≠ x.1)) ?_ ?_
  · refine wp_region_inn (fun w' => Below (N + 2) w6 w') I6.drew (by kernel_rfl) ?_
    have hne := inn_ne (I := fun w' => Below (N + 2) w6 w') I6
    refine anyI_reads [0, 2, 3] _ _ _ I6.drew (by kernel_rfl) (fun _ _ _ d _ h => by obtain ⟨h, _⟩ := h; cases h) ?_
    simp only [pickO, List.map_cons, List.map_nil, List.getElem?_toArray, List.getElem?_cons_succ, List.getElem?_cons_zero, Option.getD_some, Act.put, List.setIfInBounds_toArray, List.set_cons_succ, List.set_cons_zero]
    repeat first
      | (refine inn_val (fun x => run_ld 23 (.tmp 4) rfl N rfl 23 32 _ (h16.below x.h (by omega)) _ und23 rfl inf23) (by rfl) ?_; simp only [Act.put, List.setIfInBounds_toArray, List.set_cons_succ, List.set_cons_zero])
      | go_big_quiet_step (fail)
    refine wpQuiet_nil ?_
    clear hne
    refine anyI_two 1 5 _ _ _ _ (by kernel_rfl) ?_ ?_
    · simp only [List.filterMap_cons, List.filterMap_nil, List.getElem?_toArray, List.getElem?_cons_succ, List.getElem?_cons_zero]
      go_wp2_with fail
      refine (Key_any p c cap D w6.drew (N + 2) (show Sz w6.drew (N + 2) from hM6) (hT6.below I6.drew (by have := hT6.ltN hM6; omega)) hle (by omega) (hB6.below hM6 I6.drew)).mono ?_
      rintro e x1 ⟨rfl, hb1⟩
      obtain ⟨X1, hX1⟩ := sz_some x1
      have lX1 := below_sz hb1 (show Sz w6.drew (N + 2) from hM6) hX1
      have b1 := I6.drew.trans (hb1.mono (Nat.le_refl (N + 2)))
      have le1 := Nat.le_trans (Nat.le_refl (N + 2)) lX1
      dsimp only
      go_step
      refine ⟨b1, ?_⟩
      change anyI _ _ _ _ _ _ _ _ _
      try simp only [Act.put, List.setIfInBounds_toArray, List.set_cons_succ, List.set_cons_zero, List.getElem_toArray, List.getElem_cons_succ, List.getElem_cons_zero]
      refine anyI_two 4 5 _ _ _ _ (by kernel_rfl) ?_ ?_
      · simp only [List.filterMap_cons, List.filterMap_nil, List.getElem?_toArray, List.getElem?_cons_succ, List.getElem?_cons_zero]
        go_wp2_with fail
        refine (Sign_any p c cap D s x1 X1 hX1 (hT6.below b1 (by have := hT6.ltN hM6; omega)) hle (by omega) (hB6.below hM6 b1)).mono ?_
        rintro e x2 ⟨ps, cs, rfl, os2, hps, hb2⟩
        obtain ⟨X2, hX2⟩ := sz_some x2
        have lX2 := below_sz hb2 hX1 hX2
        have b2 := b1.trans (hb2.mono le1)
        have le2 := Nat.le_trans le1 lX2
        dsimp only
        go_step
        refine ⟨b2, ?_⟩
        change anyI _ _ _ _ _ _ _ _ _
        try simp only [Act.put, List.setIfInBounds_toArray, List.set_cons_succ, List.set_cons_zero, List.getElem_toArray, List.getElem_cons_succ, List.getElem_cons_zero]
        refine anyI_part [5, 6, 7] _ _ _ _ (by kernel_rfl) ?_
        simp only [List.filterMap_cons, List.filterMap_nil, List.getElem?_toArray, List.getElem?_cons_succ, List.getElem?_cons_zero]
        change wpList _ _ _ [_] _ _
        refine wpl_alloc rfl 23 rfl 32 _ zer23 X2 hX2 ?_
        intro x3 hX3 hb3 has3
        have b3 := b2.trans (hb3.mono le2)
        have le3 := Nat.le_succ_of_le le2
        have hne3 : ∀ g, blk ps = some g → g ≠ X2 := fun g hg => by have := os2.lt g hg; have e : (x2).heap.size = X2 := hX2; omega
        have os3 := os2.below hb3 (Nat.le_of_eq hX2)
        refine ⟨b3, ?_⟩
        change wpList _ _ _ [_] _ _
        refine wpl_store rfl 23 (.tmp 7) (.tmp 15) rfl X2 32 _ rfl rfl 23 _ has3 inf23 (fun _ _ => rfl) ?_
        intro x4 ht4 has4
        have b4 := ht4.below b3 (by omega)
        have os4 := os3.touch ht4 hne3
        refine ⟨b4, ?_⟩
        change wpList _ _ _ [_] _ _
        refine wpl_pure rfl (v := .slice ps 2048 cs) (by intro w; rfl) ?_
        refine ⟨b4, ?_⟩
        change anyI _ _ _ _ _ _ _ _ _
        try simp only [Act.put, List.setIfInBounds_toArray, List.set_cons_succ, List.set_cons_zero, List.getElem_toArray, List.getElem_cons_succ, List.getElem_cons_zero]
        refine anyI_done (by kernel_rfl) ?_
        try simp only [Act.put, List.setIfInBounds_toArray, List.set_cons_succ, List.set_cons_zero, List.getElem_toArray, List.getElem_cons_succ, List.getElem_cons_zero]
        exact ⟨trivial, (X2, ps, cs), rfl, has4, os4, b4, by omega, fun g hg => ⟨by have := hps g hg; omega, hne3 g hg⟩⟩
      · simp only [List.filterMap_cons, List.filterMap_nil, List.getElem?_toArray, List.getElem?_cons_succ, List.getElem?_cons_zero]
        refine wpl_alloc rfl 23 rfl 32 _ zer23 X1 hX1 ?_
        intro x2 hX2 hb2 has2
        have b2 := b1.trans (hb2.mono le1)
        have le2 := Nat.le_succ_of_le le1
        refine ⟨b2, ?_⟩
        change anyI _ _ _ _ _ _ _ _ _
        try simp only [Act.put, List.setIfInBounds_toArray, List.set_cons_succ, List.set_cons_zero, List.getElem_toArray, List.getElem_cons_succ, List.getElem_cons_zero]
        refine anyI_part [4, 6, 7] _ _ _ _ (by kernel_rfl) ?_
        simp only [List.filterMap_cons, List.filterMap_nil, List.getElem?_toArray, List.getElem?_cons_succ, List.getElem?_cons_zero]
        change wpList _ _ _ [_] _ _
        go_wp2_with fail
        refine (Sign_any p c cap D s x2 (X1 + 1) hX2 (hT6.below b2 (by have := hT6.ltN hM6; omega)) hle (by omega) (hB6.below hM6 b2)).mono ?_
        rintro e x3 ⟨ps, cs, rfl, os3, hps, hb3⟩
        obtain ⟨X3, hX3⟩ := sz_some x3
        have lX3 := below_sz hb3 hX2 hX3
        have b3 := b2.trans (hb3.mono le2)
        have le3 := Nat.le_trans le2 lX3
        have has3 := has2.below hb3 (by omega)
        have hne3 : ∀ g, blk ps = some g → g ≠ X1 := fun g hg => by have := hps g hg; omega
        dsimp only
        go_step
        refine ⟨b3, ?_⟩
        change wpList _ _ _ [_] _ _
        refine wpl_store rfl 23 (.tmp 7) (.tmp 15) rfl X1 32 _ rfl rfl 23 _ has3 inf23 (fun _ _ => rfl) ?_
        intro x4 ht4 has4
        have b4 := ht4.below b3 (by omega)
        have os4 := os3.touch ht4 hne3
        refine ⟨b4, ?_⟩
        change wpList _ _ _ [_] _ _
        refine wpl_pure rfl (v := .slice ps 2048 cs) (by intro w; rfl) ?_
        refine ⟨b4, ?_⟩
        change anyI _ _ _ _ _ _ _ _ _
        try simp only [Act.put, List.setIfInBounds_toArray, List.set_cons_succ, List.set_cons_zero, List.getElem_toArray, List.getElem_cons_succ, List.getElem_cons_zero]
        refine anyI_done (by kernel_rfl) ?_
        try simp only [Act.put, List.setIfInBounds_toArray, List.set_cons_succ, List.set_cons_zero, List.getElem_toArray, List.getElem_cons_succ, List.getElem_cons_zero]
        exact ⟨trivial, (X1, ps, cs), rfl, has4, os4, b4, by omega, fun g hg => ⟨by have := hps g hg; omega, hne3 g hg⟩⟩
    · simp only [List.filterMap_cons, List.filterMap_nil, List.getElem?_toArray, List.getElem?_cons_succ, List.getElem?_cons_zero]
      refine wpl_alloc rfl 23 rfl 32 _ zer23 (N + 2) (show Sz w6.drew (N + 2) from hM6) ?_
      intro x1 hX1 hb1 has1
      have b1 := I6.drew.trans (hb1.mono (Nat.le_refl (N + 2)))
      have le1 := Nat.le_succ_of_le (Nat.le_refl (N + 2))
      refine ⟨b1, ?_⟩
      change anyI _ _ _ _ _ _ _ _ _
      try simp only [Act.put, List.setIfInBounds_toArray, List.set_cons_succ, List.set_cons_zero, List.getElem_toArray, List.getElem_cons_succ, List.getElem_cons_zero]
      refine anyI_part [1, 4, 6, 7] _ _ _ _ (by kernel_rfl) ?_
      simp only [List.filterMap_cons, List.filterMap_nil, List.getElem?_toArray, List.getElem?_cons_succ, List.getElem?_cons_zero]
      change wpList _ _ _ [_] _ _
      go_wp2_with fail
      refine (Key_any p c cap D x1 ((N + 2) + 1) hX1 (hT6.below b1 (by have := hT6.ltN hM6; omega)) hle (by omega) (hB6.below hM6 b1)).mono ?_
      rintro e x2 ⟨rfl, hb2⟩
      obtain ⟨X2, hX2⟩ := sz_some x2
      have lX2 := below_sz hb2 hX1 hX2
      have b2 := b1.trans (hb2.mono le1)
      have le2 := Nat.le_trans le1 lX2
      have has2 := has1.below hb2 (by omega)
      dsimp only
      go_step
      refine ⟨b2, ?_⟩
      change wpList _ _ _ [_] _ _
      go_wp2_with fail
      refine (Sign_any p c cap D s x2 X2 hX2 (hT6.below b2 (by have := hT6.ltN hM6; omega)) hle (by omega) (hB6.below hM6 b2)).mono ?_
      rintro e x3 ⟨ps, cs, rfl, os3, hps, hb3⟩
      obtain ⟨X3, hX3⟩ := sz_some x3
      have lX3 := below_sz hb3 hX2 hX3
      have b3 := b2.trans (hb3.mono le2)
      have le3 := Nat.le_trans le2 lX3
      have has3 := has2.below hb3 (by omega)
      have hne3 : ∀ g, blk ps = some g → g ≠ (N + 2) := fun g hg => by have := hps g hg; omega
      dsimp only
      go_step
      refine ⟨b3, ?_⟩
      change wpList _ _ _ [_] _ _
      refine wpl_store rfl 23 (.tmp 7) (.tmp 15) rfl (N + 2) 32 _ rfl rfl 23 _ has3 inf23 (fun _ _ => rfl) ?_
      intro x4 ht4 has4
      have b4 := ht4.below b3 (by omega)
      have os4 := os3.touch ht4 hne3
      refine ⟨b4, ?_⟩
      change wpList _ _ _ [_] _ _
      refine wpl_pure rfl (v := .slice ps 2048 cs) (by intro w; rfl) ?_
      refine ⟨b4, ?_⟩
      change anyI _ _ _ _ _ _ _ _ _
      try simp only [Act.put, List.setIfInBounds_toArray, List.set_cons_succ, List.set_cons_zero, List.getElem_toArray, List.getElem_cons_succ, List.getElem_cons_zero]
      refine anyI_done (by kernel_rfl) ?_
      try simp only [Act.put, List.setIfInBounds_toArray, List.set_cons_succ, List.set_cons_zero, List.getElem_toArray, List.getElem_cons_succ, List.getElem_cons_zero]
      exact ⟨trivial, ((N + 2), ps, cs), rfl, has4, os4, b4, by omega, fun g hg => ⟨by have := hps g hg; omega, hne3 g hg⟩⟩
  · rintro ⟨gk, ps, cs⟩ w7 ⟨hk7, os7, b7, hg7, hp7⟩
    dsimp only at hk7 os7 hg7 hp7
    dsimp only
    try simp only [Act.put, List.setIfInBounds_toArray, List.set_cons_succ, List.set_cons_zero, List.getElem_toArray, List.getElem_cons_succ, List.getElem_cons_zero]
    obtain ⟨M7, hM7⟩ := sz_some w7
    have hM67 := below_sz b7 hM6 hM7
    have h17 := h16.below b7 (by omega)
    have h67 := h6.below b7 (by omega)
    have hT7 := hT6.below b7 (by have := hT6.ltN hM6; omega)
    have bN7 := bN6.trans (b7.mono (by omega))
    have hole := os7.le
    obtain ⟨gs, rfl, _⟩ := os7.cell (by omega)
    obtain ⟨hgs, hgsk⟩ := hp7 gs rfl
    clear hp7 I6
    cases els
    · obtain ⟨q, hq⟩ := u64_nat z
      obtain ⟨i, ei⟩ : ∃ i : Nat, i = q % 2048 := ⟨_, rfl⟩
      have e1 : (q : Int) % 2048 = (i : Int) := by omega
      have hi : i < 2048 := by omega
      have q0 : (0 : Int) ≤ (q : Int) := by omega
      have i0 : (0 : Int) ≤ (i : Int) := by omega
      have i1 : (i : Int) < 2048 := by omega
      clear ei
      have c0 : ∀ x, Below M7 w7 x → x.cell? ⟨N + 1, 0, none⟩ = some (.int .i64 z) := fun x hx => (h67.below hx (by omega)).cell (by omega)
      have c1 : ∀ x, Below M7 w7 x → x.cell? ⟨N + 1, 1, none⟩ = some (.int .u8 (v8 y)) := fun x hx => (h67.below hx (by omega)).cell (by omega)
      have c34 : ∀ x, Below M7 w7 x → x.cell? ⟨N + 1, 34, none⟩ = some (.bool false) := fun x hx => (h67.below hx (by omega)).cell (by omega)
      go_wp2_with (first
        | (go_at_call 27; refine (signs_any w7 M7 hM7 hT7).mono ?_; rintro e w8 ⟨rfl, hb8⟩; have c34' := c34 w8 hb8)
        | fail)
      have c0' := c0 w8 hb8
      have c1' := c1 w8 hb8
      have os8 := os7.below hb8 (Nat.le_of_eq hM7)
      have d1 : w8.cell? ⟨gs, i, none⟩ = some (.int .u8 (v8 (sigD c D s i))) := os8.cell' i hi
      have d3 := os8.free i
      have hk8 := hk7.below hb8 (hk7.ltN hM7)
      have h18 := h17.below hb8 (by omega)
      have bN8 := bN7.trans (hb8.mono (by omega))
      have hT8 := hT7.below hb8 (hT7.ltN hM7)
      have hB9 := bent_bytes os8 i hi y
      have ht9 := touch_setCell w8 ⟨gs, i, none⟩ (.int .u8 (bits .xor .u8 (v8 (sigD c D s i)) (v8 y)))
      obtain ⟨M9, hM9⟩ := sz_some (w8.setCell ⟨gs, i, none⟩ (.int .u8 (bits .xor .u8 (v8 (sigD c D s i)) (v8 y))))
      have hk9 := hk8.touch ht9 (by show gk ≠ gs; omega)
      have h19 := h18.touch ht9 (by show N ≠ gs; omega)
      have bN9 := ht9.below bN8 (by show N ≤ gs; omega)
      have hNM9 : N ≤ M9 := below_sz bN9 hN hM9
      have hT9 := hT0.below bN9 hTN
      clear c0 c1 c34 hb8 os7 b7 h16 h67 ht9 os8 hk8 hk7 h18 h17 hT8 hT7
      go_region
      clear c0' c1' c34' d1 d3 e1 q0 i0 i1 hq
      have hMd : Sz (w8.setCell ⟨gs, i, none⟩ (.int .u8 (bits .xor .u8 (v8 (sigD c D s i)) (v8 y)))).drew M9 := hM9
      have hkd := hk9.drew
      have h1d := h19.drew
      have hBd := hB9.drew
      have hTd := hT9.drew
      have bNd := bN9.drew
      go_wp2_with fail
      have hf : (fitsB (keyD c D) s (bentS (sigD c D s) i y) = true ∧ verAns (keyD c D) s (bentS (sigD c D s) i y) = 0) ∨ (fitsB (keyD c D) s (bentS (sigD c D s) i y) = false ∧ verAns (keyD c D) s (bentS (sigD c D s) i y) = 129) := by
        unfold verAns
        cases fitsB (keyD c D) s (bentS (sigD c D s) i y)
        · exact .inr ⟨rfl, rfl⟩
        · exact .inl ⟨rfl, rfl⟩
      rcases hf with ⟨hf, hv⟩ | ⟨hf, hv⟩
      all_goals
        have HF := hid hf
        have HV := hid hv
        clear hf hv
        refine wp_region_later M9 (by kernel_rfl) (by kernel_rfl) ?_
        try simp only [Act.put, List.setIfInBounds_toArray, List.set_cons_succ, List.set_cons_zero]
        repeat first
          | (refine later_val (fun x => run_ld 23 (.tmp 7) rfl gk rfl 23 32 _ (Later.has hMd hkd x) _ und23 rfl inf23) (by rfl) ?_; simp only [Act.put, List.setIfInBounds_toArray, List.set_cons_succ, List.set_cons_zero])
          | (refine later_val (fun x => run_ld 23 (.tmp 4) rfl N rfl 23 32 _ (Later.has hMd h1d x) _ und23 rfl inf23) (by rfl) ?_; simp only [Act.put, List.setIfInBounds_toArray, List.set_cons_succ, List.set_cons_zero])
          | (go_big_quiet_step ((first
            | (go_at_call 24; exact later_of hMd _ (fun K hK hKN => Make_any _ K hK))
            | (go_at_call 30; exact later_of hMd _ (fun K hK hKN => (Verify_any (keyD c D) s (bentS (sigD c D s) i y) _ cs hole _ K hK (hTd.below (Later.b _) (hTd.ltN hMd)) (hBd.below hMd (Later.b _))).mono (fun e w' hh => by rw [HV.out] at hh; exact hh)))
            | (go_at_call 31; exact later_of hMd _ (fun K hK hKN => (RFits_any (keyD c D) s (bentS (sigD c D s) i y) _ cs hole _ K hK (hBd.below hMd (Later.b _))).mono (fun e w' hh => by rw [HF.out] at hh; exact hh))))))
        refine wpQuiet_nil ?_
        rintro wz ⟨xz, ez⟩
        have hbz := xz.b
        rw [← ez] at hbz
        clear ez xz
        go_wp2_with fail
        go_ret
        exact ⟨rfl, bNd.trans (hbz.mono (by omega))⟩
    · have c34 : ∀ x, Below M7 w7 x → x.cell? ⟨N + 1, 34, none⟩ = some (.bool true) := fun x hx => (h67.below hx (by omega)).cell (by omega)
      go_wp2_with (first
        | (go_at_call 27; refine (signs_any w7 M7 hM7 hT7).mono ?_; rintro e w8 ⟨rfl, hb8⟩; have c34' := c34 w8 hb8; have h68 := h67.below hb8 (by omega); have h18 := h17.below hb8 (by omega))
        | (refine wpl_load_part rfl 23 (.tmp 28) rfl (N + 1) 2 rfl 50 35 _ h68 32 (by omega) (fun j => By (t j)) (fun j hj => by unfold bentC; rw [if_neg (by omega), if_neg (by omega), if_pos (by omega), Nat.add_sub_cancel_left]) _ und23 rfl inf23 ?_)
        | (refine wpl_store rfl 23 (.tmp 4) (.tmp 29) rfl N 32 _ rfl rfl 23 _ h18 inf23 (fun _ _ => rfl) ?_; intro w9 ht9 h9)
        | fail)
      have bN8 := bN7.trans (hb8.mono (by omega))
      have hk9 := (hk7.below hb8 (hk7.ltN hM7)).touch ht9 (by omega)
      have os9 := (os7.below hb8 (Nat.le_of_eq hM7)).touch ht9 (fun g hg => by simp [blk] at hg; omega)
      have hB9 := own_bytes os9
      have bN9 := ht9.below bN8 (Nat.le_refl N)
      obtain ⟨M9, hM9⟩ := sz_some w9
      have hNM9 : N ≤ M9 := below_sz bN9 hN hM9
      have hT9 := hT0.below bN9 hTN
      clear c34 c34' hb8 os7 b7 h16 h67 h68 ht9 os9 hk7 h18 h17 hT7 bN8
      have hf : (fitsB (keyD c D) t (sigD c D s) = true ∧ verAns (keyD c D) t (sigD c D s) = 0) ∨ (fitsB (keyD c D) t (sigD c D s) = false ∧ verAns (keyD c D) t (sigD c D s) = 129) := by
        unfold verAns
        cases fitsB (keyD c D) t (sigD c D s)
        · exact .inr ⟨rfl, rfl⟩
        · exact .inl ⟨rfl, rfl⟩
      rcases hf with ⟨hf, hv⟩ | ⟨hf, hv⟩
      all_goals
        have HF := hid hf
        have HV := hid hv
        clear hf hv
        refine wp_region_later M9 (by kernel_rfl) (by kernel_rfl) ?_
        try simp only [Act.put, List.setIfInBounds_toArray, List.set_cons_succ, List.set_cons_zero]
        repeat first
          | (refine later_val (fun x => run_ld 23 (.tmp 7) rfl gk rfl 23 32 _ (Later.has hM9 hk9 x) _ und23 rfl inf23) (by rfl) ?_; simp only [Act.put, List.setIfInBounds_toArray, List.set_cons_succ, List.set_cons_zero])
          | (refine later_val (fun x => run_ld 23 (.tmp 4) rfl N rfl 23 32 _ (Later.has hM9 h9 x) _ und23 rfl inf23) (by rfl) ?_; simp only [Act.put, List.setIfInBounds_toArray, List.set_cons_succ, List.set_cons_zero])
          | (go_big_quiet_step ((first
            | (go_at_call 24; exact later_of hM9 _ (fun K hK hKN => Make_any _ K hK))
            | (go_at_call 30; exact later_of hM9 _ (fun K hK hKN => (Verify_any (keyD c D) t (sigD c D s) _ cs hole _ K hK (hT9.below (Later.b _) (hT9.ltN hM9)) (hB9.below hM9 (Later.b _))).mono (fun e w' hh => by rw [HV.out] at hh; exact hh)))
            | (go_at_call 31; exact later_of hM9 _ (fun K hK hKN => (RFits_any (keyD c D) t (sigD c D s) _ cs hole _ K hK (hB9.below hM9 (Later.b _))).mono (fun e w' hh => by rw [HF.out] at hh; exact hh))))))
        refine wpQuiet_nil ?_
        rintro wz ⟨xz, ez⟩
        have hbz := xz.b
        rw [← ez] at hbz
        clear ez xz
        go_wp2_with fail
        go_ret
        exact ⟨rfl, bN9.trans (hbz.mono (by omega))⟩
end Go.Proofs.YtneffelpdaigoaaDoor
