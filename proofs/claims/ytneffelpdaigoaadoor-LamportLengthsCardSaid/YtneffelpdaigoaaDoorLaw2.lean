/- The law LamportBits: its walk. -/
import Derived.Test.YtneffelpdaigoaaDoorLam6
import Derived.Test.YtneffelpdaigoaaDoorRegB
import Derived.Test.YtneffelpdaigoaaDoorMin
import Derived.Test.YtneffelpdaigoaaDoorAts
namespace Go.Proofs.YtneffelpdaigoaaDoor
open Go Go.RowKit Sha
theorem und52 : Tryd.prog.underlying 52 = some (.array 28 5) := by kernel_rfl
theorem run_cut_head (t e : TypeId) (hu : Tryd.prog.underlying t = some (.slice e)) (hs : (Tryd.prog.info? e).map (·.size) = some 1) (p : Option Addr) (len cap h : Nat) (hh : h ≤ cap) (w : World) :
    (Instr.sliceAt t (.slice p len cap) none (some (.int .i64 (h : Int))) none).run Tryd.prog w = .ok (.slice p h cap) w := by
  cases hq : Tryd.prog.info? e with
  | none => simp [hq] at hs
  | some i =>
    cases p <;> simp [Instr.sliceAt, Instr.slice, run_underlying hu, Instr.sliceBounds, Instr.sliceBound, asIntOf, sizeOf, typeInfo, hq, Sem.run_bind, hh, Addr.add]
/-- A sum whose last bytes are turned. -/
def turned (s m : Nat → BitVec 8) (k : Nat) : Nat → BitVec 8 := fun j => if 4 ≤ j ∧ j < 4 + k then s j ^^^ m (j - 4) else s j
theorem xor_v8 (a b : BitVec 8) : bits .xor .u8 (v8 a) (v8 b) = v8 (a ^^^ b) := by
  unfold v8; rw [BitVec.toNat_xor]; exact u8_xor_nat _ _ a.isLt b.isLt
theorem turned_step (s m : Nat → BitVec 8) (k : Nat) : ∀ j, upd (fun j => By (turned s m k j)) (4 + k) (By (s (4 + k) ^^^ m k)) j = By (turned s m (k + 1) j) := fun j => by
  unfold upd turned
  by_cases h : j = 4 + k
  · subst h; rw [if_pos rfl, if_pos (by omega), show 4 + k - 4 = k from by omega]
  · rw [if_neg h]
    show By (if 4 ≤ j ∧ j < 4 + k then s j ^^^ m (j - 4) else s j) = _
    by_cases h2 : 4 ≤ j ∧ j < 4 + k
    · rw [if_pos h2, if_pos (by omega)]
    · rw [if_neg h2, if_neg (by omega)]
theorem turned_at (s m : Nat → BitVec 8) (k : Nat) : turned s m k (4 + k) = s (4 + k) := by
  unfold turned; rw [if_neg (by omega)]
set_option maxRecDepth 100000 in
set_option maxHeartbeats 1000000 in
theorem law_bits (p : Option Addr) (n cap : Nat) (D s m : Nat → BitVec 8) (w : World) (N : Nat) (hN : Sz w N) (hT : Tabs w) (hcap : n ≤ cap) (hD : Bytes w p n D) :
    Calls Tryd.prog 10 #[.slice p n cap, .agg (cellsOf (fun j => By (s j)) 32), .agg (cellsOf (fun j => By (m j)) 28)] w fun e w' => e = .returned (.bool true) ∧ Below N w w' := by
  have hTN := hT.ltN hN
  obtain ⟨c, hc⟩ : ∃ c, c = min n 20 := ⟨_, rfl⟩
  have Hc := hid hc
  have hc1 : c ≤ n := by omega
  have hc2 : c ≤ 20 := by omega
  clear hc
  have e1 : (if (20 : Int) < (n : Int) then (20 : Int) else (n : Int)) = (c : Int) := by have := Hc.out; split <;> omega
  have e2 : (if 20 < n then (20 : Int) else (n : Int)) = (c : Int) := by have := Hc.out; split <;> omega
  have hsl : ∀ w, (Instr.sliceAt 22 (.slice p n cap) none (some (.int .i64 (c : Int))) none).run Tryd.prog w = .ok (.slice p c cap) w := run_cut_head 22 5 und22 inf5 p n cap c (by omega)
  go_enter Tryd.func10, Tryd.ntmps10
  go_wp2_with (first
    | (refine wpl_box rfl 23 (.tmp 1) rfl 32 _ rfl N hN ?_; intro w1 hN1 hb1 h1)
    | (refine wpl_box rfl 52 (.tmp 2) rfl 28 _ rfl (N + 1) hN1 ?_; intro w2 hN2 hb2 h2)
    | (refine wpl_load rfl 23 (.tmp 4) rfl N rfl 23 32 _ (h1.below hb2 (by omega)) _ und23 rfl inf23 ?_)
    | (refine wpl_alloc rfl 23 rfl 32 _ zer23 (N + 1 + 1) hN2 ?_; intro w3 hN3 hb3 h3)
    | (refine wpl_store rfl 23 (.tmp 7) (.tmp 16) rfl (N + 1 + 1) 32 _ rfl rfl 23 _ h3 inf23 (fun _ _ => rfl) ?_; intro w4 ht4 h4)
    | fail)
  clear e1 e2 hsl
  have hDc : Bytes w p c D := fun h0 => by
    obtain ⟨bb, off, e, h⟩ := hD (by omega)
    exact ⟨bb, off, e, fun j hj => h j (by omega)⟩
  have hb4 : Below N w w4 := ht4.below ((hb1.trans (hb2.mono (by omega))).trans (hb3.mono (by omega))) (by omega)
  have q1 : Has w4 N 23 32 (fun j => By (s j)) := ((h1.below hb2 (by omega)).below hb3 (by omega)).touch ht4 (by omega)
  have q2 : Has w4 (N + 1) 52 28 (fun j => By (m j)) := (h2.below hb3 (by omega)).touch ht4 (by omega)
  clear hb1 hb2 hb3 h1 h2 h3 ht4
  go_loopw [8] (fun i wr => ∃ k : Nat, k ≤ 28 ∧ i = .int .i64 k ∧ Has wr (N + 1 + 1) 23 32 (fun j => By (turned s m k j)) ∧ Has wr N 23 32 (fun j => By (s j)) ∧ Has wr (N + 1) 52 28 (fun j => By (m j)) ∧ Below N w wr)
    (fun i _ => 28 - (intOf i).toNat)
  case atStart => exact ⟨0, by omega, rfl, h4.congr (fun j _ => by unfold turned; rw [if_neg (by omega)]), q1, q2, hb4⟩
  case round =>
    clear h4 q1 q2 hb4
    obtain ⟨k, hk, rfl, h4, q1, q2, qb⟩ := hrel
    by_cases hlt : k < 28
    · have c1 : wr.cell? ⟨N + 1 + 1, 4 + k, none⟩ = some (.int .u8 (v8 (s (4 + k)))) := by have := h4.cell (j := 4 + k) (by omega); rw [turned_at] at this; exact this
      have c2 : wr.cell? ⟨N + 1, k, none⟩ = some (.int .u8 (v8 (m k))) := q2.cell hlt
      have hx := xor_v8 (s (4 + k)) (m k)
      have hlt4 : 4 + k < 32 := by omega
      have hnn : (0 : Int) ≤ 4 + (k : Int) := by omega
      have hli : 4 + (k : Int) < 32 := by omega
      have hlk : (k : Int) < 28 := by omega
      have hwr : IntKind.i64.wrap (4 + (k : Int)) = 4 + (k : Int) := IntWalk.i64_in _ (by omega)
      have htn : (4 + (k : Int)).toNat = 4 + k := by omega
      go_wp2_with fail
      go_still_tail 9, (by kernel_rfl)
      go_wp2_with (first
        | (refine wpl_set rfl 5 (.tmp 29) (.tmp 28) rfl (N + 1 + 1) (4 + k) rfl (By (s (4 + k) ^^^ m k)) rfl inf5 rfl rfl 23 32 _ (by exact h4) (by omega) ?_; intro w3 ht3 h3)
        | fail)
      exact ⟨⟨k + 1, by omega, by go_num, h3.congr (fun j _ => turned_step s m k j), Has.touch (by exact q1) ht3 (by omega), Has.touch (by exact q2) ht3 (by omega), ht3.below (by exact below_drewN qb _) (by omega)⟩, by simp [intOf]; omega⟩
    · obtain rfl : 28 = k := by omega
      obtain ⟨M, hM⟩ := sz_some wr
      have hNM : N + 1 + 1 < M := h4.ltN hM
      go_wp2_with (refine wpl_load rfl 23 (.tmp 4) rfl N rfl 23 32 _ (by exact q1) _ und23 rfl inf23 ?_)
      refine (Sign_any p c cap D s _ M hM (hT.below qb hTN) (by omega) (by omega) (hDc.below hN qb)).mono ?_
      rintro e w5 ⟨ps, cs, rfl, ho5, hp5, hb5⟩
      obtain ⟨M5, hM5⟩ := sz_some w5
      have hMM5 := below_sz hb5 hM hM5
      have q5 := qb.trans (hb5.mono (by omega))
      go_wp2_with (first
        | (go_at_call 25; refine (Key_any p c cap D _ M5 hM5 (hT.below q5 hTN) (by omega) (by omega) (hDc.below hN q5)).mono ?_; rintro e w6 ⟨rfl, hb6⟩; obtain ⟨M6, hM6⟩ := sz_some w6; have hMM6 := below_sz hb6 hM5 hM6)
        | (refine wpl_alloc rfl 23 rfl 32 _ zer23 M6 hM6 ?_; intro w7 hM7 hb7 h7)
        | (refine wpl_store rfl 23 (.tmp 10) (.tmp 34) rfl M6 32 _ rfl rfl 23 _ h7 inf23 (fun _ _ => rfl) ?_; intro w8 ht8 h8)
        | fail)
      obtain ⟨M8, hM8, hM68⟩ : ∃ M8, Sz w8 M8 ∧ M6 < M8 := ⟨_, ht8.sz hM7, Nat.lt_succ_self _⟩
      have b67 : Below M5 w5 w8 := ht8.below (hb6.trans (hb7.mono (by omega))) (by omega)
      have q8 : Below N w w8 := q5.trans (b67.mono (by omega))
      have o8 : Own w8 5 ps 2048 cs (fun j => By (sigD c D s j)) := ho5.below b67 (Nat.le_of_eq hM5)
      have t8 := (h4.below hb5 (by omega)).below b67 (by omega)
      have s8 := (q1.below hb5 (by omega)).below b67 (by omega)
      have hcs := o8.le
      have e1 : strOf (sigD c D (turned s m 28)) 2048 = strOf (sigD c D s) 2048 := strOf_congr (fun j hj => sigD_congr c D (fun i hi => by unfold turned; rw [if_neg (by omega)]) j hj)
      have E1 := hid e1
      have E2 := hid (show verAns (keyD c D) (turned s m 28) (sigD c D s) = 0 by unfold verAns; rw [fits_bits c D (fun i hi => by unfold turned; rw [if_neg (by omega)])]; rfl)
      clear e1 hM7 hb6 hb7 ht8 h7 q1 q2 h4 ho5 hb5 qb b67 q5
      refine wp_region_any (by kernel_rfl) ?_
      change wpAny _ _ _ _ _ _ _ (World.drew _)
      refine wpAny_part [0, 1] _ _ _ _ (by kernel_rfl) ?_
      simp only [List.filterMap_cons, List.filterMap_nil, List.getElem?_toArray, List.getElem?_cons_succ, List.getElem?_cons_zero]
      go_wp2_with fail
      refine (signs_any _ M8 (by exact hM8) (by exact (hT.below q8 hTN).drew)).mono ?_
      rintro e w9 ⟨rfl, hb9'⟩
      have hb9 : Below M8 w8 w9 := mod_belowdrew hb9'
      obtain ⟨M9, hM9⟩ := sz_some w9
      have hMM9 := below_sz hb9 hM8 hM9
      have q9 : Below N w w9 := q8.trans (hb9.mono (by omega))
      have o9 := o8.below hb9 (Nat.le_of_eq hM8)
      have k9 := h8.below hb9 (by omega)
      have t9 := t8.below hb9 (by omega)
      have s9 := s8.below hb9 (by omega)
      clear hb9' hb9 q8 o8 h8 t8 s8
      dsimp only
      go_step
      refine wpl_pure rfl (v := .bool true) (by intro w; rfl) ?_
      change wpAny _ _ _ _ _ _ _ _
      simp only [Act.put, List.setIfInBounds_toArray, List.set_cons_succ, List.set_cons_zero]
      refine wpAny_take (i := 2) (v := .slice ps 2048 cs) rfl (by kernel_rfl) (by kernel_rfl) (by kernel_rfl) (fun _ _ _ h => h) (Or.inl ⟨by rfl, ?y2⟩) ?r2
      case y2 => (intro w; rfl)
      refine wpAny_take (i := 4) (v := .slice p c cap) rfl (by kernel_rfl) (by kernel_rfl) (by kernel_rfl) (fun _ _ _ h => h) (Or.inl ⟨by rfl, ?y4⟩) ?r4
      case y4 => (intro w; rfl)
      simp only [Act.put, List.setIfInBounds_toArray, List.set_cons_succ, List.set_cons_zero, List.getElem_toArray, List.getElem_cons_succ, List.getElem_cons_zero]
      refine wpAny_knot (fun a (x : Option Addr × Nat) => (((a.put (some 38) (.string (strOf (sigD c D s) 2048))).put (some 40) (.agg (cellsOf (fun j => By (turned s m 28 j)) 32))).put (some 41) (.slice x.1 2048 x.2)).put (some 42) (.string (strOf (sigD c D s) 2048))) (fun _ w' => Below M9 w9 w') [3, 5, 6, 7] 17 ?_ ?_
      · intro HT
        refine wpAny_two 3 5 _ _ _ _ (by kernel_rfl) ?_ ?_
        all_goals simp only [List.filterMap_cons, List.filterMap_nil, List.getElem?_toArray, List.getElem?_cons_succ, List.getElem?_cons_zero]
        · refine wpl_want (by rfl) ?_
          refine wpl_conv rfl 22 9 (.tmp 37) rfl (.slice ps 2048 cs) (.string (strOf (sigD c D s) 2048)) rfl (run_string _ 22 9 5 und22 und5 und9 ps 2048 cs (sigD c D s) ((by exact o9.ats))) ?_
          change wpAny _ _ _ _ _ _ _ _
          simp only [Act.put, List.setIfInBounds_toArray, List.set_cons_succ, List.set_cons_zero]
          refine wpAny_part [5, 6, 7] _ _ _ _ (by kernel_rfl) ?_
          simp only [List.filterMap_cons, List.filterMap_nil, List.getElem?_toArray, List.getElem?_cons_succ, List.getElem?_cons_zero]
          refine wpl_want (by rfl) ?_
          refine wpl_load rfl 23 (.tmp 7) rfl (N + 1 + 1) rfl 23 32 _ (by exact t9) _ und23 rfl inf23 ?_
          refine wpl_want (by rfl) ?_
          dsimp only
          go_wp2_with fail
          refine (Sign_any p c cap D (turned s m 28) w9 M9 hM9 (hT.below q9 hTN) (by omega) (by omega) (hDc.below hN q9)).mono ?_
          rintro e w10 ⟨ps2, cs2, rfl, ho10, _, hb10⟩
          dsimp only
          go_step
          refine wpl_want (by rfl) ?_
          refine wpl_conv rfl 22 9 (.tmp 41) rfl (.slice ps2 2048 cs2) (.string (strOf (sigD c D s) 2048)) rfl (by rw [run_string _ 22 9 5 und22 und5 und9 ps2 2048 cs2 (sigD c D (turned s m 28)) (ho10.ats), E1.out]) ?_
          change wpAny _ _ _ _ _ _ _ _
          exact wpAny_at (by kernel_rfl) (by kernel_rfl) (HT.out (ps2, cs2) w10 hb10)
        · refine wpl_want (by rfl) ?_
          refine wpl_load rfl 23 (.tmp 7) rfl (N + 1 + 1) rfl 23 32 _ (by exact t9) _ und23 rfl inf23 ?_
          change wpAny _ _ _ _ _ _ _ _
          simp only [Act.put, List.setIfInBounds_toArray, List.set_cons_succ, List.set_cons_zero]
          refine wpAny_two 3 6 _ _ _ _ (by kernel_rfl) ?_ ?_
          all_goals simp only [List.filterMap_cons, List.filterMap_nil, List.getElem?_toArray, List.getElem?_cons_succ, List.getElem?_cons_zero]
          · refine wpl_want (by rfl) ?_
            refine wpl_conv rfl 22 9 (.tmp 37) rfl (.slice ps 2048 cs) (.string (strOf (sigD c D s) 2048)) rfl (run_string _ 22 9 5 und22 und5 und9 ps 2048 cs (sigD c D s) ((by exact o9.ats))) ?_
            change wpAny _ _ _ _ _ _ _ _
            try simp only [Act.put, List.setIfInBounds_toArray, List.set_cons_succ, List.set_cons_zero]
            refine wpAny_part [6, 7] _ _ _ _ (by kernel_rfl) ?_
            simp only [List.filterMap_cons, List.filterMap_nil, List.getElem?_toArray, List.getElem?_cons_succ, List.getElem?_cons_zero]
            refine wpl_want (by rfl) ?_
            dsimp only
            go_wp2_with fail
            refine (Sign_any p c cap D (turned s m 28) w9 M9 hM9 (hT.below q9 hTN) (by omega) (by omega) (hDc.below hN q9)).mono ?_
            rintro e w10 ⟨ps2, cs2, rfl, ho10, _, hb10⟩
            dsimp only
            go_step
            refine wpl_want (by rfl) ?_
            refine wpl_conv rfl 22 9 (.tmp 41) rfl (.slice ps2 2048 cs2) (.string (strOf (sigD c D s) 2048)) rfl (by rw [run_string _ 22 9 5 und22 und5 und9 ps2 2048 cs2 (sigD c D (turned s m 28)) (ho10.ats), E1.out]) ?_
            change wpAny _ _ _ _ _ _ _ _
            exact wpAny_at (by kernel_rfl) (by kernel_rfl) (HT.out (ps2, cs2) w10 hb10)
          · refine wpl_want (by rfl) ?_
            dsimp only
            go_wp2_with fail
            refine (Sign_any p c cap D (turned s m 28) w9 M9 hM9 (hT.below q9 hTN) (by omega) (by omega) (hDc.below hN q9)).mono ?_
            rintro e w10 ⟨ps2, cs2, rfl, ho10, _, hb10⟩
            dsimp only
            go_step
            change wpAny _ _ _ _ _ _ _ _
            try simp only [Act.put, List.setIfInBounds_toArray, List.set_cons_succ, List.set_cons_zero]
            refine wpAny_two 3 7 _ _ _ _ (by kernel_rfl) ?_ ?_
            all_goals simp only [List.filterMap_cons, List.filterMap_nil, List.getElem?_toArray, List.getElem?_cons_succ, List.getElem?_cons_zero]
            · refine wpl_want (by rfl) ?_
              refine wpl_conv rfl 22 9 (.tmp 37) rfl (.slice ps 2048 cs) (.string (strOf (sigD c D s) 2048)) rfl (run_string _ 22 9 5 und22 und5 und9 ps 2048 cs (sigD c D s) ((o9.below hb10 (Nat.le_of_eq hM9)).ats)) ?_
              change wpAny _ _ _ _ _ _ _ _
              simp only [Act.put, List.setIfInBounds_toArray, List.set_cons_succ, List.set_cons_zero]
              refine wpAny_part [7] _ _ _ _ (by kernel_rfl) ?_
              simp only [List.filterMap_cons, List.filterMap_nil, List.getElem?_toArray, List.getElem?_cons_succ, List.getElem?_cons_zero]
              refine wpl_want (by rfl) ?_
              refine wpl_conv rfl 22 9 (.tmp 41) rfl (.slice ps2 2048 cs2) (.string (strOf (sigD c D s) 2048)) rfl (by rw [run_string _ 22 9 5 und22 und5 und9 ps2 2048 cs2 (sigD c D (turned s m 28)) (ho10.ats), E1.out]) ?_
              change wpAny _ _ _ _ _ _ _ _
              exact wpAny_at (by kernel_rfl) (by kernel_rfl) (HT.out (ps2, cs2) w10 hb10)
            · refine wpl_want (by rfl) ?_
              refine wpl_conv rfl 22 9 (.tmp 41) rfl (.slice ps2 2048 cs2) (.string (strOf (sigD c D s) 2048)) rfl (by rw [run_string _ 22 9 5 und22 und5 und9 ps2 2048 cs2 (sigD c D (turned s m 28)) (ho10.ats), E1.out]) ?_
              change wpAny _ _ _ _ _ _ _ _
              simp only [Act.put, List.setIfInBounds_toArray, List.set_cons_succ, List.set_cons_zero]
              refine wpAny_part [3] _ _ _ _ (by kernel_rfl) ?_
              simp only [List.filterMap_cons, List.filterMap_nil, List.getElem?_toArray, List.getElem?_cons_succ, List.getElem?_cons_zero]
              refine wpl_want (by rfl) ?_
              refine wpl_conv rfl 22 9 (.tmp 37) rfl (.slice ps 2048 cs) (.string (strOf (sigD c D s) 2048)) rfl (run_string _ 22 9 5 und22 und5 und9 ps 2048 cs (sigD c D s) ((o9.below hb10 (Nat.le_of_eq hM9)).ats)) ?_
              change wpAny _ _ _ _ _ _ _ _
              exact wpAny_at (by kernel_rfl) (by kernel_rfl) (HT.out (ps2, cs2) w10 hb10)
      · rintro ⟨ps2, cs2⟩ w10 b10
        obtain ⟨M10, hM10⟩ := sz_some w10
        have hMM10 := below_sz b10 hM9 hM10
        have o10 := o9.below b10 (Nat.le_of_eq hM9)
        have k10 := k9.below b10 (by omega)
        have t10 := t9.below b10 (by omega)
        have s10 := s9.below b10 (by omega)
        have q10 : Below N w w10 := q9.trans (b10.mono (by omega))
        clear b10 o9 k9 t9 s9 q9
        dsimp only
        try simp only [Act.put, List.setIfInBounds_toArray, List.set_cons_succ, List.set_cons_zero]
        refine wpAny_part [8, 9, 10] _ _ _ _ (by kernel_rfl) ?_
        simp only [List.filterMap_cons, List.filterMap_nil, List.getElem?_toArray, List.getElem?_cons_succ, List.getElem?_cons_zero]
        refine wpl_want (by rfl) ?_
        refine wpl_pure rfl (v := .bool true) (by intro w; go_simp) ?_
        refine wpl_pure rfl (v := .bool true) (by intro w; rfl) ?_
        refine wpl_pure rfl (v := .bool true) (by intro w; rfl) ?_
        change wpAny _ _ _ _ _ _ _ _
        simp only [Act.put, List.setIfInBounds_toArray, List.set_cons_succ, List.set_cons_zero]
        refine wpAny_take (i := 13) (v := .slice ps 2048 cs) rfl (by kernel_rfl) (by kernel_rfl) (by kernel_rfl) (fun _ _ _ h => h) (Or.inl ⟨by rfl, ?y13⟩) ?r13
        case y13 => (intro w; rfl)
        simp only [Act.put, List.setIfInBounds_toArray, List.set_cons_succ, List.set_cons_zero]
        refine wpAny_pair 11 12 _ _ (.agg (cellsOf (fun j => By (keyD c D j)) 32)) (.agg (cellsOf (fun j => By (turned s m 28 j)) 32)) _ _ _ _ rfl rfl (by refine ⟨?_, ?_, ?_⟩ <;> kernel_rfl) (by rfl) (by rfl) (by rfl) (by rfl) (run_ld 23 (.tmp 10) rfl M6 rfl 23 32 _ (by exact k10) _ und23 rfl inf23) (run_ld 23 (.tmp 7) rfl (N + 1 + 1) rfl 23 32 _ (by exact t10) _ und23 rfl inf23) (run_ld 23 (.tmp 10) rfl M6 rfl 23 32 _ (by exact k10) _ und23 rfl inf23) (run_ld 23 (.tmp 7) rfl (N + 1 + 1) rfl 23 32 _ (by exact t10) _ und23 rfl inf23) (put_swap _ _ _ _ _ (by omega)) (by omega) ?_
        simp only [Act.put, List.setIfInBounds_toArray, List.set_cons_succ, List.set_cons_zero]
        refine wpAny_part [14, 15, 16, 17] _ _ _ _ (by kernel_rfl) ?_
        simp only [List.filterMap_cons, List.filterMap_nil, List.getElem?_toArray, List.getElem?_cons_succ, List.getElem?_cons_zero]
        refine wpl_want (by rfl) ?_
        dsimp only
        go_wp2_with fail
        refine (Verify_any (keyD c D) (turned s m 28) (sigD c D s) ps cs hcs w10 M10 hM10 (hT.below q10 hTN) (own_bytes o10)).mono ?_
        rintro e w11 ⟨rfl, hb11⟩
        rw [E2.out]
        obtain ⟨M11, hM11⟩ := sz_some w11
        have hMM11 := below_sz hb11 hM10 hM11
        have o11 := o10.below hb11 (Nat.le_of_eq hM10)
        have k11 := k10.below hb11 (by omega)
        have s11 := s10.below hb11 (by omega)
        have q11 : Below N w w11 := q10.trans (hb11.mono (by omega))
        clear hb11 o10 k10 t10 s10 q10
        dsimp only
        go_step
        refine wpl_want (by rfl) ?_
        refine wpl_pure rfl (v := .bool true) (by intro w; first | rfl | go_simp) ?_
        refine wpl_pure rfl (v := .bool true) (by intro w; rfl) ?_
        refine wpl_pure rfl (v := .bool true) (by intro w; rfl) ?_
        change wpAny _ _ _ _ _ _ _ _
        simp only [Act.put, List.setIfInBounds_toArray, List.set_cons_succ, List.set_cons_zero]
        refine wpAny_take (i := 20) (v := .slice ps 2048 cs) rfl (by kernel_rfl) (by kernel_rfl) (by kernel_rfl) (fun _ _ _ h => h) (Or.inl ⟨by rfl, ?y20⟩) ?r20
        case y20 => (intro w; rfl)
        simp only [Act.put, List.setIfInBounds_toArray, List.set_cons_succ, List.set_cons_zero]
        refine wpAny_pair 18 19 _ _ (.agg (cellsOf (fun j => By (keyD c D j)) 32)) (.agg (cellsOf (fun j => By (s j)) 32)) _ _ _ _ rfl rfl (by refine ⟨?_, ?_, ?_⟩ <;> kernel_rfl) (by rfl) (by rfl) (by rfl) (by rfl) (run_ld 23 (.tmp 10) rfl M6 rfl 23 32 _ (by exact k11) _ und23 rfl inf23) (run_ld 23 (.tmp 4) rfl N rfl 23 32 _ (by exact s11) _ und23 rfl inf23) (run_ld 23 (.tmp 10) rfl M6 rfl 23 32 _ (by exact k11) _ und23 rfl inf23) (run_ld 23 (.tmp 4) rfl N rfl 23 32 _ (by exact s11) _ und23 rfl inf23) (put_swap _ _ _ _ _ (by omega)) (by omega) ?_
        simp only [Act.put, List.setIfInBounds_toArray, List.set_cons_succ, List.set_cons_zero]
        refine wpAny_part [21, 22, 23, 24] _ _ _ _ (by kernel_rfl) ?_
        simp only [List.filterMap_cons, List.filterMap_nil, List.getElem?_toArray, List.getElem?_cons_succ, List.getElem?_cons_zero]
        refine wpl_want (by rfl) ?_
        dsimp only
        go_wp2_with fail
        refine (Verify_any (keyD c D) s (sigD c D s) ps cs hcs w11 M11 hM11 (hT.below q11 hTN) (own_bytes o11)).mono ?_
        rintro e w12 ⟨rfl, hb12⟩
        rw [ver_true]
        dsimp only
        go_step
        refine wpl_want (by rfl) ?_
        refine wpl_pure rfl (v := .bool true) (by intro w; first | rfl | go_simp) ?_
        refine wpl_pure rfl (v := .bool true) (by intro w; rfl) ?_
        refine wpl_pure rfl (v := .bool true) (by intro w; rfl) ?_
        change wpAny _ _ _ _ _ _ _ _
        refine wpAny_done (by kernel_rfl) ?_ _
        go_wp2_with fail
        go_ret
        exact ⟨rfl, q11.trans (hb12.mono (by omega))⟩
end Go.Proofs.YtneffelpdaigoaaDoor
