/- Verify of lamport. -/
import Derived.Test.YtcampjgemedhlaaDoorLam3
import Derived.Test.YtcampjgemedhlaaDoorRegB
namespace Go.Proofs.YtcampjgemedhlaaDoor
open Go Go.RowKit Sha
/-- The leaves that a signature tells, one behind the other. -/
def verText (s sig : Nat → BitVec 8) : Nat → BitVec 8 := fun j =>
  if bitS s (j / 64) = 0 then (if j % 64 < 32 then shaD (fun x => sig (64 * (j / 64) + x)) 32 (j % 64) else sig (64 * (j / 64) + 32 + (j % 64 - 32)))
  else (if j % 64 < 32 then sig (64 * (j / 64) + 32 + j % 64) else shaD (fun x => sig (64 * (j / 64) + x)) 32 (j % 64 - 32))
def verD (s sig : Nat → BitVec 8) : Nat → BitVec 8 := shaD (verText s sig) 2048
def fitsB (key s sig : Nat → BitVec 8) : Bool := (List.range 32).all fun i => verD s sig i == key i
def verAns (key s sig : Nat → BitVec 8) : Int := if fitsB key s sig = true then 0 else 129
theorem bit_cases (s : Nat → BitVec 8) (k : Nat) : (Hid (bitS s k = 0) ∧ (((bitS s k : Nat) : Int) == 0) = true) ∨ (Hid (bitS s k ≠ 0) ∧ (((bitS s k : Nat) : Int) == 0) = false) := by
  by_cases h : bitS s k = 0
  · exact .inl ⟨h, by rw [h]; rfl⟩
  · exact .inr ⟨h, by rw [beq_eq_false_iff_ne]; omega⟩
theorem verText_0 (s sig : Nat → BitVec 8) (k : Nat) (hb : bitS s k = 0) (j : Nat) (hj : j < 64 * k + 64) :
    cat (cat (fun j => By (verText s sig j)) (64 * k) (fun j => By (shaD (fun x => sig (64 * k + x)) 32 j))) (64 * k + 32) (fun x => By (sig (64 * k + 32 + x))) j = By (verText s sig j) := by
  simp only [cat]
  by_cases h1 : j < 64 * k
  · rw [if_pos (by omega), if_pos h1]
  · unfold verText
    by_cases h2 : j < 64 * k + 32
    · rw [if_pos h2, if_neg h1, show j / 64 = k from by omega, if_pos hb, if_pos (by omega), show j % 64 = j - 64 * k from by omega]
    · rw [if_neg h2, show j / 64 = k from by omega, if_pos hb, if_neg (by omega), show 64 * k + 32 + (j % 64 - 32) = 64 * k + 32 + (j - (64 * k + 32)) from by omega]
theorem verText_1 (s sig : Nat → BitVec 8) (k : Nat) (hb : bitS s k ≠ 0) (j : Nat) (hj : j < 64 * k + 64) :
    cat (cat (fun j => By (verText s sig j)) (64 * k) (fun x => By (sig (64 * k + 32 + x)))) (64 * k + 32) (fun j => By (shaD (fun x => sig (64 * k + x)) 32 j)) j = By (verText s sig j) := by
  simp only [cat]
  by_cases h1 : j < 64 * k
  · rw [if_pos (by omega), if_pos h1]
  · unfold verText
    by_cases h2 : j < 64 * k + 32
    · rw [if_pos h2, if_neg h1, show j / 64 = k from by omega, if_neg hb, if_pos (by omega), show 64 * k + 32 + j % 64 = 64 * k + 32 + (j - 64 * k) from by omega]
    · rw [if_neg h2, show j / 64 = k from by omega, if_neg hb, if_neg (by omega), show j % 64 - 32 = j - (64 * k + 32) from by omega]
theorem Tabs.drew {w : World} (t : Tabs w) : Tabs w.drew := ⟨t.h.drew, Tab.drew t.k⟩
theorem cof5v : Tryd.prog.cellsOf 5 = 1 := by kernel_rfl
theorem run_fits (key s sig : Nat → BitVec 8) (w : World) : (Op.equalIn 10000 23 (.agg (cellsOf (fun j => By (shaD (verText s sig) 2048 j)) 32)) (.agg (cellsOf (fun j => By (key j)) 32))).run Tryd.prog w = .ok (fitsB key s sig) w := by
  have h := run_eq_bytes (P := Tryd.prog) 23 5 32 und23 und5 inf5 cof5v (shaD (verText s sig) 2048) key
  rw [h w]; rfl
theorem fits_cases (key s sig : Nat → BitVec 8) : (fitsB key s sig = true ∧ Hid (fitsB key s sig = true)) ∨ (fitsB key s sig = false ∧ Hid (fitsB key s sig = false)) := by
  cases hf : fitsB key s sig
  · exact .inr ⟨rfl, rfl⟩
  · exact .inl ⟨rfl, rfl⟩
theorem run_slice_lh' (t e : TypeId) (hu : Tryd.prog.underlying t = some (.slice e)) (hs : (Tryd.prog.info? e).map (·.size) = some 1) (bb off len cap l h : Nat) (hl : l ≤ h) (hh : h ≤ cap) (hlc : l < cap) (w : World) :
    (Instr.sliceAt t (.slice (some ⟨bb, off, none⟩) len cap) (some (.int .i64 (l : Int))) (some (.int .i64 (h : Int))) none).run Tryd.prog w = .ok (.slice (some ⟨bb, off + l, none⟩) (h - l) (cap - l)) w := by
  cases hq : Tryd.prog.info? e with
  | none => simp [hq] at hs
  | some i =>
    have hi : i.size = 1 := by simpa [hq] using hs
    have hne : ¬ cap = l := by omega
    simp [Instr.sliceAt, Instr.slice, run_underlying hu, Instr.sliceBounds, Instr.sliceBound, asIntOf, sizeOf, typeInfo, hq, hi, Sem.run_bind, hl, hh, hne, Addr.add_mid]
theorem run_slice_h' (t e : TypeId) (hu : Tryd.prog.underlying t = some (.slice e)) (hs : (Tryd.prog.info? e).map (·.size) = some 1) (bb off len cap h : Nat) (hh : h ≤ cap) (w : World) :
    (Instr.sliceAt t (.slice (some ⟨bb, off, none⟩) len cap) none (some (.int .i64 (h : Int))) none).run Tryd.prog w = .ok (.slice (some ⟨bb, off, none⟩) h cap) w := by
  cases hq : Tryd.prog.info? e with
  | none => simp [hq] at hs
  | some i =>
    simp [Instr.sliceAt, Instr.slice, run_underlying hu, Instr.sliceBounds, Instr.sliceBound, asIntOf, sizeOf, typeInfo, hq, Sem.run_bind, hh, Addr.add]
theorem mod_belowdrew {B : Nat} {w w' : World} (h : Below B w.drew w') : Below B w w' := ⟨h.os, h.tape, h.output, h.size, h.block⟩
set_option maxRecDepth 100000 in
theorem Verify_long (key s : Nat → BitVec 8) (q : Option Addr) (m cq : Nat) (hm : m ≠ 2048) (w : World) (N : Nat) (hN : Sz w N) :
    Calls Tryd.prog 30 #[.agg (cellsOf (fun j => By (key j)) 32), .agg (cellsOf (fun j => By (s j)) 32), .slice q m cq] w fun e w' => e = .returned (.int .i64 22) ∧ Below N w w' := by
  have hb : ((m : Int) != 2048) = true := by rw [bne_iff_ne]; omega
  go_enter Tryd.func30, Tryd.ntmps30
  go_wp2_with (first
    | (refine wpl_box rfl 23 (.tmp 0) rfl 32 _ rfl N hN ?_; intro w1 hN1 hb1 h1)
    | (refine wpl_box rfl 23 (.tmp 1) rfl 32 _ rfl (N + 1) hN1 ?_; intro w2 hN2 hb2 h2)
    | fail)
  go_ret
  exact ⟨rfl, hb1.trans (hb2.mono (by omega))⟩
/-- What stands behind the region of a round, whichever order it took. -/
structure VMid (w : World) (N k : Nat) (key s sig : Nat → BitVec 8) (pt : Option Addr) (ct g : Nat) (w5 : World) : Prop where
  h5 : Has w5 g 23 32 (fun j => By (shaD (fun x => sig (64 * k + x)) 32 j))
  o5 : Own w5 5 pt (64 * k) ct (fun j => By (verText s sig j))
  r1 : Has w5 N 23 32 (fun j => By (key j))
  r2 : Has w5 (N + 1) 23 32 (fun j => By (s j))
  b5 : Below N w w5
  dis : some g ≠ blk pt
set_option maxRecDepth 100000 in
set_option maxHeartbeats 1000000 in
theorem Verify_any (key s sig : Nat → BitVec 8) (q : Option Addr) (cq : Nat) (hcq : 2048 ≤ cq) (w : World) (N : Nat) (hN : Sz w N) (hT : Tabs w) (hS : Bytes w q 2048 sig) :
    Calls Tryd.prog 30 #[.agg (cellsOf (fun j => By (key j)) 32), .agg (cellsOf (fun j => By (s j)) 32), .slice q 2048 cq] w fun e w' => e = .returned (.int .i64 (verAns key s sig)) ∧ Below N w w' := by
  have hTN := hT.ltN hN
  have hsl := slice32
  obtain ⟨bb, off, rfl, hsig⟩ := hS (by omega)
  have hbb : bb < N := by
    have := World.block_lt_of_cell? w _ (hsig 0 (by omega))
    have e : w.heap.size = N := hN
    simp only at this
    omega
  go_enter Tryd.func30, Tryd.ntmps30
  go_wp2_with (first
    | (refine wpl_box rfl 23 (.tmp 0) rfl 32 _ rfl N hN ?_; intro w1 hN1 hb1 h1)
    | (refine wpl_box rfl 23 (.tmp 1) rfl 32 _ rfl (N + 1) hN1 ?_; intro w2 hN2 hb2 h2)
    | (at_make; refine wpl_make rfl 22 (.const (.int .i64 0)) (.const (.int .i64 2048)) rfl rfl 2048 rfl 5 und22 one5 (by omega) (N + 1 + 1) hN2 (fun j => By (verText s sig j)) ?_; intro w3 hown0 hb3 hlt3)
    | fail)
  go_loopw [7, 16] (fun t i wr => ∃ (k : Nat) (pt : Option Addr) (ct : Nat), k ≤ 32 ∧ i = .int .i64 k ∧ t = .slice pt (64 * k) ct ∧ Own wr 5 pt (64 * k) ct (fun j => By (verText s sig j)) ∧
      Has wr N 23 32 (fun j => By (key j)) ∧ Has wr (N + 1) 23 32 (fun j => By (s j)) ∧ Below N w wr ∧ (∀ g, blk pt = some g → N + 2 ≤ g))
    (fun _ i _ => 32 - (intOf i).toNat)
  case atStart => exact ⟨0, _, 2048, by omega, rfl, rfl, hown0, (h1.below hb2 (by omega)).below hb3 (by omega), h2.below hb3 (by omega), (hb1.trans (hb2.mono (by omega))).trans (hb3.mono (by omega)), fun g hg => by simp [blk] at hg; omega⟩
  case round =>
    clear hown0 hb1 hb2 hb3
    obtain ⟨k, pt, ct, hk, rfl, rfl, hown, q1, q2, qb, hp⟩ := hrel
    obtain ⟨M, hM⟩ := sz_some wr
    have hNM : N + 2 ≤ M := q2.ltN hM
    by_cases hlt : k < 32
    · have hs1 : ∀ w, (Instr.sliceAt 22 (.slice (some ⟨bb, off, none⟩) 2048 cq) (some (.int .i64 ((k : Int) * 64))) (some (.int .i64 (((k : Int) + 1) * 64))) none).run Tryd.prog w = .ok (.slice (some ⟨bb, off + 64 * k, none⟩) 64 (cq - 64 * k)) w := fun w => by
        have := run_slice_lh' 22 5 und22 inf5 bb off 2048 cq (64 * k) (64 * k + 64) (by omega) (by omega) (by omega) w
        rw [show ((64 * k : Nat) : Int) = (k : Int) * 64 from by omega, show ((64 * k + 64 : Nat) : Int) = ((k : Int) + 1) * 64 from by omega, show 64 * k + 64 - 64 * k = 64 from by omega] at this
        exact this
      have hs2 : ∀ w, (Instr.sliceAt 22 (.slice (some ⟨bb, off + 64 * k, none⟩) 64 (cq - 64 * k)) none (some (.int .i64 32)) none).run Tryd.prog w = .ok (.slice (some ⟨bb, off + 64 * k, none⟩) 32 (cq - 64 * k)) w :=
        run_slice_h' _ _ und22 inf5 _ _ _ _ 32 (by omega)
      have hs3 : ∀ w, (Instr.sliceAt 22 (.slice (some ⟨bb, off + 64 * k, none⟩) 64 (cq - 64 * k)) (some (.int .i64 32)) none none).run Tryd.prog w = .ok (.slice (some ⟨bb, off + 64 * k + 32, none⟩) 32 (cq - 64 * k - 32)) w := fun w => by
        have := run_slice_from (P := Tryd.prog) 22 5 und22 inf5 (some ⟨bb, off + 64 * k, none⟩) 64 (cq - 64 * k) 32 (by omega) w
        rw [cutAt_lt bb _ _ 32 (by omega)] at this
        exact this
      have hw1 : ∀ wz, Below N w wz → Bytes wz (some ⟨bb, off + 64 * k, none⟩) 32 (fun x => sig (64 * k + x)) := fun wz hz _ => ⟨bb, off + 64 * k, rfl, fun j hj => by
        rw [hz.cell (p := ⟨bb, off + 64 * k + j, none⟩) hbb]; have := hsig (64 * k + j) (by omega); simp only [← Nat.add_assoc] at this; exact this⟩
      have hw2 : ∀ wz, Below N w wz → Cells wz (some ⟨bb, off + 64 * k + 32, none⟩) 32 (fun x => By (sig (64 * k + 32 + x))) := fun wz hz _ => ⟨_, rfl, fun j hj => by
        rw [Addr.add_mid, hz.cell (p := ⟨bb, off + 64 * k + 32 + j, none⟩) hbb]; have := hsig (64 * k + 32 + j) (by omega); simp only [← Nat.add_assoc] at this; exact this⟩
      go_wp2_with fail
      refine wp_region_any (by kernel_rfl) ?_
      change wpAny _ _ _ _ _ _ _ (World.drew _)
      refine wpAny_take (i := 0) (v := ?v0b0) rfl (by kernel_rfl) (by kernel_rfl) (by kernel_rfl) (fun _ _ _ h => h) (Or.inl ⟨by rfl, ?y0b0⟩) ?r0b0
      case y0b0 => (intro w; go_simp; first | done | with_reducible rfl)
      refine wpAny_take (i := 1) (v := ?v1b0) rfl (by kernel_rfl) (by kernel_rfl) (by kernel_rfl) (fun _ _ _ h => h) (Or.inl ⟨by rfl, ?y1b0⟩) ?r1b0
      case y1b0 => (intro w; go_simp; first | done | with_reducible rfl)
      refine wpAny_take (i := 3) (v := ?v3b0) rfl (by kernel_rfl) (by kernel_rfl) (by kernel_rfl) (fun _ _ _ h => h) (Or.inl ⟨by rfl, ?y3b0⟩) ?r3b0
      case y3b0 => (intro w; go_simp; first | done | with_reducible rfl)
      refine wpAny_take (i := 4) (v := ?v4b0) rfl (by kernel_rfl) (by kernel_rfl) (by kernel_rfl) (fun _ _ _ h => h) (Or.inl ⟨by rfl, ?y4b0⟩) ?r4b0
      case y4b0 => (intro w; go_simp; first | done | with_reducible rfl)
      simp only [Act.put, List.setIfInBounds_toArray, List.set_cons_succ, List.set_cons_zero, List.getElem_toArray, List.getElem_cons_succ, List.getElem_cons_zero]
      have hd : decide ((k : Int) < 32) = true := by simp; omega
      try rw [hd]
      clear hd
      refine wpAny_join 2 5 [5, 6, 7] [2, 6, 7] _ _ _ _ (fun a (g : Nat) => ((a.put (some 28) (.agg (cellsOf (fun j => By (shaD (fun x => sig (64 * k + x)) 32 j)) 32))).put (some 10) (.pointer (some ⟨g, 0, none⟩))).put (some 11) (.slice (some ⟨bb, off + 64 * k + 32, none⟩) 32 (cq - 64 * k - 32))) (VMid w N k key s sig pt ct) (by kernel_rfl) (by kernel_rfl) ?_ ?_ ?_
      all_goals try simp only [List.filterMap_cons, List.filterMap_nil, List.getElem?_toArray, List.getElem?_cons_succ, List.getElem?_cons_zero]
      · intro HT
        go_wp2_with fail
        refine (Sum_any _ 32 (cq - 64 * k) (fun x => sig (64 * k + x)) _ M (by exact hM) (by exact (hT.below qb hTN).drew) (by omega) (by omega) (by exact hw1 wr qb)).mono ?_
        rintro e w3 ⟨rfl, hb3⟩
        have hb3' : Below M wr w3 := (mod_belowdrew hb3)
        obtain ⟨M3, hM3⟩ := sz_some w3
        have hMM3 := below_sz hb3' hM hM3
        dsimp only
        go_step
        refine wpl_alloc rfl 23 rfl 32 _ zer23 M3 hM3 ?_
        intro w4 hM4 hb4 h4
        refine wpl_store rfl 23 (.tmp 10) (.tmp 28) rfl M3 32 _ rfl rfl 23 _ h4 inf23 (fun _ _ => rfl) ?_
        intro w5 ht5 h5
        refine wpl_pure rfl (v := .slice (some ⟨bb, off + 64 * k + 32, none⟩) 32 (cq - 64 * k - 32)) (by intro w; rfl) ?_
        exact HT.out M3 w5 ⟨h5, ((hown.below hb3' (Nat.le_of_eq hM)).below hb4 (Nat.le_of_eq hM3)).touch ht5 (fun g hg => by have := hown.lt g hg; have e : wr.heap.size = M := hM; omega),
          ((q1.below hb3' (by omega)).below hb4 (by omega)).touch ht5 (by omega), ((q2.below hb3' (by omega)).below hb4 (by omega)).touch ht5 (by omega),
          ht5.below ((qb.trans (hb3'.mono (by omega))).trans (hb4.mono (by omega))) (by omega), fun e => by have := hown.lt M3 e.symm; have e2 : wr.heap.size = M := hM; omega⟩
      · intro HT
        refine wpl_alloc rfl 23 rfl 32 _ zer23 M (by exact hM) ?_
        intro w3 hM3' hb3 h3
        have hb3' : Below M wr w3 := (mod_belowdrew hb3)
        go_wp2_with fail
        refine (Sum_any _ 32 (cq - 64 * k) (fun x => sig (64 * k + x)) _ (M + 1) hM3' (hT.below (qb.trans (hb3'.mono (by omega))) hTN) (by omega) (by omega) (hw1 _ (qb.trans (hb3'.mono (by omega))))).mono ?_
        rintro e w4 ⟨rfl, hb4⟩
        obtain ⟨M4, hM4⟩ := sz_some w4
        have hMM4 := below_sz hb4 hM3' hM4
        dsimp only
        go_step
        refine wpl_store rfl 23 (.tmp 10) (.tmp 28) rfl M 32 _ rfl rfl 23 _ (h3.below hb4 (by omega)) inf23 (fun _ _ => rfl) ?_
        intro w5 ht5 h5
        refine wpl_pure rfl (v := .slice (some ⟨bb, off + 64 * k + 32, none⟩) 32 (cq - 64 * k - 32)) (by intro w; rfl) ?_
        exact HT.out M w5 ⟨h5, ((hown.below hb3' (Nat.le_of_eq hM)).below hb4 (Nat.le_of_eq hM3')).touch ht5 (fun g hg => by have := hown.lt g hg; have e : wr.heap.size = M := hM; omega),
          ((q1.below hb3' (by omega)).below hb4 (by omega)).touch ht5 (by omega), ((q2.below hb3' (by omega)).below hb4 (by omega)).touch ht5 (by omega),
          ht5.below ((qb.trans (hb3'.mono (by omega))).trans (hb4.mono (by omega))) (by omega), fun e => by have := hown.lt M e.symm; have e2 : wr.heap.size = M := hM; omega⟩
      · rintro g w5 ⟨h5, o5, r1, r2, b5, ndis⟩
        obtain ⟨M5, hM5⟩ := sz_some w5
        have hz6 : N + 2 ≤ M5 := r2.ltN hM5
        have h5lt := h5.ltN hM5
        simp only [Act.put, List.setIfInBounds_toArray, List.set_cons_succ, List.set_cons_zero]
        rcases bit_cases s k with ⟨HB, hbz⟩ | ⟨HB, hbz⟩
        · go_wp2_with (first
            | (refine wpl_load rfl 23 (.tmp 4) rfl (N + 1) rfl 23 32 _ r2 _ und23 rfl inf23 ?_)
            | (go_at_call 54; refine (bitOf_any s k _ rfl hlt _ M5 hM5).mono ?_; rintro e w6 ⟨rfl, hb6⟩; have o6 := o5.below hb6 (Nat.le_of_eq hM5); have h6 := h5.below hb6 h5lt; have r1' := r1.below hb6 (by omega); have r2' := r2.below hb6 (by omega); have b6 := b5.trans (hb6.mono (by omega)); have z6 : N + 2 ≤ w6.heap.size := by (have := hb6.size; have e : w5.heap.size = M5 := hM5; omega))
            | (refine wpl_app rfl (.tmp 35) (.tmp 36) 22 rfl 5 und22 one5 pt (64 * k) ct rfl _ o6 _ 32 32 rfl _ h6.cells (fun _ _ => rfl) (by omega) ?_; intro pt7 ct7 w7 o7 g7 k7 n7; have b7 := g7.below b6 (by omega) (fun g hg => by have := hp g hg; omega))
            | (refine wpl_app rfl (.tmp 38) (.tmp 39) 22 rfl 5 und22 one5 pt7 (64 * k + 32) ct7 rfl _ o7 _ 32 _ rfl (fun x => By (sig (64 * k + 32 + x))) (hw2 _ b7) (fun _ _ => rfl) (by omega) ?_; intro pt8 ct8 w8 o8 g8 k8 n8)
            | fail)
          have hp7 := ge_step hp k7 z6
          have z7 : N + 2 ≤ w7.heap.size := Nat.le_trans z6 g7.size
          have b8 := g8.below b7 (by omega) (fun g hg => by have := hp7 g hg; omega)
          have hp8 := ge_step hp7 k8 z7
          have u1 := (r1'.grew g7 (fun e => by have := hp N e.symm; omega)).grew g8 (fun e => by have := hp7 N e.symm; omega)
          have u2 := (r2'.grew g7 (fun e => by have := hp (N + 1) e.symm; omega)).grew g8 (fun e => by have := hp7 (N + 1) e.symm; omega)
          refine ⟨⟨k + 1, pt8, ct8, by omega, by go_num, by rw [show 64 * (k + 1) = 64 * k + 32 + 32 from by omega], ?_, u1, u2, b8, hp8⟩, by simp [intOf]; omega⟩
          rw [show 64 * (k + 1) = 64 * k + 32 + 32 from by omega]
          exact o8.congr (fun j hj => verText_0 s sig k (by exact HB.out) j (by omega))
        · go_wp2_with (first
            | (refine wpl_load rfl 23 (.tmp 4) rfl (N + 1) rfl 23 32 _ r2 _ und23 rfl inf23 ?_)
            | (go_at_call 54; refine (bitOf_any s k _ rfl hlt _ M5 hM5).mono ?_; rintro e w6 ⟨rfl, hb6⟩; have o6 := o5.below hb6 (Nat.le_of_eq hM5); have h6 := h5.below hb6 h5lt; have r1' := r1.below hb6 (by omega); have r2' := r2.below hb6 (by omega); have b6 := b5.trans (hb6.mono (by omega)); have z6 : N + 2 ≤ w6.heap.size := by (have := hb6.size; have e : w5.heap.size = M5 := hM5; omega))
            | (refine wpl_app rfl (.tmp 41) (.tmp 42) 22 rfl 5 und22 one5 pt (64 * k) ct rfl _ o6 _ 32 _ rfl (fun x => By (sig (64 * k + 32 + x))) (hw2 _ b6) (fun _ _ => rfl) (by omega) ?_; intro pt7 ct7 w7 o7 g7 k7 n7; have b7 := g7.below b6 (by omega) (fun g hg => by have := hp g hg; omega); have h7 := h6.grew g7 ndis)
            | (refine wpl_app rfl (.tmp 44) (.tmp 45) 22 rfl 5 und22 one5 pt7 (64 * k + 32) ct7 rfl _ o7 _ 32 32 rfl _ h7.cells (fun _ _ => rfl) (by omega) ?_; intro pt8 ct8 w8 o8 g8 k8 n8)
            | fail)
          have hp7 := ge_step hp k7 z6
          have z7 : N + 2 ≤ w7.heap.size := Nat.le_trans z6 g7.size
          have b8 := g8.below b7 (by omega) (fun g hg => by have := hp7 g hg; omega)
          have hp8 := ge_step hp7 k8 z7
          have u1 := (r1'.grew g7 (fun e => by have := hp N e.symm; omega)).grew g8 (fun e => by have := hp7 N e.symm; omega)
          have u2 := (r2'.grew g7 (fun e => by have := hp (N + 1) e.symm; omega)).grew g8 (fun e => by have := hp7 (N + 1) e.symm; omega)
          refine ⟨⟨k + 1, pt8, ct8, by omega, by go_num, by rw [show 64 * (k + 1) = 64 * k + 32 + 32 from by omega], ?_, u1, u2, b8, hp8⟩, by simp [intOf]; omega⟩
          rw [show 64 * (k + 1) = 64 * k + 32 + 32 from by omega]
          exact o8.congr (fun j hj => verText_1 s sig k (by exact HB.out) j (by omega))
    · obtain rfl : 32 = k := by omega
      have hB : Bytes wr pt 2048 (verText s sig) := fun h0 => by obtain ⟨g, e, hc⟩ := hown.cell h0; exact ⟨g, 0, e, hc⟩
      have hct := hown.le
      have hfit := run_fits key s sig
      go_wp2_with fail
      refine wp_region_any (by kernel_rfl) ?_
      change wpAny _ _ _ _ _ _ _ (World.drew _)
      refine wpAny_take (i := 0) (v := ?v0e0) rfl (by kernel_rfl) (by kernel_rfl) (by kernel_rfl) (fun _ _ _ h => h) (Or.inl ⟨by rfl, ?y0e0⟩) ?r0e0
      case y0e0 => (intro w; go_simp; first | done | with_reducible rfl)
      simp only [Act.put, List.setIfInBounds_toArray, List.set_cons_succ, List.set_cons_zero, List.getElem_toArray, List.getElem_cons_zero]
      refine wpAny_join 1 2 [2, 3] [1, 3] _ _ _ _ (fun a (_ : Unit) => ((a.put (some 49) (.agg (cellsOf (fun j => By (shaD (verText s sig) 2048 j)) 32))).put (some 50) (.agg (cellsOf (fun j => By (key j)) 32))).put (some 51) (.bool (!fitsB key s sig))) (fun _ w5 => Below N w w5) (by kernel_rfl) (by kernel_rfl) ?_ ?_ ?_
      all_goals try simp only [List.filterMap_cons, List.filterMap_nil, List.getElem?_toArray, List.getElem?_cons_succ, List.getElem?_cons_zero]
      · intro HT
        go_wp2_with fail
        refine (Sum_any pt 2048 ct (verText s sig) _ M (by exact hM) (by exact (hT.below qb hTN).drew) hct (by omega) (by exact hB)).mono ?_
        rintro e w5 ⟨rfl, hb5⟩
        have hb5' : Below M wr w5 := mod_belowdrew hb5
        dsimp only
        go_step
        refine wpl_load rfl 23 (.tmp 3) rfl N rfl 23 32 _ (q1.below hb5' (by omega)) _ und23 rfl inf23 ?_
        refine wpl_neq rfl 23 23 (.tmp 49) (.tmp 50) rfl _ _ rfl rfl _ (by kernel_rfl) (hfit w5) ?_
        exact HT.out () w5 (qb.trans (hb5'.mono (by omega)))
      · intro HT
        refine wpl_load rfl 23 (.tmp 3) rfl N rfl 23 32 _ (by exact q1) _ und23 rfl inf23 ?_
        go_wp2_with fail
        refine (Sum_any pt 2048 ct (verText s sig) _ M (by exact hM) (by exact (hT.below qb hTN).drew) hct (by omega) (by exact hB)).mono ?_
        rintro e w5 ⟨rfl, hb5⟩
        have hb5' : Below M wr w5 := mod_belowdrew hb5
        dsimp only
        go_step
        refine wpl_neq rfl 23 23 (.tmp 49) (.tmp 50) rfl _ _ rfl rfl _ (by kernel_rfl) (hfit w5) ?_
        exact HT.out () w5 (qb.trans (hb5'.mono (by omega)))
      · intro _ w5 b5
        clear hfit
        simp only [Act.put, List.setIfInBounds_toArray, List.set_cons_succ, List.set_cons_zero]
        rcases fits_cases key s sig with ⟨hf, HF⟩ | ⟨hf, HF⟩
        · rw [hf]
          clear hf
          go_wp2_with fail
          go_ret
          exact ⟨by unfold verAns; rw [HF.out]; rfl, b5⟩
        · rw [hf]
          clear hf
          go_wp2_with fail
          go_ret
          exact ⟨by unfold verAns; rw [HF.out]; rfl, b5⟩
end Go.Proofs.YtcampjgemedhlaaDoor
