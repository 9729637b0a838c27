/- takeNumber and end of digest. -/
import Derived.Test.YtjdclgnlnehjlaaDoorMgDig2
namespace Go.Proofs.YtjdclgnlnehjlaaDoor
open Go Go.RowKit Sha
theorem und104 : Tryd.prog.underlying 128 = some (.array 8 5) := by kernel_rfl
theorem zer104 : (Tryd.prog.info? 128).map (fun i => (i.zero, i.size)) = some (some (.agg (cellsOf (fun _ => By 0) 8)), 8) := by kernel_rfl
theorem v8_be8 (n j : Nat) : v8 (be8 n j) = (n : Int) / 2 ^ (56 - 8 * j) % 256 := by
  unfold v8 be8
  rw [BitVec.toNat_ofNat]
  simp
set_option maxRecDepth 100000 in
theorem takeNumber_any (R : Nat) (s : Run) (L n : Nat) (w : World) (hT : Tabs w) (hR : 2 < R) (hs : s.f < 64)
    (hr : Has w R 112 74 (rc s (L : Int))) (hL : L + 8 ≤ 1000000) :
    Calls Tryd.prog 64 #[.pointer (some ⟨R, 0, none⟩), .int .u64 (n : Int)] w fun e w' =>
      e = .returned (.tuple #[]) ∧ Mod R w w' ∧ Has w' R 112 74 (rc (feed s (be8 n) 8) ((L + 8 : Nat) : Int)) := by
  obtain ⟨N, hN⟩ := sz_some w
  have hRN := hr.ltN hN
  have hsl : ∀ w, (Instr.sliceAt 128 (.pointer (some ⟨N, 0, none⟩)) none none none).run Tryd.prog w = .ok (.slice (some ⟨N, 0, none⟩) 8 8) w := run_sliceArr_all _ _ 8 und104 inf5 N 0
  go_enter Tryd.func64, Tryd.ntmps64
  go_wp2_with (first
    | (refine wpl_alloc rfl 128 rfl 8 _ zer104 N hN ?_; intro w1 hN1 hb1 h1)
    | fail)
  go_loopw [6] (fun i wr => ∃ k : Nat, k ≤ 8 ∧ i = .int .i64 k ∧ Has wr N 128 8 (fun j => By (if j < k then be8 n j else 0)) ∧ Below N w wr)
    (fun i _ => 8 - (intOf i).toNat)
  case atStart => exact ⟨0, by omega, rfl, h1.congr (fun j _ => by rw [if_neg (by omega)]), hb1⟩
  case round =>
    obtain ⟨k, hk, rfl, q, qb⟩ := hrel
    by_cases hlt : k < 8
    · have d1 : wr.cell? ⟨N, k, none⟩ = some (By (if k < k then be8 n k else 0)) := q.cell hlt
      have d2 := q.free k
      go_wp2_with fail
      exact ⟨⟨k + 1, by omega, by go_num, (q.set k _).congr (fun j _ => by
          simp only [upd]
          by_cases e : j = k
          · subst e; rw [if_pos rfl, if_pos (by omega)]; exact int_congr (v8_be8 n j).symm
          · rw [if_neg e]
            by_cases h2 : j < k
            · rw [if_pos h2, if_pos (by omega)]
            · rw [if_neg h2, if_neg (by omega)]), (touch_setCell wr ⟨N, k, none⟩ _).below qb (Nat.le_refl N)⟩, by simp [intOf]; omega⟩
    · obtain rfl : 8 = k := by omega
      go_wp2_with (first
        | (go_at_call 65; refine (take_any R s L 8 8 (some ⟨N, 0, none⟩) (be8 n) _ (hT.below qb (hT.ltN hN)) hR hs (hr.below qb hRN) hL (by omega) (fun _ => ⟨N, 0, rfl, by omega, fun j hj => by (have := q.cell hj; rw [if_pos hj] at this; rw [Nat.zero_add]; exact this)⟩)).mono ?_; rintro e w2 ⟨rfl, hm2, h2⟩)
        | fail)
      go_end0
      exact ⟨rfl, ⟨hm2.os.trans qb.os, hm2.tape.trans qb.tape, hm2.output.trans qb.output, Nat.le_trans qb.size hm2.size, fun i hi hr => (hm2.block i (Nat.lt_of_lt_of_le hi qb.size) hr).trans (qb.block i (by have e : w.heap.size = N := hN; omega))⟩, h2⟩
theorem zer23 : (Tryd.prog.info? 40).map (fun i => (i.zero, i.size)) = some (some (.agg (cellsOf (fun _ => By 0) 32)), 32) := by kernel_rfl
theorem und23 : Tryd.prog.underlying 40 = some (.array 32 5) := by kernel_rfl
theorem inf23 : (Tryd.prog.info? 40).map (·.size) = some 32 := by kernel_rfl
theorem mod_touch_new {R M N : Nat} {w wr w' : World} (h : Mod R w wr) (hN : Sz w N) (t : Touch M wr w') (hM : N ≤ M) : Mod R w w' :=
  ⟨t.os.trans h.os, t.tape.trans h.tape, t.output.trans h.output, Nat.le_trans h.size (Nat.le_of_eq t.size.symm), fun i hi hr => (t.block i (by have e : w.heap.size = N := hN; omega)).trans (h.block i hi hr)⟩
theorem mod_alloc (R : Nat) (w : World) (o : Obj) : Mod R w (w.alloc o) := ⟨rfl, rfl, rfl, by show w.heap.size ≤ (w.heap.push o).size; simp, fun k hk _ => Below.heap_alloc w o k hk⟩
/-- One byte in a block of its own. -/
theorem src_one {w : World} {R : Nat} (hR : R < w.heap.size) (x : BitVec 8) (v : Int) (hv : v = v8 x) (t : TypeId) : Src (w.alloc (.cells #[.int .u8 v] t)) R (some ⟨w.heap.size, 0, none⟩) 1 (fun _ => x) := fun _ =>
  ⟨w.heap.size, 0, rfl, by omega, fun j hj => by
    obtain rfl : j = 0 := by omega
    rw [cell_of_row _ _ _ _ _ _ (heap_alloc_new w _), hv]; rfl⟩
theorem takeNumber_at (R : Nat) (s : Run) (L n : Nat) (v : Int) (hv : v = (n : Int)) (w : World) (hT : Tabs w) (hR : 2 < R) (hs : s.f < 64)
    (hr : Has w R 112 74 (rc s (L : Int))) (hL : L + 8 ≤ 1000000) :
    Calls Tryd.prog 64 #[.pointer (some ⟨R, 0, none⟩), .int .u64 v] w fun e w' =>
      e = .returned (.tuple #[]) ∧ Mod R w w' ∧ Has w' R 112 74 (rc (feed s (be8 n) 8) ((L + 8 : Nat) : Int)) := by
  subst hv; exact takeNumber_any R s L n w hT hR hs hr hL
/-- How many noughts lack, told by the count's cell. -/
def gapOf (w : World) (R : Nat) : Nat := match w.cell? ⟨R, 72, none⟩ with | some (.int _ f) => (120 - f.toNat) % 64 | _ => 0
theorem gapOf_rc {w : World} {R : Nat} {s : Run} {L : Int} (h : Has w R 112 74 (rc s L)) : gapOf w R = (120 - s.f) % 64 := by
  have c : w.cell? ⟨R, 72, none⟩ = some (.int .i64 (s.f : Int)) := h.cell (by omega)
  unfold gapOf; rw [c]; rfl
theorem v8_wordByte (H : Nat → W32) (j : Nat) : u (H (j / 4)) / (2 : Int) ^ (24 - 8 * (j % 4)) % (256 : Int) = v8 (wordByte H j) := by
  unfold v8 wordByte u
  rw [BitVec.toNat_ofNat]
  simp
set_option maxRecDepth 100000 in
set_option maxHeartbeats 800000 in
theorem end_any (R : Nat) (s : Run) (L : Nat) (w : World) (hT : Tabs w) (hR : 2 < R) (hs : s.f < 64)
    (hr : Has w R 112 74 (rc s (L : Int))) (hL : L + 100 ≤ 1000000) :
    Calls Tryd.prog 66 #[.pointer (some ⟨R, 0, none⟩)] w fun e w' =>
      e = .returned (.agg (cellsOf (fun j => By (sumByte s L j)) 32)) ∧ Mod R w w' := by
  obtain ⟨N, hN⟩ := sz_some w
  have hRN := hr.ltN hN
  have hTN := hT.ltN hN
  have c73 : w.cell? ⟨R, 73, none⟩ = some (.int .u64 (L : Int)) := hr.cell (by omega)
  go_enter Tryd.func66, Tryd.ntmps66
  go_wp2_with (first
    | (refine wpl_alloc rfl 40 rfl 32 _ zer23 N hN ?_; intro w1 hN1 hb1 h1; clear c73; have c73 : w1.cell? ⟨R, 73, none⟩ = some (.int .u64 (L : Int)) := (hr.below hb1 hRN).cell (by omega))
    | (go_at_call 65; refine (take_any R s L 1 1 _ (fun _ => 0x80) _ ((hT.below hb1 hTN).mod (mod_alloc R _ _) hR) hR hs ((hr.below hb1 hRN).alloc _) (by omega) (by omega) (src_one (hr.below hb1 hRN).lt 0x80 128 rfl 5)).mono ?_; rintro e w2 ⟨rfl, hm2, h2⟩)
    | fail)
  have hm1 : Mod R w w2 := (mod_of_below hN hb1).trans ((mod_alloc R _ _).trans hm2)
  have h1' := (h1.alloc (.cells #[.int .u8 128] 5)).mod hm2 (by omega)
  change Has w2 R 112 74 (rc (feed1 s 0x80) ((L + 1 : Nat) : Int)) at h2
  have hf1 : (feed1 s 0x80).f < 64 := feed_f s (fun _ => 0x80) hs 1
  have hsum : sumByte s L = fun j => wordByte (feed (zer (feed1 s 0x80) ((120 - (feed1 s 0x80).f) % 64)) (be8 (8 * L)) 8).H j := rfl
  have Hsum := hid hsum
  clear hsum c73
  generalize feed1 s 0x80 = s1 at *
  obtain ⟨z, hz⟩ : ∃ z, z = (120 - s1.f) % 64 := ⟨_, rfl⟩
  have Hz := hid hz
  have hz64 : z < 64 := by omega
  have hzf : (s1.f + z) % 64 = 56 := by omega
  clear hz
  go_loopw [] (fun wr => ∃ k : Nat, k ≤ z ∧ Has wr R 112 74 (rc (zer s1 k) ((L + 1 + k : Nat) : Int)) ∧ Has wr N 40 32 (fun _ => By 0) ∧ Mod R w wr) (fun wr => gapOf wr R)
  case atStart => exact ⟨0, by omega, h2, h1', hm1⟩
  case round =>
    obtain ⟨k, hk, q, q1, qm⟩ := hrel
    have hfk := zer_f s1 hf1 k
    have hfk64 : (zer s1 k).f < 64 := by omega
    have c72 : wr.cell? ⟨R, 72, none⟩ = some (.int .i64 ((zer s1 k).f : Int)) := q.cell (by omega)
    by_cases hlt : k < z
    · have hb : (((zer s1 k).f : Int) != 56) = true := by
        have := Hz.out
        rw [bne_iff_ne]; omega
      have hgap := gapOf_rc q
      have Hgap := hid hgap
      clear hgap
      have Hfk := hid hfk
      clear hfk
      go_wp2_with (first
        | (go_at_call 65; refine (take_any R (zer s1 k) (L + 1 + k) 1 1 _ (fun _ => 0) _ ((hT.mod qm hR).mod (mod_alloc R _ _) hR) hR hfk64 (q.alloc _) (by omega) (by omega) (src_one q.lt 0 0 rfl 5)).mono ?_; rintro e w3 ⟨rfl, hm3, h3⟩)
        | fail)
      change Has w3 R 112 74 (rc (zer s1 (k + 1)) ((L + 1 + (k + 1) : Nat) : Int)) at h3
      have hm4 := qm.trans ((mod_alloc R wr (.cells #[.int .u8 0] 5)).trans hm3)
      refine ⟨⟨k + 1, by omega, h3, (q1.alloc _).mod hm3 (by omega), hm4⟩, ?_⟩
      rw [Hgap.out, gapOf_rc h3, zer_f s1 hf1 (k + 1), Hfk.out]
      have := Hz.out
      omega
    · obtain rfl : z = k := by omega
      have hb : (((zer s1 z).f : Int) != 56) = false := by
        rw [bne_eq_false_iff_eq]; omega
      have Hfk := hid hfk
      clear hfk
      obtain ⟨S, hS⟩ : ∃ S, S = feed (zer s1 z) (be8 (8 * L)) 8 := ⟨_, rfl⟩
      have HS := hid hS
      clear hS
      go_wp2_with (first
        | (go_at_call 64; refine (takeNumber_at R (zer s1 z) (L + 1 + z) (8 * L) _ (by simp) _ (hT.mod qm hR) hR hfk64 q (by omega)).mono ?_; rintro e w3 ⟨rfl, hm3, h3⟩; obtain ⟨M, hM⟩ := sz_some w3; rw [← HS.out] at h3; have q3 := q1.mod hm3 (by omega); have hRM := h3.ltN hM; have hNM := q3.ltN hM; have hm4 := qm.trans hm3)
        | (refine wpl_alloc rfl 40 rfl 32 _ zer23 M hM ?_; intro w4 hN4 hb4 h4)
        | fail)
      have hm5 := hm4.trans (mod_of_below (R := R) hM hb4)
      go_loopw [25] (fun i wr => ∃ k : Nat, k ≤ 32 ∧ i = .int .i64 k ∧ Has wr R 112 74 (rc S ((L + 1 + z + 8 : Nat) : Int)) ∧ Has wr N 40 32 (fun _ => By 0) ∧ Has wr M 40 32 (fun j => By (if j < k then wordByte S.H j else 0)) ∧ Mod R w wr)
        (fun i _ => 32 - (intOf i).toNat)
      case atStart => exact ⟨0, by omega, rfl, h3.below hb4 hRM, q3.below hb4 hNM, h4.congr (fun j _ => by rw [if_neg (by omega)]), hm5⟩
      case round =>
        clear q q1 qm h3 q3 hm3 hm4 hm5 hb4 h4 c72 hb
        obtain ⟨k, hk, rfl, q, q1, q2, qm⟩ := hrel
        by_cases hlt : k < 32
        · have d1 : wr.cell? ⟨R, k / 4, none⟩ = some (.int .u32 (u (S.H (k / 4)))) := by
            rw [q.cell (by omega)]; unfold rc; rw [if_pos (by omega)]; rfl
          have d2 : wr.cell? ⟨M, k, none⟩ = some (By (if k < k then wordByte S.H k else 0)) := q2.cell hlt
          have d3 := q2.free k
          go_wp2_with fail
          have e1 := v8_wordByte S.H k
          exact ⟨⟨k + 1, by omega, by go_num, q.other _ (by show R ≠ M; omega), q1.other _ (by show N ≠ M; omega), (q2.set k _).congr (fun j _ => by
              simp only [upd]
              by_cases e : j = k
              · subst e; rw [if_pos rfl, if_pos (by omega)]; exact int_congr e1
              · rw [if_neg e]
                by_cases h2 : j < k
                · rw [if_pos h2, if_pos (by omega)]
                · rw [if_neg h2, if_neg (by omega)]), mod_touch_new qm hN (touch_setCell wr ⟨M, k, none⟩ _) (by show N ≤ M; omega)⟩, by simp [intOf]; omega⟩
        · obtain rfl : 32 = k := by omega
          go_wp2_with (first
            | (refine wpl_load rfl 40 (.tmp 4) rfl M rfl 40 32 _ q2 _ und23 rfl inf23 ?_)
            | (refine wpl_store rfl 40 (.tmp 2) (.tmp 44) rfl N 32 _ rfl rfl 40 _ q1 inf23 (fun _ _ => rfl) ?_; intro w8 ht8 h8)
            | fail)
          refine post_cell Tryd.results66 N rfl h8 _ und23 rfl inf23 rfl ⟨?_, ?_⟩
          · rw [Hsum.out, ← Hz.out, ← HS.out, cellsOf_congr (fun j hj => by rw [if_pos hj])]
          · exact mod_touch_new qm hN ht8 (Nat.le_refl N)
end Go.Proofs.YtjdclgnlnehjlaaDoor
