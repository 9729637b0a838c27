/- Hex of digest. The known text's sum. stands of the laws through the layers. A new slice of n noughts; a new block of one cell as what is appended; an operation by what it runs to. Nothing of the program. Contracts of fdtab: New, Open, Get, Close. -/
import Derived.Test.YtbbfdehipgkjmaaDoorMgDig4
import Derived.Test.YtbbfdehipgkjmaaDoorOw
import Derived.Test.YtbbfdehipgkjmaaDoorInns
import Derived.Lib.SlBytesConst
import Derived.Laws.MakeOwn
import Derived.Test.YtbbfdehipgkjmaaDoorChecked
namespace Go.Proofs.YtbbfdehipgkjmaaDoor
open Go Go.RowKit Sha
/-- The sign of a number below 16. -/
def hexD (n : Nat) : Nat := if n < 10 then 48 + n else 87 + n
def hexB (s : Nat → BitVec 8) (j : Nat) : Nat := hexD (if j % 2 = 0 then (s (j / 2)).toNat / 16 else (s (j / 2)).toNat % 16)
def hexS (s : Nat → BitVec 8) : ByteArray := ⟨((List.range 64).map (fun j => UInt8.ofNat (hexB s j))).toArray⟩
def signsS : ByteArray := ⟨#[48, 49, 50, 51, 52, 53, 54, 55, 56, 57, 97, 98, 99, 100, 101, 102]⟩
theorem signs_get : ∀ n, n < 16 → signsS[n]? = some (UInt8.ofNat (hexD n)) := by decide
theorem hexD_lt (n : Nat) (h : n < 16) : hexD n < 256 := by unfold hexD; split <;> omega
theorem one5 : OneCell Tryd.prog 5 := oneCell_of (k := 1) (v := .int .u8 0) (by kernel_rfl) (by omega) rfl
theorem und9 : Tryd.prog.underlying 9 = some .string := by kernel_rfl
theorem run_sign (v : Int) (n : Nat) (hv : v = (n : Int)) (hn : n < 16) (w : World) : (Instr.index 9 (.string signsS) (.int .u8 v)).run Tryd.prog w = .ok (.int .u8 (hexD n : Nat)) w := by
  subst hv
  have h1 := signs_get n hn
  have h2 := hexD_lt n hn
  simp [Instr.index, asIntOf, Sem.run_bind, run_underlying und9 w, h1]
  omega
theorem cells_two (w : World) (a b : Value) (t : TypeId) (j : Nat) (hj : j < 2) : (w.alloc (.cells #[a, b] t)).cell? ⟨w.heap.size, j, none⟩ = some (if j = 0 then a else b) := by
  rw [cell_of_row _ _ _ _ _ _ (heap_alloc_new w _)]
  rcases (show j = 0 ∨ j = 1 by omega) with rfl | rfl <;> rfl
theorem and15 (x : BitVec 8) : bits .and .u8 (v8 x) 15 = ((x.toNat % 16 : Nat) : Int) := by
  unfold v8
  rw [show (15 : Int) = ((15 : Nat) : Int) from rfl, u8_and_nat _ _ x.isLt (by omega), nat_mask4]
theorem run_make64 (w : World) : (Instr.makeSlice 50 (.int .i64 0) (.int .i64 64)).run Tryd.prog w = .ok (.slice (some ⟨w.heap.size, 0, none⟩) 0 64) (w.alloc (.cells (cellsOf (fun _ => By 0) 64) 5)) := by kernel_rfl
set_option maxRecDepth 100000 in
theorem Hex_any (s : Nat → BitVec 8) (w : World) (N : Nat) (hN : Sz w N) :
    Calls Tryd.prog 21 #[.agg (cellsOf (fun j => By (s j)) 32)] w fun e w' => e = .returned (.string (hexS s)) ∧ Below N w w' := by
  have hmk := run_make64
  go_enter Tryd.func21, Tryd.ntmps21
  go_wp2_with (first
    | (refine wpl_box rfl 48 (.tmp 0) rfl 32 _ rfl N hN ?_; intro w1 hN1 hb1 h1)
    | (refine wpl_load rfl 48 (.tmp 1) rfl N rfl 48 32 _ (h1.alloc _) _ und23 rfl inf23 ?_)
    | fail)
  have hb2 : Below N w (w1.alloc (.cells (cellsOf (fun _ => By 0) 64) 5)) := hb1.alloc (by have e : w1.heap.size = N + 1 := hN1; omega) _
  have hown : Own (w1.alloc (.cells (cellsOf (fun _ => By 0) 64) 5)) 5 (some ⟨w1.heap.size, 0, none⟩) 0 64 (fun j => .int .u8 (hexB s j : Nat)) :=
    .inr ⟨_, _, rfl, heap_alloc_new w1 _, by omega, size_cellsOf _ _, fun j hj => by omega⟩
  go_loopw [3, 8] (fun t i wr => ∃ (k : Nat) (p : Option Addr) (cap : Nat), k ≤ 32 ∧ i = .int .i64 k ∧ t = .slice p (2 * k) cap ∧ Own wr 5 p (2 * k) cap (fun j => .int .u8 (hexB s j : Nat)) ∧ Below N w wr ∧ (∀ g, blk p = some g → N ≤ g))
    (fun _ i _ => 32 - (intOf i).toNat)
  case atStart => exact ⟨0, _, 64, by omega, rfl, rfl, hown, hb2, fun g hg => by have e : w1.heap.size = N + 1 := hN1; simp [blk] at hg; omega⟩
  case round =>
    clear hown hb2
    obtain ⟨k, p, cap, hk, rfl, rfl, hown, qb, hp⟩ := hrel
    by_cases hlt : k < 32
    · have hx : ∀ w, (Instr.index 48 (.agg (cellsOf (fun j => By (s j)) 32)) (.int .i64 (k : Int))).run Tryd.prog w = .ok (.int .u8 (v8 (s k))) w := run_index_cells 48 5 32 _ 32 k _ und23 und5 rfl inf5 hlt hlt
      have hs1 := run_sign (v8 (s k) / 16) ((s k).toNat / 16) (by unfold v8; omega) (by have := (s k).isLt; omega)
      have hs2 := run_sign (bits .and .u8 (v8 (s k)) 15) ((s k).toNat % 16) (and15 (s k)) (by omega)
      have b0 := v8_lo (s k)
      have b1 := v8_hi (s k)
      unfold signsS at hs1 hs2
      go_wp2_with fail
      refine wp_region_any (by kernel_rfl) ?_
      change wpAny _ _ _ _ _ _ _ (World.drew _)
      refine wpAny_take (i := 0) (v := ?v0) rfl (by kernel_rfl) (by kernel_rfl) (by kernel_rfl) (fun _ _ _ h => h) (Or.inl ⟨by rfl, ?y0⟩) ?r0
      case y0 => (intro w; go_simp; first | done | with_reducible rfl)
      refine wpAny_take (i := 1) (v := ?v1) rfl (by kernel_rfl) (by kernel_rfl) (by kernel_rfl) (fun _ _ _ h => h) (Or.inl ⟨by rfl, ?y1⟩) ?r1
      case y1 => (intro w; go_simp; first | done | with_reducible rfl)
      refine wpAny_take (i := 2) (v := ?v2) rfl (by kernel_rfl) (by kernel_rfl) (by kernel_rfl) (fun _ _ _ h => h) (Or.inl ⟨by rfl, ?y2⟩) ?r2
      case y2 => (intro w; go_simp; first | done | with_reducible rfl)
      refine wpAny_take (i := 3) (v := ?v3) rfl (by kernel_rfl) (by kernel_rfl) (by kernel_rfl) (fun _ _ _ h => h) (Or.inl ⟨by rfl, ?y3⟩) ?r3
      case y3 => (intro w; go_simp; first | done | with_reducible rfl)
      refine wpAny_take (i := 4) (v := ?v4) rfl (by kernel_rfl) (by kernel_rfl) (by kernel_rfl) (fun _ _ _ h => h) (Or.inl ⟨by rfl, ?y4⟩) ?r4
      case y4 => (intro w; go_simp; first | done | with_reducible rfl)
      refine wpAny_take (i := 5) (v := ?v5) rfl (by kernel_rfl) (by kernel_rfl) (by kernel_rfl) (fun _ _ _ h => h) (Or.inl ⟨by rfl, ?y5⟩) ?r5
      case y5 => (intro w; go_simp; first | done | with_reducible rfl)
      refine wpAny_take (i := 6) (v := ?v6) rfl (by kernel_rfl) (by kernel_rfl) (by kernel_rfl) (fun _ _ _ h => h) (Or.inl ⟨by rfl, ?y6⟩) ?r6
      case y6 => (intro w; go_simp; first | done | with_reducible rfl)
      simp only [Act.put, List.setIfInBounds_toArray, List.set_cons_succ, List.set_cons_zero, List.getElem_toArray, List.getElem_cons_succ, List.getElem_cons_zero]
      refine wpAny_chain [7, 8, 9] _ _ _ _ (by kernel_rfl) (by decide) ?_
      simp only [List.filterMap_cons, List.filterMap_nil, List.getElem?_toArray, List.getElem?_cons_succ, List.getElem?_cons_zero]
      have hcell : Cells (wr.drew.alloc (.cells #[.int .u8 (hexD ((s k).toNat / 16) : Nat), .int .u8 (hexD ((s k).toNat % 16) : Nat)] 5)) (some ⟨wr.heap.size, 0, none⟩) 2 (fun j => .int .u8 (hexB s (2 * k + j) : Nat)) := fun _ =>
        ⟨_, rfl, fun j hj => by
          rw [Addr.add_mid, Nat.zero_add]
          refine (cells_two wr.drew _ _ _ j hj).trans ?_
          unfold hexB
          rcases (show j = 0 ∨ j = 1 by omega) with rfl | rfl
          · rw [if_pos rfl]; dsimp only; rw [if_pos (by omega), show (2 * k + 0) / 2 = k from by omega]
          · rw [if_neg (by omega)]; dsimp only; rw [if_neg (by omega), show (2 * k + 1) / 2 = k from by omega]⟩
      have hown' : Own wr.drew 5 p (2 * k) cap (fun j => .int .u8 (hexB s j : Nat)) := hown
      refine wpl_run rfl (.slice (some ⟨wr.heap.size, 0, none⟩) 2 2) (wr.drew.alloc (.cells #[.int .u8 (hexD ((s k).toNat / 16) : Nat), .int .u8 (hexD ((s k).toNat % 16) : Nat)] 5)) (by go_simp) ?_
      refine wpl_app rfl (.tmp 11) (.tmp 18) 50 rfl 5 und22 one5 p (2 * k) cap rfl _ (hown'.alloc _) _ 2 2 rfl _ hcell (fun _ _ => rfl) (by omega) ?_
      intro p' cap' w' hown2 hgrew hblk _
      go_wp2_with fail
      have hbw : Below N w (wr.drew.alloc (.cells #[.int .u8 (hexD ((s k).toNat / 16) : Nat), .int .u8 (hexD ((s k).toNat % 16) : Nat)] 5)) := qb.drew.alloc (by have := qb.size; have e : w.heap.size = N := hN; show N ≤ wr.heap.size; omega) _
      have hNs : N ≤ wr.heap.size := by have := qb.size; have e : w.heap.size = N := hN; omega
      exact ⟨⟨k + 1, p', cap', by omega, by go_num, rfl, hown2.congr (fun j _ => by
          simp only [cat]
          by_cases h2 : j < 2 * k
          · rw [if_pos h2]
          · rw [if_neg h2, show 2 * k + (j - 2 * k) = j from by omega]), hgrew.below hbw (by show N ≤ (wr.heap.push _).size; simp; omega) hp, fun g hg => by
          rcases hblk with e | e
          · exact hp g (e ▸ hg)
          · rw [e] at hg
            have : (wr.heap.push (.cells #[.int .u8 (hexD ((s k).toNat / 16) : Nat), .int .u8 (hexD ((s k).toNat % 16) : Nat)] 5)).size = g := Option.some.inj hg
            simp at this; omega⟩, by simp [intOf]; omega⟩
    · obtain rfl : 32 = k := by omega
      obtain ⟨g, rfl, hc⟩ := hown.cell (by omega)
      have hcv : (convert 50 9 (.slice (some ⟨g, 0, none⟩) 64 cap)).run Tryd.prog wr = .ok (.string (hexS s)) wr := by
        have := run_convert_bytes_back (P := Tryd.prog) wr 50 9 5 ⟨g, 0, none⟩ cap ((List.range 64).map (fun j => UInt8.ofNat (hexB s j))) und22 und5 und9 (fun j hj => by
          have hj' : j < 64 := by simpa using hj
          rw [Addr.add_mid, hc j (by omega)]
          have hlt2 : hexB s j < 256 := by
            unfold hexB; refine hexD_lt _ ?_
            split
            · have := (s (j / 2)).isLt; omega
            · omega
          simp only [List.getElem_map, List.getElem_range, UInt8.toNat_ofNat']
          rw [Nat.mod_eq_of_lt hlt2])
        rw [List.length_map, List.length_range] at this
        exact this
      go_wp2_with fail
      go_ret
      exact ⟨rfl, qb⟩
end Go.Proofs.YtbbfdehipgkjmaaDoor
namespace Go.Proofs.YtbbfdehipgkjmaaDoor
open Go Go.RowKit Sha
def abcD : Nat → BitVec 8 := fun j => BitVec.ofNat 8 ([97, 98, 99].getD j 0)
def abcS : ByteArray := ⟨#[98, 97, 55, 56, 49, 54, 98, 102, 56, 102, 48, 49, 99, 102, 101, 97, 52, 49, 52, 49, 52, 48, 100, 101, 53, 100, 97, 101, 50, 50, 50, 51, 98, 48, 48, 51, 54, 49, 97, 51, 57, 54, 49, 55, 55, 97, 57, 99, 98, 52, 49, 48, 102, 102, 54, 49, 102, 50, 48, 48, 49, 53, 97, 100]⟩
theorem hex_abc : hexS (shaD abcD 3) = abcS := by decide +kernel
theorem cells_three (w : World) (a b c : Value) (t : TypeId) (fr : Nat × Nat) (j : Nat) (hj : j < 3) : (w.alloc (.cells #[a, b, c] t fr)).cell? ⟨w.heap.size, j, none⟩ = some (if j = 0 then a else if j = 1 then b else c) := by
  rw [cell_of_row _ _ _ _ _ _ (heap_alloc_new w _)]
  rcases (show j = 0 ∨ j = 1 ∨ j = 2 by omega) with rfl | rfl | rfl <;> rfl
end Go.Proofs.YtbbfdehipgkjmaaDoor
namespace Go.Proofs.YtbbfdehipgkjmaaDoor
open Go Go.RowKit Sha
set_option maxRecDepth 100000 in
theorem stands_any (w : World) (N : Nat) (hN : Sz w N) (hT : Tabs w) :
    Calls Tryd.prog 8 #[] w fun e w' => e = .returned (.bool true) ∧ Below N w w' := by
  have hTN := hT.ltN hN
  have hB : Bytes (w.alloc (.cells #[.int .u8 97, .int .u8 98, .int .u8 99] 5 (3, 4))) (some ⟨w.heap.size, 0, none⟩) 3 abcD := fun _ => ⟨w.heap.size, 0, rfl, fun j hj => by
    rw [Nat.zero_add, cells_three w _ _ _ _ _ j hj]
    rcases (show j = 0 ∨ j = 1 ∨ j = 2 by omega) with rfl | rfl | rfl <;> rfl⟩
  have hb1 := below_new w (.cells #[.int .u8 97, .int .u8 98, .int .u8 99] 5 (3, 4)) N hN
  have hN1 := sz_alloc hN (.cells #[.int .u8 97, .int .u8 98, .int .u8 99] 5 (3, 4))
  have kc := fun (w : World) (C : Array Value) (n c : Nat) => Lib.run_convert_bytes_const (P := Tryd.prog) w 50 5 C n c und22 und5
  go_enter Tryd.func8, Tryd.ntmps8
  go_wp2_with (first
    | (go_at_call 22; refine (Sum_any _ 3 3 abcD _ (N + 1) hN1 (hT.below hb1 hTN) (by omega) (by omega) hB).mono ?_; rintro e w2 ⟨rfl, hb2⟩; obtain ⟨M, hM⟩ := sz_some w2; have hNM := below_sz hb2 hN1 hM)
    | (go_at_call 21; refine (Hex_any (shaD abcD 3) _ M hM).mono ?_; rintro e w3 ⟨rfl, hb3⟩; rw [hex_abc]; unfold abcS)
    | fail)
  go_ret
  exact ⟨rfl, (hb1.trans (hb2.mono (by omega))).trans (hb3.mono (by omega))⟩
end Go.Proofs.YtbbfdehipgkjmaaDoor
namespace Go.Proofs.YtbbfdehipgkjmaaDoor
open Go Go.RowKit
theorem made_one (z : Value) (n : Nat) (hz : z.cells = #[z]) : madeCells z.cells n = cellsOf (fun _ => z) n := by
  apply Array.ext_getElem?
  intro j
  rw [hz]
  by_cases hj : j < n
  · simp [madeCells, cellsOf, hj, Nat.mod_one]
  · simp [madeCells, cellsOf, hj]
section
variable {P : Program} {ops : Array Oper} {rest : List Oper} {o : Oper} {a : Act} {w : World} {Q : Exit → Act → World → Prop}
/-- make of n, all noughts. -/
theorem wpl_make_full (hgd : o.guard = none) (T : TypeId) (x y : Operand) (ho : o.op = .makeSlice T x y) (n : Nat) (hx : a.eval x = .int .i64 (n : Int)) (hy : a.eval y = .int .i64 (n : Int)) (E : TypeId) (z : Value) (k : Nat)
    (ht : P.underlying T = some (.slice E)) (hi : (P.info? E).map (fun i => (i.zero, i.size, i.bytes)) = some (some z, 1, k)) (hk : k ≤ 1000) (hz : z.cells = #[z]) (hn : n ≤ 1000000)
    (N : Nat) (hN : Sz w N) (h : ∀ w1, Sz w1 (N + 1) → Below N w w1 → Has w1 N E n (fun _ => z) → wpList P ops Q rest (a.put o.dst (.slice (some ⟨N, 0, none⟩) n n)) w1) : wpList P ops Q (o :: rest) a w := by
  refine wpList_plain hgd fun K hK => ?_
  have e : w.heap.size = N := hN
  subst e
  cases hq : P.info? E with
  | none => simp [hq] at hi
  | some i =>
    simp [hq] at hi
    obtain ⟨h1, h2, h3⟩ := hi
    have hb : (i.bytes : Int) * (n : Int) ≤ 281474976710656 := by
      have := Nat.mul_le_mul (show i.bytes ≤ 1000 by omega) hn
      have h' : ((i.bytes * n : Nat) : Int) ≤ 281474976710656 := by omega
      rwa [Int.natCast_mul] at h'
    have hr := run_make (P := P) w T E i z ht hq h1 .i64 .i64 n n (by omega) (Int.le_refl _) hb (by omega)
    simp only [Int.toNat_natCast, h2, Nat.mul_one] at hr
    rw [made_one z n hz] at hr
    unfold Oper.wp execOp
    simp only [ho, hx, hy, Sem.run_bind, hr, Result.andThen_ok, Sem.run_pure]
    exact hK _ _ (h _ (sz_alloc rfl _) (below_new _ _ _ rfl) (has_new rfl E n _))
end
end Go.Proofs.YtbbfdehipgkjmaaDoor
namespace Go.Proofs.YtbbfdehipgkjmaaDoor
open Go Go.RowKit
theorem undInts : Tryd.prog.underlying 82 = some (.slice 3) := by kernel_rfl
theorem infInt : (Tryd.prog.info? 3).map (·.size) = some 1 := by kernel_rfl
theorem zerInt : (Tryd.prog.info? 3).map (fun i => (i.zero, i.size, i.bytes)) = some (some (.int .i64 0), 1, 8) := by kernel_rfl
/-- A tenant's table: n descriptors, by their objects' numbers; 0: free. -/
structure Fd (w : World) (b c n : Nat) (f : Nat → Int) : Prop where
  h : Has w b 84 1 (fun _ => .slice (some ⟨c, 0, none⟩) n n)
  r : Has w c 3 n (fun j => .int .i64 (f j))
  ne : b ≠ c
section
variable {w w' : World} {b c n : Nat} {f : Nat → Int}
theorem Fd.cell (h : Fd w b c n f) : w.cell? ⟨b, 0, none⟩ = some (.slice (some ⟨c, 0, none⟩) n n) := h.h.cell (by omega)
theorem Fd.at (h : Fd w b c n f) (k : Nat) (hk : k < n) : w.cell? ⟨c, k, none⟩ = some (.int .i64 (f k)) := h.r.cell hk
theorem Fd.below {N : Nat} (h : Fd w b c n f) (hN : Sz w N) (hb : Below N w w') : Fd w' b c n f := ⟨h.h.below hb (h.h.ltN hN), h.r.below hb (h.r.ltN hN), h.ne⟩
theorem Fd.drew (h : Fd w b c n f) : Fd w.drew b c n f := ⟨h.h, h.r, h.ne⟩
theorem Fd.touch {d : Nat} (h : Fd w b c n f) (t : Touch d w w') (hb : b ≠ d) (hc : c ≠ d) : Fd w' b c n f := ⟨h.h.touch t hb, h.r.touch t hc, h.ne⟩
theorem Fd.congr {g : Nat → Int} (h : Fd w b c n f) (e : ∀ j, j < n → f j = g j) : Fd w b c n g := ⟨h.h, h.r.congr (fun j hj => by rw [e j hj]), h.ne⟩
theorem Fd.ltN {N : Nat} (h : Fd w b c n f) (hN : Sz w N) : b < N ∧ c < N := ⟨h.h.ltN hN, h.r.ltN hN⟩
end
set_option maxRecDepth 100000 in
theorem FNew_any (n : Nat) (h1 : 1 ≤ n) (h2 : n ≤ 16) (w : World) (N : Nat) (hN : Sz w N) :
    Calls Tryd.prog 23 #[.int .i64 (n : Int)] w fun e w' => e = .returned (.tuple #[.pointer (some ⟨N + 1, 0, none⟩), .int .i64 0]) ∧ Below N w w' ∧ Fd w' (N + 1) N n (fun _ => 0) ∧ Sz w' (N + 2) := by
  have t1 : decide ((n : Int) < 1) = false := by simp; omega
  have t2 : decide ((16 : Int) < (n : Int)) = false := by simp; omega
  go_enter Tryd.func23, Tryd.ntmps23
  go_wp2_with (first
    | (refine wpl_make_full rfl 82 (.tmp 10) (.tmp 10) rfl n rfl rfl 3 (.int .i64 0) 8 undInts zerInt (by omega) rfl (by omega) N hN ?_; intro w1 hN1 hb1 hh1)
    | (refine wpl_build rfl 84 _ rfl (cellsOf (fun _ => .slice (some ⟨N, 0, none⟩) n n) 1) (by kernel_rfl) ?_)
    | (refine wpl_box rfl 84 (.tmp 12) rfl 1 _ rfl (N + 1) hN1 ?_; intro w2 hN2 hb2 hh2)
    | fail)
  go_ret2
  exact ⟨rfl, hb1.trans (hb2.mono (by omega)), ⟨hh2, hh1.below hb2 (by omega), by omega⟩, hN2⟩
set_option maxRecDepth 100000 in
theorem Open_at (b c n : Nat) (f : Nat → Int) (id : Int) (k : Nat) (hid1 : 1 ≤ id) (hk : k < n) (hn : n ≤ 16) (hf : f k = 0) (hl : ∀ i, i < k → f i ≠ 0) (w : World) (hF : Fd w b c n f) :
    Calls Tryd.prog 24 #[.pointer (some ⟨b, 0, none⟩), .int .i64 id] w fun e w' => e = .returned (.tuple #[.int .i64 (k : Int), .int .i64 0]) ∧ Touch c w w' ∧ Fd w' b c n (fun j => if j = k then id else f j) := by
  have t1 : decide (id < 1) = false := by simp; omega
  have c0 := hF.cell
  have Hl := hid hl
  have Hf := hid hf
  clear hl hf
  go_enter Tryd.func24, Tryd.ntmps24
  go_wp2
  go_loop [19] (fun i => ∃ j : Nat, j ≤ k ∧ i = .int .i64 j) (fun i => n - (intOf i).toNat)
  case atStart => exact ⟨0, by omega, rfl⟩
  case round =>
    obtain ⟨j, hj, rfl⟩ := hrel
    have hlt : (j : Int) < (n : Int) := by omega
    have cj := hF.at j (by omega)
    by_cases he : j = k
    · subst he
      rw [Hf.out] at cj
      go_wp2_with (first
        | (refine wpl_set rfl 3 (.tmp 32) (.tmp 31) rfl c j rfl (.int .i64 id) rfl infInt rfl rfl 3 n _ hF.r hk ?_; intro w1 ht1 hh1)
        | fail)
      go_ret2
      exact ⟨rfl, ht1, hF.h.touch ht1 hF.ne, hh1.congr (fun i _ => by unfold upd; split <;> rfl), hF.ne⟩
    · have hz : (f j == 0) = false := by rw [beq_eq_false_iff_ne]; exact Hl.out j (by omega)
      have Hz := hid hz
      have hz2 : f j ≠ 0 := Hl.out j (by omega)
      generalize f j = z at cj hz2 hz Hz
      go_wp2
      go_round
      case rel => exact ⟨j + 1, by omega, by go_num⟩
      case measure => simp [intOf]; omega
set_option maxRecDepth 100000 in
theorem Get_ok (b c n : Nat) (f : Nat → Int) (k : Nat) (hk : k < n) (hn : n ≤ 16) (hf : f k ≠ 0) (w : World) (hF : Fd w b c n f) :
    Calls Tryd.prog 25 #[.pointer (some ⟨b, 0, none⟩), .int .i64 (k : Int)] w fun e w' => e = .returned (.tuple #[.int .i64 (f k), .int .i64 0]) ∧ w = w' := by
  have hlt : (k : Int) < (n : Int) := by omega
  have t1 : decide ((k : Int) < 0) = false := by simp
  have t2 : decide ((n : Int) ≤ (k : Int)) = false := by simp; omega
  have hz : (f k == 0) = false := by rw [beq_eq_false_iff_ne]; exact hf
  have c0 := hF.cell
  have cj := hF.at k hk
  clear hf
  generalize f k = z at cj hz
  go_enter Tryd.func25, Tryd.ntmps25
  go_wp2
  go_ret2
  exact ⟨rfl, rfl⟩
end Go.Proofs.YtbbfdehipgkjmaaDoor
