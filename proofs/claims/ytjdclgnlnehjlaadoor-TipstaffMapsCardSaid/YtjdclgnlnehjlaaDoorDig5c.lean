/- Hex of digest. -/
import Derived.Test.YtjdclgnlnehjlaaDoorDig4
import Derived.Test.YtjdclgnlnehjlaaDoorOw
import Derived.Test.YtjdclgnlnehjlaaDoorInns
namespace Go.Proofs.YtjdclgnlnehjlaaDoor
open Go Go.RowKit Sha
/-- The sign of a number below 16. -/
def hexDc (n : Nat) : Nat := if n < 10 then 48 + n else 87 + n
def hexB (s : Nat → BitVec 8) (j : Nat) : Nat := hexDc (if j % 2 = 0 then (s (j / 2)).toNat / 16 else (s (j / 2)).toNat % 16)
def hexS (s : Nat → BitVec 8) : ByteArray := ⟨((List.range 64).map (fun j => UInt8.ofNat (hexB s j))).toArray⟩
def signsS : ByteArray := ⟨#[48, 49, 50, 51, 52, 53, 54, 55, 56, 57, 97, 98, 99, 100, 101, 102]⟩
theorem signs_get : ∀ n, n < 16 → signsS[n]? = some (UInt8.ofNat (hexDc n)) := by decide
theorem hexD_lt (n : Nat) (h : n < 16) : hexDc n < 256 := by unfold hexDc; split <;> omega
theorem one5 : OneCell Tryd.prog 5 := oneCell_of (k := 1) (v := .int .u8 0) (by kernel_rfl) (by omega) rfl
theorem und9 : Tryd.prog.underlying 9 = some .string := by kernel_rfl
theorem run_sign (v : Int) (n : Nat) (hv : v = (n : Int)) (hn : n < 16) (w : World) : (Instr.index 9 (.string signsS) (.int .u8 v)).run Tryd.prog w = .ok (.int .u8 (hexDc n : Nat)) w := by
  subst hv
  have h1 := signs_get n hn
  have h2 := hexD_lt n hn
  simp [Instr.index, asIntOf, Sem.run_bind, run_underlying und9 w, h1]
  omega
theorem cells_two (w : World) (a b : Value) (t : TypeId) (j : Nat) (hj : j < 2) : (w.alloc (.cells #[a, b] t)).cell? ⟨w.heap.size, j, none⟩ = some (if j = 0 then a else b) := by
  rw [cell_of_row _ _ _ _ _ _ (heap_alloc_new w _)]
  rcases (show j = 0 ∨ j = 1 by omega) with rfl | rfl <;> rfl
theorem and15 (x : BitVec 8) : bits .and .u8 (v8 x) 15 = ((x.toNat % 16 : Nat) : Int) := by
  unfold v8
  rw [show (15 : Int) = ((15 : Nat) : Int) from rfl, u8_and_nat _ _ x.isLt (by omega), nat_mask4]
theorem run_make64 (w : World) : (Instr.makeSlice 35 (.int .i64 0) (.int .i64 64)).run Tryd.prog w = .ok (.slice (some ⟨w.heap.size, 0, none⟩) 0 64) (w.alloc (.cells (cellsOf (fun _ => By 0) 64) 5)) := by kernel_rfl
set_option maxRecDepth 100000 in
theorem Hex_anyc (s : Nat → BitVec 8) (w : World) (N : Nat) (hN : Sz w N) :
    Calls Tryd.prog 46 #[.agg (cellsOf (fun j => By (s j)) 32)] w fun e w' => e = .returned (.string (hexS s)) ∧ Below N w w' := by
  have hmk := run_make64
  go_enter Tryd.func46, Tryd.ntmps46
  go_wp2_with (first
    | (refine wpl_box rfl 40 (.tmp 0) rfl 32 _ rfl N hN ?_; intro w1 hN1 hb1 h1)
    | (refine wpl_load rfl 40 (.tmp 1) rfl N rfl 40 32 _ (h1.alloc _) _ und23 rfl inf23 ?_)
    | fail)
  have hb2 : Below N w (w1.alloc (.cells (cellsOf (fun _ => By 0) 64) 5)) := hb1.alloc (by have e : w1.heap.size = N + 1 := hN1; omega) _
  have hown : Own (w1.alloc (.cells (cellsOf (fun _ => By 0) 64) 5)) 5 (some ⟨w1.heap.size, 0, none⟩) 0 64 (fun j => .int .u8 (hexB s j : Nat)) :=
    .inr ⟨_, _, rfl, heap_alloc_new w1 _, by omega, size_cellsOf _ _, fun j hj => by omega⟩
  go_loopw [3, 8] (fun t i wr => ∃ (k : Nat) (p : Option Addr) (cap : Nat), k ≤ 32 ∧ i = .int .i64 k ∧ t = .slice p (2 * k) cap ∧ Own wr 5 p (2 * k) cap (fun j => .int .u8 (hexB s j : Nat)) ∧ Below N w wr ∧ (∀ g, blk p = some g → N ≤ g))
    (fun _ i _ => 32 - (intOf i).toNat)
  case atStart => exact ⟨0, _, 64, by omega, rfl, rfl, hown, hb2, fun g hg => by have e : w1.heap.size = N + 1 := hN1; simp [blk] at hg; omega⟩
  case round =>
    clear hown hb2
    obtain ⟨k, p, cap, hk, rfl, rfl, hown, qb, hp⟩ := hrel
    by_cases hlt : k < 32
    · have hx : ∀ w, (Instr.index 40 (.agg (cellsOf (fun j => By (s j)) 32)) (.int .i64 (k : Int))).run Tryd.prog w = .ok (.int .u8 (v8 (s k))) w := run_index_cells 40 5 32 _ 32 k _ und23 und5 rfl inf5 hlt hlt
      have hs1 := run_sign (v8 (s k) / 16) ((s k).toNat / 16) (by unfold v8; omega) (by have := (s k).isLt; omega)
      have hs2 := run_sign (bits .and .u8 (v8 (s k)) 15) ((s k).toNat % 16) (and15 (s k)) (by omega)
      have b0 := v8_lo (s k)
      have b1 := v8_hi (s k)
      unfold signsS at hs1 hs2
      go_wp2_with fail
      refine wp_region_any (by kernel_rfl) ?_
      change wpAny _ _ _ _ _ _ _ (World.drew _)
      refine wpAny_take (i := 0) (v := ?v0) rfl (by kernel_rfl) (by kernel_rfl) (by kernel_rfl) (fun _ _ _ h => h) (Or.inl ⟨by rfl, ?y0⟩) ?r0
      case y0 => (intro w; go_simp; first | done | with_reducible rfl)
      refine wpAny_take (i := 1) (v := ?v1) rfl (by kernel_rfl) (by kernel_rfl) (by kernel_rfl) (fun _ _ _ h => h) (Or.inl ⟨by rfl, ?y1⟩) ?r1
      case y1 => (intro w; go_simp; first | done | with_reducible rfl)
      refine wpAny_take (i := 2) (v := ?v2) rfl (by kernel_rfl) (by kernel_rfl) (by kernel_rfl) (fun _ _ _ h => h) (Or.inl ⟨by rfl, ?y2⟩) ?r2
      case y2 => (intro w; go_simp; first | done | with_reducible rfl)
      refine wpAny_take (i := 3) (v := ?v3) rfl (by kernel_rfl) (by kernel_rfl) (by kernel_rfl) (fun _ _ _ h => h) (Or.inl ⟨by rfl, ?y3⟩) ?r3
      case y3 => (intro w; go_simp; first | done | with_reducible rfl)
      refine wpAny_take (i := 4) (v := ?v4) rfl (by kernel_rfl) (by kernel_rfl) (by kernel_rfl) (fun _ _ _ h => h) (Or.inl ⟨by rfl, ?y4⟩) ?r4
      case y4 => (intro w; go_simp; first | done | with_reducible rfl)
      refine wpAny_take (i := 5) (v := ?v5) rfl (by kernel_rfl) (by kernel_rfl) (by kernel_rfl) (fun _ _ _ h => h) (Or.inl ⟨by rfl, ?y5⟩) ?r5
      case y5 => (intro w; go_simp; first | done | with_reducible rfl)
      refine wpAny_take (i := 6) (v := ?v6) rfl (by kernel_rfl) (by kernel_rfl) (by kernel_rfl) (fun _ _ _ h => h) (Or.inl ⟨by rfl, ?y6⟩) ?r6
      case y6 => (intro w; go_simp; first | done | with_reducible rfl)
      simp only [Act.put, List.setIfInBounds_toArray, List.set_cons_succ, List.set_cons_zero, List.getElem_toArray, List.getElem_cons_succ, List.getElem_cons_zero]
      refine wpAny_chain [7, 8, 9] _ _ _ _ (by kernel_rfl) (by decide) ?_
      simp only [List.filterMap_cons, List.filterMap_nil, List.getElem?_toArray, List.getElem?_cons_succ, List.getElem?_cons_zero]
      have hcell : Cells (wr.drew.alloc (.cells #[.int .u8 (hexDc ((s k).toNat / 16) : Nat), .int .u8 (hexDc ((s k).toNat % 16) : Nat)] 5)) (some ⟨wr.heap.size, 0, none⟩) 2 (fun j => .int .u8 (hexB s (2 * k + j) : Nat)) := fun _ =>
        ⟨_, rfl, fun j hj => by
          rw [Addr.add_mid, Nat.zero_add]
          refine (cells_two wr.drew _ _ _ j hj).trans ?_
          unfold hexB
          rcases (show j = 0 ∨ j = 1 by omega) with rfl | rfl
          · rw [if_pos rfl]; dsimp only; rw [if_pos (by omega), show (2 * k + 0) / 2 = k from by omega]
          · rw [if_neg (by omega)]; dsimp only; rw [if_neg (by omega), show (2 * k + 1) / 2 = k from by omega]⟩
      have hown' : Own wr.drew 5 p (2 * k) cap (fun j => .int .u8 (hexB s j : Nat)) := hown
      refine wpl_run rfl (.slice (some ⟨wr.heap.size, 0, none⟩) 2 2) (wr.drew.alloc (.cells #[.int .u8 (hexDc ((s k).toNat / 16) : Nat), .int .u8 (hexDc ((s k).toNat % 16) : Nat)] 5)) (by go_simp) ?_
      refine wpl_app rfl (.tmp 11) (.tmp 18) 35 rfl 5 und22 one5 p (2 * k) cap rfl _ (hown'.alloc _) _ 2 2 rfl _ hcell (fun _ _ => rfl) (by omega) ?_
      intro p' cap' w' hown2 hgrew hblk _
      go_wp2_with fail
      have hbw : Below N w (wr.drew.alloc (.cells #[.int .u8 (hexDc ((s k).toNat / 16) : Nat), .int .u8 (hexDc ((s k).toNat % 16) : Nat)] 5)) := qb.drew.alloc (by have := qb.size; have e : w.heap.size = N := hN; show N ≤ wr.heap.size; omega) _
      have hNs : N ≤ wr.heap.size := by have := qb.size; have e : w.heap.size = N := hN; omega
      exact ⟨⟨k + 1, p', cap', by omega, by go_num, rfl, hown2.congr (fun j _ => by
          simp only [cat]
          by_cases h2 : j < 2 * k
          · rw [if_pos h2]
          · rw [if_neg h2, show 2 * k + (j - 2 * k) = j from by omega]), hgrew.below hbw (by show N ≤ (wr.heap.push _).size; simp; omega) hp, fun g hg => by
          rcases hblk with e | e
          · exact hp g (e ▸ hg)
          · rw [e] at hg
            have : (wr.heap.push (.cells #[.int .u8 (hexDc ((s k).toNat / 16) : Nat), .int .u8 (hexDc ((s k).toNat % 16) : Nat)] 5)).size = g := Option.some.inj hg
            simp at this; omega⟩, by simp [intOf]; omega⟩
    · obtain rfl : 32 = k := by omega
      obtain ⟨g, rfl, hc⟩ := hown.cell (by omega)
      have hcv : (convert 35 9 (.slice (some ⟨g, 0, none⟩) 64 cap)).run Tryd.prog wr = .ok (.string (hexS s)) wr := by
        have := run_convert_bytes_back (P := Tryd.prog) wr 35 9 5 ⟨g, 0, none⟩ cap ((List.range 64).map (fun j => UInt8.ofNat (hexB s j))) und22 und5 und9 (fun j hj => by
          have hj' : j < 64 := by simpa using hj
          rw [Addr.add_mid, hc j (by omega)]
          have hlt2 : hexB s j < 256 := by
            unfold hexB; refine hexD_lt _ ?_
            split
            · have := (s (j / 2)).isLt; omega
            · omega
          simp only [List.getElem_map, List.getElem_range, UInt8.toNat_ofNat']
          rw [Nat.mod_eq_of_lt hlt2])
        rw [List.length_map, List.length_range] at this
        exact this
      go_wp2_with fail
      go_ret
      exact ⟨rfl, qb⟩
end Go.Proofs.YtjdclgnlnehjlaaDoor
