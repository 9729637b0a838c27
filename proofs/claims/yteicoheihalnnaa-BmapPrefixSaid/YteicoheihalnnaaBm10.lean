/- bmap: lists of bytes that are written out; maps(). -/
import Derived.Test.YteicoheihalnnaaBm8
import Derived.Test.YteicoheihalnnaaBm9
import Derived.Lib.SlBytesConst
import Derived.Deep.CutBlock
import Derived.Deep.DeepCutAuto
namespace Go.Proofs.Yteicoheihalnnaa
open Go Go.RowKit
section
variable {ops : Array Oper} {rest : List Oper} {o : Oper} {a : Act} {w : World} {Q : Exit → Act → World → Prop}
theorem wpl_bs1 (hgd : o.guard = none) (x : Operand) (ho : o.op = .buildSlice 22 1 #[(0, x)]) (d : BitVec 8) (hx : a.eval x = By d) (N : Nat) (hN : Sz w N)
    (h : ∀ w1, Sz w1 (N + 1) → Below N w w1 → Has w1 N 5 1 (fun _ => By d) → wpList Try.prog ops Q rest (a.put o.dst (.slice (some ⟨N, 0, none⟩) 1 1)) w1) : wpList Try.prog ops Q (o :: rest) a w := by
  have e : w.heap.size = N := hN
  subst e
  refine wpl_run hgd (.slice (some ⟨w.heap.size, 0, none⟩) 1 1) (w.alloc (.cells #[By d] 5)) ?_ (h _ (sz_alloc rfl _) (below_new _ _ _ rfl) ?_)
  · unfold By at *
    clear h hN
    generalize a.eval = ev at *
    unfold execOp
    simp only [ho]
    go_simp
  · exact has_new rfl 5 1 (fun _ => By d)
/-- A list of one byte that a constant text says: the list; then its mark. -/
theorem wpl_bc1 (hgd : o.guard = none) (x : Operand) (ho : o.op = .buildSlice 22 1 #[(0, x)]) (d : BitVec 8) (hx : a.eval x = By d) (N : Nat) (hN : Sz w N)
    (h : ∀ w0 w1, Hid ((convert 22 22 (.slice (some ⟨N, 0, none⟩) 1 1)).run Try.prog w0 = .ok (.slice (some ⟨N, 0, none⟩) 1 1) w1) → Sz w1 (N + 1) → Below N w w1 → Ats w1 (some ⟨N, 0, none⟩) 1 (fun _ => By d) → wpList Try.prog ops Q rest (a.put o.dst (.slice (some ⟨N, 0, none⟩) 1 1)) w0) : wpList Try.prog ops Q (o :: rest) a w := by
  have e : w.heap.size = N := hN
  subst e
  refine wpl_run hgd (.slice (some ⟨w.heap.size, 0, none⟩) 1 1) (w.alloc (.cells #[By d] 5)) ?_ (h _ (w.alloc (.cells #[By d] 5 (1, 2))) (hid ?_) (sz_alloc rfl _) (below_new _ _ _ rfl) ?_)
  · unfold By at *
    clear h hN
    generalize a.eval = ev at *
    unfold execOp
    simp only [ho]
    go_simp
  · exact Lib.run_convert_bytes_const (P := Try.prog) w 22 5 #[By d] 1 1 undBB undBy
  · refine fun _ => ⟨_, 0, rfl, fun j hj => ?_⟩
    obtain rfl : j = 0 := by omega
    rw [cell_of_row _ w.heap.size 0 #[By d] 5 (1, 2) (heap_alloc_new w _)]
    rfl
def four (a b c d : BitVec 8) : Nat → BitVec 8 := fun j => if j = 0 then a else if j = 1 then b else if j = 2 then c else d
theorem wpl_bs4 (hgd : o.guard = none) (x y z t : Operand) (ho : o.op = .buildSlice 22 4 #[(0, x), (1, y), (2, z), (3, t)]) (d0 d1 d2 d3 : BitVec 8) (hx : a.eval x = By d0) (hy : a.eval y = By d1) (hz : a.eval z = By d2) (ht : a.eval t = By d3) (N : Nat) (hN : Sz w N)
    (h : ∀ w1, Sz w1 (N + 1) → Below N w w1 → Has w1 N 5 4 (fun j => By (four d0 d1 d2 d3 j)) → wpList Try.prog ops Q rest (a.put o.dst (.slice (some ⟨N, 0, none⟩) 4 4)) w1) : wpList Try.prog ops Q (o :: rest) a w := by
  have e : w.heap.size = N := hN
  subst e
  refine wpl_run hgd (.slice (some ⟨w.heap.size, 0, none⟩) 4 4) (w.alloc (.cells #[By d0, By d1, By d2, By d3] 5)) ?_ (h _ (sz_alloc rfl _) (below_new _ _ _ rfl) ?_)
  · unfold By at *
    clear h hN
    generalize a.eval = ev at *
    unfold execOp
    simp only [ho]
    go_simp
  · exact has_new rfl 5 4 (fun j => By (four d0 d1 d2 d3 j))
end
set_option maxRecDepth 100000 in
set_option maxHeartbeats 1000000 in
theorem maps_any (w : World) (N : Nat) (hN : Sz w N) :
    Calls Try.prog 9 #[] w fun e w' => e = .returned (.bool true) ∧ Below N w w' := by
  have hS : SpecOk 1 1 1 2 := ⟨⟨1, 16, .inr (.inl ⟨rfl, rfl, rfl⟩), by omega, by omega⟩, by omega, by omega, by omega, by omega⟩
  have HS := hid hS
  clear hS
  have tok1 : True := trivial
  go_enter Try.func9, Try.ntmps9
  go_upto_region 5 with (first
    | (go_at_call 8; refine (New_plain 1 1 1 2 HS.out (by decide) _ N hN).mono ?_; rintro e w1 ⟨⟨b, hb, rfl, A1⟩, hb1⟩; obtain ⟨M1, hM1⟩ := sz_some w1)
    | (refine wpl_bc1 rfl (.const (.int .u8 97)) rfl 97#8 rfl M1 hM1 ?_; intro y2 w2 Cv14 hM2 hb2 q2)
    | (refine wpl_conv2 rfl 22 22 (.tmp 14) rfl _ _ _ rfl Cv14.out ?_; clear Cv14)
    | (refine wpl_bc1 rfl (.const (.int .u8 49)) rfl 49#8 rfl (M1 + 1) hM2 ?_; intro y3 w3 Cv16 hM3 hb3 x3)
    | (refine wpl_conv2 rfl 22 22 (.tmp 16) rfl _ _ _ rfl Cv16.out ?_; clear Cv16; have q3 := q2.below hM2 hb3; have A3 := (A1.below hM1 hb2).below hM2 hb3)
    | (go_at_call 10; have _t := tok1; refine (Upd_new (mp0 1 1 1 2 b) (fun _ => 97#8) (strOf (fun _ => 97#8) 1) (keyIs_of _ 1 1 rfl rfl (by decide) _) rfl (show (1 : Nat) ≠ 0 by decide) (fun i hi => absurd hi (Nat.not_lt_zero i)) 0 (by omega) (show 0 < 2 by decide) (show 2 ≤ 64 by decide) (show 1 ≤ 1 by decide) (show 1 ≤ 64 by decide) (some ⟨M1, 0, none⟩) 1 (some ⟨M1 + 1, 0, none⟩) 1 (fun _ => 49#8) _ (M1 + 1 + 1) hM3 A3 q3 x3).mono ?_; rintro e w4 ⟨rfl, M, hMl, T4, p4, cap4, A4, hp4⟩; obtain ⟨M4, hM4⟩ := sz_some w4; clear tok1)
    | (refine wpl_bc1 rfl (.const (.int .u8 97)) rfl 97#8 rfl M4 hM4 ?_; intro y5 w5 Cv21 hM5 hb5 q5)
    | (refine wpl_conv2 rfl 22 22 (.tmp 21) rfl _ _ _ rfl Cv21.out ?_; clear Cv21; have A5 := A4.below hM4 hb5)
    | (go_at_call 12; refine (Look_at ((mp0 1 1 1 2 b).put p4 cap4 M (strOf (fun _ => 97#8) 1) (fun _ => 49#8)) (fun _ => 97#8) (strOf (fun _ => 97#8) 1) (keyIs_of _ 1 1 rfl rfl (by decide) _) (show (1 : Nat) ≠ 2 by decide) 0 ⟨Nat.zero_lt_one, rfl, fun i hi => absurd hi (Nat.not_lt_zero i)⟩ (show 1 ≤ 1000 by decide) 1 rfl (by decide) (by decide) (some ⟨M4, 0, none⟩) 1 _ (M4 + 1) hM5 A5 q5).mono ?_; rintro e w6 ⟨⟨K, hK, rfl, hv6'⟩, hb6⟩; have hv6 : Has w6 K 5 1 (fun _ => By 49#8) := hv6'; clear hv6'; have A6 := A5.below hM5 hb6; obtain ⟨M6, hM6⟩ := sz_some w6)
    | (go_at_call 21; refine (Freeze_ok _ rfl _ A6).mono ?_; rintro e w7 ⟨rfl, t7, A7⟩; have hM7 := t7.sz hM6; have hKb : b < M4 := A4.lt hM4 b (.inl rfl); have hv7 := hv6.touch t7 (show K ≠ b by omega))
    | fail)
  generalize hm9 : ({ (mp0 1 1 1 2 b).put p4 cap4 M (strOf (fun _ => 97#8) 1) (fun _ => 49#8) with fz := true } : Mp) = m9 at A7
  have Hfz := hid (show m9.fz = true by rw [← hm9])
  have Hn := hid (show m9.n = 1 by rw [← hm9]; rfl)
  have Hb := hid (show m9.b = b by rw [← hm9]; rfl)
  have L1 : N ≤ M1 := below_sz hb1 hN hM1
  have L4 := sz_turn T4 hM3 hM4
  have b3 : Below N w w3 := (hb1.trans (hb2.mono L1)).trans (hb3.mono (by omega))
  have b4 : Below N w w4 := T4.below b3 (fun j hj => by rcases hj with rfl | hj; exact hb; cases hj) (by have e : w3.heap.size = M1 + 1 + 1 := hM3; omega)
  have L6 := below_sz hb6 hM5 hM6
  have hb7 : Below N w w7 := t7.below ((b4.trans (hb5.mono (by omega))).trans (hb6.mono (by omega))) hb
  have L7 : N ≤ M6 := by omega
  clear L1 L4 b3 b4 L6
  clear _t HS hm9 A1 A3 A4 A5 A6 q2 q3 x3 q5 hv6 t7 hb6 hb5 T4 hp4 hb3 hb2 hb1 hM1 hM2 hM3 hM4 hM5 hM6 hMl
  go_wp2_with (first
    | (refine wpl_bc1 rfl (.const (.int .u8 97)) rfl 97#8 rfl M6 hM7 ?_; intro y8 w8 Cv29 hM8 hb8 q8)
    | (refine wpl_conv2 rfl 22 22 (.tmp 29) rfl _ _ _ rfl Cv29.out ?_; clear Cv29)
    | (refine wpl_bc1 rfl (.const (.int .u8 50)) rfl 50#8 rfl (M6 + 1) hM8 ?_; intro y9 w9 Cv31 hM9 hb9 x9)
    | (refine wpl_conv2 rfl 22 22 (.tmp 31) rfl _ _ _ rfl Cv31.out ?_; clear Cv31; have A9 := (A7.below hM7 hb8).below hM8 hb9; have v9 := (hv7.below hb8 (hv7.ltN hM7)).below hb9 (by have := hv7.ltN hM7; omega); have Hcv := hid (run_string (P := Try.prog) w9 22 9 5 undBB undBy undBS (some ⟨K, 0, none⟩) 1 1 (fun _ => 49#8) v9.ats))
    | (go_at_call 10; have U := Upd_frozen m9 Hfz.out (.slice (some ⟨M6, 0, none⟩) 1 1) (.slice (some ⟨M6 + 1, 0, none⟩) 1 1) (.int .u64 0) _ A9; rw [Hb.out] at U; refine U.mono ?_; rintro e w10 ⟨rfl, rfl⟩)
    | (refine wpl_want (by rfl) ?_; refine wpl_conv rfl 22 9 (.tmp 49) rfl _ (.string ⟨#[49]⟩) rfl Hcv.out ?_)
    | (refine wpl_conv rfl 22 9 (.tmp 49) rfl _ (.string ⟨#[49]⟩) rfl Hcv.out ?_)
    | (go_at_call 22; have U := Frozen_is m9 true Hfz.out _ A9; rw [Hb.out] at U; refine U.mono ?_; rintro e w11 ⟨rfl, rfl⟩)
    | (go_at_call 14; have U := Len_is m9 1 Hn.out _ A9; rw [Hb.out] at U; refine U.mono ?_; rintro e w12 ⟨rfl, rfl⟩)
    | fail)
  go_ret
  exact ⟨rfl, (hb7.trans (hb8.mono L7)).trans (hb9.mono (by omega))⟩
end Go.Proofs.Yteicoheihalnnaa
