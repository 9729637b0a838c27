/- bmap: Check, New, Freeze, Frozen, Len. bmap: lists of bytes that are written out; maps(). bmap: keys of one byte, rests of bytes. -/
import Derived.Test.YtjdclgnlnehjlaaDoorMgBm7
import Derived.Test.YtjdclgnlnehjlaaDoorBm8
import Derived.Lib.SlBytesConst
import Derived.Deep.CutBlock
import Derived.Deep.DeepCutAuto
import Derived.Test.YtjdclgnlnehjlaaDoorInns
namespace Go.Proofs.YtjdclgnlnehjlaaDoor
open Go Go.RowKit
def Sizes (ty lo hi : Nat) : Prop := ty = 0 ∧ lo = 4 ∧ hi = 4 ∨ ty = 1 ∧ lo = 1 ∧ hi = 16 ∨ ty = 2 ∧ lo = 1 ∧ hi = 16 ∨ ty = 3 ∧ lo = 0 ∧ hi = 0 ∨ ty = 4 ∧ lo = 0 ∧ hi = 0 ∨ ty = 5 ∧ lo = 5 ∧ hi = 16
def SpecOk (ty key val ent : Nat) : Prop := (∃ lo hi, Sizes ty lo hi ∧ lo ≤ key ∧ key ≤ hi) ∧ 1 ≤ val ∧ val ≤ 64 ∧ 1 ≤ ent ∧ ent ≤ 64
set_option maxRecDepth 100000 in
theorem sizes_at (ty lo hi : Nat) (h : Sizes ty lo hi) (w : World) :
    Calls Tryd.prog 51 #[.int .i64 (ty : Int)] w fun e w' => e = .returned (.tuple #[.int .i64 (lo : Int), .int .i64 (hi : Int), .bool true]) ∧ w = w' := by
  rcases h with ⟨rfl, rfl, rfl⟩ | ⟨rfl, rfl, rfl⟩ | ⟨rfl, rfl, rfl⟩ | ⟨rfl, rfl, rfl⟩ | ⟨rfl, rfl, rfl⟩ | ⟨rfl, rfl, rfl⟩
  all_goals
    go_enter Tryd.func51, Tryd.ntmps51
    go_wp2
    go_ret3
    exact ⟨rfl, rfl⟩
def spV (ty key val ent : Nat) : Value := .agg #[.int .i64 (ty : Int), .int .i64 (key : Int), .int .i64 (val : Int), .int .i64 (ent : Int)]
set_option maxRecDepth 100000 in
theorem Check_ok (ty key val ent : Nat) (h : SpecOk ty key val ent) (w : World) (N : Nat) (hN : Sz w N) :
    Calls Tryd.prog 25 #[spV ty key val ent] w fun e w' => e = .returned (.int .i64 0) ∧ Below N w w' := by
  obtain ⟨⟨lo, hi, hS, a1, a2⟩, a3, a4, a5, a6⟩ := h
  have s1 : ¬ ((key : Int) < (lo : Int)) := by omega
  have s2 : ¬ ((hi : Int) < (key : Int)) := by omega
  have s3 : ¬ ((val : Int) < 1) := by omega
  have s4 : ¬ ((64 : Int) < (val : Int)) := by omega
  have s5 : ¬ ((ent : Int) < 1) := by omega
  have s6 : ¬ ((64 : Int) < (ent : Int)) := by omega
  unfold spV
  go_enter Tryd.func25, Tryd.ntmps25
  go_wp2_with (first
    | (go_at_call 51; refine (sizes_at ty lo hi hS _).mono ?_; rintro e w1 ⟨rfl, rfl⟩)
    | fail)
  go_ret
  exact ⟨rfl, below_new w _ N hN⟩
def mp0 (ty key val ent b : Nat) : Mp := { ty := ty, key := key, val := val, ent := ent, fz := false, b := b, p := none, n := 0, cap := 0, E := fun _ => ⟨⟨#[]⟩, 0, 0, fun _ => 0⟩ }
set_option maxRecDepth 100000 in
theorem New_plain (ty key val ent : Nat) (h : SpecOk ty key val ent) (h0 : ty ≠ 0) (w : World) (N : Nat) (hN : Sz w N) :
    Calls Tryd.prog 7 #[spV ty key val ent] w fun e w' => (∃ b, N ≤ b ∧ e = .returned (.tuple #[.pointer (some ⟨b, 0, none⟩), .int .i64 0]) ∧ MpAt w' (mp0 ty key val ent b)) ∧ Below N w w' := by
  have t0 : ((ty : Int) == 0) = false := by rw [beq_eq_false_iff_ne]; omega
  unfold spV
  go_enter Tryd.func7, Tryd.ntmps7
  go_wp2_with (first
    | (refine wpl_box rfl 31 (.tmp 0) rfl 4 (mp0 ty key val ent 0).sp (by rfl) N hN ?_; intro w1 hN1 hb1 hh1; have e0 : w1.cell? ⟨N, 0, none⟩ = some (.int .i64 (ty : Int)) := hh1.cell (by omega); have e1 : w1.cell? ⟨N, 1, none⟩ = some (.int .i64 (key : Int)) := hh1.cell (by omega); have e2 : w1.cell? ⟨N, 2, none⟩ = some (.int .i64 (val : Int)) := hh1.cell (by omega); have e3 : w1.cell? ⟨N, 3, none⟩ = some (.int .i64 (ent : Int)) := hh1.cell (by omega))
    | (go_at_call 25; refine (Check_ok ty key val ent h _ (N + 1) hN1).mono ?_; rintro e w2 ⟨rfl, hb2⟩; clear e0 e1 e2 e3; have hh2 := hh1.below hb2 (by omega); have e0 : w2.cell? ⟨N, 0, none⟩ = some (.int .i64 (ty : Int)) := hh2.cell (by omega); have e1 : w2.cell? ⟨N, 1, none⟩ = some (.int .i64 (key : Int)) := hh2.cell (by omega); have e2 : w2.cell? ⟨N, 2, none⟩ = some (.int .i64 (val : Int)) := hh2.cell (by omega); have e3 : w2.cell? ⟨N, 3, none⟩ = some (.int .i64 (ent : Int)) := hh2.cell (by omega); obtain ⟨M, hM⟩ := sz_some w2; have L := below_sz hb2 hN1 hM)
    | (refine wpl_box rfl 59 (.tmp 14) rfl 6 (mpC (mp0 ty key val ent 0)) (by rfl) M hM ?_; intro w3 hN3 hb3 hh3; clear e0 e1 e2 e3; have hh4 := hh2.below hb3 (by omega); have e0 : w3.cell? ⟨N, 0, none⟩ = some (.int .i64 (ty : Int)) := hh4.cell (by omega))
    | fail)
  go_ret2
  refine ⟨⟨M, by omega, rfl, hh3.congr (fun j _ => rfl), OwnK.nil _ _ _ _, fun i hi => absurd hi (by show ¬ i < 0; omega), fun i hi => absurd hi (by show ¬ i < 0; omega), fun i j hi => absurd hi (by show ¬ i < 0; omega)⟩, (hb1.trans (hb2.mono (by omega))).trans (hb3.mono (by omega))⟩
set_option maxRecDepth 100000 in
theorem Freeze_ok (m : Mp) (hfz : m.fz = false) (w : World) (hA : MpAt w m) :
    Calls Tryd.prog 12 #[.pointer (some ⟨m.b, 0, none⟩)] w fun e w' => e = .returned (.int .i64 0) ∧ Touch m.b w w' ∧ MpAt w' { m with fz := true } := by
  have d4 := hA.c4
  rw [hfz] at d4
  go_enter Tryd.func12, Tryd.ntmps12
  go_wp2_with (first
    | (refine wpl_set rfl 4 (.tmp 11) (.const (.bool true)) rfl m.b 4 rfl (.bool true) rfl (by kernel_rfl) rfl rfl 59 6 _ hA.h (by omega) ?_; intro w1 t1 h1)
    | fail)
  go_ret
  refine ⟨rfl, t1, h1.congr (fun j hj => ?_), hA.e.touch t1 (fun g hg => hA.pb g hg), fun i hi => (hA.c i hi).touch t1 (hA.cb i hi).1, fun i hi => (hA.v i hi).touch t1 (hA.cb i hi).2, hA.inj⟩
  by_cases h5 : j = 4
  · subst h5
    simp only [upd, mpC, if_pos rfl]
    rfl
  · unfold upd
    rw [if_neg h5]
    unfold mpC
    by_cases h4 : j < 4
    · rw [if_pos h4, if_pos h4]; rfl
    · rw [if_neg h4, if_neg h4, if_neg h5, if_neg h5]
set_option maxRecDepth 100000 in
theorem Frozen_is (m : Mp) (f : Bool) (hf : m.fz = f) (w : World) (hA : MpAt w m) :
    Calls Tryd.prog 13 #[.pointer (some ⟨m.b, 0, none⟩)] w fun e w' => e = .returned (.bool f) ∧ w = w' := by
  have d4 := hA.c4
  rw [hf] at d4
  clear hf
  go_enter Tryd.func13, Tryd.ntmps13
  go_wp2
  go_ret
  exact ⟨rfl, rfl⟩
set_option maxRecDepth 100000 in
theorem Len_is (m : Mp) (n : Nat) (hn : m.n = n) (w : World) (hA : MpAt w m) :
    Calls Tryd.prog 24 #[.pointer (some ⟨m.b, 0, none⟩)] w fun e w' => e = .returned (.int .i64 (n : Int)) ∧ w = w' := by
  have d5 := hA.c5
  rw [hn] at d5
  clear hn
  go_enter Tryd.func24, Tryd.ntmps24
  go_wp2
  go_ret
  exact ⟨rfl, rfl⟩
end Go.Proofs.YtjdclgnlnehjlaaDoor
namespace Go.Proofs.YtjdclgnlnehjlaaDoor
open Go Go.RowKit
section
variable {ops : Array Oper} {rest : List Oper} {o : Oper} {a : Act} {w : World} {Q : Exit → Act → World → Prop}
/-- A list of one byte that a constant text says: the list; then its mark. -/
theorem wpl_bc1 (hgd : o.guard = none) (x : Operand) (ho : o.op = .buildSlice 35 1 #[(0, x)]) (d : BitVec 8) (hx : a.eval x = By d) (N : Nat) (hN : Sz w N)
    (h : ∀ w0 w1, Hid ((convert 35 35 (.slice (some ⟨N, 0, none⟩) 1 1)).run Tryd.prog w0 = .ok (.slice (some ⟨N, 0, none⟩) 1 1) w1) → Sz w1 (N + 1) → Below N w w1 → Ats w1 (some ⟨N, 0, none⟩) 1 (fun _ => By d) → wpList Tryd.prog ops Q rest (a.put o.dst (.slice (some ⟨N, 0, none⟩) 1 1)) w0) : wpList Tryd.prog ops Q (o :: rest) a w := by
  have e : w.heap.size = N := hN
  subst e
  refine wpl_run hgd (.slice (some ⟨w.heap.size, 0, none⟩) 1 1) (w.alloc (.cells #[By d] 5)) ?_ (h _ (w.alloc (.cells #[By d] 5 (1, 2))) (hid ?_) (sz_alloc rfl _) (below_new _ _ _ rfl) ?_)
  · unfold By at *
    clear h hN
    generalize a.eval = ev at *
    unfold execOp
    simp only [ho]
    go_simp
  · exact Lib.run_convert_bytes_const (P := Tryd.prog) w 35 5 #[By d] 1 1 undBB undBy
  · refine fun _ => ⟨_, 0, rfl, fun j hj => ?_⟩
    obtain rfl : j = 0 := by omega
    rw [cell_of_row _ w.heap.size 0 #[By d] 5 (1, 2) (heap_alloc_new w _)]
    rfl
def four (a b c d : BitVec 8) : Nat → BitVec 8 := fun j => if j = 0 then a else if j = 1 then b else if j = 2 then c else d
theorem wpl_bs4 (hgd : o.guard = none) (x y z t : Operand) (ho : o.op = .buildSlice 35 4 #[(0, x), (1, y), (2, z), (3, t)]) (d0 d1 d2 d3 : BitVec 8) (hx : a.eval x = By d0) (hy : a.eval y = By d1) (hz : a.eval z = By d2) (ht : a.eval t = By d3) (N : Nat) (hN : Sz w N)
    (h : ∀ w1, Sz w1 (N + 1) → Below N w w1 → Has w1 N 5 4 (fun j => By (four d0 d1 d2 d3 j)) → wpList Tryd.prog ops Q rest (a.put o.dst (.slice (some ⟨N, 0, none⟩) 4 4)) w1) : wpList Tryd.prog ops Q (o :: rest) a w := by
  have e : w.heap.size = N := hN
  subst e
  refine wpl_run hgd (.slice (some ⟨w.heap.size, 0, none⟩) 4 4) (w.alloc (.cells #[By d0, By d1, By d2, By d3] 5)) ?_ (h _ (sz_alloc rfl _) (below_new _ _ _ rfl) ?_)
  · unfold By at *
    clear h hN
    generalize a.eval = ev at *
    unfold execOp
    simp only [ho]
    go_simp
  · exact has_new rfl 5 4 (fun j => By (four d0 d1 d2 d3 j))
end
set_option maxRecDepth 100000 in
set_option maxHeartbeats 1000000 in
theorem maps_any (w : World) (N : Nat) (hN : Sz w N) :
    Calls Tryd.prog 5 #[] w fun e w' => e = .returned (.bool true) ∧ Below N w w' := by
  have hS : SpecOk 1 1 1 2 := ⟨⟨1, 16, .inr (.inl ⟨rfl, rfl, rfl⟩), by omega, by omega⟩, by omega, by omega, by omega, by omega⟩
  have HS := hid hS
  clear hS
  have tok1 : True := trivial
  go_enter Tryd.func5, Tryd.ntmps5
  go_upto_region 5 with (first
    | (go_at_call 7; refine (New_plain 1 1 1 2 HS.out (by decide) _ N hN).mono ?_; rintro e w1 ⟨⟨b, hb, rfl, A1⟩, hb1⟩; obtain ⟨M1, hM1⟩ := sz_some w1)
    | (refine wpl_bc1 rfl (.const (.int .u8 97)) rfl 97#8 rfl M1 hM1 ?_; intro y2 w2 Cv14 hM2 hb2 q2)
    | (refine wpl_conv2 rfl 35 35 (.tmp 14) rfl _ _ _ rfl Cv14.out ?_; clear Cv14)
    | (refine wpl_bc1 rfl (.const (.int .u8 49)) rfl 49#8 rfl (M1 + 1) hM2 ?_; intro y3 w3 Cv16 hM3 hb3 x3)
    | (refine wpl_conv2 rfl 35 35 (.tmp 16) rfl _ _ _ rfl Cv16.out ?_; clear Cv16; have q3 := q2.below hM2 hb3; have A3 := (A1.below hM1 hb2).below hM2 hb3)
    | (go_at_call 19; have _t := tok1; refine (Upd_new (mp0 1 1 1 2 b) (fun _ => 97#8) (strOf (fun _ => 97#8) 1) (keyIs_of _ 1 1 rfl rfl (by decide) _) rfl (show (1 : Nat) ≠ 0 by decide) (fun i hi => absurd hi (Nat.not_lt_zero i)) 0 (by omega) (show 0 < 2 by decide) (show 2 ≤ 64 by decide) (show 1 ≤ 1 by decide) (show 1 ≤ 64 by decide) (some ⟨M1, 0, none⟩) 1 (some ⟨M1 + 1, 0, none⟩) 1 (fun _ => 49#8) _ (M1 + 1 + 1) hM3 A3 q3 x3).mono ?_; rintro e w4 ⟨rfl, M, hMl, T4, p4, cap4, A4, hp4⟩; obtain ⟨M4, hM4⟩ := sz_some w4; clear tok1)
    | (refine wpl_bc1 rfl (.const (.int .u8 97)) rfl 97#8 rfl M4 hM4 ?_; intro y5 w5 Cv21 hM5 hb5 q5)
    | (refine wpl_conv2 rfl 35 35 (.tmp 21) rfl _ _ _ rfl Cv21.out ?_; clear Cv21; have A5 := A4.below hM4 hb5)
    | (go_at_call 16; refine (Look_at ((mp0 1 1 1 2 b).put p4 cap4 M (strOf (fun _ => 97#8) 1) (fun _ => 49#8)) (fun _ => 97#8) (strOf (fun _ => 97#8) 1) (keyIs_of _ 1 1 rfl rfl (by decide) _) (show (1 : Nat) ≠ 2 by decide) 0 ⟨Nat.zero_lt_one, rfl, fun i hi => absurd hi (Nat.not_lt_zero i)⟩ (show 1 ≤ 1000 by decide) 1 rfl (by decide) (by decide) (some ⟨M4, 0, none⟩) 1 _ (M4 + 1) hM5 A5 q5).mono ?_; rintro e w6 ⟨⟨K, hK, rfl, hv6'⟩, hb6⟩; have hv6 : Has w6 K 5 1 (fun _ => By 49#8) := hv6'; clear hv6'; have A6 := A5.below hM5 hb6; obtain ⟨M6, hM6⟩ := sz_some w6)
    | (go_at_call 12; refine (Freeze_ok _ rfl _ A6).mono ?_; rintro e w7 ⟨rfl, t7, A7⟩; have hM7 := t7.sz hM6; have hKb : b < M4 := A4.lt hM4 b (.inl rfl); have hv7 := hv6.touch t7 (show K ≠ b by omega))
    | fail)
  generalize hm9 : ({ (mp0 1 1 1 2 b).put p4 cap4 M (strOf (fun _ => 97#8) 1) (fun _ => 49#8) with fz := true } : Mp) = m9 at A7
  have Hfz := hid (show m9.fz = true by rw [← hm9])
  have Hn := hid (show m9.n = 1 by rw [← hm9]; rfl)
  have Hb := hid (show m9.b = b by rw [← hm9]; rfl)
  have L1 : N ≤ M1 := below_sz hb1 hN hM1
  have L4 := sz_turn T4 hM3 hM4
  have b3 : Below N w w3 := (hb1.trans (hb2.mono L1)).trans (hb3.mono (by omega))
  have b4 : Below N w w4 := T4.below b3 (fun j hj => by rcases hj with rfl | hj; exact hb; cases hj) (by have e : w3.heap.size = M1 + 1 + 1 := hM3; omega)
  have L6 := below_sz hb6 hM5 hM6
  have hb7 : Below N w w7 := t7.below ((b4.trans (hb5.mono (by omega))).trans (hb6.mono (by omega))) hb
  have L7 : N ≤ M6 := by omega
  clear L1 L4 b3 b4 L6
  clear _t HS hm9 A1 A3 A4 A5 A6 q2 q3 x3 q5 hv6 t7 hb6 hb5 T4 hp4 hb3 hb2 hb1 hM1 hM2 hM3 hM4 hM5 hM6 hMl
  go_wp2_with (first
    | (refine wpl_bc1 rfl (.const (.int .u8 97)) rfl 97#8 rfl M6 hM7 ?_; intro y8 w8 Cv29 hM8 hb8 q8)
    | (refine wpl_conv2 rfl 35 35 (.tmp 29) rfl _ _ _ rfl Cv29.out ?_; clear Cv29)
    | (refine wpl_bc1 rfl (.const (.int .u8 50)) rfl 50#8 rfl (M6 + 1) hM8 ?_; intro y9 w9 Cv31 hM9 hb9 x9)
    | (refine wpl_conv2 rfl 35 35 (.tmp 31) rfl _ _ _ rfl Cv31.out ?_; clear Cv31; have A9 := (A7.below hM7 hb8).below hM8 hb9; have v9 := (hv7.below hb8 (hv7.ltN hM7)).below hb9 (by have := hv7.ltN hM7; omega); have Hcv := hid (run_string (P := Tryd.prog) w9 35 9 5 undBB undBy undBS (some ⟨K, 0, none⟩) 1 1 (fun _ => 49#8) v9.ats))
    | (go_at_call 19; have U := Upd_frozen m9 Hfz.out (.slice (some ⟨M6, 0, none⟩) 1 1) (.slice (some ⟨M6 + 1, 0, none⟩) 1 1) (.int .u64 0) _ A9; rw [Hb.out] at U; refine U.mono ?_; rintro e w10 ⟨rfl, rfl⟩)
    | (refine wpl_want (by rfl) ?_; refine wpl_conv rfl 35 9 (.tmp 49) rfl _ (.string ⟨#[49]⟩) rfl Hcv.out ?_)
    | (refine wpl_conv rfl 35 9 (.tmp 49) rfl _ (.string ⟨#[49]⟩) rfl Hcv.out ?_)
    | (go_at_call 13; have U := Frozen_is m9 true Hfz.out _ A9; rw [Hb.out] at U; refine U.mono ?_; rintro e w11 ⟨rfl, rfl⟩)
    | (go_at_call 24; have U := Len_is m9 1 Hn.out _ A9; rw [Hb.out] at U; refine U.mono ?_; rintro e w12 ⟨rfl, rfl⟩)
    | fail)
  go_ret
  exact ⟨rfl, (hb7.trans (hb8.mono L7)).trans (hb9.mono (by omega))⟩
end Go.Proofs.YtjdclgnlnehjlaaDoor
namespace Go.Proofs.YtjdclgnlnehjlaaDoor
open Go Go.RowKit
def b8 (c : Nat) : BitVec 8 := BitVec.ofNat 8 c
theorem by_nat (c : Nat) (hc : c < 256) : Value.int .u8 (c : Int) = By (b8 c) := by
  unfold By v8 b8
  rw [BitVec.toNat_ofNat, Nat.mod_eq_of_lt (by omega)]
section
variable {ops : Array Oper} {rest : List Oper} {o : Oper} {a : Act} {w : World} {Q : Exit → Act → World → Prop}
end
end Go.Proofs.YtjdclgnlnehjlaaDoor
