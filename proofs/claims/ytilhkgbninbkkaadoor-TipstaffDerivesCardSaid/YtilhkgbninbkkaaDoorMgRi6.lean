/- Contract of rights.Text. Laws of rights: whole; RightsBits. -/
import Derived.Test.YtilhkgbninbkkaaDoorRi4
import Derived.Laws.Concat
namespace Go.Proofs.YtilhkgbninbkkaaDoor
open Go Go.RowKit
def bs (l : List UInt8) : ByteArray := ⟨l.toArray⟩
/-- The numbers of a text. -/
def textN (r : Rg) : ByteArray := ((((((bs [99] ++ hexT r.c.toNat) ++ bs [32, 112]) ++ hexT r.p.toNat) ++ bs [32, 109]) ++ hexT r.m.toNat) ++ bs [32, 104]) ++ hexT r.h.toNat
def textV (r : Rg) : ByteArray := if r.v then textN r ++ bs [32, 112, 114, 105, 118, 105, 108, 101, 103, 101, 100] else textN r
/-- The text of rights. -/
def textOf (r : Rg) : ByteArray := if r.s then textV r ++ bs [32, 115, 105, 103, 110, 101, 100] else textV r
theorem strOf_size (D : Nat → BitVec 8) (n : Nat) : (strOf D n).size = n := by simp [strOf, ByteArray.size]
theorem hexT_len (n : Nat) : (hexT n).size ≤ 4 := by unfold hexT; rw [strOf_size]; exact hexT_size n
theorem bs_size (l : List UInt8) : (bs l).size = l.length := by simp [bs, ByteArray.size]
theorem textN_size (r : Rg) : (textN r).size ≤ 23 := by
  have h1 := hexT_len r.c.toNat
  have h2 := hexT_len r.p.toNat
  have h3 := hexT_len r.m.toNat
  have h4 := hexT_len r.h.toNat
  simp only [textN, ByteArray.size_append, bs_size, List.length_cons, List.length_nil]
  omega
theorem textV_size (r : Rg) : (textV r).size ≤ 34 := by
  have := textN_size r
  unfold textV
  split
  · simp only [ByteArray.size_append, bs_size, List.length_cons, List.length_nil]; omega
  · omega
theorem run_cat {P : Program} {a : Act} {o : Oper} {w : World} (t : TypeId) (x y : Operand) (ho : o.op = .binOp .add t x y t) (p q : ByteArray) (hx : a.eval x = .string p) (hy : a.eval y = .string q) (h : p.size + q.size ≤ 1000) :
    (execOp a.eval o).run P w = .ok (.value (.string (p ++ q))) w := by
  have := run_string_add_sum (P := P) w p q (by omega)
  unfold execOp
  simp only [ho, hx, hy]
  simp [binOp, eqGuard, this]
set_option maxRecDepth 100000 in
set_option maxHeartbeats 2000000 in
theorem Text_any (r : Rg) (w : World) (N : Nat) (hN : Sz w N) (hD : Db w) :
    Calls Tryd.prog 21 #[rgV r] w fun e w' => e = .returned (.string (textOf r)) ∧ Below N w w' := by
  have h1 := hexT_len r.c.toNat
  have h2 := hexT_len r.p.toNat
  have h3 := hexT_len r.m.toNat
  have h4 := hexT_len r.h.toNat
  have hTN := textN_size r
  have hTV := textV_size r
  unfold rgV
  go_enter Tryd.func21, Tryd.ntmps21
  go_upto_region 1 with (first
    | (refine wpl_box rfl 26 (.tmp 0) rfl 6 _ rfl N hN ?_; intro w1 hN1 hb1 hh1)
    | fail)
  obtain ⟨f0, f1, f2, f3, f4, f5⟩ := rg_cells hh1
  have hD1 := hD.below hN hb1
  refine wp_region_later (N + 1) (by kernel_rfl) (by kernel_rfl) ?_
  try simp only [Act.put, List.setIfInBounds_toArray, List.set_cons_succ, List.set_cons_zero]
  have L0 := fun x : Later (N + 1) w1 => Later.cell hN1 f0 x
  have L1 := fun x : Later (N + 1) w1 => Later.cell hN1 f1 x
  have L2 := fun x : Later (N + 1) w1 => Later.cell hN1 f2 x
  have L3 := fun x : Later (N + 1) w1 => Later.cell hN1 f3 x
  repeat first
    | (refine later_val (fun x => run_cat 9 _ _ rfl _ _ rfl rfl ?_) (by rfl) ?_; simp only [ByteArray.size_append, bs_size, List.length_cons, List.length_nil]; omega; simp only [Act.put, List.setIfInBounds_toArray, List.set_cons_succ, List.set_cons_zero])
    | (go_big_quiet_step ((first
      | (go_at_call 50; exact later_of hN1 _ (fun K hK hKN => number_any _ _ K hK (hD1.below hN1 (Later.b _)))))))
  refine wpQuiet_nil ?_
  rintro w5 ⟨x5, e5⟩
  have hb5 := x5.b
  rw [← e5] at hb5
  clear e5 x5
  have g4 : w5.cell? ⟨N, 4, none⟩ = some (.bool r.v) := (hb5.cell (p := ⟨N, 4, none⟩) (by show N < N + 1; omega)).trans f4
  have g5 : w5.cell? ⟨N, 5, none⟩ = some (.bool r.s) := (hb5.cell (p := ⟨N, 5, none⟩) (by show N < N + 1; omega)).trans f5
  have lo5 : Below N w w5 := hb1.trans (hb5.mono (by omega))
  obtain ⟨T, hT⟩ : ∃ T, T = textN r := ⟨_, rfl⟩
  have HT := hid hT
  have eT : ((((((({ data := #[99] } : ByteArray) ++ hexT r.c.toNat) ++ { data := #[32, 112] }) ++ hexT r.p.toNat) ++ { data := #[32, 109] }) ++ hexT r.m.toNat) ++ { data := #[32, 104] }) ++ hexT r.h.toNat = T := hT.symm
  rw [← hT] at hTN
  have HTV := hid hTV
  clear hT hTV L0 L1 L2 L3 f0 f1 f2 f3 f4 f5 hh1 hb1 hb5 hD1 hN1 h1 h2 h3 h4
  rw [eT]
  clear eT
  cases hv : r.v <;> cases hs : r.s
  all_goals
    rw [hv] at g4; rw [hs] at g5
    have HV := hid hv
    have HS := hid hs
    clear hv hs
    go_wp2_with (first
      | (refine wpl_run rfl _ _ (run_cat 9 (.tmp 25) _ rfl T (bs [32, 112, 114, 105, 118, 105, 108, 101, 103, 101, 100]) rfl rfl (by simp only [bs_size, List.length_cons, List.length_nil]; omega)) ?_)
      | (refine wpl_run rfl _ _ (run_cat 9 (.tmp 29) _ rfl (T ++ bs [32, 112, 114, 105, 118, 105, 108, 101, 103, 101, 100]) (bs [32, 115, 105, 103, 110, 101, 100]) rfl rfl (by simp only [ByteArray.size_append, bs_size, List.length_cons, List.length_nil]; omega)) ?_)
      | (refine wpl_run rfl _ _ (run_cat 9 (.tmp 29) _ rfl T (bs [32, 115, 105, 103, 110, 101, 100]) rfl rfl (by simp only [bs_size, List.length_cons, List.length_nil]; omega)) ?_)
      | fail)
    go_ret
    refine ⟨?_, lo5⟩
    unfold textOf textV
    rw [HV.out, HS.out, ← HT.out]
    rfl
end Go.Proofs.YtilhkgbninbkkaaDoor
namespace Go.Proofs.YtilhkgbninbkkaaDoor
open Go Go.RowKit
end Go.Proofs.YtilhkgbninbkkaaDoor
