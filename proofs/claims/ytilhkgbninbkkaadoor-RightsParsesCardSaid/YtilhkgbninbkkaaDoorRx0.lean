/- Rights as words: the document's own text. -/
import Derived.Test.YtilhkgbninbkkaaDoorRi6
namespace Go.Proofs.YtilhkgbninbkkaaDoor
open Go Go.RowKit
def signs16 : ByteArray := ⟨#[48, 49, 50, 51, 52, 53, 54, 55, 56, 57, 97, 98, 99, 100, 101, 102]⟩
/-- The last j signs of a number, in their order. -/
def lastS (x j : Nat) : ByteArray := strOf (fun p => sgAt x (j - 1 - p)) j
theorem sgB_nat (d : Nat) (h : d < 16) : (sgB d).toNat = sgN d := by
  unfold sgB; rw [BitVec.toNat_ofNat]; exact Nat.mod_eq_of_lt (sgN_lt d h)
theorem lastS_list (x j : Nat) : (List.range (j + 1)).map (fun k => UInt8.ofNat (sgAt x (j + 1 - 1 - k)).toNat) = UInt8.ofNat (sgN (x / 16 ^ j % 16)) :: (List.range j).map (fun k => UInt8.ofNat (sgAt x (j - 1 - k)).toNat) := by
  rw [List.range_succ_eq_map, List.map_cons, List.map_map]
  congr 1
  · show UInt8.ofNat (sgB (x / 16 ^ (j + 1 - 1 - 0) % 16)).toNat = _
    rw [sgB_nat _ (Nat.mod_lt _ (by decide)), show j + 1 - 1 - 0 = j by omega]
  · refine List.map_congr_left (fun k _ => ?_)
    show UInt8.ofNat (sgAt x (j + 1 - 1 - (k + 1))).toNat = _
    rw [show j + 1 - 1 - (k + 1) = j - 1 - k by omega]
theorem lastS_step (x j : Nat) : (⟨#[UInt8.ofNat (sgN (x / 16 ^ j % 16))]⟩ : ByteArray) ++ lastS x j = lastS x (j + 1) := by
  unfold lastS strOf
  rw [lastS_list, ByteArray.mk_append_mk]
  congr 1
theorem lastS_size (x j : Nat) : (lastS x j).size = j := by unfold lastS; exact strOf_size _ _
theorem hexT_last (x : Nat) : hexT x = lastS x (nSg x) := by
  unfold hexT lastS hexD
  rfl
set_option maxRecDepth 100000 in
theorem sl16 (d : Nat) (hd : d < 16) (w : World) : (Instr.sliceAt 9 (.string signs16) (some (.int .u16 (d : Int))) (some (.int .u16 ((d + 1 : Nat) : Int))) none).run Tryd.prog w = .ok (.string ⟨#[UInt8.ofNat (sgN d)]⟩) w := by
  unfold signs16
  rcases (show d = 0 ∨ d = 1 ∨ d = 2 ∨ d = 3 ∨ d = 4 ∨ d = 5 ∨ d = 6 ∨ d = 7 ∨ d = 8 ∨ d = 9 ∨ d = 10 ∨ d = 11 ∨ d = 12 ∨ d = 13 ∨ d = 14 ∨ d = 15 by omega) with rfl | rfl | rfl | rfl | rfl | rfl | rfl | rfl | rfl | rfl | rfl | rfl | rfl | rfl | rfl | rfl <;> (go_simp; try rfl)
theorem run_slD {a : Act} {o : Oper} {x y z : Operand} {d : Nat} (ho : o.op = .slice 9 x (some y) (some z) none) (hx : a.eval x = .string signs16) (hy : a.eval y = .int .u16 (d : Int)) (hz : a.eval z = .int .u16 ((d + 1 : Nat) : Int)) (hd : d < 16) (w : World) : (execOp a.eval o).run Tryd.prog w = .ok (.value (.string ⟨#[UInt8.ofNat (sgN d)]⟩)) w := by
  have h9 := sl16 d hd w
  unfold execOp
  simp only [ho, hx, hy, hz, Option.map_some, Option.map_none, Sem.run_bind, h9, Result.andThen_ok, Sem.run_pure]
theorem run_q16 {P : Program} {a : Act} {o : Oper} {T ty : TypeId} {x y : Operand} {n : Nat} (ho : o.op = .binOp .quo T x y ty) (hx : a.eval x = .int .u16 (n : Int)) (hy : a.eval y = .int .u16 16) (hn : n < 65536) (w : World) : (execOp a.eval o).run P w = .ok (.value (.int .u16 ((n / 16 : Nat) : Int))) w := by
  have e : IntKind.u16.wrap ((n : Int).tdiv 16) = ((n / 16 : Nat) : Int) := by
    rw [show (16 : Int) = ((16 : Nat) : Int) from rfl, ← Int.ofNat_tdiv]
    simp [IntKind.wrap, IntKind.signed, IntKind.bits]; omega
  unfold execOp; simp only [ho, hx, hy]; go_simp; first | done | exact e | simp [e]
theorem run_r16 {P : Program} {a : Act} {o : Oper} {T ty : TypeId} {x y : Operand} {n : Nat} (ho : o.op = .binOp .rem T x y ty) (hx : a.eval x = .int .u16 (n : Int)) (hy : a.eval y = .int .u16 16) (hn : n < 65536) (w : World) : (execOp a.eval o).run P w = .ok (.value (.int .u16 ((n % 16 : Nat) : Int))) w := by
  have e : IntKind.u16.wrap ((n : Int).tmod 16) = ((n % 16 : Nat) : Int) := by
    rw [show (16 : Int) = ((16 : Nat) : Int) from rfl, ← Int.ofNat_tmod]
    simp [IntKind.wrap, IntKind.signed, IntKind.bits]; omega
  unfold execOp; simp only [ho, hx, hy]; go_simp; exact Int.tmod_eq_emod_of_nonneg (by omega)
theorem run_p16 {P : Program} {a : Act} {o : Oper} {T ty : TypeId} {x y : Operand} {n : Nat} (ho : o.op = .binOp .add T x y ty) (hx : a.eval x = .int .u16 (n : Int)) (hy : a.eval y = .int .u16 1) (hn : n < 16) (w : World) : (execOp a.eval o).run P w = .ok (.value (.int .u16 ((n + 1 : Nat) : Int))) w := by
  have e : IntKind.u16.wrap ((n : Int) + 1) = ((n + 1 : Nat) : Int) := by
    simp [IntKind.wrap, IntKind.signed, IntKind.bits]; omega
  have e2 : IntKind.u16.wrap ((n : Int) + 1) = (n : Int) + 1 := by simp [IntKind.wrap, IntKind.signed, IntKind.bits]; omega
  unfold execOp; simp only [ho, hx, hy]; go_simp; first | done | exact e | exact e2 | (congr 2; exact e2) | (rw [e2]; rfl) | (rw [e]) | trace_state
theorem run_eqE {P : Program} {a : Act} {o : Oper} {T ty : TypeId} {x y : Operand} {s : ByteArray} {r : Bool} (ho : o.op = .binOp .eql T x y ty) (hx : a.eval x = .string s) (hy : a.eval y = .string ⟨#[]⟩) (h : (s.toList == (ByteArray.toList ⟨#[]⟩)) = r) (w : World) : (execOp a.eval o).run P w = .ok (.value (.bool r)) w := by
  subst h; unfold execOp; simp only [ho, hx, hy]; go_simp
theorem run_gt0 {P : Program} {a : Act} {o : Oper} {T ty : TypeId} {x y : Operand} {n : Nat} {r : Bool} (ho : o.op = .binOp .gtr T x y ty) (hx : a.eval x = .int .u16 (n : Int)) (hy : a.eval y = .int .u16 0) (h : decide (0 < n) = r) (w : World) : (execOp a.eval o).run P w = .ok (.value (.bool r)) w := by
  have e : decide ((0 : Int) < (n : Int)) = r := by rw [← h]; exact decide_eq_decide.2 (by omega)
  subst h
  unfold execOp; simp only [ho, hx, hy]; go_simp
theorem emp_no (s : ByteArray) (h : 0 < s.size) : (s.toList == (ByteArray.toList ⟨#[]⟩)) = false := by
  have h4 : (s.toList == (ByteArray.toList ⟨#[]⟩)) = s.toList.isEmpty := by
    have : (ByteArray.toList ⟨#[]⟩) = [] := List.isEmpty_iff.1 (by rw [← decide_eq_emptyBytes]; exact decide_eq_true rfl)
    rw [this]
    cases s.toList <;> rfl
  rw [h4, ← decide_eq_emptyBytes]
  exact decide_eq_false (fun e => by rw [e] at h; simp [ByteArray.size] at h)
theorem nSg_pos (n : Nat) : 0 < nSg n := by unfold nSg; repeat' split
                                            all_goals omega
theorem nSg_div (n j : Nat) (hn : n < 65536) (hj : j ≤ nSg n) : (0 < n / 16 ^ j → j < nSg n) ∧ (n / 16 ^ j = 0 → 0 < j → j = nSg n) := by
  have h4 := hexT_size n
  unfold nSg at *
  rcases (show j = 0 ∨ j = 1 ∨ j = 2 ∨ j = 3 ∨ j = 4 by omega) with rfl | rfl | rfl | rfl | rfl
  all_goals simp only [Nat.pow_zero, Nat.pow_one, Nat.div_one, show 16 ^ 2 = 256 from rfl, show 16 ^ 3 = 4096 from rfl, show 16 ^ 4 = 65536 from rfl] at *
  all_goals constructor <;> intros <;> (repeat' split at *) <;> omega
def eM (v : Value) : Nat := match v with | .string s => if s.size = 0 then 1 else 0 | _ => 0
set_option maxRecDepth 100000 in
set_option maxHeartbeats 4000000 in
theorem Hex_any (x : BitVec 16) (w : World) (N : Nat) (hN : Sz w N) : Calls Tryd.prog 52 #[Wd x] w fun e w' => e = .returned (.string (hexT x.toNat)) ∧ Below N w w' := by
  obtain ⟨n, en⟩ : ∃ n, x.toNat = n := ⟨_, rfl⟩
  have hn : n < 65536 := by rw [← en]; exact x.isLt
  rw [show Wd x = .int .u16 (n : Int) by rw [← en]; rfl, en]
  clear en
  have HN := hid hn
  clear hn
  go_enter Tryd.func52, Tryd.ntmps52
  go_wp2_with fail
  go_loopw [0, 4] (fun x0 x4 wr => ∃ (j u : Nat) (s : ByteArray), x0 = .int .u16 (u : Int) ∧ x4 = .string s ∧ wr = w ∧ Hid (j ≤ nSg n ∧ u = n / 16 ^ j ∧ s = lastS n j)) (fun x0 x4 _ => (intOf x0).toNat + eM x4)
  case atStart => exact ⟨0, n, ⟨#[]⟩, rfl, rfl, rfl, hid ⟨Nat.zero_le _, by simp, rfl⟩⟩
  case round =>
    obtain ⟨j, u, s, rfl, rfl, rfl, HI⟩ := hrel
    have hu : u < 65536 := by rw [HI.out.2.1]; exact Nat.lt_of_le_of_lt (Nat.div_le_self _ _) HN.out
    have hz : s.size = j := by rw [HI.out.2.2]; exact lastS_size _ _
    have h4 := hexT_size n
    have hjn := HI.out.1
    have HU := hid hu
    have HS := hid (show ((⟨#[UInt8.ofNat (sgN (u % 16))]⟩ : ByteArray)).size + s.size ≤ 1000 by show 1 + s.size ≤ 1000; omega)
    have hd := nSg_div n j HN.out hjn
    rw [← HI.out.2.1] at hd
    have hp := nSg_pos n
    by_cases h0 : 0 < u
    · have E0 := hid (decide_eq_true h0)
      have HJ := hid (show j + 1 ≤ nSg n from hd.1 h0)
      have HME : Hid (u / 16 < u + eM (.string s)) := hid (by omega)
      clear hu hz hjn h4 hd hp h0
      · go_wp2_with (first
          | (refine wpl_run rfl (.bool true) _ (run_gt0 (x := .tmp 5) (y := .const (.int .u16 0)) rfl rfl rfl E0.out _) ?_)
          | (refine wpl_run rfl (.int .u16 ((u % 16 : Nat) : Int)) _ (run_r16 (x := .tmp 12) (y := .const (.int .u16 16)) rfl rfl rfl HU.out _) ?_)
          | (refine wpl_run rfl (.int .u16 ((u % 16 : Nat) : Int)) _ (run_r16 (x := .tmp 14) (y := .const (.int .u16 16)) rfl rfl rfl HU.out _) ?_)
          | (refine wpl_run rfl (.int .u16 ((u % 16 + 1 : Nat) : Int)) _ (run_p16 (x := .tmp 15) (y := .const (.int .u16 1)) rfl rfl rfl (Nat.mod_lt _ (by decide)) _) ?_)
          | (refine wpl_run rfl (.string ⟨#[UInt8.ofNat (sgN (u % 16))]⟩) _ (run_slD (x := .tmp 11) (y := .tmp 13) (z := .tmp 16) rfl rfl rfl rfl (Nat.mod_lt _ (by decide)) _) ?_)
          | (refine wpl_run rfl (.string (⟨#[UInt8.ofNat (sgN (u % 16))]⟩ ++ s)) _ (run_cat 9 (.tmp 17) (.tmp 18) rfl _ _ rfl rfl HS.out) ?_)
          | (refine wpl_run rfl (.int .u16 ((u / 16 : Nat) : Int)) _ (run_q16 (x := .tmp 20) (y := .const (.int .u16 16)) rfl rfl rfl HU.out _) ?_)
          | fail)
        refine ⟨⟨j + 1, u / 16, _, rfl, rfl, trivial, hid ?_⟩, ?_⟩
        · obtain ⟨q1, q2, q3⟩ := HI.out
          refine ⟨HJ.out, by rw [q2, Nat.div_div_eq_div_mul, Nat.pow_succ], ?_⟩
          rw [← lastS_step, ← q2, ← q3]
        · have h9 := HME.out
          have h8 : eM (.string (⟨#[UInt8.ofNat (sgN (u % 16))]⟩ ++ s)) = 0 := by
            show (if (⟨#[UInt8.ofNat (sgN (u % 16))]⟩ ++ s : ByteArray).size = 0 then 1 else 0) = 0
            rw [ByteArray.size_append, if_neg (by show ¬ 1 + s.size = 0; omega)]
          rw [h8]
          simp only [intOf]
          omega
    · have E0 := hid (decide_eq_false h0)
      by_cases hj : j = 0
      · have hs : (s.toList == (ByteArray.toList ⟨#[]⟩)) = true := by
          have e9 := HI.out.2.2
          rw [hj] at e9
          rw [e9]
          have e8 : lastS n 0 = ⟨#[]⟩ := rfl
          rw [e8]
          exact beq_self_eq_true _
        have E1 := hid hs
        have HJ := hid (show j + 1 ≤ nSg n by omega)
        have HME : Hid (u / 16 < u + eM (.string s)) := hid (by
          have e7 : eM (.string s) = 1 := by show (if s.size = 0 then 1 else 0) = 1; rw [if_pos (by omega)]
          rw [e7]; omega)
        clear hu hz hjn h4 hd hp h0 hj hs
        go_wp2_with (first
          | (refine wpl_run rfl (.bool false) _ (run_gt0 (x := .tmp 5) (y := .const (.int .u16 0)) rfl rfl rfl E0.out _) ?_)
          | (refine wpl_want (by rfl) ?_; refine wpl_run rfl (.bool true) _ (run_eqE (x := .tmp 8) (y := .const (.string ⟨#[]⟩)) rfl rfl rfl E1.out _) ?_)
          | (refine wpl_run rfl (.int .u16 ((u % 16 : Nat) : Int)) _ (run_r16 (x := .tmp 12) (y := .const (.int .u16 16)) rfl rfl rfl HU.out _) ?_)
          | (refine wpl_run rfl (.int .u16 ((u % 16 : Nat) : Int)) _ (run_r16 (x := .tmp 14) (y := .const (.int .u16 16)) rfl rfl rfl HU.out _) ?_)
          | (refine wpl_run rfl (.int .u16 ((u % 16 + 1 : Nat) : Int)) _ (run_p16 (x := .tmp 15) (y := .const (.int .u16 1)) rfl rfl rfl (Nat.mod_lt _ (by decide)) _) ?_)
          | (refine wpl_run rfl (.string ⟨#[UInt8.ofNat (sgN (u % 16))]⟩) _ (run_slD (x := .tmp 11) (y := .tmp 13) (z := .tmp 16) rfl rfl rfl rfl (Nat.mod_lt _ (by decide)) _) ?_)
          | (refine wpl_run rfl (.string (⟨#[UInt8.ofNat (sgN (u % 16))]⟩ ++ s)) _ (run_cat 9 (.tmp 17) (.tmp 18) rfl _ _ rfl rfl HS.out) ?_)
          | (refine wpl_run rfl (.int .u16 ((u / 16 : Nat) : Int)) _ (run_q16 (x := .tmp 20) (y := .const (.int .u16 16)) rfl rfl rfl HU.out _) ?_)
          | fail)
        refine ⟨⟨j + 1, u / 16, _, rfl, rfl, trivial, hid ?_⟩, ?_⟩
        · obtain ⟨q1, q2, q3⟩ := HI.out
          refine ⟨HJ.out, by rw [q2, Nat.div_div_eq_div_mul, Nat.pow_succ], ?_⟩
          rw [← lastS_step, ← q2, ← q3]
        · have h9 := HME.out
          have h8 : eM (.string (⟨#[UInt8.ofNat (sgN (u % 16))]⟩ ++ s)) = 0 := by
            show (if (⟨#[UInt8.ofNat (sgN (u % 16))]⟩ ++ s : ByteArray).size = 0 then 1 else 0) = 0
            rw [ByteArray.size_append, if_neg (by show ¬ 1 + s.size = 0; omega)]
          rw [h8]
          simp only [intOf]
          omega
      · have E1 := hid (emp_no s (by omega))
        have hjj := hd.2 (by omega) (by omega)
        clear hu hz hjn h4 hd hp h0 hj
        go_wp2_with (first
          | (refine wpl_run rfl (.bool false) _ (run_gt0 (x := .tmp 5) (y := .const (.int .u16 0)) rfl rfl rfl E0.out _) ?_)
          | (refine wpl_want (by rfl) ?_; refine wpl_run rfl (.bool false) _ (run_eqE (x := .tmp 8) (y := .const (.string ⟨#[]⟩)) rfl rfl rfl E1.out _) ?_)
          | fail)
        go_ret
        refine ⟨?_, Below.refl N _⟩
        rw [hexT_last, ← hjj, ← HI.out.2.2]
        rfl
set_option maxRecDepth 100000 in
set_option maxHeartbeats 2000000 in
theorem RText_any (r : Rg) (w : World) (N : Nat) (hN : Sz w N) :
    Calls Tryd.prog 23 #[rgV r] w fun e w' => e = .returned (.string (textOf r)) ∧ Below N w w' := by
  have h1 := hexT_len r.c.toNat
  have h2 := hexT_len r.p.toNat
  have h3 := hexT_len r.m.toNat
  have h4 := hexT_len r.h.toNat
  have hTN := textN_size r
  have hTV := textV_size r
  unfold rgV
  go_enter Tryd.func23, Tryd.ntmps23
  go_upto_region 1 with (first
    | (refine wpl_box rfl 24 (.tmp 0) rfl 6 _ rfl N hN ?_; intro w1 hN1 hb1 hh1)
    | fail)
  obtain ⟨f0, f1, f2, f3, f4, f5⟩ := rg_cells hh1
  refine wp_region_later (N + 1) (by kernel_rfl) (by kernel_rfl) ?_
  try simp only [Act.put, List.setIfInBounds_toArray, List.set_cons_succ, List.set_cons_zero]
  have L0 := fun x : Later (N + 1) w1 => Later.cell hN1 f0 x
  have L1 := fun x : Later (N + 1) w1 => Later.cell hN1 f1 x
  have L2 := fun x : Later (N + 1) w1 => Later.cell hN1 f2 x
  have L3 := fun x : Later (N + 1) w1 => Later.cell hN1 f3 x
  repeat first
    | (refine later_val (fun x => run_cat 9 _ _ rfl _ _ rfl rfl ?_) (by rfl) ?_; simp only [ByteArray.size_append, bs_size, List.length_cons, List.length_nil]; omega; simp only [Act.put, List.setIfInBounds_toArray, List.set_cons_succ, List.set_cons_zero])
    | (go_big_quiet_step ((first
      | (go_at_call 52; exact later_of hN1 _ (fun K hK hKN => Hex_any _ _ K hK)))))
  refine wpQuiet_nil ?_
  rintro w5 ⟨x5, e5⟩
  have hb5 := x5.b
  rw [← e5] at hb5
  clear e5 x5
  have g4 : w5.cell? ⟨N, 4, none⟩ = some (.bool r.v) := (hb5.cell (p := ⟨N, 4, none⟩) (by show N < N + 1; omega)).trans f4
  have g5 : w5.cell? ⟨N, 5, none⟩ = some (.bool r.s) := (hb5.cell (p := ⟨N, 5, none⟩) (by show N < N + 1; omega)).trans f5
  have lo5 : Below N w w5 := hb1.trans (hb5.mono (by omega))
  obtain ⟨T, hT⟩ : ∃ T, T = textN r := ⟨_, rfl⟩
  have HT := hid hT
  have eT : ((((((({ data := #[99] } : ByteArray) ++ hexT r.c.toNat) ++ { data := #[32, 112] }) ++ hexT r.p.toNat) ++ { data := #[32, 109] }) ++ hexT r.m.toNat) ++ { data := #[32, 104] }) ++ hexT r.h.toNat = T := hT.symm
  rw [← hT] at hTN
  have HTV := hid hTV
  clear hT hTV L0 L1 L2 L3 f0 f1 f2 f3 f4 f5 hh1 hb1 hb5 hN1 h1 h2 h3 h4
  rw [eT]
  clear eT
  cases hv : r.v <;> cases hs : r.s
  all_goals
    rw [hv] at g4; rw [hs] at g5
    have HV := hid hv
    have HS := hid hs
    clear hv hs
    go_wp2_with (first
      | (refine wpl_run rfl _ _ (run_cat 9 (.tmp 25) _ rfl T (bs [32, 112, 114, 105, 118, 105, 108, 101, 103, 101, 100]) rfl rfl (by simp only [bs_size, List.length_cons, List.length_nil]; omega)) ?_)
      | (refine wpl_run rfl _ _ (run_cat 9 (.tmp 29) _ rfl (T ++ bs [32, 112, 114, 105, 118, 105, 108, 101, 103, 101, 100]) (bs [32, 115, 105, 103, 110, 101, 100]) rfl rfl (by simp only [ByteArray.size_append, bs_size, List.length_cons, List.length_nil]; omega)) ?_)
      | (refine wpl_run rfl _ _ (run_cat 9 (.tmp 29) _ rfl T (bs [32, 115, 105, 103, 110, 101, 100]) rfl rfl (by simp only [bs_size, List.length_cons, List.length_nil]; omega)) ?_)
      | fail)
    go_ret
    refine ⟨?_, lo5⟩
    unfold textOf textV
    rw [HV.out, HS.out, ← HT.out]
    rfl
end Go.Proofs.YtilhkgbninbkkaaDoor
