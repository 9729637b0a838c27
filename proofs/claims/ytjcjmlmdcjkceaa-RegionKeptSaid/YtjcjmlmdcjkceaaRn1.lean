/- RegionNumbers: its walk. -/
import Derived.Test.YtjcjmlmdcjkceaaRn0
namespace Go.Proofs.Ytjcjmlmdcjkceaa
open Go Go.RowKit
def X0 (_ : Nat) : W := 0#64
def Vn (x : W) : Vl := ⟨1, x, 0, none⟩
/-- The memory behind the Save. -/
def Mn (f k : Nat) (x : W) : Me := byM (wrM (newM X0) f k) f k x
def Sv (o : Int) : Vl := ⟨3, BitVec.ofInt 64 o, 0, none⟩
theorem sn_of (o : Int) (h : -9223372036854775808 ≤ o) (h2 : o < 9223372036854775808) : sn (BitVec.ofInt 64 o) = o := by
  rw [sn_ofInt]; split <;> omega
theorem in_off {f k : Nat} (h : f + k ≤ 64) {A off : Int} (e : A + off = (f : Int) - 64) : inB A off (-64) 64 = true ∧ at0 A off (-64) = f := by
  constructor
  · exact decide_eq_true ⟨by omega, by omega⟩
  · unfold at0; omega
theorem Mn_B (f k : Nat) (x : W) (j : Nat) (h : j < k) : (Mn f k x).B (f + j) = (x >>> (8 * j)) &&& 255#64 := by
  show (if f ≤ f + j ∧ f + j < f + k then (x >>> (8 * (f + j - f))) &&& 255#64 else _) = _
  rw [if_pos (by omega), Nat.add_sub_cancel_left]
theorem Mn_W (f k : Nat) (x : W) (j : Nat) (h : j < k) : (Mn f k x).Wr (f + j) = true := if_pos (by omega)
theorem Mn_K (f k : Nat) (x : W) (j : Nat) : (Mn f k x).K j = zeroV := by
  show (if 0 < k ∧ f < 8 * j + 8 ∧ 8 * j < f + k then zeroV else zeroV) = _
  split <;> rfl
theorem numF_congr {D E : Nat → W} {n : Nat} (h : ∀ j, j < n → D j = E j) : numF D n = numF E n := by
  induction n with
  | zero => rfl
  | succ n ih => show numF D n ||| _ = numF E n ||| _; rw [ih (fun j hj => h j (by omega)), h n (by omega)]
theorem sv_n (f k : Nat) (x : W) (h : f + k ≤ 64) : svS (newM X0) (sn S0.n) ((f : Int) - 64) k (Vn x) = (Mn f k x, 0) := by
  obtain ⟨e1, e2⟩ := in_off h (A := sn S0.n) (off := (f : Int) - 64) (by rw [show sn S0.n = 0 from by decide]; omega)
  unfold svS
  rw [e2, if_pos ⟨e1, h⟩, if_pos (show (Vn x).tag = 1 from rfl)]; rfl
theorem ld_n (f k i n : Nat) (x : W) (h : f + k ≤ 64) (hi : i + n ≤ k) {A off : Int} (e : A + off = ((f + i : Nat) : Int) - 64) : ldS (Mn f k x) A off n = (Vn (numF (fun j => (x >>> (8 * (i + j))) &&& 255#64) n), 0) := by
  obtain ⟨e1, e2⟩ := in_off (f := f + i) (k := n) (by omega) e
  have h3 : allT (fun j => (Mn f k x).Wr (f + i + j)) n = true := (allT_iff _ _).2 (fun j hj => by rw [Nat.add_assoc]; exact Mn_W f k x (i + j) (by omega))
  have h4 : (((Mn f k x).K ((f + i) / 8)).tag != 0) = false := by rw [Mn_K]; rfl
  unfold ldS ldF
  rw [e1, e2, h3, h4, decide_eq_true (by omega), Bool.and_false]
  simp only [Bool.not_true, Bool.or_self, Bool.false_eq_true, if_false, if_true]
  have hB : numF (fun j => (Mn f k x).B (f + i + j)) n = numF (fun j => (x >>> (8 * (i + j))) &&& 255#64) n := numF_congr (fun j hj => by rw [Nat.add_assoc]; exact Mn_B f k x (i + j) (by omega))
  rw [hB]; rfl
theorem Vn_ok (x : W) : 1 ≤ (Vn x).tag ∧ (Vn x).tag ≤ 5 := ⟨Int.le_refl 1, by show (1 : Int) ≤ 5; decide⟩
theorem Ats.ltN {w : World} {g off n M : Nat} {f : Nat → Value} (h : Ats w (some ⟨g, off, none⟩) n f) (hn : 0 < n) (hM : Sz w M) : g < M := by
  have := World.block_lt_of_cell? w _ (at_L h hn)
  have e : w.heap.size = M := hM
  simp only at this
  omega
theorem numF1 (x : W) (i : Nat) : numF (fun j => (x >>> (8 * (i + j))) &&& 255#64) 1 = (x >>> (8 * i)) &&& 255#64 := by
  show 0#64 ||| (((x >>> (8 * (i + 0))) &&& 255#64) <<< (8 * 0)) = _
  rw [Nat.add_zero, Nat.mul_zero, BitVec.shiftLeft_zero, BitVec.zero_or]
theorem wrap_z (x : Int) (h : -9223372036854775808 ≤ x) (h2 : x < 9223372036854775808) : wrap64 x = x := wrap_id h h2
theorem subN {P : Program} {a : Act} {o : Oper} {T ty : TypeId} {x y : Operand} {p q r : Int} (ho : o.op = .binOp .sub T x y ty) (hx : a.eval x = .int .i64 p) (hy : a.eval y = .int .i64 q) (h : wrap64 (p - q) = r) (w : World) : (execOp a.eval o).run P w = .ok (.value (.int .i64 r)) w := by
  rw [← h]; exact run_subI ho hx hy w
theorem addN {P : Program} {a : Act} {o : Oper} {T ty : TypeId} {x y : Operand} {p q r : Int} (ho : o.op = .binOp .add T x y ty) (hx : a.eval x = .int .i64 p) (hy : a.eval y = .int .i64 q) (h : wrap64 (p + q) = r) (w : World) : (execOp a.eval o).run P w = .ok (.value (.int .i64 r)) w := by
  rw [← h]; exact run_addI ho hx hy w
theorem run_y8 {P : Program} {a : Act} {o : Oper} {x : Operand} {src dst : TypeId} {k : IntKind} {p r : W} (ho : o.op = .convert src dst x) (hs : P.underlying src = some (.int k)) (hd : P.underlying dst = some (.int .u8)) (hx : a.eval x = Q p) (h : p &&& 255#64 = r) (w : World) : (execOp a.eval o).run P w = .ok (.value (Yv r)) w := by
  rw [← h]; exact run_uy ho hs hd hx w
theorem bin_yneq {P : Program} (T : TypeId) (p : W) : BinRun P .neq T (Yv p) (Yv p) (.bool false) := binRun_of fun w => by
  show (Op.intCmp .neq (qn p) (qn p)).run P w = _
  simp [Op.intCmp]
theorem bin_qneq {P : Program} (T : TypeId) (p : W) : BinRun P .neq T (Q p) (Q p) (.bool false) := binRun_of fun w => by
  show (Op.intCmp .neq (qn p) (qn p)).run P w = _
  simp [Op.intCmp]
theorem shl_ne {k : Nat} (hk : sizeOk k) (h : k < 8) : (1#64 <<< (8 * k)) ≠ 0#64 := by rcases hk with rfl | rfl | rfl | rfl <;> first | decide | omega
set_option maxRecDepth 100000 in
set_option maxHeartbeats 32000000 in
theorem law_rnums (z1 z2 : Int) (x : W) (w : World) (N : Nat) (hN : Sz w N) : Calls Try.prog 5 #[.int .i64 z1, .int .i64 z2, Q x] w fun e w' => e = .returned (.bool true) ∧ Below N w w' := by
  obtain ⟨k, ek⟩ : ∃ k, k4 z2 = k := ⟨_, rfl⟩
  have hk := k4_ok z2
  rw [ek] at hk
  have hk8 : k ≤ 8 ∧ 0 < k := by rcases hk with rfl | rfl | rfl | rfl <;> omega
  obtain ⟨f, ef⟩ : ∃ f, rm z1 (65 - k) = f := ⟨_, rfl⟩
  have hf : f + k ≤ 64 := by have := rm_lt z1 (65 - k) (by omega); omega
  have f1 : (0 : Int) ≤ (f : Int) := by omega
  have f2 : (f : Int) < 65 := by omega
  have EK := hid ek
  have EF := hid ef
  have HK := hid hk
  have o1 : sn (BitVec.ofInt 64 ((f : Int) - 64)) = (f : Int) - 64 := sn_of _ (by omega) (by omega)
  have O1 := hid o1
  have L1 := hid (ld_n f k 0 k x hf (by omega) (A := sn (Sv ((f : Int) - 64)).n) (off := 0) (by show sn (BitVec.ofInt 64 ((f : Int) - 64)) + 0 = _; rw [o1]; omega))
  have W1 : numF (fun j => (x >>> (8 * (0 + j))) &&& 255#64) k = wantF x k := by rw [← want_eq x k hk]; exact numF_congr (fun j _ => by rw [Nat.zero_add])
  rw [W1] at L1
  have HIN := hid (in_off hf (A := sn (Sv ((f : Int) - 64)).n) (off := 0) (by show sn (BitVec.ofInt 64 ((f : Int) - 64)) + 0 = _; rw [o1]; omega))
  have HAL := hid ((allT_iff (fun j => (Mn f k x).Wr (f + j)) k).2 (fun j hj => Mn_W f k x j hj))
  clear ek ef hk o1 W1
  go_enter Try.func5, Try.ntmps5
  go_upto_region 4 with (first
    | (go_at_call 25; refine (Size64_any z2 _ N hN).mono ?_; rintro e w1 ⟨rfl, lo⟩; rw [EK.out]; obtain ⟨M1_, hM1⟩ := sz_some w1; have l1 := below_sz lo hN hM1)
    | (refine wpl_run rfl (Q (BitVec.ofInt 64 z1)) _ (run_iu (x := .tmp 21) (z := z1) rfl undInt und64 rfl _) ?_)
    | (refine wpl_run rfl (.int .i64 ((65 - k : Nat) : Int)) _ (subN (x := .const (.int .i64 65)) (y := .tmp 23) rfl rfl rfl (by rw [wrap_z _ (by omega) (by omega)]; omega) _) ?_)
    | (refine wpl_run rfl (Q (BitVec.ofNat 64 (65 - k))) _ (by rw [← BitVec.ofInt_natCast]; exact run_iu (x := .tmp 24) (z := ((65 - k : Nat) : Int)) rfl undInt und64 rfl _) ?_)
    | (refine wpl_b rfl rfl (bin_rem _ (BitVec.ofInt 64 z1) (BitVec.ofNat 64 (65 - k)) (fun h => by have h2 := congrArg BitVec.toNat h; rw [BitVec.toNat_ofNat, Nat.mod_eq_of_lt (by omega)] at h2; simp at h2; omega)) rfl rfl ?_)
    | (refine wpl_run rfl (.int .i64 ((rm z1 (65 - k) : Nat) : Int)) _ (run_rm (x := .tmp 26) rfl und64 undInt (z := z1) (m := 65 - k) (by omega) rfl _) ?_; rw [EF.out])
    | (refine wpl_run rfl (.int .i64 ((f : Int) - 64)) _ (subN (x := .tmp 27) (y := .const (.int .i64 64)) rfl rfl rfl (wrap_z _ (by omega) (by omega)) _) ?_)
    | (refine wpl_run rfl (.agg (cellsOf (xC X0) 32)) _ (run_bd 41 #[] rfl (cellsOf (xC X0) 32) (by kernel_rfl) _) ?_)
    | (go_at_call 14; refine (New_nil X0 _ M1_ hM1).mono ?_; rintro e w2 ⟨b, rfl, lb, hb2, hh⟩; obtain ⟨M2, hM2⟩ := sz_some w2; have lM2 := hh.ltN hM2; replace lo := lo.trans (hb2.mono (by omega)); clear hb2 hM1)
    | fail)
  go_upto_region 5 with (first
    | (refine wpl_run rfl (.agg (cellsOf (vlC S0) 4)) _ (run_bd 26 #[(0, .const (.int .i64 3))] rfl (cellsOf (vlC S0) 4) (by kernel_rfl) _) ?_)
    | (refine wpl_alloc rfl 26 rfl 4 (vlC zeroV) zeVl (M2) hM2 ?_; intro w3 hM3 hb3 h2; replace hh := hh.below hb3 (by omega); replace lo := lo.trans (hb3.mono (by omega)); clear hM2 hb3)
    | (refine wpl_store rfl 26 (.tmp 10) (.tmp 31) rfl (M2) 4 (vlC S0) rfl rfl 26 _ h2 szVl (fun j _ => vlC_one _ j) ?_; intro w4 t4 k4; replace hh := hh.touch t4 (by omega); replace lo := t4.below lo (by omega); have hM4 := t4.sz hM3; clear h2 t4 hM3; have h2 := k4; clear k4)
    | fail)
  go_upto_region 7 with (first
    | (go_at_call 10; refine (saves_any _ (M2 + 1) hM4).mono ?_; rintro e w5 ⟨rfl, hb5⟩; obtain ⟨M5, hM5⟩ := sz_some w5; have l5 := below_sz hb5 hM4 hM5; replace hh := hh.below hb5 (by omega); replace h2 := h2.below hb5 (by omega); replace lo := lo.trans (hb5.mono (by omega)); clear hb5 hM4)
    | (refine wpl_want (by rfl) ?_; refine wpl_load rfl 26 (.tmp 10) rfl (M2) rfl 26 4 _ h2 _ undVl.choose_spec.1 undVl.choose_spec.2 szVl ?_)
    | (refine wpl_want (by rfl) ?_; refine wpl_run rfl (.agg (cellsOf (vlC (Vn x)) 4)) _ (run_bd 26 #[(0, .const (.int .i64 1)), (1, .tmp 39)] rfl (cellsOf (vlC (Vn x)) 4) (by kernel_rfl) _) ?_)
    | (go_at_call 11; refine (Save_stack b S0 (Vn x) rfl (Vn_ok x) (newM X0) ((f : Int) - 64) k HK.out (by omega) _ M5 hM5 hh).mono ?_; rintro e w6 ⟨he, g6, h6⟩; rw [sv_n f k x hf] at he h6; subst he; have e5 : w5.heap.size = M5 := hM5; replace h2 := h2.grew g6 (by simp; omega); replace lo := g6.below lo (by omega) (fun g hg => by simp at hg; omega); obtain ⟨M6, hM6⟩ := sz_some w6; have l6 : M5 ≤ M6 := (by have e6 : w6.heap.size = M6 := hM6; have := g6.size; omega); clear hh g6 hM5 e5; have hh := h6; clear h6)
    | fail)
  go_upto_if 46 with fail
  go_cut [11] (fun v wx => v = Q (wantF x k) ∧ wx = w6)
  case first =>
    by_cases h8 : k < 8
    · have t8 : decide (((k : Nat) : Int) < 8) = true := decide_eq_true (by omega)
      have HW : Hid (x % (1#64 <<< (8 * k)) = wantF x k) := hid (if_pos h8).symm
      have HN := hid (shl_ne HK.out h8)
      go_wp2_with (first
        | (refine wpl_run rfl (.int .i64 ((8 * k : Nat) : Int)) _ (run_mul8 (x := .const (.int .i64 8)) (y := .tmp 48) rfl rfl rfl (by omega) _) ?_)
        | (refine wpl_b rfl rfl (bin_shl _ 1#64 (8 * k)) rfl rfl ?_)
        | (refine wpl_b rfl rfl (bin_rem _ x (1#64 <<< (8 * k)) HN.out) rfl rfl ?_)
        | fail)
      go_meet
      exact ⟨congrArg Q HW.out, rfl⟩
    · have t8 : decide (((k : Nat) : Int) < 8) = false := decide_eq_false (by omega)
      have HW : Hid (x = wantF x k) := hid (if_neg h8).symm
      go_wp2_with fail
      go_meet
      exact ⟨congrArg Q HW.out, rfl⟩
  case rest =>
    obtain ⟨rfl, ewc⟩ := hcut
    replace hh : Has wc b 83 193 (meC (Mn f k x)) := by rw [ewc]; exact hh
    replace h2 : Has wc M2 26 4 (vlC S0) := by rw [ewc]; exact h2
    replace lo : Below N w wc := by rw [ewc]; exact lo
    replace hM6 : Sz wc M6 := by rw [ewc]; exact hM6
    clear ewc
    go_upto_region 12 with (first
      | (refine wpl_run rfl (Q (BitVec.ofInt 64 ((f : Int) - 64))) _ (run_iu (x := .tmp 54) (z := ((f : Int) - 64)) rfl undI64 und64 rfl _) ?_)
      | (refine wpl_run rfl (Q (BitVec.ofInt 64 ((f : Int) - 64))) _ (run_iu (x := .tmp 63) (z := ((f : Int) - 64)) rfl undI64 und64 rfl _) ?_)
      | (refine wpl_run rfl (.agg (cellsOf (vlC (Sv ((f : Int) - 64))) 4)) _ (run_bd 26 #[(0, .const (.int .i64 3)), (1, .tmp 55)] rfl (cellsOf (vlC (Sv ((f : Int) - 64))) 4) (by kernel_rfl) _) ?_)
      | (refine wpl_run rfl (.agg (cellsOf (vlC (Sv ((f : Int) - 64))) 4)) _ (run_bd 26 #[(0, .const (.int .i64 3)), (1, .tmp 64)] rfl (cellsOf (vlC (Sv ((f : Int) - 64))) 4) (by kernel_rfl) _) ?_)
      | (go_at_call 8; refine (Load_stack b (Sv ((f : Int) - 64)) rfl (Mn f k x) 0 k HK.out (by omega) _ (M6) hM6 hh).mono ?_; rintro e w7 ⟨he, hb7⟩; rw [L1.out] at he; subst he; obtain ⟨M7, hM7⟩ := sz_some w7; have l7 := below_sz hb7 hM6 hM7; replace hh := hh.below hb7 (by omega); replace h2 := h2.below hb7 (by omega); replace lo := lo.trans (hb7.mono (by omega)); clear hM6 hb7)
      | (refine wpl_alloc rfl 26 rfl 4 (vlC zeroV) zeVl (M7) hM7 ?_; intro w8 hM8 hb8 h12; replace hh := hh.below hb8 (by omega); replace h2 := h2.below hb8 (by omega); replace lo := lo.trans (hb8.mono (by omega)); clear hM7 hb8)
      | (refine wpl_store rfl 26 (.tmp 12) (.tmp 59) rfl (M7) 4 (vlC (Vn (wantF x k))) rfl rfl 26 _ h12 szVl (fun j _ => vlC_one _ j) ?_; intro w9 t9 k9; replace hh := hh.touch t9 (by omega); replace h2 := h2.touch t9 (by omega); replace lo := t9.below lo (by omega); have hM9 := t9.sz hM8; clear h12 t9 hM8; have h12 := k9; clear k9)
      | (go_at_call 9; refine (Bytes_ok b (Sv ((f : Int) - 64)) rfl (Mn f k x) k f (by omega) HIN.out.1 HIN.out.2 hf HAL.out _ (M7 + 1) hM9 hh).mono ?_; rintro e w10 ⟨⟨p9, c9, rfl, o9⟩, hb10⟩; obtain ⟨M10, hM10⟩ := sz_some w10; have l10 := below_sz hb10 hM9 hM10; replace hh := hh.below hb10 (by omega); replace h2 := h2.below hb10 (by omega); replace h12 := h12.below hb10 (by omega); replace lo := lo.trans (hb10.mono (by omega)); clear hM9 hb10)
      | fail)
    have c12 : w10.cell? ⟨M7, 1, none⟩ = some (Q (wantF x k)) := h12.cell (j := 1) (by omega)
    have A9 : Ats w10 p9 k (fun j => Yv ((x >>> (8 * j)) &&& 255#64)) := o9.ats.congr (fun j hj => by rw [Mn_B f k x j hj])
    clear o9 h12
    have e1 : (((k : Nat) : Int) != ((k : Nat) : Int)) = false := bne_self_eq_false _
    have E1 := hid e1
    clear e1
    go_wp2_with (first
      | (refine wpl_bg rfl (bin_qneq _ _) rfl rfl ?_ (by rfl))
      | (refine wpl_want (by rfl) ?_; refine wpl_run rfl (.int .i64 ((k : Nat) : Int)) _ (run_lenS (x := .tmp 83) (T := 32) undSY rfl rfl _) ?_)
      | (refine wpl_want (by rfl) ?_; refine wpl_run rfl (.bool false) _ (run_neqI (x := .tmp 84) (y := .tmp 85) rfl rfl rfl (p := ((k : Nat) : Int)) (q := ((k : Nat) : Int)) E1.out _) ?_)
      | fail)
    clear c12
    go_loopw [16, 17, 18] (fun x16 x17 x18 wr => ∃ i : Nat, i ≤ k ∧ x16 = .int .i64 ((i : Nat) : Int) ∧ Has wr b 83 193 (meC (Mn f k x)) ∧ Has wr M2 26 4 (vlC S0) ∧ Ats wr p9 k (fun j => Yv ((x >>> (8 * j)) &&& 255#64)) ∧ Below N w wr) (fun x16 _ _ _ => k - (intOf x16).toNat)
    case atStart => exact ⟨0, by omega, rfl, hh, h2, A9, lo⟩
    case round =>
      clear hh h2 A9 lo hM10
      obtain ⟨i, hi, rfl, hh, h2, A9, lo⟩ := hrel
      obtain ⟨M, hM⟩ := sz_some wr
      have lb2 := hh.ltN hM
      have l22 := h2.ltN hM
      have lNM := below_sz lo hN hM
      by_cases hlt : i < k
      · have t1 : decide ((i : Int) < (k : Int)) = true := by simp; omega
        have L2 := hid (ld_n f k i 1 x hf (by omega) (A := sn S0.n) (off := ((f + i : Nat) : Int) - 64) (by rw [show sn S0.n = 0 from by decide]; omega))
        rw [numF1] at L2
        obtain ⟨y, ey⟩ : ∃ y, (x >>> (8 * i)) &&& 255#64 = y := ⟨_, rfl⟩
        obtain ⟨g9, q9, rfl, hc9⟩ := A9 (by omega)
        have c9y : wr.cell? ⟨g9, q9 + i, none⟩ = some (Yv y) := by rw [← ey]; exact hc9 i hlt
        have HC9 := hid hc9
        rw [ey] at L2
        have EY := hid ey
        have Y2 : Hid (y &&& 255#64 = y) := hid (by rw [← ey]; exact and255_2 _)
        clear ey hc9
        go_upto_region 18 with (first
          | (refine wpl_run rfl (.int .i64 (((f + i : Nat) : Int) - 64)) _ (addN (x := .tmp 96) (y := .tmp 97) rfl rfl rfl (by rw [wrap_z _ (by omega) (by omega)]; omega) _) ?_)
          | (refine wpl_load rfl 26 (.tmp 10) rfl (M2) rfl 26 4 _ h2 _ undVl.choose_spec.1 undVl.choose_spec.2 szVl ?_)
          | (go_at_call 8; refine (Load_stack b S0 rfl (Mn f k x) (((f + i : Nat) : Int) - 64) 1 (.inl rfl) (by omega) _ (M) hM hh).mono ?_; rintro e w11 ⟨he, hb11⟩; rw [L2.out] at he; subst he; obtain ⟨M11, hM11⟩ := sz_some w11; have l11 := below_sz hb11 hM hM11; replace hh := hh.below hb11 (by omega); replace h2 := h2.below hb11 (by omega); replace lo := lo.trans (hb11.mono (by omega)); replace A9 := A9.below hM hb11; replace c9y := keep_c hb11 hM c9y; clear HC9 hM hb11)
          | (refine wpl_alloc rfl 26 rfl 4 (vlC zeroV) zeVl (M11) hM11 ?_; intro w12 hM12 hb12 h17; replace hh := hh.below hb12 (by omega); replace h2 := h2.below hb12 (by omega); replace lo := lo.trans (hb12.mono (by omega)); have l9 := A9.ltN (by omega) hM11; replace A9 := A9.below hM11 hb12; replace c9y := keep_c hb12 hM11 c9y; clear hM11 hb12)
          | (refine wpl_store rfl 26 (.tmp 17) (.tmp 100) rfl (M11) 4 (vlC (Vn y)) rfl rfl 26 _ h17 szVl (fun j _ => vlC_one _ j) ?_; intro w13 t13 k13; replace hh := hh.touch t13 (by omega); replace h2 := h2.touch t13 (by omega); replace lo := t13.below lo (by omega); have hM13 := t13.sz hM12; replace A9 := A9.touch t13 (fun b hb => by simp [blk] at hb; omega); replace c9y := t13.cell c9y (by simp only; omega); clear h17 t13 hM12; have h17 := k13; clear k13)
          | fail)
        have c17 : w13.cell? ⟨M11, 1, none⟩ = some (Q y) := h17.cell (j := 1) (by omega)
        refine wp_region_later (M11 + 1) (by kernel_rfl) (by kernel_rfl) ?_
        try simp only [pA]
        iterate 4 go_big_quiet_step (fail)
        refine later_c1 hM13 23 (.tmp 105) rfl rfl und64 rfl c17 (by rfl) ?_; simp only [pA]
        iterate 2 go_big_quiet_step (fail)
        refine later_val (fun q => run_mul8 (x := .const (.int .i64 8)) (y := .tmp 108) (q := i) rfl rfl rfl (by omega) _) (by rfl) ?_; simp only [pA]
        refine later_b rfl (bin_shr _ x (8 * i)) rfl rfl (by rfl) ?_; simp only [pA]
        refine later_val (v := Q y) (fun q => by rw [← EY.out, ← rem256]; exact bin_rem _ (x >>> (8 * i)) 256#64 (by decide) _ _ _ _ _ _ rfl rfl rfl) (by rfl) ?_; simp only [pA]
        refine later_b rfl (bin_qneq _ y) rfl rfl (by rfl) ?_; simp only [pA]
        iterate 4 go_big_quiet_step (fail)
        refine later_val (fun q => run_ixL 32 5 undSY szY1 (.tmp 115) (.tmp 116) rfl rfl rfl (k := i) hlt q.w') (by rfl) ?_; simp only [pA]
        refine later_c1 hM13 5 (.tmp 117) rfl rfl undY rfl c9y (by rfl) ?_; simp only [pA]
        go_big_quiet_step (fail)
        refine later_c1 hM13 23 (.tmp 119) rfl rfl und64 rfl c17 (by rfl) ?_; simp only [pA]
        refine later_val (fun q => run_y8 (x := .tmp 120) rfl und64 undY rfl Y2.out _) (by rfl) ?_; simp only [pA]
        refine later_b rfl (bin_yneq _ y) rfl rfl (by rfl) ?_; simp only [pA]
        go_big_quiet_step (fail)
        refine wpQuiet_nil (laterE hM13 ?_)
        intro x14 M14 hb14 hM14 l14
        replace hh := hh.below hb14 (by omega)
        replace h2 := h2.below hb14 (by omega)
        replace A9 := A9.below hM13 hb14
        replace lo := lo.trans (hb14.mono (by omega))
        clear hb14 hM13 c17 c9y h17
        go_wp2_with fail
        exact ⟨⟨i + 1, by omega, by go_num, hh, h2, A9, lo⟩, by simp [intOf]; omega⟩
      · have t1 : decide ((i : Int) < (k : Int)) = false := by simp; omega
        go_wp2_with fail
        go_ret
        exact ⟨rfl, lo⟩
end Go.Proofs.Ytjcjmlmdcjkceaa
