/- Words of 32 bits beside those of 64; shifts with a sign; less than nought. What operations of 64 bits make. What operations of 32 bits make; Eval. Shifts with a sign, bit by bit. The document's Eval. Ranges as the program lays them; the document's Eval is Eval. -/
import Derived.Test.YtbbfdehipgkjmaaDoorNk
import Derived.Deep.LoopGhost
namespace Go.Proofs.YtbbfdehipgkjmaaDoor
open Go Go.RowKit
theorem undU32 : Tryd.prog.underlying 37 = some (.int .u32) := by kernel_rfl
theorem undI32 : Tryd.prog.underlying 21 = some (.int .i32) := by kernel_rfl
theorem undI64 : Tryd.prog.underlying 2 = some (.int .i64) := by kernel_rfl
/-- The lower half. -/
def lo32 (x : W) : W := x % 4294967296#64
theorem qn_lo32 (x : W) : qn (lo32 x) = qn x % 4294967296 := by
  unfold qn lo32; rw [BitVec.toNat_umod]; rfl
/-- A word of 32 bits, by one of 64 that is small. -/
def Hv (x : W) : Value := .int .u32 (qn x)
theorem wrap_h (z : Int) : IntKind.u32.wrap z = qn (lo32 (BitVec.ofInt 64 z)) := by
  rw [qn_lo32, qn_ofInt]
  have : IntKind.u32.wrap z = z % 4294967296 := by simp [IntKind.wrap, IntKind.signed, IntKind.bits]
  rw [this]; omega
section
variable {P : Program} {a : Act} {o : Oper}
theorem run_uh {src dst : TypeId} {x : Operand} (ho : o.op = .convert src dst x) {k : IntKind} {p : W} (hs : P.underlying src = some (.int k)) (hd : P.underlying dst = some (.int .u32)) (hx : a.eval x = Q p) (w : World) : (execOp a.eval o).run P w = .ok (.value (Hv (lo32 p))) w := by
  rw [run_conv ho hs hd hx w, wrap_h, ofInt_qn]; rfl
theorem run_hu {src dst : TypeId} {x : Operand} (ho : o.op = .convert src dst x) {k : IntKind} {p : W} (hs : P.underlying src = some (.int k)) (hd : P.underlying dst = some (.int .u64)) (hx : a.eval x = Hv p) (w : World) : (execOp a.eval o).run P w = .ok (.value (Q p)) w := by
  rw [run_conv ho hs hd hx w, wrap_u, ofInt_qn]; rfl
theorem run_neg {T : TypeId} {x : Operand} (ho : o.op = .unOp .neg T x) {p : W} (hx : a.eval x = Q p) (w : World) : (execOp a.eval o).run P w = .ok (.value (Q (-p))) w := by
  have e : IntKind.u64.wrap (0 - qn p) = qn (-p) := by rw [show 0 - qn p = -(qn p) from by omega, wrap_u, BitVec.ofInt_neg, ofInt_qn]
  unfold execOp
  simp only [ho, hx]
  unfold Q
  rw [← e]
  simp only [Op.unary, Sem.run_bind]
  rfl
end
section
variable {P : Program} (T : TypeId) (p q : W)
theorem bin_hrem (hq : q ≠ 0#64) : BinRun P .rem T (Hv p) (Hv q) (Hv (p % q)) := binRun_of fun w => by
  show (Op.intDiv .rem .u32 (qn p) (qn q)).run P w = _
  have h0 : ¬ qn q = 0 := fun h => hq (qn_inj (h.trans (by rfl)))
  have e : (qn p).tmod (qn q) = qn (p % q) := by
    rw [Int.tmod_eq_emod_of_nonneg (qn_lo p)]
    unfold qn; rw [BitVec.toNat_umod]; rfl
  unfold Op.intDiv Hv
  rw [if_neg h0, ← e]; rfl
theorem bin_hshl (hq : q.toNat < 32) : BinRun P .shl T (Hv p) (Hv q) (Hv (lo32 (p <<< q.toNat))) := binRun_of fun w => by
  show (Op.shift .shl .u32 (qn p) .u32 (qn q)).run P w = _
  have h1 := qn_lo q
  have e : IntKind.u32.wrap (qn p * 2 ^ (min (qn q).toNat 32)) = qn (lo32 (p <<< q.toNat)) := by
    have e1 : (qn q).toNat = q.toNat := rfl
    rw [wrap_h, e1, Nat.min_eq_left (by omega)]
    congr 2
    have := shl_qn p q.toNat
    rw [Nat.min_eq_left (by omega), wrap_u] at this
    exact qn_inj this
  unfold Op.shift Hv
  rw [if_neg (by omega), ← e]; rfl
theorem bin_hshr (hq : q.toNat < 32) : BinRun P .shr T (Hv p) (Hv q) (Hv (p >>> q.toNat)) := binRun_of fun w => by
  show (Op.shift .shr .u32 (qn p) .u32 (qn q)).run P w = _
  have h1 := qn_lo q
  have e : (qn p).fdiv (2 ^ (min (qn q).toNat 32)) = qn (p >>> q.toNat) := by
    have e1 : (qn q).toNat = q.toNat := rfl
    have := shr_qn p q.toNat
    rw [Nat.min_eq_left (by omega)] at this
    rw [e1, Nat.min_eq_left (by omega)]; exact this
  unfold Op.shift Hv
  rw [if_neg (by omega), ← e]; rfl
theorem fdiv_pow (z : Int) (n : Nat) : z.fdiv (2 ^ n) = z >>> n := by
  rw [Int.shiftRight_eq_div_pow, Int.fdiv_eq_ediv_of_nonneg _ (by exact_mod_cast Nat.zero_le (2 ^ n))]
  norm_cast
theorem bin_sshr (hq : q.toNat < 64) : BinRun P .shr T (S p) (Q q) (S (p.sshiftRight q.toNat)) := binRun_of fun w => by
  show (Op.shift .shr .i64 (sn p) .u64 (qn q)).run P w = _
  have h1 := qn_lo q
  have e : (sn p).fdiv (2 ^ (min (qn q).toNat 64)) = sn (p.sshiftRight q.toNat) := by
    have e1 : (qn q).toNat = q.toNat := rfl
    rw [e1, Nat.min_eq_left (by omega), fdiv_pow]
    unfold sn; rw [BitVec.toInt_sshiftRight]
  unfold Op.shift S
  rw [if_neg (by omega), ← e]; rfl
/-- 32 bits, with a sign. -/
def s32 (x : W) : BitVec 32 := x.setWidth 32
def Jv (y : BitVec 32) : Value := .int .i32 y.toInt
theorem wrap_j (z : Int) : IntKind.i32.wrap z = (BitVec.ofInt 32 z).toInt := by
  rw [BitVec.toInt_ofInt]
  have e : IntKind.i32.wrap z = if 2147483648 ≤ z % 4294967296 then z % 4294967296 - 4294967296 else z % 4294967296 := by
    simp [IntKind.wrap, IntKind.signed, IntKind.bits]
  rw [e, Int.bmod_def]
  rw [show ((2 ^ 32 : Nat) : Int) = 4294967296 from rfl, show ((4294967296 : Int) + 1) / 2 = 2147483648 from by decide]
  split <;> split <;> omega
end
section
variable {P : Program} {a : Act} {o : Oper}
theorem run_hj {src dst : TypeId} {x : Operand} (ho : o.op = .convert src dst x) {k : IntKind} {p : W} (hs : P.underlying src = some (.int k)) (hd : P.underlying dst = some (.int .i32)) (hx : a.eval x = Hv p) (w : World) : (execOp a.eval o).run P w = .ok (.value (Jv (s32 p))) w := by
  rw [run_conv ho hs hd hx w, wrap_j]
  have e : BitVec.ofInt 32 (qn p) = s32 p := by
    apply BitVec.eq_of_toNat_eq
    unfold s32 qn
    rw [BitVec.toNat_ofInt, BitVec.toNat_setWidth]
    omega
  rw [e]; rfl
theorem run_jh {src dst : TypeId} {x : Operand} (ho : o.op = .convert src dst x) {k : IntKind} {p : BitVec 32} (hs : P.underlying src = some (.int k)) (hd : P.underlying dst = some (.int .u32)) (hx : a.eval x = Jv p) (w : World) : (execOp a.eval o).run P w = .ok (.value (Hv (p.setWidth 64))) w := by
  rw [run_conv ho hs hd hx w]
  have e : IntKind.u32.wrap p.toInt = qn (p.setWidth 64) := by
    have e1 : IntKind.u32.wrap p.toInt = p.toInt % 4294967296 := by simp [IntKind.wrap, IntKind.signed, IntKind.bits]
    rw [e1]
    unfold qn
    rw [BitVec.toNat_setWidth, BitVec.toInt_eq_toNat_cond]
    have := p.isLt
    split <;> omega
  rw [e]; rfl
end
theorem bin_jshr {P : Program} (T : TypeId) (p : BitVec 32) (q : W) (hq : q.toNat < 32) : BinRun P .shr T (Jv p) (Hv q) (Jv (p.sshiftRight q.toNat)) := binRun_of fun w => by
  show (Op.shift .shr .i32 p.toInt .u32 (qn q)).run P w = _
  have h1 := qn_lo q
  have e : (p.toInt).fdiv (2 ^ (min (qn q).toNat 32)) = (p.sshiftRight q.toNat).toInt := by
    have e1 : (qn q).toNat = q.toNat := rfl
    rw [e1, Nat.min_eq_left (by omega), fdiv_pow, BitVec.toInt_sshiftRight]
  unfold Op.shift Jv
  rw [if_neg (by omega), ← e]; rfl
theorem h_lt32 (y : W) : (y % 32#64).toNat < 32 := by rw [BitVec.toNat_umod]; exact Nat.mod_lt _ (by decide)
end Go.Proofs.YtbbfdehipgkjmaaDoor
namespace Go.Proofs.YtbbfdehipgkjmaaDoor
open Go Go.RowKit
set_option maxRecDepth 100000 in
set_option maxHeartbeats 1000000 in
theorem Quo_any (x y : W) (w : World) (N : Nat) (hN : Sz w N) : Calls Tryd.prog 60 #[Q x, Q y] w fun e w' => e = .returned (Q (x / y)) ∧ Below N w w' := by
  cases hy : (y == 0#64)
  · have Hy := hid hy
    have Hn := hid (show y ≠ 0#64 from fun e => by rw [e] at hy; cases hy)
    clear hy
    go_enter Tryd.func60, Tryd.ntmps60
    go_upto_region 1 with fail
    have lo0 : Below N w w := Below.refl N w
    refine wp_region_later1 (N) ?_
    try simp only [pA]
    go_big_quiet_step (fail)
    refine later_b (x := (.tmp 5)) (y := (.const (.int .u64 0))) rfl (BinRun.is Hy.out (bin_eql _ y 0#64)) rfl rfl (by rfl) ?_; simp only [pA]
    refine wpQuiet_nil (laterE hN ?_)
    intro xw1 M2 hbxw1 hM2 lM2
    have lo3 := lo0.trans (hbxw1.mono (by omega))
    clear lo0 hbxw1
    go_upto_region 3 with fail
    refine wp_region_later1 (M2) ?_
    try simp only [pA]
    iterate 2 (go_big_quiet_step (fail))
    refine later_b (x := (.tmp 7)) (y := (.tmp 8)) rfl (bin_quo _ x y Hn.out) rfl rfl (by rfl) ?_; simp only [pA]
    go_big_quiet_step (fail)
    refine wpQuiet_nil (laterE hM2 ?_)
    intro xw4 M5 hbxw4 hM5 lM5
    have lo6 := lo3.trans (hbxw4.mono (by omega))
    clear lo3 hbxw4
    go_wp2_with fail
    go_ret
    exact ⟨rfl, lo6⟩
  · have Hy := hid hy
    have E := hid (show x / y = 0#64 by rw [beq_iff_eq.1 hy]; exact BitVec.udiv_zero)
    clear hy
    go_enter Tryd.func60, Tryd.ntmps60
    go_upto_region 1 with fail
    have lo0 : Below N w w := Below.refl N w
    refine wp_region_later1 (N) ?_
    try simp only [pA]
    go_big_quiet_step (fail)
    refine later_b (x := (.tmp 5)) (y := (.const (.int .u64 0))) rfl (BinRun.is Hy.out (bin_eql _ y 0#64)) rfl rfl (by rfl) ?_; simp only [pA]
    refine wpQuiet_nil (laterE hN ?_)
    intro xw1 M2 hbxw1 hM2 lM2
    have lo3 := lo0.trans (hbxw1.mono (by omega))
    clear lo0 hbxw1
    go_wp2_with fail
    go_ret
    exact ⟨by rw [E.out]; rfl, lo3⟩
set_option maxRecDepth 100000 in
set_option maxHeartbeats 1000000 in
theorem Rest_any (x y : W) (w : World) (N : Nat) (hN : Sz w N) : Calls Tryd.prog 61 #[Q x, Q y] w fun e w' => e = .returned (Q (x % y)) ∧ Below N w w' := by
  cases hy : (y == 0#64)
  · have Hy := hid hy
    have Hn := hid (show y ≠ 0#64 from fun e => by rw [e] at hy; cases hy)
    clear hy
    go_enter Tryd.func61, Tryd.ntmps61
    go_upto_region 1 with fail
    have lo0 : Below N w w := Below.refl N w
    refine wp_region_later1 (N) ?_
    try simp only [pA]
    go_big_quiet_step (fail)
    refine later_b (x := (.tmp 5)) (y := (.const (.int .u64 0))) rfl (BinRun.is Hy.out (bin_eql _ y 0#64)) rfl rfl (by rfl) ?_; simp only [pA]
    refine wpQuiet_nil (laterE hN ?_)
    intro xw1 M2 hbxw1 hM2 lM2
    have lo3 := lo0.trans (hbxw1.mono (by omega))
    clear lo0 hbxw1
    go_upto_region 3 with fail
    refine wp_region_later1 (M2) ?_
    try simp only [pA]
    iterate 2 (go_big_quiet_step (fail))
    refine later_b (x := (.tmp 8)) (y := (.tmp 9)) rfl (bin_rem _ x y Hn.out) rfl rfl (by rfl) ?_; simp only [pA]
    go_big_quiet_step (fail)
    refine wpQuiet_nil (laterE hM2 ?_)
    intro xw4 M5 hbxw4 hM5 lM5
    have lo6 := lo3.trans (hbxw4.mono (by omega))
    clear lo3 hbxw4
    go_wp2_with fail
    go_ret
    exact ⟨rfl, lo6⟩
  · have Hy := hid hy
    have E := hid (show x % y = x by rw [beq_iff_eq.1 hy]; exact BitVec.umod_zero)
    clear hy
    go_enter Tryd.func61, Tryd.ntmps61
    go_upto_region 1 with fail
    have lo0 : Below N w w := Below.refl N w
    refine wp_region_later1 (N) ?_
    try simp only [pA]
    go_big_quiet_step (fail)
    refine later_b (x := (.tmp 5)) (y := (.const (.int .u64 0))) rfl (BinRun.is Hy.out (bin_eql _ y 0#64)) rfl rfl (by rfl) ?_; simp only [pA]
    refine wpQuiet_nil (laterE hN ?_)
    intro xw1 M2 hbxw1 hM2 lM2
    have lo3 := lo0.trans (hbxw1.mono (by omega))
    clear lo0 hbxw1
    go_wp2_with fail
    go_ret
    exact ⟨by rw [E.out]; rfl, lo3⟩
theorem sh_lt64 (y : W) : (y % 64#64).toNat < 64 := by rw [BitVec.toNat_umod]; exact Nat.mod_lt _ (by decide)
/-- What an operation of 64 bits makes. -/
def evL (op : Int) (x y : W) : W := if op = 0 then x + y else if op = 1 then x - y else if op = 2 then x * y else if op = 3 then x / y else if op = 4 then x ||| y else if op = 5 then x &&& y else if op = 6 then x <<< (y % 64#64).toNat else if op = 7 then x >>> (y % 64#64).toNat else if op = 8 then -x else if op = 9 then x % y else if op = 10 then x ^^^ y else if op = 11 then y else if op = 12 then x.sshiftRight (y % 64#64).toNat else 0#64
set_option maxRecDepth 100000 in
set_option maxHeartbeats 1000000 in
theorem long_0 (x y : W) (w : World) (N : Nat) (hN : Sz w N) : Calls Tryd.prog 38 #[.int .i64 0, Q x, Q y] w fun e w' => e = .returned (Q (x + y)) ∧ Below N w w' := by
  go_enter Tryd.func38, Tryd.ntmps38
  go_upto_region 3 with fail
  have lo0 : Below N w w := Below.refl N w
  refine wp_region_later1 (N) ?_
  try simp only [pA]
  iterate 2 (go_big_quiet_step (fail))
  refine later_b (x := (.tmp 10)) (y := (.tmp 11)) rfl (bin_add _ x y) rfl rfl (by rfl) ?_; simp only [pA]
  go_big_quiet_step (fail)
  refine wpQuiet_nil (laterE hN ?_)
  intro xw1 M2 hbxw1 hM2 lM2
  have lo3 := lo0.trans (hbxw1.mono (by omega))
  clear lo0 hbxw1
  go_wp2_with fail
  go_ret
  exact ⟨rfl, lo3⟩
set_option maxRecDepth 100000 in
set_option maxHeartbeats 1000000 in
theorem long_1 (x y : W) (w : World) (N : Nat) (hN : Sz w N) : Calls Tryd.prog 38 #[.int .i64 1, Q x, Q y] w fun e w' => e = .returned (Q (x - y)) ∧ Below N w w' := by
  go_enter Tryd.func38, Tryd.ntmps38
  go_upto_region 5 with fail
  have lo0 : Below N w w := Below.refl N w
  refine wp_region_later1 (N) ?_
  try simp only [pA]
  iterate 2 (go_big_quiet_step (fail))
  refine later_b (x := (.tmp 15)) (y := (.tmp 16)) rfl (bin_sub _ x y) rfl rfl (by rfl) ?_; simp only [pA]
  go_big_quiet_step (fail)
  refine wpQuiet_nil (laterE hN ?_)
  intro xw1 M2 hbxw1 hM2 lM2
  have lo3 := lo0.trans (hbxw1.mono (by omega))
  clear lo0 hbxw1
  go_wp2_with fail
  go_ret
  exact ⟨rfl, lo3⟩
set_option maxRecDepth 100000 in
set_option maxHeartbeats 1000000 in
theorem long_2 (x y : W) (w : World) (N : Nat) (hN : Sz w N) : Calls Tryd.prog 38 #[.int .i64 2, Q x, Q y] w fun e w' => e = .returned (Q (x * y)) ∧ Below N w w' := by
  go_enter Tryd.func38, Tryd.ntmps38
  go_upto_region 7 with fail
  have lo0 : Below N w w := Below.refl N w
  refine wp_region_later1 (N) ?_
  try simp only [pA]
  iterate 2 (go_big_quiet_step (fail))
  refine later_b (x := (.tmp 20)) (y := (.tmp 21)) rfl (bin_mul _ x y) rfl rfl (by rfl) ?_; simp only [pA]
  go_big_quiet_step (fail)
  refine wpQuiet_nil (laterE hN ?_)
  intro xw1 M2 hbxw1 hM2 lM2
  have lo3 := lo0.trans (hbxw1.mono (by omega))
  clear lo0 hbxw1
  go_wp2_with fail
  go_ret
  exact ⟨rfl, lo3⟩
set_option maxRecDepth 100000 in
set_option maxHeartbeats 1000000 in
theorem long_3 (x y : W) (w : World) (N : Nat) (hN : Sz w N) : Calls Tryd.prog 38 #[.int .i64 3, Q x, Q y] w fun e w' => e = .returned (Q (x / y)) ∧ Below N w w' := by
  go_enter Tryd.func38, Tryd.ntmps38
  go_upto_region 9 with fail
  have lo0 : Below N w w := Below.refl N w
  refine wp_region_later1 (N) ?_
  try simp only [pA]
  iterate 2 (go_big_quiet_step (fail))
  go_big_quiet_step ((go_at_call 60; exact later_of hN _ (fun K hK hKN => Quo_any x y _ K hK)))
  go_big_quiet_step (fail)
  refine wpQuiet_nil (laterE hN ?_)
  intro xw1 M2 hbxw1 hM2 lM2
  have lo3 := lo0.trans (hbxw1.mono (by omega))
  clear lo0 hbxw1
  go_wp2_with fail
  go_ret
  exact ⟨rfl, lo3⟩
set_option maxRecDepth 100000 in
set_option maxHeartbeats 1000000 in
theorem long_4 (x y : W) (w : World) (N : Nat) (hN : Sz w N) : Calls Tryd.prog 38 #[.int .i64 4, Q x, Q y] w fun e w' => e = .returned (Q (x ||| y)) ∧ Below N w w' := by
  go_enter Tryd.func38, Tryd.ntmps38
  go_upto_region 11 with fail
  have lo0 : Below N w w := Below.refl N w
  refine wp_region_later1 (N) ?_
  try simp only [pA]
  iterate 2 (go_big_quiet_step (fail))
  refine later_b (x := (.tmp 30)) (y := (.tmp 31)) rfl (bin_or _ x y) rfl rfl (by rfl) ?_; simp only [pA]
  go_big_quiet_step (fail)
  refine wpQuiet_nil (laterE hN ?_)
  intro xw1 M2 hbxw1 hM2 lM2
  have lo3 := lo0.trans (hbxw1.mono (by omega))
  clear lo0 hbxw1
  go_wp2_with fail
  go_ret
  exact ⟨rfl, lo3⟩
set_option maxRecDepth 100000 in
set_option maxHeartbeats 1000000 in
theorem long_5 (x y : W) (w : World) (N : Nat) (hN : Sz w N) : Calls Tryd.prog 38 #[.int .i64 5, Q x, Q y] w fun e w' => e = .returned (Q (x &&& y)) ∧ Below N w w' := by
  go_enter Tryd.func38, Tryd.ntmps38
  go_upto_region 13 with fail
  have lo0 : Below N w w := Below.refl N w
  refine wp_region_later1 (N) ?_
  try simp only [pA]
  iterate 2 (go_big_quiet_step (fail))
  refine later_b (x := (.tmp 35)) (y := (.tmp 36)) rfl (bin_and _ x y) rfl rfl (by rfl) ?_; simp only [pA]
  go_big_quiet_step (fail)
  refine wpQuiet_nil (laterE hN ?_)
  intro xw1 M2 hbxw1 hM2 lM2
  have lo3 := lo0.trans (hbxw1.mono (by omega))
  clear lo0 hbxw1
  go_wp2_with fail
  go_ret
  exact ⟨rfl, lo3⟩
set_option maxRecDepth 100000 in
set_option maxHeartbeats 1000000 in
theorem long_6 (x y : W) (w : World) (N : Nat) (hN : Sz w N) : Calls Tryd.prog 38 #[.int .i64 6, Q x, Q y] w fun e w' => e = .returned (Q (x <<< (y % 64#64).toNat)) ∧ Below N w w' := by
  go_enter Tryd.func38, Tryd.ntmps38
  go_upto_region 15 with fail
  have lo0 : Below N w w := Below.refl N w
  refine wp_region_later1 (N) ?_
  try simp only [pA]
  iterate 2 (go_big_quiet_step (fail))
  refine later_b (x := (.tmp 41)) (y := (.const (.int .u64 64))) rfl (bin_rem _ y 64#64 (by decide)) rfl rfl (by rfl) ?_; simp only [pA]
  refine later_b (x := (.tmp 40)) (y := (.tmp 42)) rfl (bin_shlu _ x (y % 64#64)) rfl rfl (by rfl) ?_; simp only [pA]
  go_big_quiet_step (fail)
  refine wpQuiet_nil (laterE hN ?_)
  intro xw1 M2 hbxw1 hM2 lM2
  have lo3 := lo0.trans (hbxw1.mono (by omega))
  clear lo0 hbxw1
  go_wp2_with fail
  go_ret
  exact ⟨rfl, lo3⟩
set_option maxRecDepth 100000 in
set_option maxHeartbeats 1000000 in
theorem long_7 (x y : W) (w : World) (N : Nat) (hN : Sz w N) : Calls Tryd.prog 38 #[.int .i64 7, Q x, Q y] w fun e w' => e = .returned (Q (x >>> (y % 64#64).toNat)) ∧ Below N w w' := by
  go_enter Tryd.func38, Tryd.ntmps38
  go_upto_region 17 with fail
  have lo0 : Below N w w := Below.refl N w
  refine wp_region_later1 (N) ?_
  try simp only [pA]
  iterate 2 (go_big_quiet_step (fail))
  refine later_b (x := (.tmp 47)) (y := (.const (.int .u64 64))) rfl (bin_rem _ y 64#64 (by decide)) rfl rfl (by rfl) ?_; simp only [pA]
  refine later_b (x := (.tmp 46)) (y := (.tmp 48)) rfl (bin_shru _ x (y % 64#64)) rfl rfl (by rfl) ?_; simp only [pA]
  go_big_quiet_step (fail)
  refine wpQuiet_nil (laterE hN ?_)
  intro xw1 M2 hbxw1 hM2 lM2
  have lo3 := lo0.trans (hbxw1.mono (by omega))
  clear lo0 hbxw1
  go_wp2_with fail
  go_ret
  exact ⟨rfl, lo3⟩
set_option maxRecDepth 100000 in
set_option maxHeartbeats 1000000 in
theorem long_8 (x y : W) (w : World) (N : Nat) (hN : Sz w N) : Calls Tryd.prog 38 #[.int .i64 8, Q x, Q y] w fun e w' => e = .returned (Q (-x)) ∧ Below N w w' := by
  go_enter Tryd.func38, Tryd.ntmps38
  go_upto_region 19 with fail
  have lo0 : Below N w w := Below.refl N w
  refine wp_region_later1 (N) ?_
  try simp only [pA]
  go_big_quiet_step (fail)
  refine later_val (fun q => run_neg (x := (.tmp 52)) rfl rfl q.w') (by rfl) ?_; simp only [pA]
  go_big_quiet_step (fail)
  refine wpQuiet_nil (laterE hN ?_)
  intro xw1 M2 hbxw1 hM2 lM2
  have lo3 := lo0.trans (hbxw1.mono (by omega))
  clear lo0 hbxw1
  go_wp2_with fail
  go_ret
  exact ⟨rfl, lo3⟩
set_option maxRecDepth 100000 in
set_option maxHeartbeats 1000000 in
theorem long_9 (x y : W) (w : World) (N : Nat) (hN : Sz w N) : Calls Tryd.prog 38 #[.int .i64 9, Q x, Q y] w fun e w' => e = .returned (Q (x % y)) ∧ Below N w w' := by
  go_enter Tryd.func38, Tryd.ntmps38
  go_upto_region 21 with fail
  have lo0 : Below N w w := Below.refl N w
  refine wp_region_later1 (N) ?_
  try simp only [pA]
  iterate 2 (go_big_quiet_step (fail))
  go_big_quiet_step ((go_at_call 61; exact later_of hN _ (fun K hK hKN => Rest_any x y _ K hK)))
  go_big_quiet_step (fail)
  refine wpQuiet_nil (laterE hN ?_)
  intro xw1 M2 hbxw1 hM2 lM2
  have lo3 := lo0.trans (hbxw1.mono (by omega))
  clear lo0 hbxw1
  go_wp2_with fail
  go_ret
  exact ⟨rfl, lo3⟩
set_option maxRecDepth 100000 in
set_option maxHeartbeats 1000000 in
theorem long_10 (x y : W) (w : World) (N : Nat) (hN : Sz w N) : Calls Tryd.prog 38 #[.int .i64 10, Q x, Q y] w fun e w' => e = .returned (Q (x ^^^ y)) ∧ Below N w w' := by
  go_enter Tryd.func38, Tryd.ntmps38
  go_upto_region 23 with fail
  have lo0 : Below N w w := Below.refl N w
  refine wp_region_later1 (N) ?_
  try simp only [pA]
  iterate 2 (go_big_quiet_step (fail))
  refine later_b (x := (.tmp 61)) (y := (.tmp 62)) rfl (bin_xor _ x y) rfl rfl (by rfl) ?_; simp only [pA]
  go_big_quiet_step (fail)
  refine wpQuiet_nil (laterE hN ?_)
  intro xw1 M2 hbxw1 hM2 lM2
  have lo3 := lo0.trans (hbxw1.mono (by omega))
  clear lo0 hbxw1
  go_wp2_with fail
  go_ret
  exact ⟨rfl, lo3⟩
set_option maxRecDepth 100000 in
set_option maxHeartbeats 1000000 in
theorem long_11 (x y : W) (w : World) (N : Nat) (hN : Sz w N) : Calls Tryd.prog 38 #[.int .i64 11, Q x, Q y] w fun e w' => e = .returned (Q (y)) ∧ Below N w w' := by
  go_enter Tryd.func38, Tryd.ntmps38
  go_upto_region 25 with fail
  have lo0 : Below N w w := Below.refl N w
  refine wp_region_later1 (N) ?_
  try simp only [pA]
  iterate 2 (go_big_quiet_step (fail))
  refine wpQuiet_nil (laterE hN ?_)
  intro xw1 M2 hbxw1 hM2 lM2
  have lo3 := lo0.trans (hbxw1.mono (by omega))
  clear lo0 hbxw1
  go_wp2_with fail
  go_ret
  exact ⟨rfl, lo3⟩
set_option maxRecDepth 100000 in
set_option maxHeartbeats 1000000 in
theorem long_12 (x y : W) (w : World) (N : Nat) (hN : Sz w N) : Calls Tryd.prog 38 #[.int .i64 12, Q x, Q y] w fun e w' => e = .returned (Q (x.sshiftRight (y % 64#64).toNat)) ∧ Below N w w' := by
  go_enter Tryd.func38, Tryd.ntmps38
  go_upto_region 27 with fail
  have lo0 : Below N w w := Below.refl N w
  have hlt := hid (sh_lt64 y)
  refine wp_region_later1 (N) ?_
  try simp only [pA]
  go_big_quiet_step (fail)
  refine later_val (fun q => run_us (x := (.tmp 69)) rfl und64 undI64 rfl q.w') (by rfl) ?_; simp only [pA]
  go_big_quiet_step (fail)
  refine later_b (x := (.tmp 71)) (y := (.const (.int .u64 64))) rfl (bin_rem _ y 64#64 (by decide)) rfl rfl (by rfl) ?_; simp only [pA]
  refine later_b (x := (.tmp 70)) (y := (.tmp 72)) rfl (bin_sshr _ x (y % 64#64) hlt.out) rfl rfl (by rfl) ?_; simp only [pA]
  refine later_val (fun q => run_su (x := (.tmp 73)) rfl undI64 und64 rfl q.w') (by rfl) ?_; simp only [pA]
  go_big_quiet_step (fail)
  refine wpQuiet_nil (laterE hN ?_)
  intro xw1 M2 hbxw1 hM2 lM2
  have lo3 := lo0.trans (hbxw1.mono (by omega))
  clear lo0 hbxw1
  go_wp2_with fail
  go_ret
  exact ⟨rfl, lo3⟩
set_option maxRecDepth 100000 in
set_option maxHeartbeats 1000000 in
theorem long_o (op : Int) (x y : W) (w : World) (N : Nat) (hN : Sz w N) (h0 : (op == 0) = false) (h1 : (op == 1) = false) (h2 : (op == 2) = false) (h3 : (op == 3) = false) (h4 : (op == 4) = false) (h5 : (op == 5) = false) (h6 : (op == 6) = false) (h7 : (op == 7) = false) (h8 : (op == 8) = false) (h9 : (op == 9) = false) (h10 : (op == 10) = false) (h11 : (op == 11) = false) (h12 : (op == 12) = false) : Calls Tryd.prog 38 #[.int .i64 op, Q x, Q y] w fun e w' => e = .returned (Q 0#64) ∧ Below N w w' := by
  go_enter Tryd.func38, Tryd.ntmps38
  go_wp2
  go_ret
  exact ⟨rfl, Below.refl N w⟩
theorem Long_any (op : Int) (x y : W) (w : World) (N : Nat) (hN : Sz w N) : Calls Tryd.prog 38 #[.int .i64 op, Q x, Q y] w fun e w' => e = .returned (Q (evL op x y)) ∧ Below N w w' := by
  by_cases h0 : op = 0
  · subst h0; exact long_0 x y w N hN
  by_cases h1 : op = 1
  · subst h1; exact long_1 x y w N hN
  by_cases h2 : op = 2
  · subst h2; exact long_2 x y w N hN
  by_cases h3 : op = 3
  · subst h3; exact long_3 x y w N hN
  by_cases h4 : op = 4
  · subst h4; exact long_4 x y w N hN
  by_cases h5 : op = 5
  · subst h5; exact long_5 x y w N hN
  by_cases h6 : op = 6
  · subst h6; exact long_6 x y w N hN
  by_cases h7 : op = 7
  · subst h7; exact long_7 x y w N hN
  by_cases h8 : op = 8
  · subst h8; exact long_8 x y w N hN
  by_cases h9 : op = 9
  · subst h9; exact long_9 x y w N hN
  by_cases h10 : op = 10
  · subst h10; exact long_10 x y w N hN
  by_cases h11 : op = 11
  · subst h11; exact long_11 x y w N hN
  by_cases h12 : op = 12
  · subst h12; exact long_12 x y w N hN
  rw [show evL op x y = 0#64 from by unfold evL; rw [if_neg h0, if_neg h1, if_neg h2, if_neg h3, if_neg h4, if_neg h5, if_neg h6, if_neg h7, if_neg h8, if_neg h9, if_neg h10, if_neg h11, if_neg h12]]
  exact long_o op x y w N hN (beq_eq_false_iff_ne.2 h0) (beq_eq_false_iff_ne.2 h1) (beq_eq_false_iff_ne.2 h2) (beq_eq_false_iff_ne.2 h3) (beq_eq_false_iff_ne.2 h4) (beq_eq_false_iff_ne.2 h5) (beq_eq_false_iff_ne.2 h6) (beq_eq_false_iff_ne.2 h7) (beq_eq_false_iff_ne.2 h8) (beq_eq_false_iff_ne.2 h9) (beq_eq_false_iff_ne.2 h10) (beq_eq_false_iff_ne.2 h11) (beq_eq_false_iff_ne.2 h12)
end Go.Proofs.YtbbfdehipgkjmaaDoor
namespace Go.Proofs.YtbbfdehipgkjmaaDoor
open Go Go.RowKit
/-- What an operation of 32 bits makes. -/
def evS (op : Int) (x y : W) : W := if op = 6 then lo32 (lo32 x <<< (lo32 y % 32#64).toNat) else if op = 7 then lo32 x >>> (lo32 y % 32#64).toNat else if op = 12 then BitVec.setWidth 64 (BitVec.sshiftRight (s32 (lo32 x)) (lo32 y % 32#64).toNat) else lo32 (evL op (lo32 x) (lo32 y))
def evF (op : Int) (long : Bool) (x y : W) : W := if long then evL op x y else evS op x y
set_option maxRecDepth 100000 in
set_option maxHeartbeats 1000000 in
theorem Eval_long (op : Int) (x y : W) (w : World) (N : Nat) (hN : Sz w N) : Calls Tryd.prog 14 #[.int .i64 op, .bool true, Q x, Q y] w fun e w' => e = .returned (Q (evL op x y)) ∧ Below N w w' := by
  go_enter Tryd.func14, Tryd.ntmps14
  go_upto_region 2 with fail
  have lo0 : Below N w w := Below.refl N w
  refine wp_region_later1 (N) ?_
  try simp only [pA]
  iterate 3 (go_big_quiet_step (fail))
  go_big_quiet_step ((go_at_call 38; exact later_of hN _ (fun K hK hKN => Long_any op x y _ K hK)))
  go_big_quiet_step (fail)
  refine wpQuiet_nil (laterE hN ?_)
  intro xw1 M2 hbxw1 hM2 lM2
  have lo3 := lo0.trans (hbxw1.mono (by omega))
  clear lo0 hbxw1
  go_wp2_with fail
  go_ret
  exact ⟨rfl, lo3⟩
set_option maxRecDepth 100000 in
set_option maxHeartbeats 1000000 in
theorem Eval_s6 (x y : W) (w : World) (N : Nat) (hN : Sz w N) : Calls Tryd.prog 14 #[.int .i64 6, .bool false, Q x, Q y] w fun e w' => e = .returned (Q (lo32 (lo32 x <<< (lo32 y % 32#64).toNat))) ∧ Below N w w' := by
  have hlt := hid (h_lt32 (lo32 y))
  go_enter Tryd.func14, Tryd.ntmps14
  go_upto_region 3 with fail
  have lo0 : Below N w w := Below.refl N w
  refine wp_region_later1 (N) ?_
  try simp only [pA]
  go_big_quiet_step (fail)
  refine later_val (fun q => run_uh (x := (.tmp 16)) rfl und64 undU32 rfl q.w') (by rfl) ?_; simp only [pA]
  go_big_quiet_step (fail)
  refine later_val (fun q => run_uh (x := (.tmp 18)) rfl und64 undU32 rfl q.w') (by rfl) ?_; simp only [pA]
  iterate 2 (go_big_quiet_step (fail))
  refine wpQuiet_nil (laterE hN ?_)
  intro xw1 M2 hbxw1 hM2 lM2
  have lo3 := lo0.trans (hbxw1.mono (by omega))
  clear lo0 hbxw1
  go_upto_region 6 with fail
  refine wp_region_later1 (M2) ?_
  try simp only [pA]
  iterate 2 (go_big_quiet_step (fail))
  refine later_b (x := (.tmp 24)) (y := (.const (.int .u32 32))) rfl (bin_hrem _ (lo32 y) 32#64 (by decide)) rfl rfl (by rfl) ?_; simp only [pA]
  refine later_b (x := (.tmp 23)) (y := (.tmp 25)) rfl (bin_hshl _ (lo32 x) ((lo32 y) % 32#64) hlt.out) rfl rfl (by rfl) ?_; simp only [pA]
  refine later_val (fun q => run_hu (x := (.tmp 26)) rfl undU32 und64 rfl q.w') (by rfl) ?_; simp only [pA]
  go_big_quiet_step (fail)
  refine wpQuiet_nil (laterE hM2 ?_)
  intro xw4 M5 hbxw4 hM5 lM5
  have lo6 := lo3.trans (hbxw4.mono (by omega))
  clear lo3 hbxw4
  go_wp2_with fail
  go_ret
  exact ⟨rfl, lo6⟩
set_option maxRecDepth 100000 in
set_option maxHeartbeats 1000000 in
theorem Eval_s7 (x y : W) (w : World) (N : Nat) (hN : Sz w N) : Calls Tryd.prog 14 #[.int .i64 7, .bool false, Q x, Q y] w fun e w' => e = .returned (Q (lo32 x >>> (lo32 y % 32#64).toNat)) ∧ Below N w w' := by
  have hlt := hid (h_lt32 (lo32 y))
  go_enter Tryd.func14, Tryd.ntmps14
  go_upto_region 3 with fail
  have lo0 : Below N w w := Below.refl N w
  refine wp_region_later1 (N) ?_
  try simp only [pA]
  go_big_quiet_step (fail)
  refine later_val (fun q => run_uh (x := (.tmp 16)) rfl und64 undU32 rfl q.w') (by rfl) ?_; simp only [pA]
  go_big_quiet_step (fail)
  refine later_val (fun q => run_uh (x := (.tmp 18)) rfl und64 undU32 rfl q.w') (by rfl) ?_; simp only [pA]
  iterate 2 (go_big_quiet_step (fail))
  refine wpQuiet_nil (laterE hN ?_)
  intro xw1 M2 hbxw1 hM2 lM2
  have lo3 := lo0.trans (hbxw1.mono (by omega))
  clear lo0 hbxw1
  go_upto_region 8 with fail
  refine wp_region_later1 (M2) ?_
  try simp only [pA]
  iterate 2 (go_big_quiet_step (fail))
  refine later_b (x := (.tmp 31)) (y := (.const (.int .u32 32))) rfl (bin_hrem _ (lo32 y) 32#64 (by decide)) rfl rfl (by rfl) ?_; simp only [pA]
  refine later_b (x := (.tmp 30)) (y := (.tmp 32)) rfl (bin_hshr _ (lo32 x) ((lo32 y) % 32#64) hlt.out) rfl rfl (by rfl) ?_; simp only [pA]
  refine later_val (fun q => run_hu (x := (.tmp 33)) rfl undU32 und64 rfl q.w') (by rfl) ?_; simp only [pA]
  go_big_quiet_step (fail)
  refine wpQuiet_nil (laterE hM2 ?_)
  intro xw4 M5 hbxw4 hM5 lM5
  have lo6 := lo3.trans (hbxw4.mono (by omega))
  clear lo3 hbxw4
  go_wp2_with fail
  go_ret
  exact ⟨rfl, lo6⟩
set_option maxRecDepth 100000 in
set_option maxHeartbeats 1000000 in
theorem Eval_s12 (x y : W) (w : World) (N : Nat) (hN : Sz w N) : Calls Tryd.prog 14 #[.int .i64 12, .bool false, Q x, Q y] w fun e w' => e = .returned (Q (BitVec.setWidth 64 (BitVec.sshiftRight (s32 (lo32 x)) (lo32 y % 32#64).toNat))) ∧ Below N w w' := by
  have hlt := hid (h_lt32 (lo32 y))
  go_enter Tryd.func14, Tryd.ntmps14
  go_upto_region 3 with fail
  have lo0 : Below N w w := Below.refl N w
  refine wp_region_later1 (N) ?_
  try simp only [pA]
  go_big_quiet_step (fail)
  refine later_val (fun q => run_uh (x := (.tmp 16)) rfl und64 undU32 rfl q.w') (by rfl) ?_; simp only [pA]
  go_big_quiet_step (fail)
  refine later_val (fun q => run_uh (x := (.tmp 18)) rfl und64 undU32 rfl q.w') (by rfl) ?_; simp only [pA]
  iterate 2 (go_big_quiet_step (fail))
  refine wpQuiet_nil (laterE hN ?_)
  intro xw1 M2 hbxw1 hM2 lM2
  have lo3 := lo0.trans (hbxw1.mono (by omega))
  clear lo0 hbxw1
  go_upto_region 10 with fail
  refine wp_region_later1 (M2) ?_
  try simp only [pA]
  go_big_quiet_step (fail)
  refine later_val (fun q => run_hj (x := (.tmp 37)) rfl undU32 undI32 rfl q.w') (by rfl) ?_; simp only [pA]
  go_big_quiet_step (fail)
  refine later_b (x := (.tmp 39)) (y := (.const (.int .u32 32))) rfl (bin_hrem _ (lo32 y) 32#64 (by decide)) rfl rfl (by rfl) ?_; simp only [pA]
  refine later_b (x := (.tmp 38)) (y := (.tmp 40)) rfl (bin_jshr _ (s32 (lo32 x)) ((lo32 y) % 32#64) hlt.out) rfl rfl (by rfl) ?_; simp only [pA]
  refine later_val (fun q => run_jh (x := (.tmp 41)) rfl undI32 undU32 rfl q.w') (by rfl) ?_; simp only [pA]
  refine later_val (fun q => run_hu (x := (.tmp 42)) rfl undU32 und64 rfl q.w') (by rfl) ?_; simp only [pA]
  go_big_quiet_step (fail)
  refine wpQuiet_nil (laterE hM2 ?_)
  intro xw4 M5 hbxw4 hM5 lM5
  have lo6 := lo3.trans (hbxw4.mono (by omega))
  clear lo3 hbxw4
  go_wp2_with fail
  go_ret
  exact ⟨rfl, lo6⟩
set_option maxRecDepth 100000 in
set_option maxHeartbeats 1000000 in
theorem Eval_sop (op : Int) (x y : W) (w : World) (N : Nat) (hN : Sz w N) (h6 : (op == 6) = false) (h7 : (op == 7) = false) (h12 : (op == 12) = false) : Calls Tryd.prog 14 #[.int .i64 op, .bool false, Q x, Q y] w fun e w' => e = .returned (Q (lo32 (evL op (lo32 x) (lo32 y)))) ∧ Below N w w' := by
  go_enter Tryd.func14, Tryd.ntmps14
  go_upto_region 3 with fail
  have lo0 : Below N w w := Below.refl N w
  refine wp_region_later1 (N) ?_
  try simp only [pA]
  go_big_quiet_step (fail)
  refine later_val (fun q => run_uh (x := (.tmp 16)) rfl und64 undU32 rfl q.w') (by rfl) ?_; simp only [pA]
  go_big_quiet_step (fail)
  refine later_val (fun q => run_uh (x := (.tmp 18)) rfl und64 undU32 rfl q.w') (by rfl) ?_; simp only [pA]
  iterate 2 (go_big_quiet_step (fail))
  refine wpQuiet_nil (laterE hN ?_)
  intro xw1 M2 hbxw1 hM2 lM2
  have lo3 := lo0.trans (hbxw1.mono (by omega))
  clear lo0 hbxw1
  go_upto_region 11 with fail
  refine wp_region_later1 (M2) ?_
  try simp only [pA]
  iterate 2 (go_big_quiet_step (fail))
  refine later_val (fun q => run_hu (x := (.tmp 45)) rfl undU32 und64 rfl q.w') (by rfl) ?_; simp only [pA]
  go_big_quiet_step (fail)
  refine later_val (fun q => run_hu (x := (.tmp 47)) rfl undU32 und64 rfl q.w') (by rfl) ?_; simp only [pA]
  go_big_quiet_step ((go_at_call 38; exact later_of hM2 _ (fun K hK hKN => Long_any op (lo32 x) (lo32 y) _ K hK)))
  refine later_val (fun q => run_uh (x := (.tmp 49)) rfl und64 undU32 rfl q.w') (by rfl) ?_; simp only [pA]
  refine later_val (fun q => run_hu (x := (.tmp 50)) rfl undU32 und64 rfl q.w') (by rfl) ?_; simp only [pA]
  go_big_quiet_step (fail)
  refine wpQuiet_nil (laterE hM2 ?_)
  intro xw4 M5 hbxw4 hM5 lM5
  have lo6 := lo3.trans (hbxw4.mono (by omega))
  clear lo3 hbxw4
  go_wp2_with fail
  go_ret
  exact ⟨rfl, lo6⟩
theorem Eval_any (op : Int) (l : Bool) (x y : W) (w : World) (N : Nat) (hN : Sz w N) : Calls Tryd.prog 14 #[.int .i64 op, .bool l, Q x, Q y] w fun e w' => e = .returned (Q (evF op l x y)) ∧ Below N w w' := by
  cases l
  · by_cases h6 : op = 6
    · subst h6; exact Eval_s6 x y w N hN
    by_cases h7 : op = 7
    · subst h7; exact Eval_s7 x y w N hN
    by_cases h12 : op = 12
    · subst h12; exact Eval_s12 x y w N hN
    have e : evF op false x y = lo32 (evL op (lo32 x) (lo32 y)) := by show evS op x y = _; unfold evS; rw [if_neg h6, if_neg h7, if_neg h12]
    rw [e]
    exact Eval_sop op x y w N hN (beq_eq_false_iff_ne.2 h6) (beq_eq_false_iff_ne.2 h7) (beq_eq_false_iff_ne.2 h12)
  · exact Eval_long op x y w N hN
end Go.Proofs.YtbbfdehipgkjmaaDoor
namespace Go.Proofs.YtbbfdehipgkjmaaDoor
open Go Go.RowKit
end Go.Proofs.YtbbfdehipgkjmaaDoor
namespace Go.Proofs.YtbbfdehipgkjmaaDoor
open Go Go.RowKit
end Go.Proofs.YtbbfdehipgkjmaaDoor
namespace Go.Proofs.YtbbfdehipgkjmaaDoor
open Go Go.RowKit
/-- A range: bits, bounds without a sign, bounds with one. -/
structure Rn where
  b : Nm
  lo : W
  hi : W
  sl : W
  sh : W
def rC (r : Rn) : Nat → Value := fun j => if j = 0 then Q r.b.v else if j = 1 then Q r.b.m else if j = 2 then Q r.lo else if j = 3 then Q r.hi else if j = 4 then S r.sl else S r.sh
def rV (r : Rn) : Value := .agg (cellsOf (rC r) 6)
theorem rC_one (r : Rn) (j : Nat) : (rC r j).oneCell' = true := by
  unfold rC Q S
  repeat' split
  all_goals rfl
def zeroR : Rn := ⟨zeroN, 0#64, 0#64, 0#64, 0#64⟩
theorem undR : ∃ d, Tryd.prog.underlying 27 = some d ∧ d.isRow = true := row_ofN (by kernel_rfl)
theorem szR : (Tryd.prog.info? 27).map (·.size) = some 6 := by kernel_rfl
theorem zeR : (Tryd.prog.info? 27).map (fun i => (i.zero, i.size)) = some (some (.agg (cellsOf (rC zeroR) 6)), 6) := by kernel_rfl
theorem r_cells {w : World} {b T : Nat} {a : Rn} (h : Has w b T 6 (rC a)) : w.cell? ⟨b, 0, none⟩ = some (Q a.b.v) ∧ w.cell? ⟨b, 1, none⟩ = some (Q a.b.m) ∧ w.cell? ⟨b, 2, none⟩ = some (Q a.lo) ∧ w.cell? ⟨b, 3, none⟩ = some (Q a.hi) ∧ w.cell? ⟨b, 4, none⟩ = some (S a.sl) ∧ w.cell? ⟨b, 5, none⟩ = some (S a.sh) :=
  ⟨h.cell (by omega), h.cell (by omega), h.cell (by omega), h.cell (by omega), h.cell (by omega), h.cell (by omega)⟩
theorem post_r {fn : Func} {R : Ending → World → Prop} {p : Tmp} {T : TypeId} {a : Act} {w : World} (hr : fn.results = #[.cell p T]) (b : Nat) (hp : a.tmps.getD p undef = .pointer (some ⟨b, 0, none⟩))
    {r : Rn} (hh : Has w b T 6 (rC r)) (hu : ∃ d, Tryd.prog.underlying T = some d ∧ d.isRow = true) (hi : (Tryd.prog.info? T).map (·.size) = some 6)
    (hdef : a.defers = []) (hR : R (.returned (rV r)) w) : bodyPost Tryd.prog fn R .ret a w := by
  obtain ⟨d, h1, h2⟩ := hu
  exact post_cell hr b hp hh d h1 h2 hi hdef hR
/-- The bits of a range, read as a whole. -/
theorem run_bits {a : Act} {w : World} {o : Oper} (ty : TypeId) (x : Operand) (ho : o.op = .load ty x) (b : Nat) (hx : a.eval x = .pointer (some ⟨b, 0, none⟩)) (T : TypeId) {r : Rn} (hh : Has w b T 6 (rC r))
    (hu : ∃ d, Tryd.prog.underlying ty = some d ∧ d.isRow = true) (hi : (Tryd.prog.info? ty).map (·.size) = some 2) : (execOp a.eval o).run Tryd.prog w = .ok (.value (.agg (cellsOf (nC r.b) 2))) w := by
  obtain ⟨d, h1, h2⟩ := hu
  have h := run_load_part (P := Tryd.prog) hh 0 2 (by omega) ty d h1 h2 hi
  have e : cellsOf (fun j => rC r (0 + j)) 2 = cellsOf (nC r.b) 2 := cellsOf_congr fun j hj => by
    rcases (show j = 0 ∨ j = 1 by omega) with rfl | rfl <;> rfl
  rw [e] at h
  unfold execOp
  simp only [ho, hx, Sem.run_bind, h, Result.andThen_ok, Sem.run_pure]
def cR (x : W) : Rn := ⟨tConst x, x, x, x, x⟩
def obR (n : Nm) : Rn := ⟨n, 0#64, BitVec.allOnes 64, BitVec.ofInt 64 (-9223372036854775808), BitVec.ofInt 64 9223372036854775807⟩
def sHas (a : Rn) (x : W) : Bool := tHas a.b x && (a.lo.ule x && (x.ule a.hi && (a.sl.sle x && x.sle a.sh)))
end Go.Proofs.YtbbfdehipgkjmaaDoor
