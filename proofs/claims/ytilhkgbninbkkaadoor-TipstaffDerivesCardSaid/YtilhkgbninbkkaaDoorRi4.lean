/- Contract of strconv.FormatUint at base 16, of numbers of 16 bits. -/
import Derived.Test.YtilhkgbninbkkaaDoorMgSha
import Derived.Test.YtilhkgbninbkkaaDoorMgAts
namespace Go.Proofs.YtilhkgbninbkkaaDoor
open Go Go.RowKit
/-- The sign of a number below 16. -/
def sgN (n : Nat) : Nat := if n < 10 then 48 + n else 87 + n
theorem sgN_lt (n : Nat) (h : n < 16) : sgN n < 256 := by unfold sgN; split <;> omega
def sgB (n : Nat) : BitVec 8 := BitVec.ofNat 8 (sgN n)
theorem sgB_val (n : Nat) (h : n < 16) : Value.int .u8 ((sgN n : Nat) : Int) = By (sgB n) := by
  have := sgN_lt n h
  unfold By v8 sgB
  rw [BitVec.toNat_ofNat, Nat.mod_eq_of_lt (by omega)]
def signs36 : ByteArray := ⟨#[48, 49, 50, 51, 52, 53, 54, 55, 56, 57, 97, 98, 99, 100, 101, 102, 103, 104, 105, 106, 107, 108, 109, 110, 111, 112, 113, 114, 115, 116, 117, 118, 119, 120, 121, 122]⟩
theorem signs36_get : ∀ n, n < 16 → signs36[n]? = some (UInt8.ofNat (sgN n)) := by decide
/-- How many signs a number has. -/
def nSg (n : Nat) : Nat := if n < 16 then 1 else if n < 256 then 2 else if n < 4096 then 3 else 4
/-- The k-th sign from the end on. -/
def sgAt (n k : Nat) : BitVec 8 := sgB (n / 16 ^ k % 16)
/-- A number's text. -/
def hexD (n : Nat) : Nat → BitVec 8 := fun j => sgAt n (nSg n - 1 - j)
def hexT (n : Nat) : ByteArray := strOf (hexD n) (nSg n)
theorem undSt : Tryd.prog.underlying 9 = some .string := by kernel_rfl
theorem undBy : Tryd.prog.underlying 5 = some (.int .u8) := by kernel_rfl
theorem undBB : Tryd.prog.underlying 105 = some (.slice 5) := by kernel_rfl
theorem szBy : (Tryd.prog.info? 5).map (·.size) = some 1 := by kernel_rfl
theorem und65 : Tryd.prog.underlying 151 = some (.array 65 5) := by kernel_rfl
theorem ze65 : (Tryd.prog.info? 151).map (fun i => (i.zero, i.size)) = some (some (.agg (cellsOf (fun _ => By 0) 65)), 65) := by kernel_rfl
theorem run_sg (k : IntKind) (n : Nat) (hn : n < 16) (w : World) : (Instr.index 9 (.string signs36) (.int k (n : Int))).run Tryd.prog w = .ok (.int .u8 ((sgN n : Nat) : Int)) w := by
  have h1 := signs36_get n hn
  have h2 := sgN_lt n hn
  simp [Instr.index, asIntOf, Sem.run_bind, run_underlying undSt w, h1]
  omega
section
variable {ops : Array Oper} {rest : List Oper} {o : Oper} {a : Act} {w : World} {Q : Exit → Act → World → Prop}
theorem wpl_sg (hgd : o.guard = none) (y : Operand) (ho : o.op = .index 9 (.const (.string signs36)) y) (k : IntKind) (n : Nat) (hn : n < 16) (hy : a.eval y = .int k (n : Int))
    (h : wpList Tryd.prog ops Q rest (a.put o.dst (By (sgB n))) w) : wpList Tryd.prog ops Q (o :: rest) a w := by
  refine wpl_run hgd _ w ?_ h
  have hx : a.eval (.const (.string signs36)) = .string signs36 := rfl
  unfold execOp
  simp only [ho, hx, hy, Sem.run_bind, run_sg k n hn w, Result.andThen_ok, Sem.run_pure]
  rw [sgB_val n hn]
theorem wpl_mask15 (hgd : o.guard = none) (T : TypeId) (x y : Operand) (ho : o.op = .binOp .and T x y T) (n : Nat) (hn : n < 65536) (hx : a.eval x = .int .u64 (n : Int)) (hy : a.eval y = .int .u64 15)
    (h : wpList Tryd.prog ops Q rest (a.put o.dst (.int .u64 ((n % 16 : Nat) : Int))) w) : wpList Tryd.prog ops Q (o :: rest) a w := by
  refine wpl_run hgd _ w ?_ h
  unfold execOp
  simp only [ho, hx, hy]
  go_simp
  have := u64_and_nat n 15 (by omega) (by omega)
  rw [nat_mask4] at this
  exact this
end
/-- The last k signs of a number, in an array of 65. -/
def arrF (n k : Nat) : Nat → Value := fun j => if 65 - k ≤ j then By (sgAt n (64 - j)) else By 0
theorem arrF_step (n k : Nat) (hk : k < 65) (j : Nat) (hj : j < 65) : upd (arrF n k) (64 - k) (By (sgAt n k)) j = arrF n (k + 1) j := by
  unfold upd arrF
  by_cases e : j = 64 - k
  · rw [if_pos e, if_pos (by omega), show 64 - j = k by omega]
  · rw [if_neg e]
    by_cases e2 : 65 - k ≤ j
    · rw [if_pos e2, if_pos (by omega)]
    · rw [if_neg e2, if_neg (by omega)]
/-- The library's table lies where it lay, as far as the one cell that is read. -/
def Db (w : World) : Prop := w.cell? ⟨8, 15, none⟩ = some (.int .u8 4)
theorem Db.ltN {w : World} (t : Db w) {N : Nat} (hN : Sz w N) : 8 < N := by have := World.block_lt_of_cell? w _ t; have e : w.heap.size = N := hN; simp only at this ⊢; omega
theorem Db.below {w w' : World} {N : Nat} (t : Db w) (hN : Sz w N) (h : Below N w w') : Db w' := (h.cell (p := ⟨8, 15, none⟩) (t.ltN hN)).trans t
theorem Db.drew {w : World} (t : Db w) : Db w.drew := t
set_option maxRecDepth 100000 in
theorem pow2_16 (w : World) : Calls Tryd.prog 98 #[.int .i64 16] w fun e w' => e = .returned (.bool true) ∧ w' = w := by
  go_enter Tryd.func98, Tryd.ntmps98
  go_wp2
  go_ret
  first | exact ⟨rfl, rfl⟩ | (refine ⟨?_, rfl⟩; decide) | (refine ⟨?_, rfl⟩; kernel_rfl)
set_option maxRecDepth 100000 in
theorem tz64_16 (w : World) (hD : Db w) : Calls Tryd.prog 108 #[.int .u64 16] w fun e w' => e = .returned (.int .i64 4) ∧ w' = w := by
  have c0 : w.cell? ⟨8, 15, none⟩ = some (.int .u8 4) := hD
  have e1 : IntKind.u64.wrap (bits BinOp.and IntKind.u64 16 (IntKind.u64.wrap (-16)) * 285870213051353865) / 288230376151711744 = 15 := by decide +kernel
  go_enter Tryd.func108, Tryd.ntmps108
  go_wp2
  go_ret
  exact ⟨rfl, rfl⟩
set_option maxRecDepth 100000 in
theorem tz_16 (w : World) (hD : Db w) : Calls Tryd.prog 99 #[.int .u64 16] w fun e w' => e = .returned (.int .i64 4) ∧ w' = w := by
  go_enter Tryd.func99, Tryd.ntmps99
  go_wp2_with (first
    | (go_at_call 108; refine (tz64_16 _ hD).mono ?_; rintro e w' ⟨rfl, rfl⟩)
    | fail)
  go_ret
  exact ⟨rfl, rfl⟩
theorem hexT_size (n : Nat) : nSg n ≤ 4 := by unfold nSg; repeat' split
                                              all_goals omega
theorem sg_more {n k x : Nat} (hn : n < 65536) (hx : x = n / 16 ^ k) (hk : k < nSg n) : (16 ≤ x ↔ k + 1 < nSg n) ∧ x < 65536 := by
  have h4 := hexT_size n
  have h16 : x < 65536 := by rw [hx]; exact Nat.lt_of_le_of_lt (Nat.div_le_self _ _) hn
  refine ⟨?_, h16⟩
  unfold nSg at *
  rcases (show k = 0 ∨ k = 1 ∨ k = 2 ∨ k = 3 by omega) with rfl | rfl | rfl | rfl
  · have : x = n := by simpa using hx
    subst this
    constructor <;> intro h <;> (repeat' split at *) <;> omega
  · have : x = n / 16 := by simpa using hx
    constructor <;> intro h <;> (repeat' split at *) <;> omega
  · have : x = n / 256 := by simpa using hx
    constructor <;> intro h <;> (repeat' split at *) <;> omega
  · have : x = n / 4096 := by simpa using hx
    constructor <;> intro h <;> (repeat' split at *) <;> omega
set_option maxRecDepth 100000 in
set_option maxHeartbeats 1000000 in
theorem formatBits_16 (n : Nat) (hn : n < 65536) (w : World) (N : Nat) (hN : Sz w N) (hD : Db w) :
    Calls Tryd.prog 88 #[.slice none 0 0, .int .u64 (n : Int), .int .i64 16, .bool false, .bool false] w fun e w' => e = .returned (.tuple #[.slice none 0 0, .string (hexT n)]) ∧ Below N w w' := by
  go_enter Tryd.func88, Tryd.ntmps88
  go_wp2_with (first
    | (refine wpl_alloc rfl 151 rfl 65 (fun _ => By 0) ze65 N hN ?_; intro w1 hN1 hb1 hh1)
    | (go_at_call 98; refine (pow2_16 _).mono ?_; rintro e wa ⟨rfl, ea⟩; have ea := ea.symm; subst ea)
    | (go_at_call 99; refine (tz_16 _ (hD.below hN hb1)).mono ?_; rintro e wb ⟨rfl, eb⟩; have eb := eb.symm; subst eb)
    | fail)
  have S0 : Has w1 N 151 65 (arrF n 0) := hh1.congr (fun j hj => by unfold arrF; rw [if_neg (by omega)])
  have H0 := hid S0
  clear S0 hh1
  go_loopg [1, 13] (nSg n - 1) (fun g u i wr => ∃ (k x m : Nat), k < nSg n ∧ g = nSg n - 1 - k ∧ Hid (x = n / 16 ^ k) ∧ Hid (m = 64 - k) ∧ u = .int .u64 (x : Int) ∧ i = .int .i64 ((m : Int) + 1) ∧ Has wr N 151 65 (arrF n k) ∧ Below N w wr)
  case atStart => exact ⟨0, n, 64, by unfold nSg; repeat' split
                                      all_goals omega, rfl, hid (by simp), hid rfl, rfl, rfl, H0.out, hb1⟩
  case round =>
    clear H0 hb1
    obtain ⟨k, x, m, hk, rfl, Hx, Hm, rfl, rfl, hh, hb⟩ := hrel
    obtain ⟨hmore, hx6⟩ := sg_more hn Hx.out hk
    have h4 := hexT_size n
    have hm60 : 60 < m := by have := Hm.out; omega
    have hm64 : m ≤ 64 := by have := Hm.out; omega
    have x0 : (0 : Int) ≤ (x : Int) := by omega
    have x6 : (x : Int) < 65536 := by omega
    have m0 : (0 : Int) ≤ (m : Int) := by omega
    have m6 : (m : Int) < 65 := by omega
    by_cases h16 : 16 ≤ x
    · have t1 : (16 : Int) ≤ (x : Int) := by omega
      have hk1 := hmore.1 h16
      have hlt : x % 16 < 16 := Nat.mod_lt _ (by omega)
      clear hmore
      go_wp2_with (first
        | (refine wpl_mask15 rfl _ _ _ rfl x hx6 rfl rfl ?_)
        | (refine wpl_sg rfl (.tmp 52) rfl .u64 (x % 16) hlt rfl ?_)
        | (refine wpl_set rfl 5 (.tmp 54) (.tmp 53) rfl N m rfl (By (sgB (x % 16))) rfl szBy rfl rfl 151 65 _ hh (by omega) ?_; intro w2 ht2 hh2)
        | fail)
      go_roundg (nSg n - 1 - (k + 1))
      case measure => omega
      case rel =>
        refine ⟨k + 1, x / 16, m - 1, hk1, rfl, hid ?_, hid ?_, ?_, ?_, hh2.congr (fun j hj => ?_), ht2.below hb (Nat.le_refl N)⟩
        · rw [Hx.out, Nat.div_div_eq_div_mul, ← Nat.pow_succ]
        · have := Hm.out; omega
        · first | rfl | (congr 1; omega)
        · congr 1; omega
        · have := arrF_step n k (by omega) j hj
          rw [← Hm.out] at this
          rw [← this]
          unfold sgAt
          rw [← Hx.out]
    · have t1 : ¬ (16 : Int) ≤ (x : Int) := by omega
      have hk1 : nSg n = k + 1 := by
        have : ¬ (k + 1 < nSg n) := fun h => h16 (hmore.2 h)
        omega
      have Hk1 := hid hk1
      have hlt : x < 16 := by omega
      clear hmore hk1
      go_upto_region 30 with (first
        | (refine wpl_sg rfl (.tmp 61) rfl .u64 x hlt rfl ?_)
        | (refine wpl_set rfl 5 (.tmp 63) (.tmp 62) rfl N m rfl (By (sgB x)) rfl szBy rfl rfl 151 65 _ hh (by omega) ?_; intro w2 ht2 hh2)
        | fail)
      have h3 : Has w2 N 151 65 (arrF n (k + 1)) := hh2.congr (fun j hj => by
        have := arrF_step n k (by omega) j hj
        rw [← Hm.out] at this
        rw [← this]
        unfold sgAt
        rw [← Hx.out, Nat.mod_eq_of_lt hlt])
      have e65 : 65 - m = nSg n := by have := Hm.out; have := Hk1.out; omega
      have hcv : (convert 105 9 (.slice (some ⟨N, 0 + m, none⟩) (65 - m) (65 - m))).run Tryd.prog w2 = .ok (.string (hexT n)) w2 := by
        have := run_string (P := Tryd.prog) w2 105 9 5 undBB undBy undSt (some ⟨N, 0 + m, none⟩) (65 - m) (65 - m) (hexD n) (fun _ => ⟨N, 0 + m, rfl, fun j hj => by
          rw [h3.cell (j := 0 + m + j) (by omega)]
          unfold arrF hexD
          have := Hm.out
          have := Hk1.out
          rw [if_pos (by omega), show 64 - (0 + m + j) = nSg n - 1 - j by omega]⟩)
        rw [this, e65]
        rfl
      have hsl := run_sliceArr_from (P := Tryd.prog) 151 5 65 und65 szBy N 0 m (by omega) w2
      rw [Nat.zero_add, e65] at hsl hcv
      clear e65
      go_wp2_with (first
        | (refine wpl_conv rfl 105 9 (.tmp 100) rfl _ (.string (hexT n)) rfl hcv ?_)
        | fail)
      go_ret2
      exact ⟨rfl, ht2.below hb (Nat.le_refl N)⟩
set_option maxRecDepth 100000 in
theorem FormatUint_16 (n : Nat) (hn : n < 65536) (w : World) (N : Nat) (hN : Sz w N) (hD : Db w) :
    Calls Tryd.prog 77 #[.int .u64 (n : Int), .int .i64 16] w fun e w' => e = .returned (.string (hexT n)) ∧ Below N w w' := by
  go_enter Tryd.func77, Tryd.ntmps77
  go_wp2_with (first
    | (go_at_call 88; refine (formatBits_16 n hn _ N hN hD).mono ?_; rintro e w' ⟨rfl, hb⟩)
    | fail)
  go_ret
  exact ⟨rfl, hb⟩
set_option maxRecDepth 100000 in
theorem PFormatUint_16 (n : Nat) (hn : n < 65536) (w : World) (N : Nat) (hN : Sz w N) (hD : Db w) :
    Calls Tryd.prog 67 #[.int .u64 (n : Int), .int .i64 16] w fun e w' => e = .returned (.string (hexT n)) ∧ Below N w w' := by
  go_enter Tryd.func67, Tryd.ntmps67
  go_wp2_with (first
    | (go_at_call 77; refine (FormatUint_16 n hn _ N hN hD).mono ?_; rintro e w' ⟨rfl, hb⟩)
    | fail)
  go_ret
  exact ⟨rfl, hb⟩
set_option maxRecDepth 100000 in
theorem number_any (x : BitVec 16) (w : World) (N : Nat) (hN : Sz w N) (hD : Db w) :
    Calls Tryd.prog 50 #[.int .u16 (u6 x)] w fun e w' => e = .returned (.string (hexT x.toNat)) ∧ Below N w w' := by
  have C := PFormatUint_16 x.toNat x.isLt w N hN hD
  have x0 := u6_lo x
  have x1 := u6_hi x
  have e : ((x.toNat : Nat) : Int) = u6 x := rfl
  rw [e] at C
  clear e
  generalize u6 x = z at *
  go_enter Tryd.func50, Tryd.ntmps50
  go_wp2_with (first
    | (go_at_call 67; refine C.mono ?_; rintro e w' ⟨rfl, hb⟩)
    | fail)
  go_ret
  exact ⟨rfl, hb⟩
end Go.Proofs.YtilhkgbninbkkaaDoor
