/- BmapFrozen: the document's map: its words; bits, bit, may. BmapFrozen: the document's bit, match, plain. -/
import Derived.Test.YtjdclgnlnehjlaaDoorMgFz9
namespace Go.Proofs.YtjdclgnlnehjlaaDoor
open Go Go.RowKit
structure Re where
  k : ByteArray
  v : ByteArray
instance : Inhabited Re := ⟨⟨⟨#[]⟩, ⟨#[]⟩⟩⟩
/-- The document's map. -/
structure Rm where
  ty : Nat
  key : Nat
  val : Nat
  ent : Nat
  fz : Bool
  b : Nat
  p : Option Addr
  n : Nat
  cap : Nat
  E : Nat → Re
def rmC (m : Rm) : Nat → Value := fun j => if j = 0 then .int .i64 (m.ty : Int) else if j = 1 then .int .i64 (m.key : Int) else if j = 2 then .int .i64 (m.val : Int) else if j = 3 then .int .i64 (m.ent : Int) else if j = 4 then .slice m.p m.n m.cap else .bool m.fz
def re1 (e : Re) : Nat → Value := fun i => if i = 0 then .string e.k else .string e.v
def reC (E : Nat → Re) : Nat → Value := fun j => re1 (E (j / 2)) (j % 2)
theorem reC_at (E : Nat → Re) (k i : Nat) (hi : i < 2) : reC E (k * 2 + i) = re1 (E k) i := by
  unfold reC
  rw [show (k * 2 + i) / 2 = k by omega, show (k * 2 + i) % 2 = i by omega]
/-- Such a map lies there; of a Prefix each key has the length that it must have. -/
structure RmAt (w : World) (m : Rm) : Prop where
  h : Has w m.b 64 6 (rmC m)
  e : OwnK w 66 2 m.p m.n m.cap (reC m.E)
  k : m.ty = 5 → 4 ≤ m.key ∧ m.key ≤ 16 ∧ ∀ i, i < m.n → (m.E i).k.size = m.key
  n : m.n ≤ 100
  sm : m.key ≤ 16 ∧ m.val ≤ 64 ∧ m.ent ≤ 64 ∧ 1 ≤ m.ent
def RFoot (m : Rm) (k : Nat) : Prop := k = m.b ∨ blk m.p = some k
section
variable {w w' : World} {m : Rm} {N : Nat}
theorem RmAt.c0 (h : RmAt w m) : w.cell? ⟨m.b, 0, none⟩ = some (.int .i64 (m.ty : Int)) := h.h.cell (by omega)
theorem RmAt.c1 (h : RmAt w m) : w.cell? ⟨m.b, 1, none⟩ = some (.int .i64 (m.key : Int)) := h.h.cell (by omega)
theorem RmAt.c2 (h : RmAt w m) : w.cell? ⟨m.b, 2, none⟩ = some (.int .i64 (m.val : Int)) := h.h.cell (by omega)
theorem RmAt.c3 (h : RmAt w m) : w.cell? ⟨m.b, 3, none⟩ = some (.int .i64 (m.ent : Int)) := h.h.cell (by omega)
theorem RmAt.c4 (h : RmAt w m) : w.cell? ⟨m.b, 4, none⟩ = some (.slice m.p m.n m.cap) := h.h.cell (by omega)
theorem RmAt.c5 (h : RmAt w m) : w.cell? ⟨m.b, 5, none⟩ = some (.bool m.fz) := h.h.cell (by omega)
theorem RmAt.turn {S : Nat → Prop} (h : RmAt w m) (t : Turn S w w') (hn : ∀ k, RFoot m k → ¬ S k) : RmAt w' m :=
  ⟨h.h.turn t (hn _ (.inl rfl)), h.e.turn t (fun g hg => hn _ (.inr hg)), h.k, h.n, h.sm⟩
theorem RmAt.below (h : RmAt w m) (hN : Sz w N) (hb : Below N w w') : RmAt w' m :=
  h.turn (turn_below hN hb (fun _ => False)) (fun _ _ h => h)
theorem RmAt.lt (h : RmAt w m) (hN : Sz w N) (k : Nat) (hk : RFoot m k) : k < N := by
  rcases hk with rfl | hk
  · exact h.h.ltN hN
  · have := h.e.lt k hk
    have e : w.heap.size = N := hN
    omega
theorem RmAt.ptr (h : RmAt w m) (h0 : 0 < m.n) : ∃ g, m.p = some ⟨g, 0, none⟩ := by
  obtain ⟨g, hg, _⟩ := h.e.cell h0
  exact ⟨g, hg⟩
theorem RmAt.at (h : RmAt w m) {g : Nat} (hg : m.p = some ⟨g, 0, none⟩) (k : Nat) (hk : k < m.n) (i : Nat) (hi : i < 2) : w.cell? ⟨g, k * 2 + i, none⟩ = some (re1 (m.E k) i) := by
  obtain ⟨g', hg', hc⟩ := h.e.cell (by omega)
  obtain rfl : g = g' := by rw [hg] at hg'; injection hg' with hg'; injection hg'
  have := hc (k * 2 + i) (by omega)
  rw [Nat.zero_add] at this
  rw [this, reC_at _ _ _ hi]
theorem own_types {w : World} {T U s1 s2 n1 n2 c1 c2 : Nat} {p1 p2 : Option Addr} {f1 f2 : Nat → Value} (h1 : OwnK w T s1 p1 n1 c1 f1) (h2 : OwnK w U s2 p2 n2 c2 f2) (hT : T ≠ U) (d : Nat) (e1 : blk p1 = some d) (e2 : blk p2 = some d) : False := by
  rcases h1 with ⟨rfl, _⟩ | ⟨x, C, rfl, hg, _⟩
  · cases e1
  · rcases h2 with ⟨rfl, _⟩ | ⟨y, C', rfl, hg', _⟩
    · cases e2
    · have ex : x = d := Option.some.inj e1
      have ey : y = d := Option.some.inj e2
      subst ex
      subst ey
      rw [hg] at hg'
      injection hg' with hg'
      injection hg' with _ e
      exact hT e
/-- A map of the program's and one of the document's have no block in common. -/
theorem foots {m1 : Mp} (h1 : MpAt w m1) (h : RmAt w m) (x : Nat) (hx : RFoot m x) : ¬ Foot m1 x := by
  rintro (rfl | hp | ⟨i, hi, rfl | rfl⟩)
  · rcases hx with e | e
    · exact has_types h1.h h.h (by decide) e
    · exact has_own h1.h h.e (by decide) _ e rfl
  · rcases hx with rfl | e
    · exact has_own h.h h1.e (by decide) _ hp rfl
    · exact own_types h1.e h.e (by decide) _ hp e
  · rcases hx with e | e
    · exact has_types (h1.c i hi) h.h (by decide) e
    · exact has_own (h1.c i hi) h.e (by decide) _ e rfl
  · rcases hx with e | e
    · exact has_types (h1.v i hi) h.h (by decide) e
    · exact has_own (h1.v i hi) h.e (by decide) _ e rfl
end
def byT (t : ByteArray) (k : Nat) : Nat := if h : k < t.size then (t[k]'h).toNat else 0
theorem byT_lt (t : ByteArray) (k : Nat) : byT t k < 256 := by
  unfold byT; split
  · exact UInt8.toNat_lt _
  · omega
def bitsT (t : ByteArray) : Nat := byT t 0 + 256 * byT t 1 + 65536 * byT t 2 + 16777216 * byT t 3
set_option maxRecDepth 100000 in
theorem bits_any (t : ByteArray) (ht : 4 ≤ t.size) (w : World) :
    Calls Tryd.prog 57 #[.string t] w fun e w' => e = .returned (.int .i64 (bitsT t : Int)) ∧ ∃ x, w' = w.drewN x := by
  obtain ⟨L, hL⟩ : ∃ L, t.size = L := ⟨_, rfl⟩
  rw [hL] at ht
  obtain ⟨X, hX⟩ : ∃ X : Nat → Int, X = fun k => (byT t k : Int) := ⟨_, rfl⟩
  have hb : ∀ (n : Nat) (h : n < t.size), ((t[n]'h).toNat : Int) = X n := fun n h => by rw [hX]; unfold byT; simp only [h, dite_true]
  have x0 : ∀ k, 0 ≤ X k ∧ X k < 256 := fun k => by rw [hX]; have := byT_lt t k; simp only; omega
  have y0 := x0 0
  have y1 := x0 1
  have y2 := x0 2
  have y3 := x0 3
  have l0 : (0 : Int) < (L : Int) := by omega
  have l1 : (1 : Int) < (L : Int) := by omega
  have l2 : (2 : Int) < (L : Int) := by omega
  have l3 : (3 : Int) < (L : Int) := by omega
  have eB : (bitsT t : Int) = X 0 + 256 * X 1 + 65536 * X 2 + 16777216 * X 3 := by unfold bitsT; rw [hX]; simp only; omega
  have EB := hid eB
  clear hX eB
  go_enter Tryd.func57, Tryd.ntmps57
  go_wp2
  go_quiet (fail)
  go_wp2
  go_ret
  exact ⟨ret_int (by rw [EB.out]; omega), nq, rfl⟩
theorem bits_low (t : ByteArray) (ht : 4 ≤ t.size) (w : World) (N : Nat) :
    Calls Tryd.prog 57 #[.string t] w fun e w' => e = .returned (.int .i64 (bitsT t : Int)) ∧ Below N w w' :=
  (bits_any t ht w).mono fun e w' ⟨he, x, ew⟩ => ⟨he, by rw [ew]; exact below_drewN (Below.refl _ _) x⟩
def MayR (m : Rm) (t : ByteArray) (e : Ending) : Prop := ∃ r, e = .returned (.bool r) ∧ (r = true → t.size = m.key ∧ m.ty ≠ 3 ∧ m.ty ≠ 4 ∧ (m.ty = 5 → bitsT t ≤ 8 * (m.key - 4)))
set_option maxRecDepth 100000 in
set_option maxHeartbeats 4000000 in
theorem may_any (m : Rm) (t : ByteArray) (w : World) (N : Nat) (hN : Sz w N) (hA : RmAt w m) :
    Calls Tryd.prog 52 #[.pointer (some ⟨m.b, 0, none⟩), .string t] w fun e w' => MayR m t e ∧ Below N w w' := by
  have c0 := hA.c0
  have c1 := hA.c1
  have no : (false = true → t.size = m.key ∧ m.ty ≠ 3 ∧ m.ty ≠ 4 ∧ (m.ty = 5 → bitsT t ≤ 8 * (m.key - 4))) := fun h => by cases h
  by_cases h3 : m.ty = 3
  · rw [h3] at c0
    have No := hid no
    clear no h3
    go_enter Tryd.func52, Tryd.ntmps52
    go_wp2
    go_quiet (fail)
    go_wp2
    go_ret
    exact ⟨⟨_, rfl, No.out⟩, below_drewN (Below.refl _ _) _⟩
  by_cases h4 : m.ty = 4
  · rw [h4] at c0
    have No := hid no
    clear no h3 h4
    go_enter Tryd.func52, Tryd.ntmps52
    go_wp2
    go_quiet (fail)
    go_wp2
    go_ret
    exact ⟨⟨_, rfl, No.out⟩, below_drewN (Below.refl _ _) _⟩
  have t3 : ((m.ty : Int) != 3) = true := by rw [bne_iff_ne]; omega
  have t4 : ((m.ty : Int) != 4) = true := by rw [bne_iff_ne]; omega
  obtain ⟨L, hL⟩ : ∃ L, t.size = L := ⟨_, rfl⟩
  by_cases hk : L = m.key
  · have tk : ((L : Int) == (m.key : Int)) = true := by rw [hk]; simp
    by_cases h5 : m.ty = 5
    · obtain ⟨k4, k16, _⟩ := hA.k h5
      obtain ⟨j, hj⟩ : ∃ j, m.key = j + 4 := ⟨m.key - 4, by omega⟩
      obtain ⟨bv, hbv⟩ : ∃ bv, decide ((bitsT t : Int) ≤ 8 * (j : Int)) = bv := ⟨_, rfl⟩
      have EB := hid hbv
      have EJ := hid (show (m.key : Int) - 4 = (j : Int) by omega)
      have l4 : 4 ≤ L := by omega
      have j16 : j ≤ 16 := by omega
      have Yes := hid (show bv = true → t.size = m.key ∧ m.ty ≠ 3 ∧ m.ty ≠ 4 ∧ (m.ty = 5 → bitsT t ≤ 8 * (m.key - 4)) from fun h => ⟨hL.trans hk, h3, h4, fun _ => by
        rw [h] at hbv
        have := of_decide_eq_true hbv
        omega⟩)
      have T5 := hid (show ((m.ty : Int) != 5) = false by rw [h5]; rfl)
      have T3 := hid t3
      have T4 := hid t4
      have TK := hid tk
      have HL := hid hL
      have C0 := hid c0
      have C1 := hid c1
      clear no h3 h4 h5 hk t3 t4 tk hL c0 c1 hbv hj
      go_enter Tryd.func52, Tryd.ntmps52
      go_upto_region 1 with fail
      refine wp_region_later N (by kernel_rfl) (by kernel_rfl) ?_
      go_big_quiet_step (fail)
      go_big_quiet_step (fail)
      go_big_quiet_step (fail)
      go_big_quiet_step (fail)
      refine later_val (v := .int .i64 (m.ty : Int)) (fun q => run_cell1 (x := .tmp 8) 3 rfl rfl undIt rfl (Later.cell hN C0.out q)) (by rfl) ?_; try simp only [pA]
      refine later_val (v := .bool true) (fun q => run_neqZ (x := .tmp 9) rfl rfl rfl T3.out _) (by rfl) ?_; try simp only [pA]
      go_big_quiet_step (fail)
      go_big_quiet_step (fail)
      go_big_quiet_step (fail)
      go_big_quiet_step (fail)
      go_big_quiet_step (fail)
      refine later_val (v := .int .i64 (m.ty : Int)) (fun q => run_cell1 (x := .tmp 15) 3 rfl rfl undIt rfl (Later.cell hN C0.out q)) (by rfl) ?_; try simp only [pA]
      refine later_val (v := .bool true) (fun q => run_neqZ (x := .tmp 16) rfl rfl rfl T4.out _) (by rfl) ?_; try simp only [pA]
      go_big_quiet_step (fail)
      go_big_quiet_step (fail)
      go_big_quiet_step (fail)
      refine later_val (v := .int .i64 (L : Int)) (fun q => run_lenS (x := .tmp 20) rfl undBS rfl HL.out _) (by rfl) ?_; try simp only [pA]
      go_big_quiet_step (fail)
      go_big_quiet_step (fail)
      go_big_quiet_step (fail)
      go_big_quiet_step (fail)
      refine later_val (v := .int .i64 (m.key : Int)) (fun q => run_cell1 (x := .tmp 25) 3 rfl rfl undIt rfl (Later.cell hN C1.out q)) (by rfl) ?_; try simp only [pA]
      refine later_val (v := .bool true) (fun q => run_eqK (x := .tmp 21) rfl rfl rfl TK.out _) (by rfl) ?_; try simp only [pA]
      go_big_quiet_step (fail)
      go_big_quiet_step (fail)
      go_big_quiet_step (fail)
      go_big_quiet_step (fail)
      go_big_quiet_step (fail)
      go_big_quiet_step (fail)
      refine later_val (v := .int .i64 (m.ty : Int)) (fun q => run_cell1 (x := .tmp 33) 3 rfl rfl undIt rfl (Later.cell hN C0.out q)) (by rfl) ?_; try simp only [pA]
      refine later_val (v := .bool false) (fun q => run_neqZ (x := .tmp 34) rfl rfl rfl T5.out _) (by rfl) ?_; try simp only [pA]
      go_big_quiet_step (fail)
      go_big_quiet_step (fail)
      go_big_quiet_step ((go_at_call 57; exact later_of hN _ (fun K hK hKN => bits_low t (by rw [HL.out]; exact l4) _ K)))
      go_big_quiet_step (fail)
      go_big_quiet_step (fail)
      go_big_quiet_step (fail)
      go_big_quiet_step (fail)
      refine later_val (v := .int .i64 (m.key : Int)) (fun q => run_cell1 (x := .tmp 42) 3 rfl rfl undIt rfl (Later.cell hN C1.out q)) (by rfl) ?_; try simp only [pA]
      refine later_val (v := .int .i64 (j : Int)) (fun q => run_subN (x := .tmp 43) rfl rfl rfl EJ.out (by omega) (by omega) _) (by rfl) ?_; try simp only [pA]
      refine later_val (v := .int .i64 (8 * (j : Int))) (fun q => run_mulN (y := .tmp 44) rfl rfl rfl rfl (by omega) (by omega) _) (by rfl) ?_; try simp only [pA]
      refine later_val (v := .bool bv) (fun q => run_leqK (x := .tmp 38) rfl rfl rfl EB.out _) (by rfl) ?_; try simp only [pA]
      go_big_quiet_step (fail)
      go_big_quiet_step (fail)
      go_big_quiet_step (fail)
      refine wpQuiet_nil ?_
      rintro w5 ⟨x5, e5⟩
      have hb5 := x5.b
      rw [← e5] at hb5
      go_wp2_with fail
      go_ret
      exact ⟨⟨_, rfl, Yes.out⟩, hb5⟩
    · have t5 : ((m.ty : Int) != 5) = true := by rw [bne_iff_ne]; omega
      have Yes := hid (show t.size = m.key ∧ m.ty ≠ 3 ∧ m.ty ≠ 4 ∧ (m.ty = 5 → bitsT t ≤ 8 * (m.key - 4)) from ⟨hL.trans hk, h3, h4, fun h => absurd h h5⟩)
      clear no h3 h4 h5 hk
      go_enter Tryd.func52, Tryd.ntmps52
      go_wp2
      go_quiet (fail)
      go_wp2
      go_ret
      exact ⟨⟨_, rfl, fun _ => Yes.out⟩, below_drewN (Below.refl _ _) _⟩
  · have tk : ((L : Int) == (m.key : Int)) = false := by rw [beq_eq_false_iff_ne]; omega
    have No := hid no
    clear no h3 h4 hk
    go_enter Tryd.func52, Tryd.ntmps52
    go_wp2
    go_quiet (fail)
    go_wp2
    go_ret
    exact ⟨⟨_, rfl, No.out⟩, below_drewN (Below.refl _ _) _⟩
end Go.Proofs.YtjdclgnlnehjlaaDoor
namespace Go.Proofs.YtjdclgnlnehjlaaDoor
open Go Go.RowKit
section
variable {P : Program} {a : Act} {o : Oper} {x y : Operand} {T ty : TypeId}
theorem run_quo8 {n : Nat} (ho : o.op = .binOp .quo T x y ty) (hx : a.eval x = .int .i64 (n : Int)) (hy : a.eval y = .int .i64 8) (hn : n < 1000000) (w : World) : (execOp a.eval o).run P w = .ok (.value (.int .i64 ((n / 8 : Nat) : Int))) w := by
  unfold execOp; simp only [ho, hx, hy]; clear ho hx hy; go_simp
  rw [IntKind.wrap_i64]; omega
theorem run_rem8i {n : Nat} (ho : o.op = .binOp .rem T x y ty) (hx : a.eval x = .int .i64 (n : Int)) (hy : a.eval y = .int .i64 8) (hn : n < 1000000) (w : World) : (execOp a.eval o).run P w = .ok (.value (.int .i64 ((n % 8 : Nat) : Int))) w := by
  unfold execOp; simp only [ho, hx, hy]; clear ho hx hy; go_simp
  show (n : Int).tmod ((8 : Nat) : Int) = _
  rw [← Int.ofNat_tmod]; omega
theorem run_addN {p q r : Int} (ho : o.op = .binOp .add T x y ty) (hx : a.eval x = .int .i64 p) (hy : a.eval y = .int .i64 q) (hr : p + q = r) (h0 : -1000000 ≤ r) (h1 : r < 1000000) (w : World) : (execOp a.eval o).run P w = .ok (.value (.int .i64 r)) w := by
  have e : IntKind.i64.wrap (p + q) = r := by rw [hr, IntKind.wrap_i64]; omega
  have e2 : (execOp a.eval o).run P w = .ok (.value (.int .i64 (IntKind.i64.wrap (p + q)))) w := by
    unfold execOp; simp only [ho, hx, hy]; go_simp
  rw [e2, e]
theorem run_ixT {t : TypeId} {s : ByteArray} {i : Nat} (ho : o.op = .index t x y) (ht : P.underlying t = some .string) (hx : a.eval x = .string s) (hy : a.eval y = .int .i64 (i : Int)) (hi : i < s.size) (w : World) : (execOp a.eval o).run P w = .ok (.value (.int .u8 (byT s i : Int))) w := by
  have hc : s.data.toList[i]? = some (s[i]'hi) := by
    rw [Array.getElem?_toList, ByteArray.getElem_eq_getElem_data]
    exact Array.getElem?_eq_getElem _
  have h := run_ixS (P := P) ho ht hx hy hc w
  unfold byT
  simp only [hi, dite_true]
  exact h
end
def bitT (t : ByteArray) (i : Nat) : Int := wrap64 (bits .and .u8 ((byT t (4 + i / 8) : Int) / 2 ^ (7 - i % 8)) 1)
set_option maxRecDepth 100000 in
theorem bit_any (t : ByteArray) (i : Nat) (hi : 4 + i / 8 < t.size) (h1 : i < 1000) (w : World) :
    Calls Tryd.prog 72 #[.string t, .int .i64 (i : Int)] w fun e w' => e = .returned (.int .i64 (bitT t i)) ∧ w' = w := by
  have b0 : 0 ≤ (byT t (4 + i / 8) : Int) := by omega
  have b1 : (byT t (4 + i / 8) : Int) < 256 := by have := byT_lt t (4 + i / 8); omega
  generalize hB : (byT t (4 + i / 8) : Int) = B at b0 b1
  have HB := hid hB
  have Hi := hid hi
  obtain ⟨c, hc⟩ : ∃ c : Nat, c = 7 - i % 8 := ⟨_, rfl⟩
  have c8 : c ≤ 7 := by omega
  have c0 : (0 : Int) ≤ (c : Int) := by omega
  have E12 := hid (show (7 : Int) - ((i % 8 : Nat) : Int) = (c : Int) by omega)
  have EB := hid (show bitT t i = wrap64 (bits .and .u8 (B / 2 ^ c) 1) by unfold bitT; rw [hB, hc])
  clear hB hi hc
  go_enter Tryd.func72, Tryd.ntmps72
  go_wp2_with (first
    | ((with_reducible show wpList _ _ _ (_ :: _) _ _); first
      | (refine wpl_run rfl (.int .i64 ((i / 8 : Nat) : Int)) _ (run_quo8 (x := .tmp 6) rfl rfl rfl (by omega) _) ?_; try simp only [pA])
      | (refine wpl_run rfl (.int .i64 ((4 + i / 8 : Nat) : Int)) _ (run_addN (y := .tmp 7) rfl rfl rfl (by omega) (by omega) (by omega) _) ?_; try simp only [pA])
      | (refine wpl_run rfl (.int .u8 B) _ (by rw [← HB.out]; exact run_ixT (x := .tmp 5) rfl undBS rfl rfl Hi.out _) ?_; try simp only [pA])
      | (refine wpl_run rfl (.int .i64 ((i % 8 : Nat) : Int)) _ (run_rem8i (x := .tmp 10) rfl rfl rfl (by omega) _) ?_; try simp only [pA])
      | (refine wpl_run rfl (.int .i64 (c : Int)) _ (run_subN (y := .tmp 11) rfl rfl rfl E12.out (by omega) (by omega) _) ?_; try simp only [pA]))
    | fail)
  go_ret
  exact ⟨ret_int EB.out.symm, rfl⟩
def matchT (t1 t2 : ByteArray) : Bool := if bitsT t2 < bitsT t1 then false else (List.range (bitsT t1)).all (fun i => bitT t1 i == bitT t2 i)
set_option maxRecDepth 100000 in
set_option maxHeartbeats 4000000 in
theorem match_any (t1 t2 : ByteArray) (L : Nat) (h1 : t1.size = L) (h2 : t2.size = L) (h4 : 4 ≤ L) (hL : L ≤ 16) (hb2 : bitsT t2 ≤ 8 * (L - 4)) (w : World) (N : Nat) (hN : Sz w N) :
    Calls Tryd.prog 56 #[.string t1, .string t2] w fun e w' => e = .returned (.bool (matchT t1 t2)) ∧ Below N w w' := by
  have H1 := hid h1
  have H2 := hid h2
  clear h1 h2
  by_cases hlt : bitsT t2 < bitsT t1
  · have E12 := hid (show decide ((bitsT t2 : Int) < (bitsT t1 : Int)) = true from decide_eq_true (by omega))
    have EM := hid (show matchT t1 t2 = false from if_pos hlt)
    clear hlt
    go_enter Tryd.func56, Tryd.ntmps56
    go_wp2_with (first
      | (go_at_call 57; refine (bits_any _ (by first | (rw [H1.out]; exact h4) | (rw [H2.out]; exact h4)) _).mono ?_; rintro e w1 ⟨rfl, x1, rfl⟩)
      | ((with_reducible show wpList _ _ _ (_ :: _) _ _); first
        | (refine wpl_run rfl (.bool true) _ (run_gtrK (x := .tmp 9) rfl rfl rfl E12.out _) ?_; try simp only [pA]))
      | fail)
    go_ret
    exact ⟨by rw [EM.out]; rfl, below_drewN (Below.refl _ _) _⟩
  · have E12 := hid (show decide ((bitsT t2 : Int) < (bitsT t1 : Int)) = false from decide_eq_false (by omega))
    have EM := hid (show matchT t1 t2 = (List.range (bitsT t1)).all (fun i => bitT t1 i == bitT t2 i) from if_neg hlt)
    have hn : bitsT t1 ≤ 8 * (L - 4) := by omega
    clear hlt hb2
    go_enter Tryd.func56, Tryd.ntmps56
    go_wp2_with (first
      | (go_at_call 57; refine (bits_any _ (by first | (rw [H1.out]; exact h4) | (rw [H2.out]; exact h4)) _).mono ?_; rintro e w1 ⟨rfl, x1, rfl⟩)
      | ((with_reducible show wpList _ _ _ (_ :: _) _ _); first
        | (refine wpl_run rfl (.bool false) _ (run_gtrK (x := .tmp 9) rfl rfl rfl E12.out _) ?_; try simp only [pA]))
      | fail)
    generalize bitsT t2 = n2 at *
    generalize hn1 : bitsT t1 = n1 at *
    clear hn1
    go_loopw [6] (fun x6 wr => ∃ i : Nat, x6 = .int .i64 (i : Int) ∧ i ≤ n1 ∧ Hid (∀ j, j < i → bitT t1 j = bitT t2 j) ∧ Below N w wr) (fun x6 _ => n1 - (intOf x6).toNat)
    case atStart => exact ⟨0, rfl, by omega, hid (fun j hj => absurd hj (Nat.not_lt_zero j)), below_drewN (Below.refl _ _) _⟩
    case round =>
      obtain ⟨i, rfl, hi, HJ, hb⟩ := hrel
      by_cases hlt : i < n1
      · have E15 := hid (show decide ((i : Int) < (n1 : Int)) = true from decide_eq_true (by omega))
        by_cases he : bitT t1 i = bitT t2 i
        · have E24 := hid (show (bitT t1 i != bitT t2 i) = false by rw [he]; simp)
          have HJ' := hid (show ∀ j, j < i + 1 → bitT t1 j = bitT t2 j from fun j hj => by
            by_cases e : j = i
            · rw [e]; exact he
            · exact HJ.out j (by omega))
          clear he
          go_wp2_with (first
            | (go_at_call 72; refine (bit_any _ i (by first | (rw [H1.out]; omega) | (rw [H2.out]; omega)) (by omega) _).mono ?_; rintro e w3 ⟨rfl, ew⟩; have ew2 := ew.symm; subst ew2)
            | ((with_reducible show wpList _ _ _ (_ :: _) _ _); first
              | (refine wpl_run rfl (.bool true) _ (run_lssK (x := .tmp 13) rfl rfl rfl E15.out _) ?_; try simp only [pA])
              | (refine wpl_run rfl (.bool false) _ (run_neqZ (x := .tmp 20) rfl rfl rfl E24.out _) ?_; try simp only [pA])
              | (refine wpl_run rfl (.int .i64 ((i + 1 : Nat) : Int)) _ (run_inc (x := .tmp 16) rfl rfl rfl rfl (by omega) _) ?_; try simp only [pA]))
            | fail)
          exact ⟨⟨i + 1, rfl, by omega, HJ', hb⟩, by simp [intOf]; omega⟩
        · have E24 := hid (show (bitT t1 i != bitT t2 i) = true from bne_iff_ne.2 he)
          have EF := hid (show (List.range n1).all (fun i => bitT t1 i == bitT t2 i) = false from by
            rw [List.all_eq_false]
            exact ⟨i, List.mem_range.2 hlt, by rw [beq_iff_eq]; exact he⟩)
          clear he
          go_wp2_with (first
            | (go_at_call 72; refine (bit_any _ i (by first | (rw [H1.out]; omega) | (rw [H2.out]; omega)) (by omega) _).mono ?_; rintro e w3 ⟨rfl, ew⟩; have ew2 := ew.symm; subst ew2)
            | ((with_reducible show wpList _ _ _ (_ :: _) _ _); first
              | (refine wpl_run rfl (.bool true) _ (run_lssK (x := .tmp 13) rfl rfl rfl E15.out _) ?_; try simp only [pA])
              | (refine wpl_run rfl (.bool true) _ (run_neqZ (x := .tmp 20) rfl rfl rfl E24.out _) ?_; try simp only [pA]))
            | fail)
          go_ret
          exact ⟨by rw [EM.out, EF.out]; rfl, hb⟩
      · have E15 := hid (show decide ((i : Int) < (n1 : Int)) = false from decide_eq_false (by omega))
        obtain rfl : i = n1 := by omega
        have ET := hid (show (List.range i).all (fun i => bitT t1 i == bitT t2 i) = true from by
          rw [List.all_eq_true]
          exact fun j hj => by rw [beq_iff_eq]; exact HJ.out j (List.mem_range.1 hj))
        go_wp2_with (first
          | ((with_reducible show wpList _ _ _ (_ :: _) _ _); first
            | (refine wpl_run rfl (.bool false) _ (run_lssK (x := .tmp 13) rfl rfl rfl E15.out _) ?_; try simp only [pA]))
          | fail)
        go_ret
        exact ⟨by rw [EM.out, ET.out]; rfl, hb⟩
end Go.Proofs.YtjdclgnlnehjlaaDoor
