/- Contract of rights.Bit. '==' of rights. Plain: SHA-256 on bit vectors, word by word. Nothing of the program. -/
import Derived.Test.YtilhkgbninbkkaaDoorRi2
import Derived.Test.YtilhkgbninbkkaaDoorOw2
import Derived.Deep.LoopGhost
import Derived.Laws.StructEq
import GoSem.Core.Value
namespace Go.Proofs.YtilhkgbninbkkaaDoor
open Go Go.RowKit
section
variable {P : Program} {ops : Array Oper} {rest : List Oper} {o : Oper} {a : Act} {w : World} {Q : Exit → Act → World → Prop}
end
end Go.Proofs.YtilhkgbninbkkaaDoor
namespace Go.Proofs.YtilhkgbninbkkaaDoor
open Go Go.RowKit
theorem Rg.beq_fields (a b : Rg) : a.beq b = (a.c == b.c && (a.p == b.p && (a.m == b.m && (a.h == b.h && (a.v == b.v && a.s == b.s))))) := by
  unfold Rg.beq; simp only [Bool.and_assoc]
theorem run_part_rg (e : TypeId) (d : TypeDesc) (he : Tryd.prog.underlying e = some d) (hd : (match d with | .struct _ | .array _ _ => false | _ => true) = true) (f : Nat → Value) (n i : Nat) (hi : i < n) (w : World) : (part e (cellsOf f n) i).run Tryd.prog w = .ok (f i) w := by
  have hagg : (isAgg e).run Tryd.prog w = .ok false w := by
    unfold isAgg
    rw [Sem.run_bind, run_underlying he w]
    cases d <;> simp_all
  simp [part, hagg, get_cellsOf f n i hi]
theorem und16 : Tryd.prog.underlying 22 = some (.int .u16) := by kernel_rfl
theorem undBo : Tryd.prog.underlying 4 = some .bool := by kernel_rfl
theorem run_fields_rg (d : Nat) (a b : Rg) (w : World) (fs : List Field) (h : fs.map (fun f => (f.name != "_", f.offset, f.type)) = [(true, 0, 22), (true, 1, 22), (true, 2, 22), (true, 3, 22), (true, 4, 4), (true, 5, 4)]) :
    (Op.eqFields (d + 1) (cellsOf (rgC a) 6) (cellsOf (rgC b) 6) fs).run Tryd.prog w = .ok (a.beq b) w := by
  have hl : fs.length = 6 := by have := congrArg List.length h; simpa using this
  obtain ⟨f0, f1, f2, f3, f4, f5, rfl⟩ : ∃ f0 f1 f2 f3 f4 f5, fs = [f0, f1, f2, f3, f4, f5] := by
    match fs, hl with
    | [f0, f1, f2, f3, f4, f5], _ => exact ⟨f0, f1, f2, f3, f4, f5, rfl⟩
  simp only [List.map_cons, List.map_nil, List.cons.injEq, Prod.mk.injEq, bne_iff_ne, ne_eq, and_true] at h
  obtain ⟨⟨n0, o0, t0⟩, ⟨n1, o1, t1⟩, ⟨n2, o2, t2⟩, ⟨n3, o3, t3⟩, ⟨n4, o4, t4⟩, ⟨n5, o5, t5⟩⟩ := h
  have c (i : Nat) (x y : BitVec 16) : (Op.equalIn (d + 1) 22 (Wd x) (Wd y)).run Tryd.prog w = .ok (x == y) w := by
    unfold Wd
    rw [run_equalIn_int w d 22 .u16 .u16 (u6 x) (u6 y) und16, u6_beq]
  have e (x y : Bool) : (Op.equalIn (d + 1) 4 (.bool x) (.bool y)).run Tryd.prog w = .ok (x == y) w := run_equalIn_bool w d 4 x y undBo
  have q (r : Rg) : rgC r 0 = Wd r.c ∧ rgC r 1 = Wd r.p ∧ rgC r 2 = Wd r.m ∧ rgC r 3 = Wd r.h ∧ rgC r 4 = .bool r.v ∧ rgC r 5 = .bool r.s := ⟨rfl, rfl, rfl, rfl, rfl, rfl⟩
  obtain ⟨a0, a1, a2, a3, a4, a5⟩ := q a
  obtain ⟨b0, b1, b2, b3, b4, b5⟩ := q b
  have P16 := fun f i hi w => run_part_rg 22 (.int .u16) und16 rfl f 6 i hi w
  have PB := fun f i hi w => run_part_rg 4 .bool undBo rfl f 6 i hi w
  rw [Rg.beq_fields]
  simp only [Op.eqFields, n0, n1, n2, n3, n4, n5, o0, o1, o2, o3, o4, o5, t0, t1, t2, t3, t4, t5, not_false_eq_true, if_true, ne_eq, Sem.run_bind, P16 _ 0 (by omega), P16 _ 1 (by omega), P16 _ 2 (by omega), P16 _ 3 (by omega), PB _ 4 (by omega), PB _ 5 (by omega), Result.andThen_ok,
    a0, a1, a2, a3, a4, a5, b0, b1, b2, b3, b4, b5, c 0, e]
  cases h0 : a.c == b.c <;> cases h1 : a.p == b.p <;> cases h2 : a.m == b.m <;> cases h3 : a.h == b.h <;> cases h4 : a.v == b.v <;> cases h5 : a.s == b.s <;>
    simp [P16 _ 1 (by omega), P16 _ 2 (by omega), P16 _ 3 (by omega), PB _ 4 (by omega), PB _ 5 (by omega), a1, a2, a3, a4, a5, b1, b2, b3, b4, b5, c 0, e, *]
theorem run_eq_rr (a b : Rg) (w : World) : (Op.equalIn 10000 26 (.agg (cellsOf (rgC a) 6)) (.agg (cellsOf (rgC b) 6))).run Tryd.prog w = .ok (a.beq b) w := by
  rw [run_equalIn_struct w 9999 26 _ _ (by kernel_rfl) (by kernel_rfl)]
  exact run_fields_rg 9998 a b w _ (by kernel_rfl)
theorem run_neq_op {P : Program} {a : Act} {w : World} {o : Oper} (t ty : TypeId) (x y : Operand) (ho : o.op = .binOp .neq t x y ty) (A B : Array Value) (hx : a.eval x = .agg A) (hy : a.eval y = .agg B) (r : Bool) (hm : P.eqGuardType P.depth t = false) (h : (Op.equalIn 10000 t (.agg A) (.agg B)).run P w = .ok r w) :
    (execOp a.eval o).run P w = .ok (.value (.bool (!r))) w := by
  unfold execOp
  simp only [ho, hx, hy, Sem.run_bind, run_eqGuard_agg w _ t x y A B hm, run_neq_struct, h, Result.andThen_ok, Sem.run_pure]
end Go.Proofs.YtilhkgbninbkkaaDoor
namespace Go.Proofs.YtilhkgbninbkkaaDoor.Sha
abbrev W32 := BitVec 32
def rr (x : W32) (n : Nat) : W32 := x >>> n ||| x <<< (32 - n)
def bs0 (x : W32) : W32 := rr x 2 ^^^ rr x 13 ^^^ rr x 22
def bs1 (x : W32) : W32 := rr x 6 ^^^ rr x 11 ^^^ rr x 25
def ss0 (x : W32) : W32 := rr x 7 ^^^ rr x 18 ^^^ x >>> 3
def ss1 (x : W32) : W32 := rr x 17 ^^^ rr x 19 ^^^ x >>> 10
structure S8 where
  a : W32
  b : W32
  c : W32
  d : W32
  e : W32
  f : W32
  g : W32
  h : W32
def t1 (s : S8) (k w : W32) : W32 := s.h + bs1 s.e + (s.e &&& s.f ^^^ ~~~s.e &&& s.g) + k + w
def t2 (s : S8) : W32 := bs0 s.a + (s.a &&& s.b ^^^ s.a &&& s.c ^^^ s.b &&& s.c)
def round (s : S8) (k w : W32) : S8 := ⟨t1 s k w + t2 s, s.a, s.b, s.c, s.d + t1 s k w, s.e, s.f, s.g⟩
def run (K W : Nat → W32) (s : S8) : Nat → S8
  | 0 => s
  | k + 1 => round (run K W s k) (K k) (W k)
def S8.word (s : S8) : Nat → W32
  | 0 => s.a
  | 1 => s.b
  | 2 => s.c
  | 3 => s.d
  | 4 => s.e
  | 5 => s.f
  | 6 => s.g
  | _ => s.h
def s8 (h : Nat → W32) : S8 := ⟨h 0, h 1, h 2, h 3, h 4, h 5, h 6, h 7⟩
/-- The words of a block, byte by byte. -/
def pw (B : Nat → BitVec 8) : Nat → Nat → W32
  | 0, _ => 0
  | i + 1, j => if j = i / 4 then pw B i j <<< 8 ||| (B i).setWidth 32 else pw B i j
/-- The words behind them, one by one. -/
def sc (B : Nat → BitVec 8) : Nat → Nat → W32
  | 0, j => pw B 64 j
  | n + 1, j => if j = 16 + n then ss1 (sc B n (n + 14)) + sc B n (n + 9) + ss0 (sc B n (n + 1)) + sc B n n else sc B n j
def sched (B : Nat → BitVec 8) (j : Nat) : W32 := sc B 48 j
/-- The first 32 bits behind the point of the square roots of the first eight primes. -/
def hL : List Nat := [1779033703, 3144134277, 1013904242, 2773480762, 1359893119, 2600822924, 528734635, 1541459225]
/-- .. of the cube roots of the first 64 primes. -/
def kL : List Nat := [1116352408, 1899447441, 3049323471, 3921009573, 961987163, 1508970993, 2453635748, 2870763221, 3624381080, 310598401, 607225278, 1426881987, 1925078388, 2162078206, 2614888103, 3248222580, 3835390401, 4022224774, 264347078, 604807628, 770255983, 1249150122, 1555081692, 1996064986, 2554220882, 2821834349, 2952996808, 3210313671, 3336571891, 3584528711, 113926993, 338241895, 666307205, 773529912, 1294757372, 1396182291, 1695183700, 1986661051, 2177026350, 2456956037, 2730485921, 2820302411, 3259730800, 3345764771, 3516065817, 3600352804, 4094571909, 275423344, 430227734, 506948616, 659060556, 883997877, 958139571, 1322822218, 1537002063, 1747873779, 1955562222, 2024104815, 2227730452, 2361852424, 2428436474, 2756734187, 3204031479, 3329325298]
def Hc (j : Nat) : W32 := BitVec.ofNat 32 (hL.getD j 0)
def Kc (j : Nat) : W32 := BitVec.ofNat 32 (kL.getD j 0)
/-- The sum so far, with one more block. -/
def comp (H : Nat → W32) (B : Nat → BitVec 8) (j : Nat) : W32 := H j + (run Kc (sched B) (s8 H) 64).word j
/-- A sum that comes piece by piece: the words, the block, how many bytes of it are filled. -/
structure Run where
  H : Nat → W32
  B : Nat → BitVec 8
  f : Nat
def put1 (B : Nat → BitVec 8) (f : Nat) (x : BitVec 8) : Nat → BitVec 8 := fun j => if j = f then x else B j
def feed1 (s : Run) (x : BitVec 8) : Run := if s.f + 1 = 64 then ⟨comp s.H (put1 s.B s.f x), put1 s.B s.f x, 0⟩ else ⟨s.H, put1 s.B s.f x, s.f + 1⟩
/-- n bytes more. -/
def feed (s : Run) (D : Nat → BitVec 8) : Nat → Run
  | 0 => s
  | n + 1 => feed1 (feed s D n) (D n)
def putN (B : Nat → BitVec 8) (f : Nat) (D : Nat → BitVec 8) (n : Nat) : Nat → BitVec 8 := fun j => if f ≤ j ∧ j < f + n then D (j - f) else B j
theorem feed_f (s : Run) (D : Nat → BitVec 8) (h : s.f < 64) : ∀ n, (feed s D n).f < 64
  | 0 => h
  | n + 1 => by
    have := feed_f s D h n
    simp only [feed, feed1]
    split
    · exact Nat.zero_lt_succ 63
    · show (feed s D n).f + 1 < 64; omega
theorem putN_zero (B : Nat → BitVec 8) (f : Nat) (D : Nat → BitVec 8) : putN B f D 0 = B := by
  funext j; simp only [putN]; rw [if_neg (by omega)]
theorem putN_succ (B : Nat → BitVec 8) (f : Nat) (D : Nat → BitVec 8) (n : Nat) : put1 (putN B f D n) (f + n) (D n) = putN B f D (n + 1) := by
  funext j
  simp only [put1, putN]
  by_cases h : j = f + n
  · subst h; rw [if_pos rfl, if_pos (by omega), show f + n - f = n from by omega]
  · rw [if_neg h]
    by_cases h2 : f ≤ j ∧ j < f + n
    · rw [if_pos h2, if_pos (by omega)]
    · rw [if_neg h2, if_neg (by omega)]
/-- A piece that doesn't end the block. -/
theorem feed_short (s : Run) (D : Nat → BitVec 8) : ∀ n, s.f + n < 64 → feed s D n = ⟨s.H, putN s.B s.f D n, s.f + n⟩
  | 0, _ => by rw [putN_zero]; rfl
  | n + 1, h => by
    rw [feed, feed_short s D n (by omega), feed1, if_neg (by show s.f + n + 1 ≠ 64; omega)]
    show Run.mk s.H (put1 (putN s.B s.f D n) (s.f + n) (D n)) (s.f + n + 1) = _
    rw [putN_succ]; rfl
/-- A piece that ends it. -/
theorem feed_full (s : Run) (D : Nat → BitVec 8) (n : Nat) (h0 : 0 < n) (h : s.f + n = 64) : feed s D n = ⟨comp s.H (putN s.B s.f D n), putN s.B s.f D n, 0⟩ := by
  obtain ⟨m, rfl⟩ : ∃ m, n = m + 1 := ⟨n - 1, by omega⟩
  rw [feed, feed_short s D m (by omega), feed1, if_pos (by show s.f + m + 1 = 64; omega)]
  show Run.mk (comp s.H (put1 (putN s.B s.f D m) (s.f + m) (D m))) (put1 (putN s.B s.f D m) (s.f + m) (D m)) 0 = _
  rw [putN_succ]
theorem feed_add (s : Run) (D : Nat → BitVec 8) (m : Nat) : ∀ n, feed s D (m + n) = feed (feed s D m) (fun j => D (m + j)) n
  | 0 => rfl
  | n + 1 => by rw [show m + (n + 1) = (m + n) + 1 from rfl, feed, feed_add s D m n]; rfl
/-- A number's 8 bytes, the highest first. -/
def be8 (n j : Nat) : BitVec 8 := BitVec.ofNat 8 (n / 2 ^ (56 - 8 * j))
/-- n noughts more. -/
def zer (s : Run) : Nat → Run
  | 0 => s
  | n + 1 => feed1 (zer s n) 0
theorem feed1_f (s : Run) (x : BitVec 8) (h : s.f < 64) : (feed1 s x).f = (s.f + 1) % 64 := by
  unfold feed1
  split
  · show 0 = _; omega
  · show s.f + 1 = _; omega
theorem zer_f (s : Run) (h : s.f < 64) : ∀ n, (zer s n).f = (s.f + n) % 64
  | 0 => by show s.f = _; omega
  | n + 1 => by
    have ih := zer_f s h n
    rw [zer, feed1_f _ _ (by rw [ih]; omega), ih]; omega
/-- What stands behind the message: a byte 80, noughts, the count of bits. -/
def closed (s : Run) (L : Nat) : Run := feed (zer (feed1 s 0x80) ((120 - (feed1 s 0x80).f) % 64)) (be8 (8 * L)) 8
/-- A sum's bytes. -/
def wordByte (H : Nat → W32) (j : Nat) : BitVec 8 := BitVec.ofNat 8 ((H (j / 4)).toNat / 2 ^ (24 - 8 * (j % 4)))
def sumByte (s : Run) (L : Nat) (j : Nat) : BitVec 8 := wordByte (closed s L).H j
end Go.Proofs.YtilhkgbninbkkaaDoor.Sha
