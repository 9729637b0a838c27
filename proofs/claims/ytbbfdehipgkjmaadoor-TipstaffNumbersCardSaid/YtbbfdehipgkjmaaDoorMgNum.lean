/- Plain: Refine keeps the numbers that it must; nothing else comes in. Plain: SHA-256 on bit vectors, word by word. Nothing of the program. Plain: the words of 32 bits as the walk spells them. Nothing of the program. -/
import Derived.Test.YtbbfdehipgkjmaaDoorBr22
import Derived.Test.YtbbfdehipgkjmaaDoorBr21
import GoSem.Core.Value
import Derived.WalkKit
namespace Go.Proofs.YtbbfdehipgkjmaaDoor
/-- What is so of the numbers, where a comparison is to hold, or not. -/
def whatF (op : Int) (l : Bool) (h : Bool) (a b : Rn) : Int := bif (!l && !(aslF op a b)) then 0 else (bif h then op else oppF op)
theorem ref_eq (op : Int) (l : Bool) (a b : Rn) (h : Bool) : refF op l a b h =
    bif (!(nearF a).2 || (!(nearF b).2 || (h && (oppF op == 0)))) then (zeroR, zeroR, false)
    else bif aloneF (nearF a).1 && aloneF (nearF b).1 then bothF (nearF a).1 (nearF b).1 (holF op l (nearF a).1.lo (nearF b).1.lo == h)
    else bif (bndF (whatF op l h (nearF a).1 (nearF b).1) (nearF a).1 (nearF b).1).2.2 then bothF (settleF (bndF (whatF op l h (nearF a).1 (nearF b).1) (nearF a).1 (nearF b).1).1).1 (settleF (bndF (whatF op l h (nearF a).1 (nearF b).1) (nearF a).1 (nearF b).1).2.1).1 ((settleF (bndF (whatF op l h (nearF a).1 (nearF b).1) (nearF a).1 (nearF b).1).1).2 && (settleF (bndF (whatF op l h (nearF a).1 (nearF b).1) (nearF a).1 (nearF b).1).2.1).2)
    else (zeroR, zeroR, false) := by
  unfold refF whatF
  cases (!(nearF a).2 || (!(nearF b).2 || (h && (oppF op == 0))))
  · cases (aloneF (nearF a).1 && aloneF (nearF b).1)
    · cases (bndF (bif (!l && !(aslF op (nearF a).1 (nearF b).1)) then 0 else (bif h then op else oppF op)) (nearF a).1 (nearF b).1).2.2
      · rfl
      · cases (settleF (bndF (bif (!l && !(aslF op (nearF a).1 (nearF b).1)) then 0 else (bif h then op else oppF op)) (nearF a).1 (nearF b).1).1).2 <;> rfl
    · rfl
  · rfl
theorem what_wt {op : Int} {l h : Bool} {a b : Rn} {x y : W} (ha : In a x) (hb : In b y) (hh : holF op l x y = h) : Wt (whatF op l h a b) x y := by
  unfold whatF
  cases l
  · cases hs : aslF op a b
    · trivial
    · rw [Bool.not_true, Bool.and_false, cond_false]
      rw [hol_long ha hb hs] at hh
      exact hol_wt op hh
  · exact hol_wt op hh
/-- Where a comparison holds, or does not, the numbers are in what is told. -/
theorem ref_in {op : Int} {l h : Bool} {a b : Rn} {x y : W} (ha : In a x) (hb : In b y) (hh : holF op l x y = h) : (refF op l a b h).2.2 = true ∧ In (refF op l a b h).1 x ∧ In (refF op l a b h).2.1 y := by
  obtain ⟨a1, a2⟩ := near_in ha
  obtain ⟨b1, b2⟩ := near_in hb
  have c1 : (!(nearF a).2 || (!(nearF b).2 || (h && (oppF op == 0)))) = false := by
    rw [a1, b1]
    cases h
    · rfl
    · rw [hol_opp hh]; rfl
  rw [ref_eq, c1, cond_false]
  cases c2 : (aloneF (nearF a).1 && aloneF (nearF b).1)
  · rw [cond_false]
    obtain ⟨d1, d2, d3⟩ := bnd_in (what_wt a2 b2 hh) a2 b2
    obtain ⟨e1, e2⟩ := settle_in d2
    obtain ⟨f1, f2⟩ := settle_in d3
    rw [d1, cond_true, e1, f1]
    exact ⟨rfl, e2, f2⟩
  · rw [cond_true]
    rw [Bool.and_eq_true] at c2
    have g1 := congrArg qn (beq_iff_eq.1 (show ((nearF a).1.lo == (nearF a).1.hi) = true from c2.1))
    have g2 := congrArg qn (beq_iff_eq.1 (show ((nearF b).1.lo == (nearF b).1.hi) = true from c2.2))
    have k1 : (nearF a).1.lo = x := qn_inj (by have := a2.lo; have := a2.hi; omega)
    have k2 : (nearF b).1.lo = y := qn_inj (by have := b2.lo; have := b2.hi; omega)
    rw [k1, k2, hh, beq_self_eq_true]
    exact ⟨rfl, a2, b2⟩
/-- Nothing else comes in. -/
theorem ref_nar {op : Int} {l h : Bool} {a b : Rn} (ok : (refF op l a b h).2.2 = true) : Nar (refF op l a b h).1 a ∧ Nar (refF op l a b h).2.1 b := by
  rw [ref_eq] at ok ⊢
  cases c1 : (!(nearF a).2 || (!(nearF b).2 || (h && (oppF op == 0))))
  · rw [c1, cond_false] at ok
    rw [cond_false]
    have a1 : (nearF a).2 = true := by revert c1; cases (nearF a).2 <;> simp
    have b1 : (nearF b).2 = true := by revert c1; cases (nearF b).2 <;> simp
    obtain ⟨n1, n2, n3, n4⟩ := near_nar a1
    obtain ⟨m1, m2, m3, m4⟩ := near_nar b1
    cases c2 : (aloneF (nearF a).1 && aloneF (nearF b).1)
    · rw [c2, cond_false] at ok
      rw [cond_false]
      cases c3 : (bndF (whatF op l h (nearF a).1 (nearF b).1) (nearF a).1 (nearF b).1).2.2
      · rw [c3] at ok; cases ok
      · rw [c3, cond_true] at ok
        rw [cond_true]
        obtain ⟨p1, p2⟩ := bnd_nar n2 m2 n4 m4 c2 c3
        generalize bndF (whatF op l h (nearF a).1 (nearF b).1) (nearF a).1 (nearF b).1 = q at *
        cases s1 : (settleF q.1).2
        · rw [s1] at ok; cases ok
        cases s2 : (settleF q.2.1).2
        · rw [s1, s2] at ok; cases ok
        obtain ⟨u1, u2, u3, _, _⟩ := settle_nar s1
        obtain ⟨v1, v2, v3, _, _⟩ := settle_nar s2
        exact ⟨(u1.trans p1 u3 n2).trans n1 n2 n3, (v1.trans p2 v3 m2).trans m1 m2 m3⟩
    · rw [c2, cond_true] at ok
      rw [cond_true]
      unfold bothF at ok ⊢
      cases c4 : (holF op l (nearF a).1.lo (nearF b).1.lo == h)
      · rw [c4] at ok; cases ok
      · rw [cond_true]; exact ⟨n1, m1⟩
  · rw [c1] at ok; cases ok
end Go.Proofs.YtbbfdehipgkjmaaDoor
namespace Go.Proofs.YtbbfdehipgkjmaaDoor.Sha
abbrev W32 := BitVec 32
def rr (x : W32) (n : Nat) : W32 := x >>> n ||| x <<< (32 - n)
def bs0 (x : W32) : W32 := rr x 2 ^^^ rr x 13 ^^^ rr x 22
def bs1 (x : W32) : W32 := rr x 6 ^^^ rr x 11 ^^^ rr x 25
def ss0 (x : W32) : W32 := rr x 7 ^^^ rr x 18 ^^^ x >>> 3
def ss1 (x : W32) : W32 := rr x 17 ^^^ rr x 19 ^^^ x >>> 10
structure S8 where
  a : W32
  b : W32
  c : W32
  d : W32
  e : W32
  f : W32
  g : W32
  h : W32
def t1 (s : S8) (k w : W32) : W32 := s.h + bs1 s.e + (s.e &&& s.f ^^^ ~~~s.e &&& s.g) + k + w
def t2 (s : S8) : W32 := bs0 s.a + (s.a &&& s.b ^^^ s.a &&& s.c ^^^ s.b &&& s.c)
def round (s : S8) (k w : W32) : S8 := ⟨t1 s k w + t2 s, s.a, s.b, s.c, s.d + t1 s k w, s.e, s.f, s.g⟩
def run (K W : Nat → W32) (s : S8) : Nat → S8
  | 0 => s
  | k + 1 => round (run K W s k) (K k) (W k)
def S8.word (s : S8) : Nat → W32
  | 0 => s.a
  | 1 => s.b
  | 2 => s.c
  | 3 => s.d
  | 4 => s.e
  | 5 => s.f
  | 6 => s.g
  | _ => s.h
def s8 (h : Nat → W32) : S8 := ⟨h 0, h 1, h 2, h 3, h 4, h 5, h 6, h 7⟩
/-- The words of a block, byte by byte. -/
def pw (B : Nat → BitVec 8) : Nat → Nat → W32
  | 0, _ => 0
  | i + 1, j => if j = i / 4 then pw B i j <<< 8 ||| (B i).setWidth 32 else pw B i j
/-- The words behind them, one by one. -/
def sc (B : Nat → BitVec 8) : Nat → Nat → W32
  | 0, j => pw B 64 j
  | n + 1, j => if j = 16 + n then ss1 (sc B n (n + 14)) + sc B n (n + 9) + ss0 (sc B n (n + 1)) + sc B n n else sc B n j
def sched (B : Nat → BitVec 8) (j : Nat) : W32 := sc B 48 j
/-- The first 32 bits behind the point of the square roots of the first eight primes. -/
def hL : List Nat := [1779033703, 3144134277, 1013904242, 2773480762, 1359893119, 2600822924, 528734635, 1541459225]
/-- .. of the cube roots of the first 64 primes. -/
def kL : List Nat := [1116352408, 1899447441, 3049323471, 3921009573, 961987163, 1508970993, 2453635748, 2870763221, 3624381080, 310598401, 607225278, 1426881987, 1925078388, 2162078206, 2614888103, 3248222580, 3835390401, 4022224774, 264347078, 604807628, 770255983, 1249150122, 1555081692, 1996064986, 2554220882, 2821834349, 2952996808, 3210313671, 3336571891, 3584528711, 113926993, 338241895, 666307205, 773529912, 1294757372, 1396182291, 1695183700, 1986661051, 2177026350, 2456956037, 2730485921, 2820302411, 3259730800, 3345764771, 3516065817, 3600352804, 4094571909, 275423344, 430227734, 506948616, 659060556, 883997877, 958139571, 1322822218, 1537002063, 1747873779, 1955562222, 2024104815, 2227730452, 2361852424, 2428436474, 2756734187, 3204031479, 3329325298]
def Hc (j : Nat) : W32 := BitVec.ofNat 32 (hL.getD j 0)
def Kc (j : Nat) : W32 := BitVec.ofNat 32 (kL.getD j 0)
/-- The sum so far, with one more block. -/
def comp (H : Nat → W32) (B : Nat → BitVec 8) (j : Nat) : W32 := H j + (run Kc (sched B) (s8 H) 64).word j
/-- A sum that comes piece by piece: the words, the block, how many bytes of it are filled. -/
structure Run where
  H : Nat → W32
  B : Nat → BitVec 8
  f : Nat
def put1 (B : Nat → BitVec 8) (f : Nat) (x : BitVec 8) : Nat → BitVec 8 := fun j => if j = f then x else B j
def feed1 (s : Run) (x : BitVec 8) : Run := if s.f + 1 = 64 then ⟨comp s.H (put1 s.B s.f x), put1 s.B s.f x, 0⟩ else ⟨s.H, put1 s.B s.f x, s.f + 1⟩
/-- n bytes more. -/
def feed (s : Run) (D : Nat → BitVec 8) : Nat → Run
  | 0 => s
  | n + 1 => feed1 (feed s D n) (D n)
def putN (B : Nat → BitVec 8) (f : Nat) (D : Nat → BitVec 8) (n : Nat) : Nat → BitVec 8 := fun j => if f ≤ j ∧ j < f + n then D (j - f) else B j
theorem feed_f (s : Run) (D : Nat → BitVec 8) (h : s.f < 64) : ∀ n, (feed s D n).f < 64
  | 0 => h
  | n + 1 => by
    have := feed_f s D h n
    simp only [feed, feed1]
    split
    · exact Nat.zero_lt_succ 63
    · show (feed s D n).f + 1 < 64; omega
theorem putN_zero (B : Nat → BitVec 8) (f : Nat) (D : Nat → BitVec 8) : putN B f D 0 = B := by
  funext j; simp only [putN]; rw [if_neg (by omega)]
theorem putN_succ (B : Nat → BitVec 8) (f : Nat) (D : Nat → BitVec 8) (n : Nat) : put1 (putN B f D n) (f + n) (D n) = putN B f D (n + 1) := by
  funext j
  simp only [put1, putN]
  by_cases h : j = f + n
  · subst h; rw [if_pos rfl, if_pos (by omega), show f + n - f = n from by omega]
  · rw [if_neg h]
    by_cases h2 : f ≤ j ∧ j < f + n
    · rw [if_pos h2, if_pos (by omega)]
    · rw [if_neg h2, if_neg (by omega)]
/-- A piece that doesn't end the block. -/
theorem feed_short (s : Run) (D : Nat → BitVec 8) : ∀ n, s.f + n < 64 → feed s D n = ⟨s.H, putN s.B s.f D n, s.f + n⟩
  | 0, _ => by rw [putN_zero]; rfl
  | n + 1, h => by
    rw [feed, feed_short s D n (by omega), feed1, if_neg (by show s.f + n + 1 ≠ 64; omega)]
    show Run.mk s.H (put1 (putN s.B s.f D n) (s.f + n) (D n)) (s.f + n + 1) = _
    rw [putN_succ]; rfl
/-- A piece that ends it. -/
theorem feed_full (s : Run) (D : Nat → BitVec 8) (n : Nat) (h0 : 0 < n) (h : s.f + n = 64) : feed s D n = ⟨comp s.H (putN s.B s.f D n), putN s.B s.f D n, 0⟩ := by
  obtain ⟨m, rfl⟩ : ∃ m, n = m + 1 := ⟨n - 1, by omega⟩
  rw [feed, feed_short s D m (by omega), feed1, if_pos (by show s.f + m + 1 = 64; omega)]
  show Run.mk (comp s.H (put1 (putN s.B s.f D m) (s.f + m) (D m))) (put1 (putN s.B s.f D m) (s.f + m) (D m)) 0 = _
  rw [putN_succ]
theorem feed_add (s : Run) (D : Nat → BitVec 8) (m : Nat) : ∀ n, feed s D (m + n) = feed (feed s D m) (fun j => D (m + j)) n
  | 0 => rfl
  | n + 1 => by rw [show m + (n + 1) = (m + n) + 1 from rfl, feed, feed_add s D m n]; rfl
/-- A number's 8 bytes, the highest first. -/
def be8 (n j : Nat) : BitVec 8 := BitVec.ofNat 8 (n / 2 ^ (56 - 8 * j))
/-- n noughts more. -/
def zer (s : Run) : Nat → Run
  | 0 => s
  | n + 1 => feed1 (zer s n) 0
theorem feed1_f (s : Run) (x : BitVec 8) (h : s.f < 64) : (feed1 s x).f = (s.f + 1) % 64 := by
  unfold feed1
  split
  · show 0 = _; omega
  · show s.f + 1 = _; omega
theorem zer_f (s : Run) (h : s.f < 64) : ∀ n, (zer s n).f = (s.f + n) % 64
  | 0 => by show s.f = _; omega
  | n + 1 => by
    have ih := zer_f s h n
    rw [zer, feed1_f _ _ (by rw [ih]; omega), ih]; omega
/-- What stands behind the message: a byte 80, noughts, the count of bits. -/
def closed (s : Run) (L : Nat) : Run := feed (zer (feed1 s 0x80) ((120 - (feed1 s 0x80).f) % 64)) (be8 (8 * L)) 8
/-- A sum's bytes. -/
def wordByte (H : Nat → W32) (j : Nat) : BitVec 8 := BitVec.ofNat 8 ((H (j / 4)).toNat / 2 ^ (24 - 8 * (j % 4)))
def sumByte (s : Run) (L : Nat) (j : Nat) : BitVec 8 := wordByte (closed s L).H j
end Go.Proofs.YtbbfdehipgkjmaaDoor.Sha
namespace Go.Proofs.YtbbfdehipgkjmaaDoor
open Go Sha
def u (x : W32) : Int := (x.toNat : Int)
theorem u_lo (x : W32) : 0 ≤ u x := by unfold u; omega
theorem u_hi (x : W32) : u x < 4294967296 := by unfold u; have := x.isLt; omega
def U (x : W32) : Value := .int .u32 (u x)
def v8 (x : BitVec 8) : Int := (x.toNat : Int)
theorem v8_lo (x : BitVec 8) : 0 ≤ v8 x := by unfold v8; omega
theorem v8_hi (x : BitVec 8) : v8 x < 256 := by unfold v8; have := x.isLt; omega
def By (x : BitVec 8) : Value := .int .u8 (v8 x)
theorem ofInt_u (x : W32) : BitVec.ofInt 32 (u x) = x := by
  apply BitVec.eq_of_toNat_eq; rw [BitVec.toNat_ofInt]; unfold u; have := x.isLt; omega
theorem mod_u (x : Int) : x % 4294967296 = u (BitVec.ofInt 32 x) := by
  unfold u; rw [BitVec.toNat_ofInt]; omega
theorem xor_u (a b : W32) : bits .xor .u32 (u a) (u b) = u (a ^^^ b) := by
  unfold u; rw [BitVec.toNat_xor]; exact u32_xor_nat _ _ a.isLt b.isLt
theorem and_u (a b : W32) : bits .and .u32 (u a) (u b) = u (a &&& b) := by
  unfold u; rw [BitVec.toNat_and]; exact u32_and_nat _ _ a.isLt b.isLt
theorem or_u (a b : W32) : bits .or .u32 (u a) (u b) = u (a ||| b) := by
  unfold u; rw [BitVec.toNat_or]; exact u32_or_nat _ _ a.isLt b.isLt
theorem not_u (a : W32) : bits .xor .u32 (if IntKind.u32.signed = true then -1 else IntKind.u32.max) (u a) = u (~~~a) := by
  have e : (if IntKind.u32.signed = true then -1 else IntKind.u32.max) = u (BitVec.allOnes 32) := by decide
  rw [e, xor_u, BitVec.allOnes_xor]
theorem round_t1 (s : S8) (k w : W32) : (u s.h + bits BinOp.xor IntKind.u32 (bits BinOp.xor IntKind.u32 (u (rr s.e 6)) (u (rr s.e 11))) (u (rr s.e 25)) +
      bits BinOp.xor IntKind.u32 (bits BinOp.and IntKind.u32 (u s.e) (u s.f)) (bits BinOp.and IntKind.u32 (bits BinOp.xor IntKind.u32 (if IntKind.u32.signed = true then -1 else IntKind.u32.max) (u s.e)) (u s.g)) + u k + u w) % 4294967296 = u (t1 s k w) := by
  rw [not_u, mod_u]
  simp only [xor_u, and_u, BitVec.ofInt_add, ofInt_u]
  rfl
theorem round_t2 (s : S8) : (bits BinOp.xor IntKind.u32 (bits BinOp.xor IntKind.u32 (u (rr s.a 2)) (u (rr s.a 13))) (u (rr s.a 22)) +
      bits BinOp.xor IntKind.u32 (bits BinOp.xor IntKind.u32 (bits BinOp.and IntKind.u32 (u s.a) (u s.b)) (bits BinOp.and IntKind.u32 (u s.a) (u s.c))) (bits BinOp.and IntKind.u32 (u s.b) (u s.c))) % 4294967296 = u (t2 s) := by
  rw [mod_u]
  simp only [xor_u, and_u, BitVec.ofInt_add, ofInt_u]
  rfl
theorem add_u (a b : W32) : (u a + u b) % 4294967296 = u (a + b) := by
  rw [mod_u]; simp only [BitVec.ofInt_add, ofInt_u]
theorem rr_walk (x : W32) (n : Nat) : bits .or .u32 (u x / 2 ^ n) (u x * 2 ^ (32 - n) % 4294967296) = u (rr x n) := by
  have e1 : u x / 2 ^ n = u (x >>> n) := by
    unfold u; rw [BitVec.toNat_ushiftRight, Nat.shiftRight_eq_div_pow]; simp
  have e2 : u x * 2 ^ (32 - n) % 4294967296 = u (x <<< (32 - n)) := by
    unfold u; rw [BitVec.toNat_shiftLeft, Nat.shiftLeft_eq]; simp
  rw [e1, e2, or_u]; rfl
theorem shl8_or (X : W32) (b : BitVec 8) : bits .or .u32 (u X * 256 % 4294967296) (v8 b % 4294967296) = u (X <<< 8 ||| b.setWidth 32) := by
  have e1 : u X * (256 : Int) % (4294967296 : Int) = u (X <<< 8) := by
    unfold u; rw [BitVec.toNat_shiftLeft, Nat.shiftLeft_eq]; simp
  have e2 : v8 b % (4294967296 : Int) = u (b.setWidth 32) := by
    unfold u v8; rw [BitVec.toNat_setWidth]; simp
  rw [e1, e2, or_u]
theorem ss0_walk (x : W32) : bits BinOp.xor IntKind.u32 (bits BinOp.xor IntKind.u32 (u (rr x 7)) (u (rr x 18))) (u x / (8 : Int)) = u (ss0 x) := by
  have e : u x / (8 : Int) = u (x >>> 3) := by
    unfold u; rw [BitVec.toNat_ushiftRight, Nat.shiftRight_eq_div_pow]; simp
  rw [e, xor_u, xor_u]; rfl
theorem ss1_walk (x : W32) : bits BinOp.xor IntKind.u32 (bits BinOp.xor IntKind.u32 (u (rr x 17)) (u (rr x 19))) (u x / (1024 : Int)) = u (ss1 x) := by
  have e : u x / (1024 : Int) = u (x >>> 10) := by
    unfold u; rw [BitVec.toNat_ushiftRight, Nat.shiftRight_eq_div_pow]; simp
  rw [e, xor_u, xor_u]; rfl
theorem sc_walk (B : Nat → BitVec 8) (t : Nat) (ht : 16 ≤ t) : (bits BinOp.xor IntKind.u32 (bits BinOp.xor IntKind.u32 (u (rr (sc B (t - 16) (t - 2)) 17)) (u (rr (sc B (t - 16) (t - 2)) 19))) (u (sc B (t - 16) (t - 2)) / (1024 : Int)) +
      u (sc B (t - 16) (t - 7)) + bits BinOp.xor IntKind.u32 (bits BinOp.xor IntKind.u32 (u (rr (sc B (t - 16) (t - 15)) 7)) (u (rr (sc B (t - 16) (t - 15)) 18))) (u (sc B (t - 16) (t - 15)) / (8 : Int)) +
      u (sc B (t - 16) (t - 16))) % (4294967296 : Int) = u (sc B (t + 1 - 16) t) := by
  obtain ⟨n, rfl⟩ : ∃ n, t = n + 16 := ⟨t - 16, by omega⟩
  rw [ss0_walk, ss1_walk, mod_u]
  rw [show n + 16 + 1 - 16 = n + 1 from by omega, show n + 16 - 16 = n from by omega, show n + 16 - 2 = n + 14 from by omega, show n + 16 - 7 = n + 9 from by omega, show n + 16 - 15 = n + 1 from by omega]
  simp only [BitVec.ofInt_add, ofInt_u]
  rw [show sc B (n + 1) (n + 16) = ss1 (sc B n (n + 14)) + sc B n (n + 9) + ss0 (sc B n (n + 1)) + sc B n n from by rw [sc, if_pos (by omega)]]
theorem sc_other (B : Nat → BitVec 8) (t j : Nat) (ht : 16 ≤ t) (hj : j ≠ t) : sc B (t + 1 - 16) j = sc B (t - 16) j := by
  obtain ⟨n, rfl⟩ : ∃ n, t = n + 16 := ⟨t - 16, by omega⟩
  rw [show n + 16 + 1 - 16 = n + 1 from by omega, show n + 16 - 16 = n from by omega, sc, if_neg (by omega)]
theorem int_congr {k : IntKind} {a b : Int} (h : a = b) : Value.int k a = Value.int k b := by rw [h]
end Go.Proofs.YtbbfdehipgkjmaaDoor
