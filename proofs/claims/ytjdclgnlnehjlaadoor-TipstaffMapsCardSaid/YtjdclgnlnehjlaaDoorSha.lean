/- Plain: SHA-256 on bit vectors, word by word. Nothing of the program. -/
import GoSem.Core.Value
namespace Go.Proofs.YtjdclgnlnehjlaaDoor.Sha
abbrev W32 := BitVec 32
def rr (x : W32) (n : Nat) : W32 := x >>> n ||| x <<< (32 - n)
def bs0 (x : W32) : W32 := rr x 2 ^^^ rr x 13 ^^^ rr x 22
def bs1 (x : W32) : W32 := rr x 6 ^^^ rr x 11 ^^^ rr x 25
def ss0 (x : W32) : W32 := rr x 7 ^^^ rr x 18 ^^^ x >>> 3
def ss1 (x : W32) : W32 := rr x 17 ^^^ rr x 19 ^^^ x >>> 10
structure S8 where
  a : W32
  b : W32
  c : W32
  d : W32
  e : W32
  f : W32
  g : W32
  h : W32
def t1 (s : S8) (k w : W32) : W32 := s.h + bs1 s.e + (s.e &&& s.f ^^^ ~~~s.e &&& s.g) + k + w
def t2 (s : S8) : W32 := bs0 s.a + (s.a &&& s.b ^^^ s.a &&& s.c ^^^ s.b &&& s.c)
def round (s : S8) (k w : W32) : S8 := ⟨t1 s k w + t2 s, s.a, s.b, s.c, s.d + t1 s k w, s.e, s.f, s.g⟩
def run (K W : Nat → W32) (s : S8) : Nat → S8
  | 0 => s
  | k + 1 => round (run K W s k) (K k) (W k)
def S8.word (s : S8) : Nat → W32
  | 0 => s.a
  | 1 => s.b
  | 2 => s.c
  | 3 => s.d
  | 4 => s.e
  | 5 => s.f
  | 6 => s.g
  | _ => s.h
def s8 (h : Nat → W32) : S8 := ⟨h 0, h 1, h 2, h 3, h 4, h 5, h 6, h 7⟩
/-- The words of a block, byte by byte. -/
def pw (B : Nat → BitVec 8) : Nat → Nat → W32
  | 0, _ => 0
  | i + 1, j => if j = i / 4 then pw B i j <<< 8 ||| (B i).setWidth 32 else pw B i j
/-- The words behind them, one by one. -/
def sc (B : Nat → BitVec 8) : Nat → Nat → W32
  | 0, j => pw B 64 j
  | n + 1, j => if j = 16 + n then ss1 (sc B n (n + 14)) + sc B n (n + 9) + ss0 (sc B n (n + 1)) + sc B n n else sc B n j
def sched (B : Nat → BitVec 8) (j : Nat) : W32 := sc B 48 j
/-- The first 32 bits behind the point of the square roots of the first eight primes. -/
def hL : List Nat := [1779033703, 3144134277, 1013904242, 2773480762, 1359893119, 2600822924, 528734635, 1541459225]
/-- .. of the cube roots of the first 64 primes. -/
def kL : List Nat := [1116352408, 1899447441, 3049323471, 3921009573, 961987163, 1508970993, 2453635748, 2870763221, 3624381080, 310598401, 607225278, 1426881987, 1925078388, 2162078206, 2614888103, 3248222580, 3835390401, 4022224774, 264347078, 604807628, 770255983, 1249150122, 1555081692, 1996064986, 2554220882, 2821834349, 2952996808, 3210313671, 3336571891, 3584528711, 113926993, 338241895, 666307205, 773529912, 1294757372, 1396182291, 1695183700, 1986661051, 2177026350, 2456956037, 2730485921, 2820302411, 3259730800, 3345764771, 3516065817, 3600352804, 4094571909, 275423344, 430227734, 506948616, 659060556, 883997877, 958139571, 1322822218, 1537002063, 1747873779, 1955562222, 2024104815, 2227730452, 2361852424, 2428436474, 2756734187, 3204031479, 3329325298]
def Hc (j : Nat) : W32 := BitVec.ofNat 32 (hL.getD j 0)
def Kc (j : Nat) : W32 := BitVec.ofNat 32 (kL.getD j 0)
/-- The sum so far, with one more block. -/
def comp (H : Nat → W32) (B : Nat → BitVec 8) (j : Nat) : W32 := H j + (run Kc (sched B) (s8 H) 64).word j
/-- A sum that comes piece by piece: the words, the block, how many bytes of it are filled. -/
structure Run where
  H : Nat → W32
  B : Nat → BitVec 8
  f : Nat
def put1 (B : Nat → BitVec 8) (f : Nat) (x : BitVec 8) : Nat → BitVec 8 := fun j => if j = f then x else B j
def feed1 (s : Run) (x : BitVec 8) : Run := if s.f + 1 = 64 then ⟨comp s.H (put1 s.B s.f x), put1 s.B s.f x, 0⟩ else ⟨s.H, put1 s.B s.f x, s.f + 1⟩
/-- n bytes more. -/
def feed (s : Run) (D : Nat → BitVec 8) : Nat → Run
  | 0 => s
  | n + 1 => feed1 (feed s D n) (D n)
def putN (B : Nat → BitVec 8) (f : Nat) (D : Nat → BitVec 8) (n : Nat) : Nat → BitVec 8 := fun j => if f ≤ j ∧ j < f + n then D (j - f) else B j
theorem feed_f (s : Run) (D : Nat → BitVec 8) (h : s.f < 64) : ∀ n, (feed s D n).f < 64
  | 0 => h
  | n + 1 => by
    have := feed_f s D h n
    simp only [feed, feed1]
    split
    · exact Nat.zero_lt_succ 63
    · show (feed s D n).f + 1 < 64; omega
theorem putN_zero (B : Nat → BitVec 8) (f : Nat) (D : Nat → BitVec 8) : putN B f D 0 = B := by
  funext j; simp only [putN]; rw [if_neg (by omega)]
theorem putN_succ (B : Nat → BitVec 8) (f : Nat) (D : Nat → BitVec 8) (n : Nat) : put1 (putN B f D n) (f + n) (D n) = putN B f D (n + 1) := by
  funext j
  simp only [put1, putN]
  by_cases h : j = f + n
  · subst h; rw [if_pos rfl, if_pos (by omega), show f + n - f = n from by omega]
  · rw [if_neg h]
    by_cases h2 : f ≤ j ∧ j < f + n
    · rw [if_pos h2, if_pos (by omega)]
    · rw [if_neg h2, if_neg (by omega)]
/-- A piece that doesn't end the block. -/
theorem feed_short (s : Run) (D : Nat → BitVec 8) : ∀ n, s.f + n < 64 → feed s D n = ⟨s.H, putN s.B s.f D n, s.f + n⟩
  | 0, _ => by rw [putN_zero]; rfl
  | n + 1, h => by
    rw [feed, feed_short s D n (by omega), feed1, if_neg (by show s.f + n + 1 ≠ 64; omega)]
    show Run.mk s.H (put1 (putN s.B s.f D n) (s.f + n) (D n)) (s.f + n + 1) = _
    rw [putN_succ]; rfl
/-- A piece that ends it. -/
theorem feed_full (s : Run) (D : Nat → BitVec 8) (n : Nat) (h0 : 0 < n) (h : s.f + n = 64) : feed s D n = ⟨comp s.H (putN s.B s.f D n), putN s.B s.f D n, 0⟩ := by
  obtain ⟨m, rfl⟩ : ∃ m, n = m + 1 := ⟨n - 1, by omega⟩
  rw [feed, feed_short s D m (by omega), feed1, if_pos (by show s.f + m + 1 = 64; omega)]
  show Run.mk (comp s.H (put1 (putN s.B s.f D m) (s.f + m) (D m))) (put1 (putN s.B s.f D m) (s.f + m) (D m)) 0 = _
  rw [putN_succ]
theorem feed_add (s : Run) (D : Nat → BitVec 8) (m : Nat) : ∀ n, feed s D (m + n) = feed (feed s D m) (fun j => D (m + j)) n
  | 0 => rfl
  | n + 1 => by rw [show m + (n + 1) = (m + n) + 1 from rfl, feed, feed_add s D m n]; rfl
theorem feed_congr (s : Run) (D E : Nat → BitVec 8) : ∀ n, (∀ j, j < n → D j = E j) → feed s D n = feed s E n
  | 0, _ => rfl
  | n + 1, h => by rw [feed, feed, feed_congr s D E n (fun j hj => h j (by omega)), h n (by omega)]
/-- A number's 8 bytes, the highest first. -/
def be8 (n j : Nat) : BitVec 8 := BitVec.ofNat 8 (n / 2 ^ (56 - 8 * j))
/-- n noughts more. -/
def zer (s : Run) : Nat → Run
  | 0 => s
  | n + 1 => feed1 (zer s n) 0
theorem feed1_f (s : Run) (x : BitVec 8) (h : s.f < 64) : (feed1 s x).f = (s.f + 1) % 64 := by
  unfold feed1
  split
  · show 0 = _; omega
  · show s.f + 1 = _; omega
theorem zer_f (s : Run) (h : s.f < 64) : ∀ n, (zer s n).f = (s.f + n) % 64
  | 0 => by show s.f = _; omega
  | n + 1 => by
    have ih := zer_f s h n
    rw [zer, feed1_f _ _ (by rw [ih]; omega), ih]; omega
/-- What stands behind the message: a byte 80, noughts, the count of bits. -/
def closed (s : Run) (L : Nat) : Run := feed (zer (feed1 s 0x80) ((120 - (feed1 s 0x80).f) % 64)) (be8 (8 * L)) 8
/-- A sum's bytes. -/
def wordByte (H : Nat → W32) (j : Nat) : BitVec 8 := BitVec.ofNat 8 ((H (j / 4)).toNat / 2 ^ (24 - 8 * (j % 4)))
def sumByte (s : Run) (L : Nat) (j : Nat) : BitVec 8 := wordByte (closed s L).H j
end Go.Proofs.YtjdclgnlnehjlaaDoor.Sha
