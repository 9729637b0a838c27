/- Plain: SHA-256 on bit vectors, word by word. Nothing of the program. -/
import GoSem.Core.Value
namespace Go.Proofs.YtilhkgbninbkkaaDoor.Sha
abbrev W32 := BitVec 32
def rr (x : W32) (n : Nat) : W32 := x >>> n ||| x <<< (32 - n)
def bs0 (x : W32) : W32 := rr x 2 ^^^ rr x 13 ^^^ rr x 22
def bs1 (x : W32) : W32 := rr x 6 ^^^ rr x 11 ^^^ rr x 25
def ss0 (x : W32) : W32 := rr x 7 ^^^ rr x 18 ^^^ x >>> 3
def ss1 (x : W32) : W32 := rr x 17 ^^^ rr x 19 ^^^ x >>> 10
structure S8 where
  a : W32
  b : W32
  c : W32
  d : W32
  e : W32
  f : W32
  g : W32
  h : W32
def t1 (s : S8) (k w : W32) : W32 := s.h + bs1 s.e + (s.e &&& s.f ^^^ ~~~s.e &&& s.g) + k + w
def t2 (s : S8) : W32 := bs0 s.a + (s.a &&& s.b ^^^ s.a &&& s.c ^^^ s.b &&& s.c)
def round (s : S8) (k w : W32) : S8 := ⟨t1 s k w + t2 s, s.a, s.b, s.c, s.d + t1 s k w, s.e, s.f, s.g⟩
def run (K W : Nat → W32) (s : S8) : Nat → S8
  | 0 => s
  | k + 1 => round (run K W s k) (K k) (W k)
def S8.word (s : S8) : Nat → W32
  | 0 => s.a
  | 1 => s.b
  | 2 => s.c
  | 3 => s.d
  | 4 => s.e
  | 5 => s.f
  | 6 => s.g
  | _ => s.h
def s8 (h : Nat → W32) : S8 := ⟨h 0, h 1, h 2, h 3, h 4, h 5, h 6, h 7⟩
/-- The words of a block, byte by byte. -/
def pw (B : Nat → BitVec 8) : Nat → Nat → W32
  | 0, _ => 0
  | i + 1, j => if j = i / 4 then pw B i j <<< 8 ||| (B i).setWidth 32 else pw B i j
/-- The words behind them, one by one. -/
def sc (B : Nat → BitVec 8) : Nat → Nat → W32
  | 0, j => pw B 64 j
  | n + 1, j => if j = 16 + n then ss1 (sc B n (n + 14)) + sc B n (n + 9) + ss0 (sc B n (n + 1)) + sc B n n else sc B n j
def sched (B : Nat → BitVec 8) (j : Nat) : W32 := sc B 48 j
/-- The first 32 bits behind the point of the square roots of the first eight primes. -/
def hL : List Nat := [1779033703, 3144134277, 1013904242, 2773480762, 1359893119, 2600822924, 528734635, 1541459225]
/-- .. of the cube roots of the first 64 primes. -/
def kL : List Nat := [1116352408, 1899447441, 3049323471, 3921009573, 961987163, 1508970993, 2453635748, 2870763221, 3624381080, 310598401, 607225278, 1426881987, 1925078388, 2162078206, 2614888103, 3248222580, 3835390401, 4022224774, 264347078, 604807628, 770255983, 1249150122, 1555081692, 1996064986, 2554220882, 2821834349, 2952996808, 3210313671, 3336571891, 3584528711, 113926993, 338241895, 666307205, 773529912, 1294757372, 1396182291, 1695183700, 1986661051, 2177026350, 2456956037, 2730485921, 2820302411, 3259730800, 3345764771, 3516065817, 3600352804, 4094571909, 275423344, 430227734, 506948616, 659060556, 883997877, 958139571, 1322822218, 1537002063, 1747873779, 1955562222, 2024104815, 2227730452, 2361852424, 2428436474, 2756734187, 3204031479, 3329325298]
def Kc (j : Nat) : W32 := BitVec.ofNat 32 (kL.getD j 0)
/-- The sum so far, with one more block. -/
def comp (H : Nat → W32) (B : Nat → BitVec 8) (j : Nat) : W32 := H j + (run Kc (sched B) (s8 H) 64).word j
end Go.Proofs.YtilhkgbninbkkaaDoor.Sha
