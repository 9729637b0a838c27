/- Plain: SHA-256 on bit vectors, word by word. Nothing of the program. Plain: the words of 32 bits as the walk spells them. Nothing of the program. Cells from some place on, by a function; strings of bytes. Nothing of the program. -/
import GoSem.Core.Value
import Derived.WalkKit
import Derived.Test.YtjdclgnlnehjlaaDoorOw
import Derived.Laws.IdiomStrings
namespace Go.Proofs.YtjdclgnlnehjlaaDoor.Sha
abbrev W32 := BitVec 32
def rr (x : W32) (n : Nat) : W32 := x >>> n ||| x <<< (32 - n)
def bs0 (x : W32) : W32 := rr x 2 ^^^ rr x 13 ^^^ rr x 22
def bs1 (x : W32) : W32 := rr x 6 ^^^ rr x 11 ^^^ rr x 25
def ss0 (x : W32) : W32 := rr x 7 ^^^ rr x 18 ^^^ x >>> 3
def ss1 (x : W32) : W32 := rr x 17 ^^^ rr x 19 ^^^ x >>> 10
structure S8 where
  a : W32
  b : W32
  c : W32
  d : W32
  e : W32
  f : W32
  g : W32
  h : W32
def t1 (s : S8) (k w : W32) : W32 := s.h + bs1 s.e + (s.e &&& s.f ^^^ ~~~s.e &&& s.g) + k + w
def t2 (s : S8) : W32 := bs0 s.a + (s.a &&& s.b ^^^ s.a &&& s.c ^^^ s.b &&& s.c)
def round (s : S8) (k w : W32) : S8 := ⟨t1 s k w + t2 s, s.a, s.b, s.c, s.d + t1 s k w, s.e, s.f, s.g⟩
def run (K W : Nat → W32) (s : S8) : Nat → S8
  | 0 => s
  | k + 1 => round (run K W s k) (K k) (W k)
def S8.word (s : S8) : Nat → W32
  | 0 => s.a
  | 1 => s.b
  | 2 => s.c
  | 3 => s.d
  | 4 => s.e
  | 5 => s.f
  | 6 => s.g
  | _ => s.h
def s8 (h : Nat → W32) : S8 := ⟨h 0, h 1, h 2, h 3, h 4, h 5, h 6, h 7⟩
/-- The words of a block, byte by byte. -/
def pw (B : Nat → BitVec 8) : Nat → Nat → W32
  | 0, _ => 0
  | i + 1, j => if j = i / 4 then pw B i j <<< 8 ||| (B i).setWidth 32 else pw B i j
/-- The words behind them, one by one. -/
def sc (B : Nat → BitVec 8) : Nat → Nat → W32
  | 0, j => pw B 64 j
  | n + 1, j => if j = 16 + n then ss1 (sc B n (n + 14)) + sc B n (n + 9) + ss0 (sc B n (n + 1)) + sc B n n else sc B n j
def sched (B : Nat → BitVec 8) (j : Nat) : W32 := sc B 48 j
/-- The first 32 bits behind the point of the square roots of the first eight primes. -/
def hL : List Nat := [1779033703, 3144134277, 1013904242, 2773480762, 1359893119, 2600822924, 528734635, 1541459225]
/-- .. of the cube roots of the first 64 primes. -/
def kL : List Nat := [1116352408, 1899447441, 3049323471, 3921009573, 961987163, 1508970993, 2453635748, 2870763221, 3624381080, 310598401, 607225278, 1426881987, 1925078388, 2162078206, 2614888103, 3248222580, 3835390401, 4022224774, 264347078, 604807628, 770255983, 1249150122, 1555081692, 1996064986, 2554220882, 2821834349, 2952996808, 3210313671, 3336571891, 3584528711, 113926993, 338241895, 666307205, 773529912, 1294757372, 1396182291, 1695183700, 1986661051, 2177026350, 2456956037, 2730485921, 2820302411, 3259730800, 3345764771, 3516065817, 3600352804, 4094571909, 275423344, 430227734, 506948616, 659060556, 883997877, 958139571, 1322822218, 1537002063, 1747873779, 1955562222, 2024104815, 2227730452, 2361852424, 2428436474, 2756734187, 3204031479, 3329325298]
def Hc (j : Nat) : W32 := BitVec.ofNat 32 (hL.getD j 0)
def Kc (j : Nat) : W32 := BitVec.ofNat 32 (kL.getD j 0)
/-- The sum so far, with one more block. -/
def comp (H : Nat → W32) (B : Nat → BitVec 8) (j : Nat) : W32 := H j + (run Kc (sched B) (s8 H) 64).word j
/-- A sum that comes piece by piece: the words, the block, how many bytes of it are filled. -/
structure Run where
  H : Nat → W32
  B : Nat → BitVec 8
  f : Nat
def put1 (B : Nat → BitVec 8) (f : Nat) (x : BitVec 8) : Nat → BitVec 8 := fun j => if j = f then x else B j
def feed1 (s : Run) (x : BitVec 8) : Run := if s.f + 1 = 64 then ⟨comp s.H (put1 s.B s.f x), put1 s.B s.f x, 0⟩ else ⟨s.H, put1 s.B s.f x, s.f + 1⟩
/-- n bytes more. -/
def feed (s : Run) (D : Nat → BitVec 8) : Nat → Run
  | 0 => s
  | n + 1 => feed1 (feed s D n) (D n)
def putN (B : Nat → BitVec 8) (f : Nat) (D : Nat → BitVec 8) (n : Nat) : Nat → BitVec 8 := fun j => if f ≤ j ∧ j < f + n then D (j - f) else B j
theorem feed_f (s : Run) (D : Nat → BitVec 8) (h : s.f < 64) : ∀ n, (feed s D n).f < 64
  | 0 => h
  | n + 1 => by
    have := feed_f s D h n
    simp only [feed, feed1]
    split
    · exact Nat.zero_lt_succ 63
    · show (feed s D n).f + 1 < 64; omega
theorem putN_zero (B : Nat → BitVec 8) (f : Nat) (D : Nat → BitVec 8) : putN B f D 0 = B := by
  funext j; simp only [putN]; rw [if_neg (by omega)]
theorem putN_succ (B : Nat → BitVec 8) (f : Nat) (D : Nat → BitVec 8) (n : Nat) : put1 (putN B f D n) (f + n) (D n) = putN B f D (n + 1) := by
  funext j
  simp only [put1, putN]
  by_cases h : j = f + n
  · subst h; rw [if_pos rfl, if_pos (by omega), show f + n - f = n from by omega]
  · rw [if_neg h]
    by_cases h2 : f ≤ j ∧ j < f + n
    · rw [if_pos h2, if_pos (by omega)]
    · rw [if_neg h2, if_neg (by omega)]
/-- A piece that doesn't end the block. -/
theorem feed_short (s : Run) (D : Nat → BitVec 8) : ∀ n, s.f + n < 64 → feed s D n = ⟨s.H, putN s.B s.f D n, s.f + n⟩
  | 0, _ => by rw [putN_zero]; rfl
  | n + 1, h => by
    rw [feed, feed_short s D n (by omega), feed1, if_neg (by show s.f + n + 1 ≠ 64; omega)]
    show Run.mk s.H (put1 (putN s.B s.f D n) (s.f + n) (D n)) (s.f + n + 1) = _
    rw [putN_succ]; rfl
/-- A piece that ends it. -/
theorem feed_full (s : Run) (D : Nat → BitVec 8) (n : Nat) (h0 : 0 < n) (h : s.f + n = 64) : feed s D n = ⟨comp s.H (putN s.B s.f D n), putN s.B s.f D n, 0⟩ := by
  obtain ⟨m, rfl⟩ : ∃ m, n = m + 1 := ⟨n - 1, by omega⟩
  rw [feed, feed_short s D m (by omega), feed1, if_pos (by show s.f + m + 1 = 64; omega)]
  show Run.mk (comp s.H (put1 (putN s.B s.f D m) (s.f + m) (D m))) (put1 (putN s.B s.f D m) (s.f + m) (D m)) 0 = _
  rw [putN_succ]
theorem feed_add (s : Run) (D : Nat → BitVec 8) (m : Nat) : ∀ n, feed s D (m + n) = feed (feed s D m) (fun j => D (m + j)) n
  | 0 => rfl
  | n + 1 => by rw [show m + (n + 1) = (m + n) + 1 from rfl, feed, feed_add s D m n]; rfl
theorem feed_congr (s : Run) (D E : Nat → BitVec 8) : ∀ n, (∀ j, j < n → D j = E j) → feed s D n = feed s E n
  | 0, _ => rfl
  | n + 1, h => by rw [feed, feed, feed_congr s D E n (fun j hj => h j (by omega)), h n (by omega)]
/-- A number's 8 bytes, the highest first. -/
def be8 (n j : Nat) : BitVec 8 := BitVec.ofNat 8 (n / 2 ^ (56 - 8 * j))
/-- n noughts more. -/
def zer (s : Run) : Nat → Run
  | 0 => s
  | n + 1 => feed1 (zer s n) 0
theorem feed1_f (s : Run) (x : BitVec 8) (h : s.f < 64) : (feed1 s x).f = (s.f + 1) % 64 := by
  unfold feed1
  split
  · show 0 = _; omega
  · show s.f + 1 = _; omega
theorem zer_f (s : Run) (h : s.f < 64) : ∀ n, (zer s n).f = (s.f + n) % 64
  | 0 => by show s.f = _; omega
  | n + 1 => by
    have ih := zer_f s h n
    rw [zer, feed1_f _ _ (by rw [ih]; omega), ih]; omega
/-- What stands behind the message: a byte 80, noughts, the count of bits. -/
def closed (s : Run) (L : Nat) : Run := feed (zer (feed1 s 0x80) ((120 - (feed1 s 0x80).f) % 64)) (be8 (8 * L)) 8
/-- A sum's bytes. -/
def wordByte (H : Nat → W32) (j : Nat) : BitVec 8 := BitVec.ofNat 8 ((H (j / 4)).toNat / 2 ^ (24 - 8 * (j % 4)))
def sumByte (s : Run) (L : Nat) (j : Nat) : BitVec 8 := wordByte (closed s L).H j
end Go.Proofs.YtjdclgnlnehjlaaDoor.Sha
namespace Go.Proofs.YtjdclgnlnehjlaaDoor
open Go Sha
def u (x : W32) : Int := (x.toNat : Int)
theorem u_lo (x : W32) : 0 ≤ u x := by unfold u; omega
theorem u_hi (x : W32) : u x < 4294967296 := by unfold u; have := x.isLt; omega
def U (x : W32) : Value := .int .u32 (u x)
def v8 (x : BitVec 8) : Int := (x.toNat : Int)
def By (x : BitVec 8) : Value := .int .u8 (v8 x)
theorem ofInt_u (x : W32) : BitVec.ofInt 32 (u x) = x := by
  apply BitVec.eq_of_toNat_eq; rw [BitVec.toNat_ofInt]; unfold u; have := x.isLt; omega
theorem mod_u (x : Int) : x % 4294967296 = u (BitVec.ofInt 32 x) := by
  unfold u; rw [BitVec.toNat_ofInt]; omega
theorem xor_u (a b : W32) : bits .xor .u32 (u a) (u b) = u (a ^^^ b) := by
  unfold u; rw [BitVec.toNat_xor]; exact u32_xor_nat _ _ a.isLt b.isLt
theorem and_u (a b : W32) : bits .and .u32 (u a) (u b) = u (a &&& b) := by
  unfold u; rw [BitVec.toNat_and]; exact u32_and_nat _ _ a.isLt b.isLt
theorem or_u (a b : W32) : bits .or .u32 (u a) (u b) = u (a ||| b) := by
  unfold u; rw [BitVec.toNat_or]; exact u32_or_nat _ _ a.isLt b.isLt
theorem not_u (a : W32) : bits .xor .u32 (if IntKind.u32.signed = true then -1 else IntKind.u32.max) (u a) = u (~~~a) := by
  have e : (if IntKind.u32.signed = true then -1 else IntKind.u32.max) = u (BitVec.allOnes 32) := by decide
  rw [e, xor_u, BitVec.allOnes_xor]
theorem round_t1 (s : S8) (k w : W32) : (u s.h + bits BinOp.xor IntKind.u32 (bits BinOp.xor IntKind.u32 (u (rr s.e 6)) (u (rr s.e 11))) (u (rr s.e 25)) +
      bits BinOp.xor IntKind.u32 (bits BinOp.and IntKind.u32 (u s.e) (u s.f)) (bits BinOp.and IntKind.u32 (bits BinOp.xor IntKind.u32 (if IntKind.u32.signed = true then -1 else IntKind.u32.max) (u s.e)) (u s.g)) + u k + u w) % 4294967296 = u (t1 s k w) := by
  rw [not_u, mod_u]
  simp only [xor_u, and_u, BitVec.ofInt_add, ofInt_u]
  rfl
theorem round_t2 (s : S8) : (bits BinOp.xor IntKind.u32 (bits BinOp.xor IntKind.u32 (u (rr s.a 2)) (u (rr s.a 13))) (u (rr s.a 22)) +
      bits BinOp.xor IntKind.u32 (bits BinOp.xor IntKind.u32 (bits BinOp.and IntKind.u32 (u s.a) (u s.b)) (bits BinOp.and IntKind.u32 (u s.a) (u s.c))) (bits BinOp.and IntKind.u32 (u s.b) (u s.c))) % 4294967296 = u (t2 s) := by
  rw [mod_u]
  simp only [xor_u, and_u, BitVec.ofInt_add, ofInt_u]
  rfl
theorem add_u (a b : W32) : (u a + u b) % 4294967296 = u (a + b) := by
  rw [mod_u]; simp only [BitVec.ofInt_add, ofInt_u]
theorem rr_walk (x : W32) (n : Nat) : bits .or .u32 (u x / 2 ^ n) (u x * 2 ^ (32 - n) % 4294967296) = u (rr x n) := by
  have e1 : u x / 2 ^ n = u (x >>> n) := by
    unfold u; rw [BitVec.toNat_ushiftRight, Nat.shiftRight_eq_div_pow]; simp
  have e2 : u x * 2 ^ (32 - n) % 4294967296 = u (x <<< (32 - n)) := by
    unfold u; rw [BitVec.toNat_shiftLeft, Nat.shiftLeft_eq]; simp
  rw [e1, e2, or_u]; rfl
theorem shl8_or (X : W32) (b : BitVec 8) : bits .or .u32 (u X * 256 % 4294967296) (v8 b % 4294967296) = u (X <<< 8 ||| b.setWidth 32) := by
  have e1 : u X * (256 : Int) % (4294967296 : Int) = u (X <<< 8) := by
    unfold u; rw [BitVec.toNat_shiftLeft, Nat.shiftLeft_eq]; simp
  have e2 : v8 b % (4294967296 : Int) = u (b.setWidth 32) := by
    unfold u v8; rw [BitVec.toNat_setWidth]; simp
  rw [e1, e2, or_u]
theorem ss0_walk (x : W32) : bits BinOp.xor IntKind.u32 (bits BinOp.xor IntKind.u32 (u (rr x 7)) (u (rr x 18))) (u x / (8 : Int)) = u (ss0 x) := by
  have e : u x / (8 : Int) = u (x >>> 3) := by
    unfold u; rw [BitVec.toNat_ushiftRight, Nat.shiftRight_eq_div_pow]; simp
  rw [e, xor_u, xor_u]; rfl
theorem ss1_walk (x : W32) : bits BinOp.xor IntKind.u32 (bits BinOp.xor IntKind.u32 (u (rr x 17)) (u (rr x 19))) (u x / (1024 : Int)) = u (ss1 x) := by
  have e : u x / (1024 : Int) = u (x >>> 10) := by
    unfold u; rw [BitVec.toNat_ushiftRight, Nat.shiftRight_eq_div_pow]; simp
  rw [e, xor_u, xor_u]; rfl
theorem sc_walk (B : Nat → BitVec 8) (t : Nat) (ht : 16 ≤ t) : (bits BinOp.xor IntKind.u32 (bits BinOp.xor IntKind.u32 (u (rr (sc B (t - 16) (t - 2)) 17)) (u (rr (sc B (t - 16) (t - 2)) 19))) (u (sc B (t - 16) (t - 2)) / (1024 : Int)) +
      u (sc B (t - 16) (t - 7)) + bits BinOp.xor IntKind.u32 (bits BinOp.xor IntKind.u32 (u (rr (sc B (t - 16) (t - 15)) 7)) (u (rr (sc B (t - 16) (t - 15)) 18))) (u (sc B (t - 16) (t - 15)) / (8 : Int)) +
      u (sc B (t - 16) (t - 16))) % (4294967296 : Int) = u (sc B (t + 1 - 16) t) := by
  obtain ⟨n, rfl⟩ : ∃ n, t = n + 16 := ⟨t - 16, by omega⟩
  rw [ss0_walk, ss1_walk, mod_u]
  rw [show n + 16 + 1 - 16 = n + 1 from by omega, show n + 16 - 16 = n from by omega, show n + 16 - 2 = n + 14 from by omega, show n + 16 - 7 = n + 9 from by omega, show n + 16 - 15 = n + 1 from by omega]
  simp only [BitVec.ofInt_add, ofInt_u]
  rw [show sc B (n + 1) (n + 16) = ss1 (sc B n (n + 14)) + sc B n (n + 9) + ss0 (sc B n (n + 1)) + sc B n n from by rw [sc, if_pos (by omega)]]
theorem sc_other (B : Nat → BitVec 8) (t j : Nat) (ht : 16 ≤ t) (hj : j ≠ t) : sc B (t + 1 - 16) j = sc B (t - 16) j := by
  obtain ⟨n, rfl⟩ : ∃ n, t = n + 16 := ⟨t - 16, by omega⟩
  rw [show n + 16 + 1 - 16 = n + 1 from by omega, show n + 16 - 16 = n from by omega, sc, if_neg (by omega)]
theorem int_congr {k : IntKind} {a b : Int} (h : a = b) : Value.int k a = Value.int k b := by rw [h]
end Go.Proofs.YtjdclgnlnehjlaaDoor
namespace Go.Proofs.YtjdclgnlnehjlaaDoor
open Go Go.RowKit
/-- n cells from some place on. -/
def Ats (w : World) (p : Option Addr) (n : Nat) (g : Nat → Value) : Prop := 0 < n → ∃ b off, p = some ⟨b, off, none⟩ ∧ ∀ j, j < n → w.cell? ⟨b, off + j, none⟩ = some (g j)
section
variable {w w' : World} {p : Option Addr} {n : Nat} {g : Nat → Value}
theorem Ats.below {N : Nat} (h : Ats w p n g) (hN : Sz w N) (hb : Below N w w') : Ats w' p n g := fun h0 => by
  obtain ⟨b, off, e, hc⟩ := h h0
  refine ⟨b, off, e, fun j hj => ?_⟩
  have h1 := hc j hj
  rw [hb.cell (p := ⟨b, off + j, none⟩) (by have := World.block_lt_of_cell? w _ h1; have e : w.heap.size = N := hN; simp only at this ⊢; omega)]
  exact h1
theorem Ats.lt {N : Nat} (h : Ats w p n g) (hN : Sz w N) : ∀ b, 0 < n → blk p = some b → b < N := fun b h0 hb => by
  obtain ⟨b', off, e, hc⟩ := h h0
  subst e
  obtain rfl : b' = b := by simpa [blk] using hb
  have := World.block_lt_of_cell? w _ (hc 0 h0)
  have e : w.heap.size = N := hN
  simp only at this
  omega
theorem Ats.cells (h : Ats w p n g) : Cells w p n g := fun h0 => by
  obtain ⟨b, off, e, hc⟩ := h h0
  exact ⟨_, e, fun j hj => by rw [Addr.add_mid]; exact hc j hj⟩
theorem Ats.congr {g' : Nat → Value} (h : Ats w p n g) (e : ∀ j, j < n → g j = g' j) : Ats w p n g' := fun h0 => by
  obtain ⟨b, off, ep, hc⟩ := h h0
  exact ⟨b, off, ep, fun j hj => by rw [hc j hj, e j hj]⟩
theorem Ats.cut {m : Nat} (h : Ats w p n g) (hm : m ≤ n) : Ats w p m g := fun h0 => by
  obtain ⟨b, off, e, hc⟩ := h (by omega)
  exact ⟨b, off, e, fun j hj => hc j (by omega)⟩
theorem Ats.drew (h : Ats w p n g) : Ats w.drew p n g := h
theorem OwnK.ats {E s cap : Nat} (h : OwnK w E s p n cap g) : Ats w p (n * s) g := fun h0 => by
  obtain ⟨b, e, hc⟩ := h.cell (by rcases Nat.eq_zero_or_pos n with rfl | h; (rw [Nat.zero_mul] at h0; omega); exact h)
  exact ⟨b, 0, e, hc⟩
theorem Own.ats {E cap : Nat} (h : Own w E p n cap g) : Ats w p n g := fun h0 => by
  obtain ⟨b, e, hc⟩ := h.cell h0
  exact ⟨b, 0, e, hc⟩
theorem Ats.nil (w : World) (p : Option Addr) (g : Nat → Value) : Ats w p 0 g := fun h => by omega
theorem Has.ats {b T : Nat} (h : Has w b T n g) : Ats w (some ⟨b, 0, none⟩) n g := fun _ => ⟨b, 0, rfl, fun j hj => by rw [Nat.zero_add]; exact h.cell hj⟩
end
/-- A string's bytes. -/
def strOf (D : Nat → BitVec 8) (n : Nat) : ByteArray := ⟨((List.range n).map (fun j => UInt8.ofNat (D j).toNat)).toArray⟩
theorem run_string {P : Program} (w : World) (src dst e : TypeId) (hs : P.underlying src = some (.slice e)) (he : P.underlying e = some (.int .u8)) (hd : P.underlying dst = some .string)
    (p : Option Addr) (n cap : Nat) (D : Nat → BitVec 8) (h : Ats w p n (fun j => By (D j))) : (convert src dst (.slice p n cap)).run P w = .ok (.string (strOf D n)) w := by
  have hlen : ((List.range n).map (fun j => UInt8.ofNat (D j).toNat)).length = n := by simp
  by_cases h0 : 0 < n
  · obtain ⟨b, off, rfl, hc⟩ := h h0
    have := run_convert_bytes_back (P := P) w src dst e ⟨b, off, none⟩ cap ((List.range n).map (fun j => UInt8.ofNat (D j).toNat)) hs he hd (fun j hj => by
      rw [hlen] at hj
      rw [Addr.add_mid, hc j hj]
      simp [By, v8])
    rw [hlen] at this
    exact this
  · obtain rfl : n = 0 := by omega
    cases p with
    | none =>
      rw [run_convert_bytes_string w src dst e none 0 cap hs he hd]
      simp [Conv.bytesToString]
      rfl
    | some a =>
      have := run_convert_bytes_back (P := P) w src dst e a cap [] hs he hd (fun j hj => by simp at hj)
      exact this
end Go.Proofs.YtjdclgnlnehjlaaDoor
