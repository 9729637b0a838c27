/- Plain: a sum by blocks, whole; and the sums of many texts at once, packed. Nothing of the program. -/
import Derived.Test.YtneffelpdaigoaaDoorPack
namespace Go.Proofs.YtneffelpdaigoaaDoor.Sha
/-- Where a sum begins. -/
def runB : Run := ⟨Hc, fun _ => 0, 0⟩
theorem pw_congr (B C : Nat → BitVec 8) : ∀ i, (∀ j, j < i → B j = C j) → ∀ j, pw B i j = pw C i j
  | 0, _, _ => rfl
  | i + 1, h, j => by rw [pw, pw, pw_congr B C i (fun j hj => h j (by omega)) j, h i (by omega)]
theorem sc_congr (B C : Nat → BitVec 8) (h : ∀ j, j < 64 → B j = C j) : ∀ n j, sc B n j = sc C n j
  | 0, j => pw_congr B C 64 h j
  | n + 1, j => by simp only [sc, sc_congr B C h n]
theorem run_congr (K W V : Nat → W32) (s : S8) (h : ∀ j, W j = V j) : ∀ n, run K W s n = run K V s n
  | 0 => rfl
  | n + 1 => by rw [run, run, run_congr K W V s h n, h n]
theorem comp_congr (H : Nat → W32) (B C : Nat → BitVec 8) (h : ∀ j, j < 64 → B j = C j) : comp H B = comp H C := by
  funext j
  unfold comp
  rw [run_congr Kc (sched B) (sched C) (s8 H) (fun j => sc_congr B C h 48 j)]
/-- A text with what stands behind it: n bytes, b blocks in all. -/
def padB (D : Nat → BitVec 8) (n b : Nat) (j : Nat) : BitVec 8 := if j < n then D j else if j = n then 0x80 else if j < 64 * b - 8 then 0 else be8 (8 * n) (j - (64 * b - 8))
/-- The words behind t blocks. -/
def Hb (E : Nat → BitVec 8) : Nat → Nat → W32
  | 0 => Hc
  | t + 1 => comp (Hb E t) (fun j => E (64 * t + j))
theorem feed_blocks (E : Nat → BitVec 8) : ∀ t, (feed runB E (64 * t)).H = Hb E t ∧ (feed runB E (64 * t)).f = 0
  | 0 => ⟨rfl, rfl⟩
  | t + 1 => by
    obtain ⟨h1, h2⟩ := feed_blocks E t
    rw [show 64 * (t + 1) = 64 * t + 64 from by omega, feed_add, feed_full _ _ 64 (by omega) (by rw [h2])]
    refine ⟨?_, rfl⟩
    show comp _ _ = comp _ _
    rw [h1, h2]
    exact comp_congr _ _ _ (fun j hj => by unfold putN; rw [if_pos (by omega)]; rfl)
theorem feed_fmod (s : Run) (D : Nat → BitVec 8) (h : s.f < 64) : ∀ n, (feed s D n).f = (s.f + n) % 64
  | 0 => by show s.f = _; omega
  | n + 1 => by
    have ih := feed_fmod s D h n
    rw [feed, feed1_f _ _ (by rw [ih]; omega), ih]; omega
theorem zer_feed (s : Run) : ∀ n, zer s n = feed s (fun _ => 0) n
  | 0 => rfl
  | n + 1 => by rw [zer, feed, zer_feed s n]
theorem closed_blocks (D : Nat → BitVec 8) (n b : Nat) (hb : b = (n + 72) / 64) : (closed (feed runB D n) n).H = Hb (padB D n b) b := by
  rw [← (feed_blocks (padB D n b) b).1]
  suffices hs : closed (feed runB D n) n = feed runB (padB D n b) (64 * b) by rw [hs]
  have hf : (feed1 (feed runB D n) 0x80).f = (n + 1) % 64 := by
    have h0 : runB.f = 0 := rfl
    have := feed_fmod runB D (by rw [h0]; omega) n
    rw [feed1_f _ _ (by rw [this]; omega), this, h0]; omega
  unfold closed
  rw [hf, zer_feed]
  have hz : 64 * b = n + 1 + (120 - (n + 1) % 64) % 64 + 8 := by omega
  generalize hzz : (120 - (n + 1) % 64) % 64 = z at hz ⊢
  rw [hz, feed_add, feed_add, feed_add]
  have e1 : feed runB (padB D n b) n = feed runB D n := feed_congr _ _ _ _ (fun j hj => by unfold padB; rw [if_pos hj])
  have e2 : ∀ s, feed s (fun j => padB D n b (n + j)) 1 = feed1 s 0x80 := fun s => by
    show feed1 s (padB D n b (n + 0)) = _
    unfold padB; rw [Nat.add_zero, if_neg (by omega), if_pos rfl]
  have e3 : ∀ s, feed s (fun j => padB D n b (n + 1 + j)) z = feed s (fun _ => 0) z := fun s => feed_congr _ _ _ _ (fun j hj => by unfold padB; rw [if_neg (by omega), if_neg (by omega), if_pos (by omega)])
  have e4 : ∀ s, feed s (fun j => padB D n b (n + 1 + z + j)) 8 = feed s (be8 (8 * n)) 8 := fun s => feed_congr _ _ _ _ (fun j hj => by
    unfold padB; rw [if_neg (by omega), if_neg (by omega), if_neg (by omega), show n + 1 + z + j - (64 * b - 8) = j from by omega])
  rw [e1, e2, e3, e4]
/-- Four bytes as a word. -/
def w4 (a b c d : BitVec 8) : W32 := BitVec.ofNat 32 (a.toNat * 16777216 + b.toNat * 65536 + c.toNat * 256 + d.toNat)
theorem shl_or (X : W32) (b : BitVec 8) (h : X.toNat < 16777216) : (X <<< 8 ||| b.setWidth 32).toNat = X.toNat * 256 + b.toNat := by
  have hb := b.isLt
  rw [BitVec.toNat_or, BitVec.toNat_shiftLeft, BitVec.toNat_setWidth, Nat.shiftLeft_eq, Nat.mod_eq_of_lt (a := X.toNat * 2 ^ 8) (by omega), Nat.mod_eq_of_lt (a := b.toNat) (by omega)]
  rw [← Nat.shiftLeft_eq, ← Nat.shiftLeft_add_eq_or_of_lt hb, Nat.shiftLeft_eq]
theorem pw_zero (B : Nat → BitVec 8) : ∀ i j, i ≤ 4 * j → pw B i j = 0
  | 0, _, _ => rfl
  | i + 1, j, h => by rw [pw, if_neg (by omega), pw_zero B i j (by omega)]
theorem pw_keep (B : Nat → BitVec 8) (j : Nat) : ∀ d, pw B (4 * j + 4 + d) j = pw B (4 * j + 4) j
  | 0 => rfl
  | d + 1 => by rw [← Nat.add_assoc, pw, if_neg (by omega), pw_keep B j d]
theorem pw_word (B : Nat → BitVec 8) (j : Nat) (hj : j < 16) : pw B 64 j = w4 (B (4 * j)) (B (4 * j + 1)) (B (4 * j + 2)) (B (4 * j + 3)) := by
  have e := pw_keep B j (60 - 4 * j)
  rw [show 4 * j + 4 + (60 - 4 * j) = 64 from by omega] at e
  rw [e]
  have s0 : pw B (4 * j) j = 0 := pw_zero B _ _ (Nat.le_refl _)
  have h0 := (B (4 * j)).isLt
  have h1 := (B (4 * j + 1)).isLt
  have h2 := (B (4 * j + 2)).isLt
  have h3 := (B (4 * j + 3)).isLt
  have s1 : (pw B (4 * j + 1) j).toNat = (B (4 * j)).toNat := by
    rw [pw, if_pos (by omega), s0, shl_or _ _ (by simp)]; simp
  have s2 : (pw B (4 * j + 2) j).toNat = (B (4 * j)).toNat * 256 + (B (4 * j + 1)).toNat := by
    rw [show 4 * j + 2 = 4 * j + 1 + 1 from rfl, pw, if_pos (by omega), shl_or _ _ (by rw [s1]; omega), s1]
  have s3 : (pw B (4 * j + 3) j).toNat = ((B (4 * j)).toNat * 256 + (B (4 * j + 1)).toNat) * 256 + (B (4 * j + 2)).toNat := by
    rw [show 4 * j + 3 = 4 * j + 2 + 1 from rfl, pw, if_pos (by omega), shl_or _ _ (by rw [s2]; omega), s2]
  apply BitVec.eq_of_toNat_eq
  rw [show 4 * j + 4 = 4 * j + 3 + 1 from rfl, pw, if_pos (by omega), shl_or _ _ (by rw [s3]; omega), s3]
  unfold w4
  rw [BitVec.toNat_ofNat]
  omega
theorem w4_word (H : Nat → W32) (j : Nat) : w4 (wordByte H (4 * j)) (wordByte H (4 * j + 1)) (wordByte H (4 * j + 2)) (wordByte H (4 * j + 3)) = H j := by
  have h := (H j).isLt
  apply BitVec.eq_of_toNat_eq
  unfold w4 wordByte
  rw [show 4 * j / 4 = j from by omega, show (4 * j + 1) / 4 = j from by omega, show (4 * j + 2) / 4 = j from by omega, show (4 * j + 3) / 4 = j from by omega]
  rw [show 4 * j % 4 = 0 from by omega, show (4 * j + 1) % 4 = 1 from by omega, show (4 * j + 2) % 4 = 2 from by omega, show (4 * j + 3) % 4 = 3 from by omega]
  simp only [BitVec.toNat_ofNat]
  omega
end Go.Proofs.YtneffelpdaigoaaDoor.Sha
