/- Rights as words: Parse tells a text's own rights. -/
import Derived.Test.YtilhkgbninbkkaaDoorRx1
namespace Go.Proofs.YtilhkgbninbkkaaDoor
open Go Go.RowKit
def lP : List UInt8 := [112, 114, 105, 118, 105, 108, 101, 103, 101, 100]
def lS : List UInt8 := [115, 105, 103, 110, 101, 100]
/-- What stands behind the numbers. -/
def tailL (v s : Bool) : List UInt8 := (if v = true then 32 :: lP else []) ++ (if s = true then 32 :: lS else [])
theorem text_list (r : Rg) : (textOf r).data.toList = (99 :: hexL r.c.toNat) ++ 32 :: ((112 :: hexL r.p.toNat) ++ 32 :: ((109 :: hexL r.m.toNat) ++ 32 :: ((104 :: hexL r.h.toNat) ++ tailL r.v r.s))) := by
  unfold textOf textV textN tailL lP lS
  cases r.v <;> cases r.s <;> simp [ByteArray.data_append, bs, hexT_list]
theorem word_at {s : ByteArray} {a b : List UInt8} (h : s.data.toList = a ++ 32 :: b) (ha : ∀ c ∈ a, c ≠ 32) : (wordOf s).data.toList = a ∧ (restOf s).data.toList = b := by
  unfold wordOf restOf
  rw [h, cut_sp a b ha]
  exact ⟨by simp, by simp⟩
theorem word_end {s : ByteArray} {a : List UInt8} (h : s.data.toList = a) (ha : ∀ c ∈ a, c ≠ 32) : (wordOf s).data.toList = a ∧ (restOf s).data.toList = [] := by
  unfold wordOf restOf
  rw [h, cut_no a ha]
  exact ⟨by simp, by simp⟩
theorem sg_ne (sg : UInt8) (x : Nat) (h : sg ≠ 32) : ∀ c ∈ sg :: hexL x, c ≠ 32 := fun c hc => by
  rcases List.mem_cons.1 hc with rfl | hc
  · exact h
  · exact hexL_ne x c hc
theorem gsR_text (r : Rg) : gsR (textOf r) = r := by
  have w0 := word_at (text_list r) (sg_ne 99 _ (by decide))
  have w1 := word_at w0.2 (sg_ne 112 _ (by decide))
  have w2 := word_at w1.2 (sg_ne 109 _ (by decide))
  have n0 := num_word _ 99 _ r.c.isLt w0.1
  have n1 := num_word _ 112 _ r.p.isLt w1.1
  have n2 := num_word _ 109 _ r.m.isLt w2.1
  have w3 : (wordOf (restOf (restOf (restOf (textOf r))))).data.toList = 104 :: hexL r.h.toNat ∧ (restOf (restOf (restOf (restOf (textOf r))))).data.toList = (tailL r.v r.s).drop 1 := by
    have h := w2.2
    cases hv : r.v <;> cases hs : r.s <;> rw [hv, hs] at h
    · have := word_end (a := 104 :: hexL r.h.toNat) (by rw [h]; simp [tailL]) (sg_ne 104 _ (by decide))
      exact ⟨this.1, by rw [this.2]; rfl⟩
    · exact word_at (a := 104 :: hexL r.h.toNat) (b := lS) (by rw [h]; rfl) (sg_ne 104 _ (by decide))
    · exact word_at (a := 104 :: hexL r.h.toNat) (b := lP) (by rw [h]; simp [tailL]) (sg_ne 104 _ (by decide))
    · exact word_at (a := 104 :: hexL r.h.toNat) (b := lP ++ 32 :: lS) (by rw [h]; simp [tailL]) (sg_ne 104 _ (by decide))
  have n3 := num_word _ 104 _ r.h.isLt w3.1
  have hv : Lib.hasPrefix (restOf (restOf (restOf (restOf (textOf r))))).data.toList wPriv.data.toList = r.v := by
    rw [w3.2]; cases r.v <;> cases r.s <;> decide
  have hs : Lib.hasSuffix (restOf (restOf (restOf (restOf (textOf r))))).data.toList wSign.data.toList = r.s := by
    rw [w3.2]; cases r.v <;> cases r.s <;> decide
  unfold gsR
  rw [n0, n1, n2, n3, hv, hs]
  simp
theorem prR_text (r : Rg) : prR (textOf r) = r ∧ prE (textOf r) = 0 := by
  have h : okT (textOf r) = true := by unfold okT; rw [gsR_text]; exact beq_self_eq_true _
  unfold prR prE
  rw [h, if_pos rfl, if_pos rfl, gsR_text]
  exact ⟨rfl, rfl⟩
end Go.Proofs.YtilhkgbninbkkaaDoor
