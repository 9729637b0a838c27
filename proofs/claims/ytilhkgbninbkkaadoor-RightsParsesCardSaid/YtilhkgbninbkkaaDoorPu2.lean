/- Rights as words: what a text guesses; Parse. -/
import Derived.Test.YtilhkgbninbkkaaDoorPu1
namespace Go.Proofs.YtilhkgbninbkkaaDoor
open Go Go.RowKit
def wordOf (s : ByteArray) : ByteArray := ⟨(Lib.cut s.data.toList [32]).1.toArray⟩
def restOf (s : ByteArray) : ByteArray := ⟨(Lib.cut s.data.toList [32]).2.1.toArray⟩
def trimOf (s sg : ByteArray) : ByteArray := ⟨(Lib.trimPrefix s.data.toList sg.data.toList).toArray⟩
def numOf (s sg : ByteArray) : Nat := (puS (trimOf (wordOf s) sg)).1
theorem wordOf_size (s : ByteArray) : (wordOf s).size ≤ s.size := by
  rw [Lib.size_eq, Lib.size_eq]
  unfold wordOf Lib.cut
  split
  · simp
    exact Nat.min_le_right _ _
  · simp
theorem restOf_size (s : ByteArray) : (restOf s).size ≤ s.size := by
  rw [Lib.size_eq, Lib.size_eq]
  unfold restOf Lib.cut
  split <;> simp
theorem trimOf_size (s sg : ByteArray) : (trimOf s sg).size ≤ s.size := by
  rw [Lib.size_eq, Lib.size_eq]
  exact Lib.trimPrefix_le _ _
theorem numOf_lt (s sg : ByteArray) : numOf s sg < 65536 := by have := (puS_ok (trimOf (wordOf s) sg)).1; unfold numOf; omega
set_option maxRecDepth 100000 in
theorem gn_any (s sg : ByteArray) (hs : s.size < 4294967281) (w : World) (N : Nat) (hN : Sz w N) (hE : Er w) : Calls Tryd.prog 68 #[.string s, .string sg] w fun e w' => e = .returned (.tuple #[.int .u16 (numOf s sg : Int), .string (restOf s)]) ∧ Below N w w' := by
  obtain ⟨m, hm⟩ := hE.m
  have HC : Calls Tryd.prog 78 #[.string s, .string ⟨#[32]⟩] w fun e w' => (∃ b, e = .returned (.tuple #[.string (wordOf s), .string (restOf s), .bool b])) ∧ Below N w w' := by
    refine (Tryd.strings_Cut s ⟨#[32]⟩ m w hs hm).mono ?_
    rintro e w' ⟨rfl, n, rfl⟩
    exact ⟨⟨_, rfl⟩, below_drewN (Below.refl N w) n⟩
  have HT := fun w => Tryd.strings_TrimPrefix (wordOf s) sg w
  have hl : (trimOf (wordOf s) sg).size ≤ 281474976710656 := by
    have h1 := trimOf_size (wordOf s) sg
    have h2 := wordOf_size s
    omega
  have hz := numOf_lt s sg
  have HP := fun w N hN hE => PuP_any (trimOf (wordOf s) sg) hl w N hN hE
  have e1 : numOf s sg = (puS (trimOf (wordOf s) sg)).1 := rfl
  rw [← e1] at HP
  have z0 : (0 : Int) ≤ (numOf s sg : Int) := by omega
  have z1 : (numOf s sg : Int) < 65536 := by omega
  have HT2 : ∀ w, Calls Tryd.prog 80 #[.string (wordOf s), .string sg] w fun e w' => e = .returned (.string (trimOf (wordOf s) sg)) ∧ w' = w := HT
  clear HT e1 hz hl hm
  generalize (numOf s sg : Int) = z at *
  generalize trimOf (wordOf s) sg = T at *
  generalize wordOf s = W at *
  generalize restOf s = R at *
  have hw : IntKind.u16.wrap z = z := by simp [IntKind.wrap, IntKind.signed, IntKind.bits]; omega
  go_enter Tryd.func68, Tryd.ntmps68
  go_wp2_with (first
    | (go_at_call 78; refine HC.mono ?_; rintro e w1 ⟨⟨b, rfl⟩, b1⟩; obtain ⟨M1, hM1⟩ := sz_some w1; have l1 := below_sz b1 hN hM1)
    | (go_at_call 80; refine (HT2 _).mono ?_; rintro e u ⟨rfl, hu⟩; have hu2 := hu.symm; subst hu2; clear hu)
    | (go_at_call 79; refine (HP _ M1 hM1 (hE.below hN b1)).mono ?_; rintro e w2 ⟨⟨v, rfl⟩, b2⟩)
    | fail)
  go_ret2
  exact ⟨rfl, b1.trans (b2.mono l1)⟩
end Go.Proofs.YtilhkgbninbkkaaDoor
