/- Rights as words: strconv.ParseUint at base 16 and 16 bits; the first word's number. (XShf: what the kit's lay-shelf.mjs and lay-plain.mjs write at this seat.) Rights as words: what a text guesses; Parse. -/
import Derived.Test.YtilhkgbninbkkaaDoorMgPu0
import Derived.Test.YtilhkgbninbkkaaDoorMgRi6
import Derived.Test.YtilhkgbninbkkaaDoorShf
namespace Go.Proofs.YtilhkgbninbkkaaDoor
open Go Go.RowKit
/-- The library's variables that are read: two errors, and a length. -/
structure Er (w : World) : Prop where
  s : ∃ ev, w.cell? ⟨5, 0, none⟩ = some ev ∧ (ev = .nilIface ∨ ∃ te pe, ev = .iface te pe)
  r : ∃ ev, w.cell? ⟨6, 0, none⟩ = some ev ∧ (ev = .nilIface ∨ ∃ te pe, ev = .iface te pe)
  m : ∃ m : Int, w.cell? ⟨4, 0, none⟩ = some (.int .i64 m)
theorem keepC {w w' : World} {N b o : Nat} {v : Value} (hN : Sz w N) (h : w.cell? ⟨b, o, none⟩ = some v) (hb : Below N w w') : w'.cell? ⟨b, o, none⟩ = some v := by
  rw [hb.cell (p := ⟨b, o, none⟩) (by have := World.block_lt_of_cell? w _ h; have e : w.heap.size = N := hN; simp only at this ⊢; omega)]; exact h
theorem Er.below {w w' : World} {N : Nat} (h : Er w) (hN : Sz w N) (hb : Below N w w') : Er w' := by
  obtain ⟨⟨e1, a1, b1⟩, ⟨e2, a2, b2⟩, ⟨m, a3⟩⟩ := h
  exact ⟨⟨e1, keepC hN a1 hb, b1⟩, ⟨e2, keepC hN a2 hb, b2⟩, ⟨m, keepC hN a3 hb⟩⟩
theorem puF_ok : ∀ (cs : List UInt8) (n : Nat), n ≤ 65535 → (puF n cs).1 ≤ 65535 ∧ ((puF n cs).2 = 0 ∨ (puF n cs).2 = 1 ∨ (puF n cs).2 = 2)
  | [], n, h => ⟨h, .inl rfl⟩
  | c :: cs, n, h => by
    unfold puF
    cases hxd c.toNat with
    | none => exact ⟨Nat.zero_le _, .inr (.inr rfl)⟩
    | some d =>
      simp only
      by_cases hd : 65535 < n * 16 + d
      · rw [if_pos hd]; exact ⟨Nat.le_refl _, .inr (.inl rfl)⟩
      · rw [if_neg hd]; exact puF_ok cs _ (by omega)
theorem puS_ok (t : ByteArray) : (puS t).1 ≤ 65535 ∧ ((puS t).2 = 0 ∨ (puS t).2 = 1 ∨ (puS t).2 = 2) := by
  unfold puS
  split
  · exact ⟨Nat.zero_le _, .inr (.inr rfl)⟩
  · exact puF_ok _ _ (by omega)
theorem toE_s (fn s : ByteArray) (hl : s.size ≤ 281474976710656) (w : World) (N : Nat) (hN : Sz w N) (hE : Er w) : Calls Tryd.prog 91 #[.string fn, .string s, .int .i64 16, .int .i64 16, .iface 154 (.int .i64 2)] w fun e w' => (∃ v, e = .returned v) ∧ Below N w w' := by
  obtain ⟨ev, h1, h2⟩ := hE.s
  refine (Tryd.strconv_toError_syntax fn s 16 16 ev w hl h1 h2).mono ?_
  rintro e w' ⟨b, rfl, _, _, hb⟩
  exact ⟨⟨_, rfl⟩, by rwa [show w.heap.size = N from hN] at hb⟩
theorem toE_r (fn s : ByteArray) (hl : s.size ≤ 281474976710656) (w : World) (N : Nat) (hN : Sz w N) (hE : Er w) : Calls Tryd.prog 91 #[.string fn, .string s, .int .i64 16, .int .i64 16, .iface 154 (.int .i64 1)] w fun e w' => (∃ v, e = .returned v) ∧ Below N w w' := by
  obtain ⟨ev, h1, h2⟩ := hE.r
  refine (Tryd.strconv_toError_range fn s 16 16 ev w hl h1 h2).mono ?_
  rintro e w' ⟨b, rfl, _, _, hb⟩
  exact ⟨⟨_, rfl⟩, by rwa [show w.heap.size = N from hN] at hb⟩
set_option maxRecDepth 100000 in
theorem PuP_any (t : ByteArray) (hl : t.size ≤ 281474976710656) (w : World) (N : Nat) (hN : Sz w N) (hE : Er w) : Calls Tryd.prog 79 #[.string t, .int .i64 16, .int .i64 16] w fun e w' => (∃ ev, e = .returned (.tuple #[.int .u64 ((puS t).1 : Int), ev])) ∧ Below N w w' := by
  have HP := Pu_any t (by omega) w N hN
  obtain ⟨p1, p2⟩ := puS_ok t
  generalize puS t = V at *
  obtain ⟨n, k⟩ := V
  simp only at HP p1 p2 ⊢
  have n0 : (0 : Int) ≤ (n : Int) := by omega
  generalize (n : Int) = z at *
  clear p1
  rcases p2 with rfl | rfl | rfl
  · simp only [erV, if_pos rfl] at HP
    go_enter Tryd.func79, Tryd.ntmps79
    go_wp2_with (go_at_call 90; refine HP.mono ?_; rintro e w1 ⟨rfl, b1⟩)
    go_ret2
    exact ⟨⟨_, rfl⟩, b1⟩
  · rw [show erV 1 = .iface 154 (.int .i64 1) from rfl] at HP
    go_enter Tryd.func79, Tryd.ntmps79
    go_wp2_with (first
      | (go_at_call 90; refine HP.mono ?_; rintro e w1 ⟨rfl, b1⟩; obtain ⟨M1, hM1⟩ := sz_some w1; have l1 := below_sz b1 hN hM1)
      | (go_at_call 91; refine (toE_r _ _ hl _ M1 hM1 (hE.below hN b1)).mono ?_; rintro e w2 ⟨⟨v, rfl⟩, b2⟩)
      | fail)
    go_ret2
    exact ⟨⟨_, rfl⟩, b1.trans (b2.mono l1)⟩
  · rw [show erV 2 = .iface 154 (.int .i64 2) from rfl] at HP
    go_enter Tryd.func79, Tryd.ntmps79
    go_wp2_with (first
      | (go_at_call 90; refine HP.mono ?_; rintro e w1 ⟨rfl, b1⟩; obtain ⟨M1, hM1⟩ := sz_some w1; have l1 := below_sz b1 hN hM1)
      | (go_at_call 91; refine (toE_s _ _ hl _ M1 hM1 (hE.below hN b1)).mono ?_; rintro e w2 ⟨⟨v, rfl⟩, b2⟩)
      | fail)
    go_ret2
    exact ⟨⟨_, rfl⟩, b1.trans (b2.mono l1)⟩
end Go.Proofs.YtilhkgbninbkkaaDoor
namespace Go.Proofs.YtilhkgbninbkkaaDoor
open Go Go.RowKit
def wordOf (s : ByteArray) : ByteArray := ⟨(Lib.cut s.data.toList [32]).1.toArray⟩
def restOf (s : ByteArray) : ByteArray := ⟨(Lib.cut s.data.toList [32]).2.1.toArray⟩
def trimOf (s sg : ByteArray) : ByteArray := ⟨(Lib.trimPrefix s.data.toList sg.data.toList).toArray⟩
def numOf (s sg : ByteArray) : Nat := (puS (trimOf (wordOf s) sg)).1
theorem wordOf_size (s : ByteArray) : (wordOf s).size ≤ s.size := by
  rw [Lib.size_eq, Lib.size_eq]
  unfold wordOf Lib.cut
  split
  · simp
    exact Nat.min_le_right _ _
  · simp
theorem restOf_size (s : ByteArray) : (restOf s).size ≤ s.size := by
  rw [Lib.size_eq, Lib.size_eq]
  unfold restOf Lib.cut
  split <;> simp
theorem trimOf_size (s sg : ByteArray) : (trimOf s sg).size ≤ s.size := by
  rw [Lib.size_eq, Lib.size_eq]
  exact Lib.trimPrefix_le _ _
theorem numOf_lt (s sg : ByteArray) : numOf s sg < 65536 := by have := (puS_ok (trimOf (wordOf s) sg)).1; unfold numOf; omega
end Go.Proofs.YtilhkgbninbkkaaDoor
