/- A table of objects at string, all whose blocks are new: the calls on it. -/
import Derived.Test.YtkofhcjgobccoaaObDS
namespace Go.Proofs.Ytkofhcjgobccoaa
open Go Go.RowKit
/-- A table whose blocks are all new since w0. -/
def TbS (w0 : World) (N b : Nat) (size last : Int) (n : Nat) (E : Nat → En ByteArray) (w : World) : Prop :=
  ∃ (p : Option Addr) (cap : Nat), ObS w b size last p n cap E ∧ (∀ g, blk p = some g → N ≤ g) ∧ N ≤ b ∧ Below N w0 w
section
variable {w0 w : World} {N b n : Nat} {size last : Int} {E F : Nat → En ByteArray}
theorem TbS.bel (h : TbS w0 N b size last n E w) : Below N w0 w := by obtain ⟨_, _, _, _, _, h⟩ := h; exact h
theorem TbS.congr (h : TbS w0 N b size last n E w) (e : ∀ k, k < n → E k = F k) : TbS w0 N b size last n F w := by
  obtain ⟨p, cap, h1, h2, h3, h4⟩ := h
  exact ⟨p, cap, h1.congr e, h2, h3, h4⟩
theorem TbS.below {w' : World} {M : Nat} (h : TbS w0 N b size last n E w) (hN : Sz w0 N) (hM : Sz w M) (hb : Below M w w') : TbS w0 N b size last n E w' := by
  obtain ⟨p, cap, h1, h2, h3, h4⟩ := h
  exact ⟨p, cap, h1.below hM hb, h2, h3, h4.trans (hb.mono (below_sz h4 hN hM))⟩
theorem TbS.drew (h : TbS w0 N b size last n E w) : TbS w0 N b size last n E w.drew := by
  obtain ⟨p, cap, h1, h2, h3, h4⟩ := h
  exact ⟨p, cap, h1.drew, h2, h3, h4.drew⟩
theorem TMakeS_ok (x : ByteArray) (l1 : Int) (hl1 : l1 = last + 1) (hN : Sz w0 N) (h : TbS w0 N b size last n E w) (hs : (n : Int) < size) (hn : n ≤ 64) (hla : 0 ≤ last) (hlb : last ≤ 1000000) :
    Calls Try.prog 6 #[.pointer (some ⟨b, 0, none⟩), Value.string x] w fun e w' => e = .returned (.tuple #[.int .i64 l1, .int .i64 0]) ∧ TbS w0 N b size l1 (n + 1) (setE E n ⟨l1, 1, x⟩) w' := by
  subst hl1
  obtain ⟨p, cap, h1, h2, h3, h4⟩ := h
  obtain ⟨M, hM⟩ := sz_some w
  have hNM := below_sz h4 hN hM
  refine (OMakeS_ok b size last p n cap E x hs hn hla hlb w M hM h1).mono ?_
  rintro e w' ⟨p', cap', rfl, T, hp, O⟩
  refine ⟨rfl, p', cap', O, fun g hg => ?_, h3, T.below h4 (fun j hj => ?_) (below_le h4 hN)⟩
  · rcases hp g hg with h | h
    · exact h2 g h
    · omega
  · rcases hj with rfl | hj
    · exact h3
    · exact h2 j hj
theorem TGetS_no (z : Int) (hl : ∀ i, i < n → (E i).id ≠ z) (hn : n ≤ 1000) (hN : Sz w0 N) (h : TbS w0 N b size last n E w) :
    Calls Try.prog 8 #[.pointer (some ⟨b, 0, none⟩), .int .i64 z] w fun e w' => e = .returned (.tuple #[Value.string ⟨#[]⟩, .int .i64 2]) ∧ TbS w0 N b size last n E w' := by
  obtain ⟨M, hM⟩ := sz_some w
  have h' := h
  obtain ⟨p, cap, h1, h2, h3, h4⟩ := h
  exact (OGetS_no b size last p n cap E z hl hn w M hM h1).mono fun e w' ⟨he, hb⟩ => ⟨he, h'.below hN hM hb⟩
theorem THoldS_ok (z : Int) (k : Nat) (hk : k < n) (hz : (E k).id = z) (hl : ∀ i, i < k → (E i).id ≠ z) (h0 : 0 ≤ (E k).held) (hh : (E k).held < 1000) (hn : n ≤ 1000) (hN : Sz w0 N) (h : TbS w0 N b size last n E w) :
    Calls Try.prog 10 #[.pointer (some ⟨b, 0, none⟩), .int .i64 z] w fun e w' => e = .returned (.int .i64 0) ∧ TbS w0 N b size last n (setE E k ⟨(E k).id, (E k).held + 1, (E k).x⟩) w' := by
  obtain ⟨M, hM⟩ := sz_some w
  obtain ⟨p, cap, h1, h2, h3, h4⟩ := h
  exact (OHoldS_ok b size last p n cap E z k hk hz hl h0 hh hn w M hM h1).mono fun e w' ⟨he, T, O⟩ => ⟨he, p, cap, O, h2, h3, T.below h4 (fun j hj => h2 j hj) (below_le h4 hN)⟩
theorem TDropS_more (z : Int) (k : Nat) (hk : k < n) (hz : (E k).id = z) (hl : ∀ i, i < k → (E i).id ≠ z) (h0 : 2 ≤ (E k).held) (hh : (E k).held ≤ 1000) (hn : n ≤ 1000) (hN : Sz w0 N) (h : TbS w0 N b size last n E w) :
    Calls Try.prog 7 #[.pointer (some ⟨b, 0, none⟩), .int .i64 z] w fun e w' => e = .returned (.tuple #[.bool false, .int .i64 0]) ∧ TbS w0 N b size last n (setE E k ⟨(E k).id, (E k).held - 1, (E k).x⟩) w' := by
  obtain ⟨M, hM⟩ := sz_some w
  obtain ⟨p, cap, h1, h2, h3, h4⟩ := h
  exact (ODropS_more b size last p n cap E z k hk hz hl h0 hh hn w M hM h1).mono fun e w' ⟨he, T, O⟩ => ⟨he, p, cap, O, h2, h3, T.below h4 (fun j hj => h2 j hj) (below_le h4 hN)⟩
theorem TDropS_last (z : Int) (k : Nat) (hk : k < n) (hz : (E k).id = z) (hl : ∀ i, i < k → (E i).id ≠ z) (hh : (E k).held = 1) (hn : n ≤ 1000) (hN : Sz w0 N) (h : TbS w0 N b size last n E w) :
    Calls Try.prog 7 #[.pointer (some ⟨b, 0, none⟩), .int .i64 z] w fun e w' => e = .returned (.tuple #[.bool true, .int .i64 0]) ∧ TbS w0 N b size last (n - 1) (delE E k) w' := by
  obtain ⟨M, hM⟩ := sz_some w
  obtain ⟨p, cap, h1, h2, h3, h4⟩ := h
  exact (ODropS_last b size last p n cap E z k hk hz hl hh hn w M hM h1).mono fun e w' ⟨he, T, O⟩ => ⟨he, p, cap, O, h2, h3, T.below h4 (fun j hj => by rcases hj with rfl | hj; exact h3; exact h2 j hj) (below_le h4 hN)⟩
end
theorem TNewS_any (n : Nat) (h1 : 1 ≤ n) (h2 : n ≤ 64) (w : World) (N : Nat) (hN : Sz w N) (E : Nat → En ByteArray) :
    Calls Try.prog 4 #[.int .i64 (n : Int)] w fun e w' => e = .returned (.tuple #[.pointer (some ⟨N, 0, none⟩), .int .i64 0]) ∧ TbS w N N (n : Int) 0 0 E w' ∧ Sz w' (N + 1) :=
  (ONewS_any n h1 h2 w N hN E).mono fun e w' ⟨he, hb, O, hs⟩ => ⟨he, ⟨none, 0, O, fun _ h => (by cases h), Nat.le_refl N, hb⟩, hs⟩
end Go.Proofs.Ytkofhcjgobccoaa
