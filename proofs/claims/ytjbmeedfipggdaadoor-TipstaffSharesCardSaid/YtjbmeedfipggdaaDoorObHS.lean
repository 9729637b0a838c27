/- Held of objtab at string. -/
import Derived.Test.YtjbmeedfipggdaaDoorObTS
namespace Go.Proofs.YtjbmeedfipggdaaDoor
open Go Go.RowKit
set_option maxRecDepth 100000 in
theorem OHeldS_ok (b : Nat) (size last : Int) (p : Option Addr) (n cap : Nat) (E : Nat → En ByteArray) (z : Int) (k : Nat) (hk : k < n) (hz : (E k).id = z) (hl : ∀ i, i < k → (E i).id ≠ z) (hn : n ≤ 1000) (w : World) (N : Nat) (hN : Sz w N) (hO : ObS w b size last p n cap E) :
    Calls Tryd.prog 12 #[.pointer (some ⟨b, 0, none⟩), .int .i64 z] w fun e w' => e = .returned (.int .i64 (E k).held) ∧ Below N w w' := by
  obtain ⟨g, rfl⟩ := hO.ptr (by omega)
  have hlt : (k : Int) < (n : Int) := by omega
  go_enter Tryd.func12, Tryd.ntmps12
  go_wp2_with (first
    | (go_at_call 20; refine (placeS_at b size last _ n cap E z k hk hz hl hn _ N hN hO).mono ?_; rintro e w1 ⟨rfl, hb1⟩; have O1 := hO.below hN hb1; have d2 := O1.c2; have dk : w1.cell? ⟨g, k * 3 + 1, none⟩ = some (.int .i64 (E k).held) := O1.at k hk 1 (by omega); clear hz hl)
    | fail)
  go_ret
  exact ⟨rfl, hb1⟩
set_option maxRecDepth 100000 in
theorem OHeldS_no (b : Nat) (size last : Int) (p : Option Addr) (n cap : Nat) (E : Nat → En ByteArray) (z : Int) (hl : ∀ i, i < n → (E i).id ≠ z) (hn : n ≤ 1000) (w : World) (N : Nat) (hN : Sz w N) (hO : ObS w b size last p n cap E) :
    Calls Tryd.prog 12 #[.pointer (some ⟨b, 0, none⟩), .int .i64 z] w fun e w' => e = .returned (.int .i64 0) ∧ Below N w w' := by
  go_enter Tryd.func12, Tryd.ntmps12
  go_wp2_with (first
    | (go_at_call 20; refine (placeS_no b size last p n cap E z hl hn _ N hN hO).mono ?_; rintro e w1 ⟨rfl, hb1⟩; clear hl)
    | fail)
  go_ret
  exact ⟨rfl, hb1⟩
section
variable {w0 w : World} {N b n : Nat} {size last : Int} {E F : Nat → En ByteArray}
theorem THeldS_ok (z : Int) (k : Nat) (hk : k < n) (hz : (E k).id = z) (hl : ∀ i, i < k → (E i).id ≠ z) (hn : n ≤ 1000) (hN : Sz w0 N) (h : TbS w0 N b size last n E w) :
    Calls Tryd.prog 12 #[.pointer (some ⟨b, 0, none⟩), .int .i64 z] w fun e w' => e = .returned (.int .i64 (E k).held) ∧ TbS w0 N b size last n E w' := by
  obtain ⟨M, hM⟩ := sz_some w
  have h' := h
  obtain ⟨p, cap, h1, h2, h3, h4⟩ := h
  exact (OHeldS_ok b size last p n cap E z k hk hz hl hn w M hM h1).mono fun e w' ⟨he, hb⟩ => ⟨he, h'.below hN hM hb⟩
end
end Go.Proofs.YtjbmeedfipggdaaDoor
