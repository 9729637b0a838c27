/- Held of objtab at int. -/
import Derived.Test.YtjbmeedfipggdaaObTI
namespace Go.Proofs.Ytjbmeedfipggdaa
open Go Go.RowKit
set_option maxRecDepth 100000 in
theorem OHeldI_ok (b : Nat) (size last : Int) (p : Option Addr) (n cap : Nat) (E : Nat → En Int) (z : Int) (k : Nat) (hk : k < n) (hz : (E k).id = z) (hl : ∀ i, i < k → (E i).id ≠ z) (hn : n ≤ 1000) (w : World) (N : Nat) (hN : Sz w N) (hO : ObI w b size last p n cap E) :
    Calls Try.prog 15 #[.pointer (some ⟨b, 0, none⟩), .int .i64 z] w fun e w' => e = .returned (.int .i64 (E k).held) ∧ Below N w w' := by
  obtain ⟨g, rfl⟩ := hO.ptr (by omega)
  have hlt : (k : Int) < (n : Int) := by omega
  go_enter Try.func15, Try.ntmps15
  go_wp2_with (first
    | (go_at_call 33; refine (placeI_at b size last _ n cap E z k hk hz hl hn _ N hN hO).mono ?_; rintro e w1 ⟨rfl, hb1⟩; have O1 := hO.below hN hb1; have d2 := O1.c2; have dk : w1.cell? ⟨g, k * 3 + 1, none⟩ = some (.int .i64 (E k).held) := O1.at k hk 1 (by omega); clear hz hl)
    | fail)
  go_ret
  exact ⟨rfl, hb1⟩
set_option maxRecDepth 100000 in
theorem OHeldI_no (b : Nat) (size last : Int) (p : Option Addr) (n cap : Nat) (E : Nat → En Int) (z : Int) (hl : ∀ i, i < n → (E i).id ≠ z) (hn : n ≤ 1000) (w : World) (N : Nat) (hN : Sz w N) (hO : ObI w b size last p n cap E) :
    Calls Try.prog 15 #[.pointer (some ⟨b, 0, none⟩), .int .i64 z] w fun e w' => e = .returned (.int .i64 0) ∧ Below N w w' := by
  go_enter Try.func15, Try.ntmps15
  go_wp2_with (first
    | (go_at_call 33; refine (placeI_no b size last p n cap E z hl hn _ N hN hO).mono ?_; rintro e w1 ⟨rfl, hb1⟩; clear hl)
    | fail)
  go_ret
  exact ⟨rfl, hb1⟩
section
variable {w0 w : World} {N b n : Nat} {size last : Int} {E F : Nat → En Int}
theorem THeldI_ok (z : Int) (k : Nat) (hk : k < n) (hz : (E k).id = z) (hl : ∀ i, i < k → (E i).id ≠ z) (hn : n ≤ 1000) (hN : Sz w0 N) (h : TbI w0 N b size last n E w) :
    Calls Try.prog 15 #[.pointer (some ⟨b, 0, none⟩), .int .i64 z] w fun e w' => e = .returned (.int .i64 (E k).held) ∧ TbI w0 N b size last n E w' := by
  obtain ⟨M, hM⟩ := sz_some w
  have h' := h
  obtain ⟨p, cap, h1, h2, h3, h4⟩ := h
  exact (OHeldI_ok b size last p n cap E z k hk hz hl hn w M hM h1).mono fun e w' ⟨he, hb⟩ => ⟨he, h'.below hN hM hb⟩
end
end Go.Proofs.Ytjbmeedfipggdaa
