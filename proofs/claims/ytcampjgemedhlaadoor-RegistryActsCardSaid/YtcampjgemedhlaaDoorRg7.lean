/- DocSpend of the document's answer for layer 3. -/
import Derived.Test.YtcampjgemedhlaaDoorRg6
namespace Go.Proofs.YtcampjgemedhlaaDoor
open Go Go.RowKit Sha
theorem OwnK.one {w : World} {E n cap : Nat} {p : Option Addr} {f : Nat → Value} (h : OwnK w E 1 p n cap f) : Own w E p n cap f := by
  rcases h with h | ⟨g, C, e, hg, h1, h2, h3⟩
  · exact .inl h
  · exact .inr ⟨g, C, e, hg, h1, by rw [h2, Nat.mul_one], fun j hj => h3 j (by rwa [Nat.mul_one])⟩
theorem Dc.touchS {w w' : World} {d gs : Nat} {R : Rg} {pk : Option Addr} {ck cs n : Nat} (h : Dc w d R pk ck (some ⟨gs, 0, none⟩) cs) (t : Touch gs w w') (o : OwnK w' 4 1 (some ⟨gs, 0, none⟩) R.c cs (upd (spC R) n (.bool true))) : Dc w' d (spendR R n) pk ck (some ⟨gs, 0, none⟩) cs :=
  ⟨h.h.touch t (fun e => h.sd gs rfl e.symm), h.k.touch t (fun g hg e => h.ks g hg (by rw [e]; rfl)), o.one.congr (fun j _ => by
    unfold upd spC spendR
    by_cases e : j = n
    · rw [if_pos e]; simp only; rw [if_pos e]
    · rw [if_neg e]; simp only; rw [if_neg e]), h.kd, h.sd, h.ks⟩
set_option maxRecDepth 100000 in
theorem DSpend_out (R : Rg) (d : Nat) (pk ps : Option Addr) (ck cs : Nat) (i : Int) (w : World) (hD : Dc w d R pk ck ps cs) (h : i < 0 ∨ (R.c : Int) ≤ i) :
    Calls Tryd.prog 42 #[.pointer (some ⟨d, 0, none⟩), .int .i64 i] w fun e w' => e = .returned (.int .i64 2) ∧ w = w' := by
  have c1 := hD.cell72
  by_cases h0 : i < 0
  · have h1 : decide (i < 0) = true := by simpa using h0
    go_enter Tryd.func42, Tryd.ntmps42
    go_wp2_with fail
    go_ret
    exact ⟨rfl, rfl⟩
  · have h1 : decide (i < 0) = false := by simpa using h0
    have h2 : decide ((R.c : Int) ≤ i) = true := by simp; omega
    clear h
    go_enter Tryd.func42, Tryd.ntmps42
    go_wp2_with fail
    go_ret
    exact ⟨rfl, rfl⟩
set_option maxRecDepth 100000 in
theorem DSpend_spent (R : Rg) (d : Nat) (pk ps : Option Addr) (ck cs n : Nat) (w : World) (hD : Dc w d R pk ck ps cs) (hn : n < R.c) (hc : R.c ≤ 32) (hs : R.sp n = true) :
    Calls Tryd.prog 42 #[.pointer (some ⟨d, 0, none⟩), .int .i64 (n : Int)] w fun e w' => e = .returned (.int .i64 129) ∧ w = w' := by
  have c1 := hD.cell72
  obtain ⟨gs, rfl, hss⟩ := hD.spent (by omega)
  have c3 := hD.cell73
  have c2 := hss n hn
  rw [hs] at c2
  clear hs hss
  have h2 : decide ((R.c : Int) ≤ (n : Int)) = false := by simp; omega
  have h3 : (n : Int) < 32 := by omega
  go_enter Tryd.func42, Tryd.ntmps42
  go_wp2_with fail
  go_ret
  exact ⟨rfl, rfl⟩
set_option maxRecDepth 100000 in
theorem DSpend_ok (R : Rg) (d : Nat) (pk ps : Option Addr) (ck cs n : Nat) (w : World) (hD : Dc w d R pk ck ps cs) (hn : n < R.c) (hc : R.c ≤ 32) (hs : R.sp n = false) :
    Calls Tryd.prog 42 #[.pointer (some ⟨d, 0, none⟩), .int .i64 (n : Int)] w fun e w' => e = .returned (.int .i64 0) ∧ ∃ gs, blk ps = some gs ∧ Touch gs w w' ∧ Dc w' d (spendR R n) pk ck ps cs := by
  have c1 := hD.cell72
  obtain ⟨gs, rfl, hss⟩ := hD.spent (by omega)
  have c3 := hD.cell73
  have c2 := hss n hn
  have hk := hD.s.toK
  rw [hs] at c2
  clear hs hss
  have h2 : decide ((R.c : Int) ≤ (n : Int)) = false := by simp; omega
  have h3 : (n : Int) < 32 := by omega
  go_enter Tryd.func42, Tryd.ntmps42
  go_wp2_with (first
    | (refine wpl_setK rfl 4 (.tmp 28) (.const (.bool true)) rfl gs n rfl (.bool true) rfl inf4 rfl rfl 4 1 R.c cs (spC R) hk (by omega) ?_; intro w1 ht1 o1; clear c1 c2 c3)
    | fail)
  go_ret
  exact ⟨rfl, gs, rfl, ht1, hD.touchS ht1 o1⟩
end Go.Proofs.YtcampjgemedhlaaDoor
