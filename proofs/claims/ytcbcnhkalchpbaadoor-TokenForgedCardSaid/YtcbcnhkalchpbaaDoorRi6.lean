/- Laws of rights: whole; RightsBits. -/
import Derived.Test.YtcbcnhkalchpbaaDoorRi5
namespace Go.Proofs.YtcbcnhkalchpbaaDoor
open Go Go.RowKit
/-- Both tables lie where they lay. -/
structure Rt (w : World) : Prop where
  h : Hp w
  d : Db w
theorem Rt.below {w w' : World} {N : Nat} (t : Rt w) (hN : Sz w N) (h : Below N w w') : Rt w' := ⟨t.h.below hN h, t.d.below hN h⟩
theorem text_all : textOf rgAll = ⟨#[99, 102, 102, 32, 112, 102, 32, 109, 51, 102, 32, 104, 102, 102, 32, 112, 114, 105, 118, 105, 108, 101, 103, 101, 100]⟩ := by decide +kernel
set_option maxRecDepth 100000 in
theorem whole_any (w : World) (N : Nat) (hN : Sz w N) (hT : Rt w) :
    Calls Tryd.prog 16 #[] w fun e w' => e = .returned (.bool true) ∧ Below N w w' := by
  have CB := Bit_any 87 w hT.h
  have eb : bitOf 87 = some 5 := by decide
  rw [eb] at CB
  have CT := fun w M hM hD => Text_any rgAll w M hM hD
  rw [text_all] at CT
  have ew : rWithin rgNone rgAll = true := by decide
  have CW := fun w M hM => Within_any rgNone rgAll w M hM
  rw [ew] at CW
  clear eb ew
  go_enter Tryd.func16, Tryd.ntmps16
  go_wp2_with fail
  refine CB.mono ?_
  rintro e wa ⟨rfl, ea⟩
  have ea := ea.symm
  subst ea
  go_wp2_with fail
  refine (All_any _ N hN).mono ?_
  rintro e w1 ⟨rfl, b1⟩
  obtain ⟨M1, hM1⟩ := sz_some w1
  have l1 := below_sz b1 hN hM1
  go_wp2_with fail
  refine (CT _ M1 hM1 (hT.below hN b1).d).mono ?_
  rintro e w2 ⟨rfl, b2⟩
  obtain ⟨M2, hM2⟩ := sz_some w2
  have l2 := below_sz b2 hM1 hM2
  have lo2 := b1.trans (b2.mono l1)
  go_wp2_with (first
    | (refine wpl_want' rfl (wpl_build rfl 26 _ rfl (cellsOf (rgC rgNone) 6) (by kernel_rfl) ?_))
    | fail)
  refine (All_any _ M2 hM2).mono ?_
  rintro e w3 ⟨rfl, b3⟩
  obtain ⟨M3, hM3⟩ := sz_some w3
  have l3 := below_sz b3 hM2 hM3
  have lo3 := lo2.trans (b3.mono (by omega))
  go_wp2_with fail
  refine (CW _ M3 hM3).mono ?_
  rintro e w4 ⟨rfl, b4⟩
  have lo4 := lo3.trans (b4.mono (by omega))
  go_wp2_with fail
  go_ret
  exact ⟨rfl, lo4⟩
def hpArr : Array Value := #[.int .i32 1, .int .i32 2, .int .i32 3, .int .i32 5, .int .i32 7, .int .i32 87, .int .i32 88, .int .i32 89]
theorem hpArr_get (j : Nat) (hj : j < 8) : hpArr[j]? = some (.int .i32 (hpN j)) := by
  rcases (show j = 0 ∨ j = 1 ∨ j = 2 ∨ j = 3 ∨ j = 4 ∨ j = 5 ∨ j = 6 ∨ j = 7 by omega) with rfl | rfl | rfl | rfl | rfl | rfl | rfl | rfl <;> rfl
theorem bitOf_at {h : Int} {j : Nat} (hj : j < 8) (h1 : hpN j = h) : bitOf h = some j := bitOf_some hj h1
set_option maxRecDepth 100000 in
theorem law_bits (h : Int) (w : World) (N : Nat) (hN : Sz w N) (hT : Rt w) :
    Calls Tryd.prog 6 #[.int .i32 h] w fun e w' => e = .returned (.bool true) ∧ Below N w w' := by
  have CB := Bit_any h w hT.h
  have HB := hid (show ∀ j, j < 8 → hpN j = h → bitOf h = some j from fun j hj e => bitOf_some hj e)
  have HL := hid (show (∀ j, j < 8 → hpN j ≠ h) → bitOf h = none from fun e => bitOf_none e)
  generalize bitOf h = B at CB HB HL
  go_enter Tryd.func6, Tryd.ntmps6
  go_wp2_with fail
  refine CB.mono ?_
  rintro e wa ⟨rfl, ea⟩
  have ea := ea.symm
  subst ea
  go_wp2_with fail
  have e0 : w.heap.size = N := hN
  have hc : ∀ j, j < 8 → (w.alloc (.cells #[.int .i32 1, .int .i32 2, .int .i32 3, .int .i32 5, .int .i32 7, .int .i32 87, .int .i32 88, .int .i32 89] 21)).cell? ⟨N, j, none⟩ = some (.int .i32 (hpN j)) := fun j hj => by
    rw [← e0, cell_of_row _ _ _ _ _ _ (heap_alloc_new w _)]
    exact hpArr_get j hj
  have b1 := below_new w (.cells #[.int .i32 1, .int .i32 2, .int .i32 3, .int .i32 5, .int .i32 7, .int .i32 87, .int .i32 88, .int .i32 89] 21) N hN
  have s1 : Sz (w.alloc (.cells #[.int .i32 1, .int .i32 2, .int .i32 3, .int .i32 5, .int .i32 7, .int .i32 87, .int .i32 88, .int .i32 89] 21)) (N + 1) := sz_alloc hN _
  rw [e0]
  have T1 := hT.below hN b1
  generalize w.alloc (.cells #[.int .i32 1, .int .i32 2, .int .i32 3, .int .i32 5, .int .i32 7, .int .i32 87, .int .i32 88, .int .i32 89] 21) = w1 at *
  have Hc := hid hc
  clear hc e0
  go_loop [6] (fun i => ∃ j : Nat, j ≤ 8 ∧ i = .int .i64 j ∧ Hid (∀ l, l < j → hpN l ≠ h)) (fun i => 8 - (intOf i).toNat)
  case atStart => exact ⟨0, by omega, rfl, hid (fun l hl => by omega)⟩
  case round =>
    obtain ⟨j, hj, rfl, H⟩ := hrel
    have j0 : (0 : Int) ≤ (j : Int) := by omega
    by_cases he : j < 8
    · have hlt : (j : Int) < 8 := by omega
      have cj := Hc.out j he
      by_cases hx : hpN j = h
      · have hb := HB.out j he hx
        subst hb
        have hx' : (hpN j == h) = true := by rw [hx]; simp
        clear hx HB HL Hc
        generalize hpN j = z at cj hx'
        go_wp2_with fail
        refine (whole_any _ (N + 1) s1 T1).mono ?_
        rintro e w2 ⟨rfl, b2⟩
        go_wp2_with fail
        go_ret
        exact ⟨by first | rfl | simp, b1.trans (b2.mono (by omega))⟩
      · have Hx := hid hx
        have hx' : (hpN j == h) = false := by rw [beq_eq_false_iff_ne]; exact hx
        clear hx
        generalize hpN j = z at cj hx'
        go_wp2
        go_round
        case rel => exact ⟨j + 1, by omega, by go_num, hid (fun l hl => by
          by_cases e : l = j
          · rw [e]; exact Hx.out
          · exact H.out l (by omega))⟩
        case measure => simp [intOf]; omega
    · have hlt : ¬ (j : Int) < 8 := by omega
      have hb := HL.out (fun l hl => H.out l (by omega))
      subst hb
      clear HB HL Hc
      go_wp2_with fail
      refine (whole_any _ (N + 1) s1 T1).mono ?_
      rintro e w2 ⟨rfl, b2⟩
      go_wp2_with fail
      go_ret
      exact ⟨by first | rfl | simp, b1.trans (b2.mono (by omega))⟩
end Go.Proofs.YtcbcnhkalchpbaaDoor
