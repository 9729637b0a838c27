/- SpaceInside: the walk. -/
import Derived.Test.YtcbcnhkalchpbaaSp7
import Derived.Test.YtcbcnhkalchpbaaAts2
import Derived.Deep.CutBlock
import Derived.Deep.DeepCutAuto
import Derived.Deep.QuietTactic
import Derived.BigQuiet
namespace Go.Proofs.Ytcbcnhkalchpbaa
open Go Go.RowKit
set_option maxRecDepth 100000 in
set_option maxHeartbeats 2000000 in
theorem law_sinside (q : Option Addr) (n cap : Nat) (Z : Nat → Int) (l : Nat → Int) (w : World) (N : Nat) (hN : Sz w N) (hn : n ≤ 9223372036854775807) (hZ : Ats w q n (fun j => .int .i64 (Z j))) :
    Calls Try.prog 4 #[.slice q n cap, .agg (cellsOf (fun j => .int .i64 (l j)) 3)] w fun e w' => e = .returned (.bool true) ∧ Below N w w' := by
  go_enter Try.func4, Try.ntmps4
  go_wp2_with (first
    | (refine wpl_box rfl 39 (.tmp 1) rfl 3 _ rfl N hN ?_; intro w1 hN1 hb1 hh1)
    | fail)
  refine (build_any q n cap Z _ (N + 1) hN1 hn (hZ.below hN hb1)).mono ?_
  rintro e w2 ⟨b, c, f, rb, p, cp, rfl, B2⟩
  obtain ⟨M2, hM2⟩ := sz_some w2
  have l2 := below_sz B2.bel hN1 hM2
  go_wp2_with fail
  refine (within_any _ M2 hM2).mono ?_
  rintro e w3 ⟨rfl, b3⟩
  have B3 := B2.below hM2 l2 b3
  have h3 := (hh1.below B2.bel (by omega)).below b3 (by omega)
  have lo3 : Below N w w3 := hb1.trans (B3.bel.mono (by omega))
  clear B2 b3 hh1 hb1
  have d0 : w3.cell? ⟨N, 0, none⟩ = some (.int .i64 (l 0)) := h3.cell (j := 0) (by omega)
  have d1 : w3.cell? ⟨N, 1, none⟩ = some (.int .i64 (l 1)) := h3.cell (j := 1) (by omega)
  have d2 : w3.cell? ⟨N, 2, none⟩ = some (.int .i64 (l 2)) := h3.cell (j := 2) (by omega)
  have c0 := B3.r.cell
  have c1 := B3.t.c1
  have c8 := B3.t.c8
  have jz : ((c : Int) == 0) = false := by rw [beq_eq_false_iff_ne]; omega
  have ju : IntKind.u64.wrap (c : Int) = (c : Int) := by rw [IntKind.wrap_u64]; omega
  obtain ⟨i, hi, ei⟩ := rest (l 0) c (by omega) (by omega)
  obtain ⟨j, hj, ej⟩ := rest (l 1) c (by omega) (by omega)
  obtain ⟨k, hk, ek⟩ := rest (l 2) c (by omega) (by omega)
  have Ei := hid ei
  have Ej := hid ej
  have Ek := hid ek
  clear ei ej ek
  have k1 : (1 : Int) ≤ (c : Int) := by omega
  have k8 : (c : Int) ≤ 8 := by omega
  go_upto_region 4 with fail
  go_quiet (fail)
  rw [Ei.out, Ej.out, Ek.out]
  clear Ei Ej Ek jz ju d0 d1 d2 c0 h3
  have B4 := B3.drewN nq
  have lo4 := below_drewN lo3 nq
  generalize w3.drewN nq = w4 at *
  clear B3 lo3
  obtain ⟨M, hM⟩ := sz_some w4
  have lM := below_sz lo4 hN hM
  have D := B4.t.dec
  have m0 : insI f c (i : Int) 0 = true := (ins_nat (o := 0) hi).2 (mem_zero D i hi)
  have mi : insI f c (i : Int) (i : Int) = true := (ins_nat hi).2 (mem_self f i)
  have tr : insI f c (i : Int) (j : Int) = true → insI f c (j : Int) (k : Int) = true → insI f c (i : Int) (k : Int) = true := fun h1 h2 =>
    (ins_nat hi).2 (mem_trans D i hi j k ((ins_nat hi).1 h1) ((ins_nat hj).1 h2))
  have an : insI f c (i : Int) (j : Int) = true → insI f c (j : Int) (i : Int) = true → i = j := fun h1 h2 => by
    have a1 := ups_le D i hi j ((ins_nat hi).1 h1)
    have a2 := ups_le D j hj i ((ins_nat hj).1 h2)
    omega
  have T := B4.t
  clear B4 D hZ hn hN1 hM2
  have Tr' := hid tr
  have An := hid an
  have I0 := fun w M hM hT => Inside_any b c f (i : Int) 0 w M hM hT
  have Ii := fun w M hM hT => Inside_any b c f (i : Int) (i : Int) w M hM hT
  have Iij := fun w M hM hT => Inside_any b c f (i : Int) (j : Int) w M hM hT
  have Ijk := fun w M hM hT => Inside_any b c f (j : Int) (k : Int) w M hM hT
  have Iik := fun w M hM hT => Inside_any b c f (i : Int) (k : Int) w M hM hT
  have Iji := fun w M hM hT => Inside_any b c f (j : Int) (i : Int) w M hM hT
  rw [m0] at I0
  rw [mi] at Ii
  have i0 : (0 : Int) ≤ (i : Int) := by omega
  have j0 : (0 : Int) ≤ (j : Int) := by omega
  have kk0 : (0 : Int) ≤ (k : Int) := by omega
  clear tr an m0 mi
  cases hij : insI f c (i : Int) (j : Int)
  · rw [hij] at Iij
    clear Tr' An hij
    go_wp2_with fail
    refine (Iij _ M hM T).mono ?_
    rintro e x11 ⟨rfl, y11⟩
    have T11 := T.below hM y11
    obtain ⟨M11, hM11⟩ := sz_some x11
    have g11 := below_sz y11 hM hM11
    have lo11 := lo4.trans (y11.mono lM)
    have le11 : N ≤ M11 := by omega
    go_wp2_with fail
    refine (I0 _ M11 hM11 T11).mono ?_
    rintro e x12 ⟨rfl, y12⟩
    have T12 := T11.below hM11 y12
    obtain ⟨M12, hM12⟩ := sz_some x12
    have g12 := below_sz y12 hM11 hM12
    have lo12 := lo11.trans (y12.mono le11)
    have le12 : N ≤ M12 := by omega
    go_wp2_with fail
    refine (Ii _ M12 hM12 T12).mono ?_
    rintro e x13 ⟨rfl, y13⟩
    have T13 := T12.below hM12 y13
    obtain ⟨M13, hM13⟩ := sz_some x13
    have g13 := below_sz y13 hM12 hM13
    have lo13 := lo12.trans (y13.mono le12)
    have le13 : N ≤ M13 := by omega
    go_wp2_with fail
    refine (Iij _ M13 hM13 T13).mono ?_
    rintro e x14 ⟨rfl, y14⟩
    have T14 := T13.below hM13 y14
    obtain ⟨M14, hM14⟩ := sz_some x14
    have g14 := below_sz y14 hM13 hM14
    have lo14 := lo13.trans (y14.mono le13)
    have le14 : N ≤ M14 := by omega
    go_wp2_with fail
    go_ret
    exact ⟨rfl, lo14⟩
  · rw [hij] at Iij
    have Hij := hid hij
    clear hij
    cases hji : insI f c (j : Int) (i : Int)
    · rw [hji] at Iji
      clear hji An
      cases hjk : insI f c (j : Int) (k : Int)
      · rw [hjk] at Ijk
        clear hjk Hij Tr'
        go_wp2_with fail
        refine (Iij _ M hM T).mono ?_
        rintro e x11 ⟨rfl, y11⟩
        have T11 := T.below hM y11
        obtain ⟨M11, hM11⟩ := sz_some x11
        have g11 := below_sz y11 hM hM11
        have lo11 := lo4.trans (y11.mono lM)
        have le11 : N ≤ M11 := by omega
        go_wp2_with fail
        refine (Ijk _ M11 hM11 T11).mono ?_
        rintro e x12 ⟨rfl, y12⟩
        have T12 := T11.below hM11 y12
        obtain ⟨M12, hM12⟩ := sz_some x12
        have g12 := below_sz y12 hM11 hM12
        have lo12 := lo11.trans (y12.mono le11)
        have le12 : N ≤ M12 := by omega
        go_wp2_with fail
        refine (I0 _ M12 hM12 T12).mono ?_
        rintro e x13 ⟨rfl, y13⟩
        have T13 := T12.below hM12 y13
        obtain ⟨M13, hM13⟩ := sz_some x13
        have g13 := below_sz y13 hM12 hM13
        have lo13 := lo12.trans (y13.mono le12)
        have le13 : N ≤ M13 := by omega
        go_wp2_with fail
        refine (Ii _ M13 hM13 T13).mono ?_
        rintro e x14 ⟨rfl, y14⟩
        have T14 := T13.below hM13 y14
        obtain ⟨M14, hM14⟩ := sz_some x14
        have g14 := below_sz y14 hM13 hM14
        have lo14 := lo13.trans (y14.mono le13)
        have le14 : N ≤ M14 := by omega
        go_wp2_with fail
        refine (Iij _ M14 hM14 T14).mono ?_
        rintro e x15 ⟨rfl, y15⟩
        have T15 := T14.below hM14 y15
        obtain ⟨M15, hM15⟩ := sz_some x15
        have g15 := below_sz y15 hM14 hM15
        have lo15 := lo14.trans (y15.mono le14)
        have le15 : N ≤ M15 := by omega
        go_wp2_with fail
        refine (Iji _ M15 hM15 T15).mono ?_
        rintro e x16 ⟨rfl, y16⟩
        have T16 := T15.below hM15 y16
        obtain ⟨M16, hM16⟩ := sz_some x16
        have g16 := below_sz y16 hM15 hM16
        have lo16 := lo15.trans (y16.mono le15)
        have le16 : N ≤ M16 := by omega
        go_wp2_with fail
        go_ret
        exact ⟨rfl, lo16⟩
      · rw [hjk] at Ijk
        have hik := Tr'.out Hij.out hjk
        rw [hik] at Iik
        clear hik
        clear hjk Hij Tr'
        go_wp2_with fail
        refine (Iij _ M hM T).mono ?_
        rintro e x11 ⟨rfl, y11⟩
        have T11 := T.below hM y11
        obtain ⟨M11, hM11⟩ := sz_some x11
        have g11 := below_sz y11 hM hM11
        have lo11 := lo4.trans (y11.mono lM)
        have le11 : N ≤ M11 := by omega
        go_wp2_with fail
        refine (Ijk _ M11 hM11 T11).mono ?_
        rintro e x12 ⟨rfl, y12⟩
        have T12 := T11.below hM11 y12
        obtain ⟨M12, hM12⟩ := sz_some x12
        have g12 := below_sz y12 hM11 hM12
        have lo12 := lo11.trans (y12.mono le11)
        have le12 : N ≤ M12 := by omega
        go_wp2_with fail
        refine (Iik _ M12 hM12 T12).mono ?_
        rintro e x13 ⟨rfl, y13⟩
        have T13 := T12.below hM12 y13
        obtain ⟨M13, hM13⟩ := sz_some x13
        have g13 := below_sz y13 hM12 hM13
        have lo13 := lo12.trans (y13.mono le12)
        have le13 : N ≤ M13 := by omega
        go_wp2_with fail
        refine (I0 _ M13 hM13 T13).mono ?_
        rintro e x14 ⟨rfl, y14⟩
        have T14 := T13.below hM13 y14
        obtain ⟨M14, hM14⟩ := sz_some x14
        have g14 := below_sz y14 hM13 hM14
        have lo14 := lo13.trans (y14.mono le13)
        have le14 : N ≤ M14 := by omega
        go_wp2_with fail
        refine (Ii _ M14 hM14 T14).mono ?_
        rintro e x15 ⟨rfl, y15⟩
        have T15 := T14.below hM14 y15
        obtain ⟨M15, hM15⟩ := sz_some x15
        have g15 := below_sz y15 hM14 hM15
        have lo15 := lo14.trans (y15.mono le14)
        have le15 : N ≤ M15 := by omega
        go_wp2_with fail
        refine (Iij _ M15 hM15 T15).mono ?_
        rintro e x16 ⟨rfl, y16⟩
        have T16 := T15.below hM15 y16
        obtain ⟨M16, hM16⟩ := sz_some x16
        have g16 := below_sz y16 hM15 hM16
        have lo16 := lo15.trans (y16.mono le15)
        have le16 : N ≤ M16 := by omega
        go_wp2_with fail
        refine (Iji _ M16 hM16 T16).mono ?_
        rintro e x17 ⟨rfl, y17⟩
        have T17 := T16.below hM16 y17
        obtain ⟨M17, hM17⟩ := sz_some x17
        have g17 := below_sz y17 hM16 hM17
        have lo17 := lo16.trans (y17.mono le16)
        have le17 : N ≤ M17 := by omega
        go_wp2_with fail
        go_ret
        exact ⟨rfl, lo17⟩
    · rw [hji] at Iji
      have ee : ((i : Int) == (j : Int)) = true := by have := An.out Hij.out hji; simp [this]
      clear hji An
      cases hjk : insI f c (j : Int) (k : Int)
      · rw [hjk] at Ijk
        clear hjk Hij Tr'
        go_wp2_with fail
        refine (Iij _ M hM T).mono ?_
        rintro e x11 ⟨rfl, y11⟩
        have T11 := T.below hM y11
        obtain ⟨M11, hM11⟩ := sz_some x11
        have g11 := below_sz y11 hM hM11
        have lo11 := lo4.trans (y11.mono lM)
        have le11 : N ≤ M11 := by omega
        go_wp2_with fail
        refine (Ijk _ M11 hM11 T11).mono ?_
        rintro e x12 ⟨rfl, y12⟩
        have T12 := T11.below hM11 y12
        obtain ⟨M12, hM12⟩ := sz_some x12
        have g12 := below_sz y12 hM11 hM12
        have lo12 := lo11.trans (y12.mono le11)
        have le12 : N ≤ M12 := by omega
        go_wp2_with fail
        refine (I0 _ M12 hM12 T12).mono ?_
        rintro e x13 ⟨rfl, y13⟩
        have T13 := T12.below hM12 y13
        obtain ⟨M13, hM13⟩ := sz_some x13
        have g13 := below_sz y13 hM12 hM13
        have lo13 := lo12.trans (y13.mono le12)
        have le13 : N ≤ M13 := by omega
        go_wp2_with fail
        refine (Ii _ M13 hM13 T13).mono ?_
        rintro e x14 ⟨rfl, y14⟩
        have T14 := T13.below hM13 y14
        obtain ⟨M14, hM14⟩ := sz_some x14
        have g14 := below_sz y14 hM13 hM14
        have lo14 := lo13.trans (y14.mono le13)
        have le14 : N ≤ M14 := by omega
        go_wp2_with fail
        refine (Iij _ M14 hM14 T14).mono ?_
        rintro e x15 ⟨rfl, y15⟩
        have T15 := T14.below hM14 y15
        obtain ⟨M15, hM15⟩ := sz_some x15
        have g15 := below_sz y15 hM14 hM15
        have lo15 := lo14.trans (y15.mono le14)
        have le15 : N ≤ M15 := by omega
        go_wp2_with fail
        refine (Iji _ M15 hM15 T15).mono ?_
        rintro e x16 ⟨rfl, y16⟩
        have T16 := T15.below hM15 y16
        obtain ⟨M16, hM16⟩ := sz_some x16
        have g16 := below_sz y16 hM15 hM16
        have lo16 := lo15.trans (y16.mono le15)
        have le16 : N ≤ M16 := by omega
        go_wp2_with fail
        go_ret
        exact ⟨rfl, lo16⟩
      · rw [hjk] at Ijk
        have hik := Tr'.out Hij.out hjk
        rw [hik] at Iik
        clear hik
        clear hjk Hij Tr'
        go_wp2_with fail
        refine (Iij _ M hM T).mono ?_
        rintro e x11 ⟨rfl, y11⟩
        have T11 := T.below hM y11
        obtain ⟨M11, hM11⟩ := sz_some x11
        have g11 := below_sz y11 hM hM11
        have lo11 := lo4.trans (y11.mono lM)
        have le11 : N ≤ M11 := by omega
        go_wp2_with fail
        refine (Ijk _ M11 hM11 T11).mono ?_
        rintro e x12 ⟨rfl, y12⟩
        have T12 := T11.below hM11 y12
        obtain ⟨M12, hM12⟩ := sz_some x12
        have g12 := below_sz y12 hM11 hM12
        have lo12 := lo11.trans (y12.mono le11)
        have le12 : N ≤ M12 := by omega
        go_wp2_with fail
        refine (Iik _ M12 hM12 T12).mono ?_
        rintro e x13 ⟨rfl, y13⟩
        have T13 := T12.below hM12 y13
        obtain ⟨M13, hM13⟩ := sz_some x13
        have g13 := below_sz y13 hM12 hM13
        have lo13 := lo12.trans (y13.mono le12)
        have le13 : N ≤ M13 := by omega
        go_wp2_with fail
        refine (I0 _ M13 hM13 T13).mono ?_
        rintro e x14 ⟨rfl, y14⟩
        have T14 := T13.below hM13 y14
        obtain ⟨M14, hM14⟩ := sz_some x14
        have g14 := below_sz y14 hM13 hM14
        have lo14 := lo13.trans (y14.mono le13)
        have le14 : N ≤ M14 := by omega
        go_wp2_with fail
        refine (Ii _ M14 hM14 T14).mono ?_
        rintro e x15 ⟨rfl, y15⟩
        have T15 := T14.below hM14 y15
        obtain ⟨M15, hM15⟩ := sz_some x15
        have g15 := below_sz y15 hM14 hM15
        have lo15 := lo14.trans (y15.mono le14)
        have le15 : N ≤ M15 := by omega
        go_wp2_with fail
        refine (Iij _ M15 hM15 T15).mono ?_
        rintro e x16 ⟨rfl, y16⟩
        have T16 := T15.below hM15 y16
        obtain ⟨M16, hM16⟩ := sz_some x16
        have g16 := below_sz y16 hM15 hM16
        have lo16 := lo15.trans (y16.mono le15)
        have le16 : N ≤ M16 := by omega
        go_wp2_with fail
        refine (Iji _ M16 hM16 T16).mono ?_
        rintro e x17 ⟨rfl, y17⟩
        have T17 := T16.below hM16 y17
        obtain ⟨M17, hM17⟩ := sz_some x17
        have g17 := below_sz y17 hM16 hM17
        have lo17 := lo16.trans (y17.mono le16)
        have le17 : N ≤ M17 := by omega
        go_wp2_with fail
        go_ret
        exact ⟨rfl, lo17⟩
end Go.Proofs.Ytcbcnhkalchpbaa
