/- BmapPrefix: what keyText, nearest, Cell, Lookup and Update tell of a Prefix. Written by mk_bp3.py. -/
import Derived.Test.YteicoheihalnnaaBp2
import Derived.Test.YteicoheihalnnaaBm8
import Derived.Deep.LoopGhost
namespace Go.Proofs.Yteicoheihalnnaa
open Go Go.RowKit
def KeyP (m : Mp) (D : Nat → BitVec 8) (t : ByteArray) : Prop := m.ty = 5 ∧ m.key = 5 ∧ ∃ c a, c ≤ 8 ∧ D = k5 c a ∧ t = key5 c (msk c a)
set_option maxRecDepth 100000 in
theorem keyText_p (m : Mp) (D : Nat → BitVec 8) (t : ByteArray) (hK : KeyP m D t) (q : Option Addr) (cq : Nat) (w : World) (N : Nat) (hN : Sz w N) (hA : MpAt w m) (hq : Ats w q m.key (fun j => By (D j))) :
    Calls Try.prog 23 #[.pointer (some ⟨m.b, 0, none⟩), .slice q m.key cq] w fun e w' => e = .returned (.tuple #[.string t, .bool true]) ∧ Below N w w' := by
  obtain ⟨h5, hk5, c, a, hc, rfl, rfl⟩ := hK
  rw [hk5] at hq ⊢
  have d0 := hA.c0
  rw [h5] at d0
  have d1 := hA.c1
  rw [hk5] at d1
  have hs : (key5 c a).size = 5 := strOf_size _ _
  have c8 : ¬ ((8 : Int) < (c : Int)) := by omega
  have hcv : (convert 22 9 (.slice q 5 cq)).run Try.prog w = .ok (.string (key5 c a)) w := run_string (P := Try.prog) w 22 9 5 undBB undBy undBS q 5 cq (k5 c a) hq
  have Hcv := hid hcv
  clear hcv hk5
  have H5 := hid h5
  clear h5
  go_enter Try.func23, Try.ntmps23
  go_wp2_with (first
    | (go_at_call 31; refine (isLine_no m (by have := H5.out; omega) (by have := H5.out; omega) _ hA).mono ?_; rintro e w1 ⟨rfl, rfl⟩)
    | (refine wpl_conv rfl 22 9 (.tmp 20) rfl _ (.string (key5 c a)) rfl Hcv.out ?_)
    | (go_at_call 35; refine (number_5 c (by omega) a _).mono ?_; rintro e w1 ⟨rfl, rfl⟩)
    | (go_at_call 36; refine (cut_5 c c (by omega) hc a _ N hN).mono ?_; rintro e w1 ⟨rfl, hb1⟩)
    | fail)
  go_ret2
  exact ⟨rfl, hb1⟩
set_option maxRecDepth 100000 in
theorem keyText_bad (m : Mp) (h5 : m.ty = 5) (hk5 : m.key = 5) (c : Nat) (a : BitVec 8) (hc : 8 < c) (hc2 : c < 256) (q : Option Addr) (cq : Nat) (w : World) (hA : MpAt w m) (hq : Ats w q 5 (fun j => By (k5 c a j))) :
    Calls Try.prog 23 #[.pointer (some ⟨m.b, 0, none⟩), .slice q 5 cq] w fun e w' => e = .returned (.tuple #[.string ⟨#[]⟩, .bool false]) ∧ w' = w := by
  have d0 := hA.c0
  rw [h5] at d0
  have d1 := hA.c1
  rw [hk5] at d1
  have hs : (key5 c a).size = 5 := strOf_size _ _
  have c8 : ((8 : Int) < (c : Int)) := by omega
  have hcv : (convert 22 9 (.slice q 5 cq)).run Try.prog w = .ok (.string (key5 c a)) w := run_string (P := Try.prog) w 22 9 5 undBB undBy undBS q 5 cq (k5 c a) hq
  have Hcv := hid hcv
  clear hcv hk5
  have H5 := hid h5
  clear h5
  go_enter Try.func23, Try.ntmps23
  go_wp2_with (first
    | (go_at_call 31; refine (isLine_no m (by have := H5.out; omega) (by have := H5.out; omega) _ hA).mono ?_; rintro e w1 ⟨rfl, rfl⟩)
    | (refine wpl_conv rfl 22 9 (.tmp 20) rfl _ (.string (key5 c a)) rfl Hcv.out ?_)
    | (go_at_call 35; refine (number_5 c (by omega) a _).mono ?_; rintro e w1 ⟨rfl, rfl⟩)
    | fail)
  go_ret2
  exact ⟨rfl, rfl⟩
set_option maxRecDepth 100000 in
/-- The longest of the entries whose bits are those of the key. -/
theorem nearest_p (m : Mp) (h5 : m.ty = 5) (c n k : Nat) (hc : c ≤ 8) (hnc : n ≤ c) (a : BitVec 8) (hk : KAt m (key5 n (msk n a)) k) (hl : ∀ b, n < b → b ≤ c → KNo m (key5 b (msk b a))) (hn : m.n ≤ 1000) (w : World) (N : Nat) (hN : Sz w N) (hA : MpAt w m) :
    Calls Try.prog 28 #[.pointer (some ⟨m.b, 0, none⟩), .string (key5 c a)] w fun e w' => e = .returned (.int .i64 (k : Int)) ∧ Below N w w' := by
  have d0 := hA.c0
  rw [h5] at d0
  clear h5
  obtain ⟨hk1, hk2, hk3⟩ := hk
  have Hk2 := hid hk2
  have Hk3 := hid hk3
  have Hl := hid hl
  clear hk2 hk3 hl
  have kn : ((k : Int) == -1) = false := by rw [beq_eq_false_iff_ne]; omega
  have c0 : (0 : Int) ≤ (c : Int) := by omega
  have c8 : (c : Int) ≤ 8 := by omega
  go_enter Try.func28, Try.ntmps28
  go_wp2_with (first
    | (go_at_call 35; refine (number_5 c (by omega) a _).mono ?_; rintro e w1 ⟨rfl, e1⟩; have e2 := e1.symm; subst e2)
    | fail)
  go_loopg [5] c (fun g i wr => ∃ j : Nat, n ≤ j ∧ j ≤ c ∧ g = j ∧ i = .int .i64 (j : Int) ∧ Below N w wr)
  case atStart => exact ⟨c, hnc, by omega, rfl, rfl, Below.refl _ _⟩
  case round =>
    obtain ⟨j, hj1, hj2, hg, rfl, hb⟩ := hrel
    obtain ⟨M, hM⟩ := sz_some wr
    have hNM := below_sz hb hN hM
    have A := hA.below hN hb
    clear d0
    have j0 : (0 : Int) ≤ (j : Int) := by omega
    by_cases hjn : j = n
    · subst hjn
      go_wp2_with (first
        | (go_at_call 36; refine (cut_5 c j (by omega) (by omega) a _ M hM).mono ?_; rintro e w1 ⟨rfl, hb1⟩; obtain ⟨M1, hM1⟩ := sz_some w1; have L1 := below_sz hb1 hM hM1; have A1 := A.below hM hb1)
        | (go_at_call 24; refine (place_at m _ k hk1 Hk2.out Hk3.out hn _ M1 hM1 A1).mono ?_; rintro e w2 ⟨rfl, hb2⟩)
        | fail)
      go_ret
      exact ⟨rfl, hb.trans ((hb1.mono hNM).trans (hb2.mono (by omega)))⟩
    · go_wp2_with (first
        | (go_at_call 36; refine (cut_5 c j (by omega) (by omega) a _ M hM).mono ?_; rintro e w1 ⟨rfl, hb1⟩; obtain ⟨M1, hM1⟩ := sz_some w1; have L1 := below_sz hb1 hM hM1; have A1 := A.below hM hb1)
        | (go_at_call 24; refine (place_no m _ (Hl.out j (by omega) hj2) hn _ M1 hM1 A1).mono ?_; rintro e w2 ⟨rfl, hb2⟩)
        | fail)
      go_roundg (j - 1)
      case measure => omega
      case rel => exact ⟨j - 1, by omega, by omega, rfl, by go_num, hb.trans ((hb1.mono hNM).trans (hb2.mono (by omega)))⟩
set_option maxRecDepth 100000 in
theorem nearest_pno (m : Mp) (h5 : m.ty = 5) (c : Nat) (hc : c ≤ 8) (a : BitVec 8) (hl : ∀ b, b ≤ c → KNo m (key5 b (msk b a))) (hn : m.n ≤ 1000) (w : World) (N : Nat) (hN : Sz w N) (hA : MpAt w m) :
    Calls Try.prog 28 #[.pointer (some ⟨m.b, 0, none⟩), .string (key5 c a)] w fun e w' => e = .returned (.int .i64 (-1)) ∧ Below N w w' := by
  have d0 := hA.c0
  rw [h5] at d0
  clear h5
  have Hl := hid hl
  clear hl
  have c0 : (0 : Int) ≤ (c : Int) := by omega
  have c8 : (c : Int) ≤ 8 := by omega
  go_enter Try.func28, Try.ntmps28
  go_wp2_with (first
    | (go_at_call 35; refine (number_5 c (by omega) a _).mono ?_; rintro e w1 ⟨rfl, e1⟩; have e2 := e1.symm; subst e2)
    | fail)
  go_loopg [5] (c + 1) (fun g i wr => ∃ j : Nat, j ≤ c + 1 ∧ g = j ∧ i = .int .i64 ((j : Int) - 1) ∧ Below N w wr)
  case atStart => exact ⟨c + 1, by omega, rfl, by go_num, Below.refl _ _⟩
  case round =>
    obtain ⟨j, hj2, hg, rfl, hb⟩ := hrel
    obtain ⟨M, hM⟩ := sz_some wr
    have hNM := below_sz hb hN hM
    have A := hA.below hN hb
    clear d0
    by_cases hj0 : j = 0
    · subst hj0
      go_wp2_with fail
      go_ret
      exact ⟨rfl, hb⟩
    · obtain ⟨d, rfl⟩ : ∃ d, j = d + 1 := ⟨j - 1, by omega⟩
      have e : (((d + 1 : Nat) : Int) - 1) = (d : Int) := by omega
      rw [e]
      clear e
      have j0 : (0 : Int) ≤ (d : Int) := by omega
      go_wp2_with (first
        | (go_at_call 36; refine (cut_5 c d (by omega) (by omega) a _ M hM).mono ?_; rintro e w1 ⟨rfl, hb1⟩; obtain ⟨M1, hM1⟩ := sz_some w1; have L1 := below_sz hb1 hM hM1; have A1 := A.below hM hb1)
        | (go_at_call 24; refine (place_no m _ (Hl.out d (by omega)) hn _ M1 hM1 A1).mono ?_; rintro e w2 ⟨rfl, hb2⟩)
        | fail)
      go_roundg d
      case measure => omega
      case rel => exact ⟨d, by omega, rfl, by go_num, hb.trans ((hb1.mono hNM).trans (hb2.mono (by omega)))⟩
set_option maxRecDepth 100000 in
theorem Upd_pnew (m : Mp) (D : Nat → BitVec 8) (t : ByteArray) (hK : KeyP m D t) (hfz : m.fz = false) (h0 : m.ty ≠ 0) (hk : KNo m t) (f : Nat) (hf : f ≤ 1) (hn : m.n < m.ent) (he : m.ent ≤ 64) (h1 : 1 ≤ m.val) (h2 : m.val ≤ 64) (q : Option Addr) (c : Nat) (x : Option Addr) (cx : Nat) (X : Nat → BitVec 8)
    (w : World) (N : Nat) (hN : Sz w N) (hA : MpAt w m) (hq : Ats w q m.key (fun j => By (D j))) (hx : Ats w x m.val (fun j => By (X j))) :
    Calls Try.prog 10 #[.pointer (some ⟨m.b, 0, none⟩), .slice q m.key c, .slice x m.val cx, .int .u64 (f : Int)] w fun e w' => e = .returned (.int .i64 0) ∧ PutLater m N t X w w' := by
  have d4 := hA.c4
  rw [hfz] at d4
  have tf : decide ((2 : Int) < (f : Int)) = false := by rw [decide_eq_false_iff_not]; omega
  have tf' : ¬ ((2 : Int) < (f : Int)) := by omega
  have Hk := hid hk
  clear hk hfz
  go_enter Try.func10, Try.ntmps10
  go_wp2_with (first
    | (go_at_call 23; refine (keyText_p m D t hK q c _ N hN hA hq).mono ?_; rintro e w1 ⟨rfl, hb1⟩; obtain ⟨M1, hM1⟩ := sz_some w1; have L1 := below_sz hb1 hN hM1; have A1 := hA.below hN hb1; have d2 := A1.c2; have x1 := hx.below hN hb1; clear d4)
    | (go_at_call 24; refine (place_no m t Hk.out (by omega) _ M1 hM1 A1).mono ?_; rintro e w2 ⟨rfl, hb2⟩; have A2 := A1.below hM1 hb2; have x2 := x1.below hM1 hb2; obtain ⟨M2, hM2⟩ := sz_some w2; clear d2)
    | (go_at_call 25; refine (add_new m t f hf h0 hn he x cx X h1 h2 _ M2 hM2 A2 x2).mono ?_; rintro e w3 ⟨rfl, p3⟩)
    | fail)
  go_ret
  exact ⟨rfl, (p3.low hM1 hb2 hM2).low hN hb1 hM1⟩
set_option maxRecDepth 100000 in
theorem Upd_pset (m : Mp) (D : Nat → BitVec 8) (t : ByteArray) (hK : KeyP m D t) (hfz : m.fz = false) (ht : m.ty ≠ 2) (k : Nat) (hk : KAt m t k) (f : Nat) (hf : f ≤ 2) (hf1 : f ≠ 1) (hn : m.n ≤ 1000) (h1 : 1 ≤ m.val) (h2 : m.val ≤ 64) (q : Option Addr) (c : Nat) (x : Option Addr) (cx : Nat) (X : Nat → BitVec 8)
    (w : World) (N : Nat) (hN : Sz w N) (hA : MpAt w m) (hq : Ats w q m.key (fun j => By (D j))) (hx : Ats w x m.val (fun j => By (X j))) :
    Calls Try.prog 10 #[.pointer (some ⟨m.b, 0, none⟩), .slice q m.key c, .slice x m.val cx, .int .u64 (f : Int)] w fun e w' => e = .returned (.int .i64 0) ∧ Turn (fun j => j = (m.E k).b) w w' ∧ MpAt w' (m.set k X) := by
  have d4 := hA.c4
  rw [hfz] at d4
  have tf : decide ((2 : Int) < (f : Int)) = false := by rw [decide_eq_false_iff_not]; omega
  have tf' : ¬ ((2 : Int) < (f : Int)) := by omega
  have tf1 : ((f : Int) == 1) = false := by rw [beq_eq_false_iff_ne]; omega
  have kn : ((k : Int) == -1) = false := by rw [beq_eq_false_iff_ne]; omega
  have hkn := hk.1
  have Hz := hid hk.2.1
  have Hl := hid hk.2.2
  clear hk hfz
  go_enter Try.func10, Try.ntmps10
  go_wp2_with (first
    | (go_at_call 23; refine (keyText_p m D t hK q c _ N hN hA hq).mono ?_; rintro e w1 ⟨rfl, hb1⟩; obtain ⟨M1, hM1⟩ := sz_some w1; have L1 := below_sz hb1 hN hM1; have A1 := hA.below hN hb1; have d2 := A1.c2; have x1 := hx.below hN hb1; clear d4)
    | (go_at_call 24; refine (place_at m t k hkn Hz.out Hl.out hn _ M1 hM1 A1).mono ?_; rintro e w2 ⟨rfl, hb2⟩; have A2 := A1.below hM1 hb2; obtain ⟨M2, hM2⟩ := sz_some w2; have L2 := below_sz hb2 hM1 hM2; have x2 := x1.below hM1 hb2; clear d2)
    | (go_at_call 27; refine (use_plain m k hkn hn ht _ M2 hM2 A2).mono ?_; rintro e w3 ⟨rfl, hb3⟩; have A3 := A2.below hM2 hb3; have x3 := x2.below hM2 hb3)
    | (go_at_call 26; refine (set_old (m.E k).c (m.E k).b m.val h1 h2 x cx X (m.E k).v _ (A3.c k hkn) (A3.v k hkn) x3).mono ?_; rintro e w4 ⟨rfl, t4, v4⟩)
    | fail)
  go_ret
  exact ⟨rfl, turn_low hN ((hb1.trans (hb2.mono L1)).trans (hb3.mono (by omega))) t4.turn, A3.setv k hkn X t4 v4⟩
end Go.Proofs.Yteicoheihalnnaa
