/- Contracts of ranges: what an operation makes of two; Do. -/
import Derived.Test.YtbbfdehipgkjmaaDoorSe8
import Derived.Test.YtbbfdehipgkjmaaDoorMgSm2
import Derived.Test.YtbbfdehipgkjmaaDoorSe3
namespace Go.Proofs.YtbbfdehipgkjmaaDoor
open Go Go.RowKit
def reck0 (l : Bool) (a : Rn) (b : Rn) : Rn :=
 (addedR a b)
set_option maxRecDepth 100000 in
set_option maxHeartbeats 4000000 in
theorem Reck_0 (l : Bool) (a : Rn) (b : Rn) (w : World) (N : Nat) (hN : Sz w N) : Calls Tryd.prog 15 #[(Value.int .i64 0), (Value.bool l), rV a, rV b] w fun e w' => e = .returned (rV (reck0 l a b)) ∧ Below N w w' := by
 obtain ⟨rr, er⟩ : ∃ rr, rr = (reck0 l a b) := ⟨_, rfl⟩
 rw [← er]
 have ER := hid er
 clear er
 unfold rV
 go_enter Tryd.func15, Tryd.ntmps15
 go_upto_region 1 with (first
  | (refine wpl_box rfl 27 (.tmp 2) rfl 6 _ rfl (N) hN ?_; intro w1 hN1 hb1 hh1)
  | (refine wpl_box rfl 27 (.tmp 3) rfl 6 _ rfl (N + 1) hN1 ?_; intro w2 hN2 hb2 hh2)
  | (refine wpl_alloc rfl 27 rfl 6 (rC zeroR) zeR (N + 1 + 1) hN2 ?_; intro w3 hN3 hb3 hh3)
  | fail)
 have lo0 : Below N w w3 := ((hb1.trans (hb2.mono (by omega))).trans (hb3.mono (by omega)))
 have k1 := ((hh1.below hb2 (by omega)).below hb3 (by omega))
 have k2 := (hh2.below hb3 (by omega))
 have k3 := hh3
 clear hh1 hb1 hh2 hb2 hh3 hb3 hN1 hN2
 go_upto_region 3 with fail
 refine wp_region_lit ?_
 try simp only [pA]
 change wpList _ _ _ ((_ :: _ :: _ :: []) ++ (_ :: [])) _ _
 refine wpList_prefix (C := fun w' => ∃ x : Later (N + 1 + 1 + 1) w3, w' = x.w') _ _ _ _ ⟨⟨_, Below.refl _ _⟩, rfl⟩ ?_
 refine later_row hN3 27 (.tmp 6) rfl (N) rfl 27 6 _ k1 undR szR (by rfl) ?_; simp only [pA]
 refine later_row hN3 27 (.tmp 7) rfl ((N + 1)) rfl 27 6 _ k2 undR szR (by rfl) ?_; simp only [pA]
 go_big_quiet_step ((go_at_call 39; exact later_of hN3 _ (fun K hK hKN => Added_any a b _ K hK)))
 refine wpQuiet_nil (laterE hN3 ?_)
 intro xw4 M5 hbxw4 hM5 lM5
 have k6 := k1.below hbxw4 (by omega)
 have k7 := k2.below hbxw4 (by omega)
 have k8 := k3.below hbxw4 (by omega)
 have lo9 := lo0.trans (hbxw4.mono (by omega))
 clear k1 k2 k3 lo0 hbxw4
 refine wpl_store rfl 27 (.tmp 8) (.tmp 14) rfl (N + 1 + 1) 6 (rC (addedR a b)) rfl rfl 27 _ k8 szR (fun j _ => rC_one _ j) ?_
 intro xw10 t11 k12; try simp only [pA]
 have k13 := k6.touch t11 (by omega)
 have k14 := k7.touch t11 (by omega)
 have lo15 := t11.below lo9 (by omega)
 have h16 := t11.sz hM5
 clear k8 k6 k7 lo9 hM5 t11
 obtain ⟨M17, hM17⟩ := sz_some xw10
 have lt_18 := k13.ltN hM17
 have lt_19 := k14.ltN hM17
 have lt_20 := k12.ltN hM17
 go_wp2_with fail
 refine post_r rfl (N + 1 + 1) rfl k12 undR szR rfl ?_
 exact ⟨by rw [ER.out]; first | rfl | (simp only [reck0, bB] <;> rfl), lo15⟩
def reck1 (l : Bool) (a : Rn) (b : Rn) : Rn :=
 (subR a b)
set_option maxRecDepth 100000 in
set_option maxHeartbeats 4000000 in
theorem Reck_1 (l : Bool) (a : Rn) (b : Rn) (w : World) (N : Nat) (hN : Sz w N) : Calls Tryd.prog 15 #[(Value.int .i64 1), (Value.bool l), rV a, rV b] w fun e w' => e = .returned (rV (reck1 l a b)) ∧ Below N w w' := by
 obtain ⟨rr, er⟩ : ∃ rr, rr = (reck1 l a b) := ⟨_, rfl⟩
 rw [← er]
 have ER := hid er
 clear er
 unfold rV
 go_enter Tryd.func15, Tryd.ntmps15
 go_upto_region 1 with (first
  | (refine wpl_box rfl 27 (.tmp 2) rfl 6 _ rfl (N) hN ?_; intro w1 hN1 hb1 hh1)
  | (refine wpl_box rfl 27 (.tmp 3) rfl 6 _ rfl (N + 1) hN1 ?_; intro w2 hN2 hb2 hh2)
  | (refine wpl_alloc rfl 27 rfl 6 (rC zeroR) zeR (N + 1 + 1) hN2 ?_; intro w3 hN3 hb3 hh3)
  | fail)
 have lo0 : Below N w w3 := ((hb1.trans (hb2.mono (by omega))).trans (hb3.mono (by omega)))
 have k1 := ((hh1.below hb2 (by omega)).below hb3 (by omega))
 have k2 := (hh2.below hb3 (by omega))
 have k3 := hh3
 clear hh1 hb1 hh2 hb2 hh3 hb3 hN1 hN2
 go_upto_region 5 with fail
 refine wp_region_lit ?_
 try simp only [pA]
 change wpList _ _ _ ((_ :: _ :: _ :: []) ++ (_ :: [])) _ _
 refine wpList_prefix (C := fun w' => ∃ x : Later (N + 1 + 1 + 1) w3, w' = x.w') _ _ _ _ ⟨⟨_, Below.refl _ _⟩, rfl⟩ ?_
 refine later_row hN3 27 (.tmp 6) rfl (N) rfl 27 6 _ k1 undR szR (by rfl) ?_; simp only [pA]
 refine later_row hN3 27 (.tmp 7) rfl ((N + 1)) rfl 27 6 _ k2 undR szR (by rfl) ?_; simp only [pA]
 go_big_quiet_step ((go_at_call 40; exact later_of hN3 _ (fun K hK hKN => Subbed_any a b _ K hK)))
 refine wpQuiet_nil (laterE hN3 ?_)
 intro xw4 M5 hbxw4 hM5 lM5
 have k6 := k1.below hbxw4 (by omega)
 have k7 := k2.below hbxw4 (by omega)
 have k8 := k3.below hbxw4 (by omega)
 have lo9 := lo0.trans (hbxw4.mono (by omega))
 clear k1 k2 k3 lo0 hbxw4
 refine wpl_store rfl 27 (.tmp 8) (.tmp 19) rfl (N + 1 + 1) 6 (rC (subR a b)) rfl rfl 27 _ k8 szR (fun j _ => rC_one _ j) ?_
 intro xw10 t11 k12; try simp only [pA]
 have k13 := k6.touch t11 (by omega)
 have k14 := k7.touch t11 (by omega)
 have lo15 := t11.below lo9 (by omega)
 have h16 := t11.sz hM5
 clear k8 k6 k7 lo9 hM5 t11
 obtain ⟨M17, hM17⟩ := sz_some xw10
 have lt_18 := k13.ltN hM17
 have lt_19 := k14.ltN hM17
 have lt_20 := k12.ltN hM17
 go_wp2_with fail
 refine post_r rfl (N + 1 + 1) rfl k12 undR szR rfl ?_
 exact ⟨by rw [ER.out]; first | rfl | (simp only [reck1, bB] <;> rfl), lo15⟩
def reck2 (l : Bool) (a : Rn) (b : Rn) : Rn :=
 (mulR a b)
def reck3 (l : Bool) (a : Rn) (b : Rn) : Rn :=
 (divR a b)
def reck4 (l : Bool) (a : Rn) (b : Rn) : Rn :=
 (orR a b)
def reck5 (l : Bool) (a : Rn) (b : Rn) : Rn :=
 (andR a b)
set_option maxRecDepth 100000 in
set_option maxHeartbeats 4000000 in
theorem Reck_5 (l : Bool) (a : Rn) (b : Rn) (w : World) (N : Nat) (hN : Sz w N) : Calls Tryd.prog 15 #[(Value.int .i64 5), (Value.bool l), rV a, rV b] w fun e w' => e = .returned (rV (reck5 l a b)) ∧ Below N w w' := by
 obtain ⟨rr, er⟩ : ∃ rr, rr = (reck5 l a b) := ⟨_, rfl⟩
 rw [← er]
 have ER := hid er
 clear er
 unfold rV
 go_enter Tryd.func15, Tryd.ntmps15
 go_upto_region 1 with (first
  | (refine wpl_box rfl 27 (.tmp 2) rfl 6 _ rfl (N) hN ?_; intro w1 hN1 hb1 hh1)
  | (refine wpl_box rfl 27 (.tmp 3) rfl 6 _ rfl (N + 1) hN1 ?_; intro w2 hN2 hb2 hh2)
  | (refine wpl_alloc rfl 27 rfl 6 (rC zeroR) zeR (N + 1 + 1) hN2 ?_; intro w3 hN3 hb3 hh3)
  | fail)
 have lo0 : Below N w w3 := ((hb1.trans (hb2.mono (by omega))).trans (hb3.mono (by omega)))
 have k1 := ((hh1.below hb2 (by omega)).below hb3 (by omega))
 have k2 := (hh2.below hb3 (by omega))
 have k3 := hh3
 clear hh1 hb1 hh2 hb2 hh3 hb3 hN1 hN2
 go_upto_region 13 with fail
 refine wp_region_lit ?_
 try simp only [pA]
 change wpList _ _ _ ((_ :: _ :: _ :: []) ++ (_ :: [])) _ _
 refine wpList_prefix (C := fun w' => ∃ x : Later (N + 1 + 1 + 1) w3, w' = x.w') _ _ _ _ ⟨⟨_, Below.refl _ _⟩, rfl⟩ ?_
 refine later_row hN3 27 (.tmp 6) rfl (N) rfl 27 6 _ k1 undR szR (by rfl) ?_; simp only [pA]
 refine later_row hN3 27 (.tmp 7) rfl ((N + 1)) rfl 27 6 _ k2 undR szR (by rfl) ?_; simp only [pA]
 go_big_quiet_step ((go_at_call 44; exact later_of hN3 _ (fun K hK hKN => Anded_any a b _ K hK)))
 refine wpQuiet_nil (laterE hN3 ?_)
 intro xw4 M5 hbxw4 hM5 lM5
 have k6 := k1.below hbxw4 (by omega)
 have k7 := k2.below hbxw4 (by omega)
 have k8 := k3.below hbxw4 (by omega)
 have lo9 := lo0.trans (hbxw4.mono (by omega))
 clear k1 k2 k3 lo0 hbxw4
 refine wpl_store rfl 27 (.tmp 8) (.tmp 39) rfl (N + 1 + 1) 6 (rC (andR a b)) rfl rfl 27 _ k8 szR (fun j _ => rC_one _ j) ?_
 intro xw10 t11 k12; try simp only [pA]
 have k13 := k6.touch t11 (by omega)
 have k14 := k7.touch t11 (by omega)
 have lo15 := t11.below lo9 (by omega)
 have h16 := t11.sz hM5
 clear k8 k6 k7 lo9 hM5 t11
 obtain ⟨M17, hM17⟩ := sz_some xw10
 have lt_18 := k13.ltN hM17
 have lt_19 := k14.ltN hM17
 have lt_20 := k12.ltN hM17
 go_wp2_with fail
 refine post_r rfl (N + 1 + 1) rfl k12 undR szR rfl ?_
 exact ⟨by rw [ER.out]; first | rfl | (simp only [reck5, bB] <;> rfl), lo15⟩
def reck6t (a : Rn) (b : Rn) : Rn :=
 (shRl shByR6 a b)
set_option maxRecDepth 100000 in
set_option maxHeartbeats 4000000 in
theorem Reck_6t (a : Rn) (b : Rn) (w : World) (N : Nat) (hN : Sz w N) : Calls Tryd.prog 15 #[(Value.int .i64 6), (Value.bool true), rV a, rV b] w fun e w' => e = .returned (rV (reck6t a b)) ∧ Below N w w' := by
 obtain ⟨rr, er⟩ : ∃ rr, rr = (reck6t a b) := ⟨_, rfl⟩
 rw [← er]
 have ER := hid er
 clear er
 unfold rV
 go_enter Tryd.func15, Tryd.ntmps15
 go_upto_region 1 with (first
  | (refine wpl_box rfl 27 (.tmp 2) rfl 6 _ rfl (N) hN ?_; intro w1 hN1 hb1 hh1)
  | (refine wpl_box rfl 27 (.tmp 3) rfl 6 _ rfl (N + 1) hN1 ?_; intro w2 hN2 hb2 hh2)
  | (refine wpl_alloc rfl 27 rfl 6 (rC zeroR) zeR (N + 1 + 1) hN2 ?_; intro w3 hN3 hb3 hh3)
  | fail)
 have lo0 : Below N w w3 := ((hb1.trans (hb2.mono (by omega))).trans (hb3.mono (by omega)))
 have k1 := ((hh1.below hb2 (by omega)).below hb3 (by omega))
 have k2 := (hh2.below hb3 (by omega))
 have k3 := hh3
 clear hh1 hb1 hh2 hb2 hh3 hb3 hN1 hN2
 go_upto_region 17 with fail
 refine wp_region_lit ?_
 try simp only [pA]
 change wpList _ _ _ ((_ :: _ :: _ :: _ :: _ :: []) ++ (_ :: [])) _ _
 refine wpList_prefix (C := fun w' => ∃ x : Later (N + 1 + 1 + 1) w3, w' = x.w') _ _ _ _ ⟨⟨_, Below.refl _ _⟩, rfl⟩ ?_
 iterate 2 (go_big_quiet_step (fail))
 refine later_row hN3 27 (.tmp 6) rfl (N) rfl 27 6 _ k1 undR szR (by rfl) ?_; simp only [pA]
 refine later_row hN3 27 (.tmp 7) rfl ((N + 1)) rfl 27 6 _ k2 undR szR (by rfl) ?_; simp only [pA]
 go_big_quiet_step ((go_at_call 45; exact later_of hN3 _ (fun K hK hKN => Shifted_l 6 shByR6 (fun a n w N hN => ShBy_6 a n w N hN) a b _ K hK)))
 refine wpQuiet_nil (laterE hN3 ?_)
 intro xw4 M5 hbxw4 hM5 lM5
 have k6 := k1.below hbxw4 (by omega)
 have k7 := k2.below hbxw4 (by omega)
 have k8 := k3.below hbxw4 (by omega)
 have lo9 := lo0.trans (hbxw4.mono (by omega))
 clear k1 k2 k3 lo0 hbxw4
 refine wpl_store rfl 27 (.tmp 8) (.tmp 48) rfl (N + 1 + 1) 6 (rC (shRl shByR6 a b)) rfl rfl 27 _ k8 szR (fun j _ => rC_one _ j) ?_
 intro xw10 t11 k12; try simp only [pA]
 have k13 := k6.touch t11 (by omega)
 have k14 := k7.touch t11 (by omega)
 have lo15 := t11.below lo9 (by omega)
 have h16 := t11.sz hM5
 clear k8 k6 k7 lo9 hM5 t11
 obtain ⟨M17, hM17⟩ := sz_some xw10
 have lt_18 := k13.ltN hM17
 have lt_19 := k14.ltN hM17
 have lt_20 := k12.ltN hM17
 go_wp2_with fail
 refine post_r rfl (N + 1 + 1) rfl k12 undR szR rfl ?_
 exact ⟨by rw [ER.out]; first | rfl | (simp only [reck6t, bB] <;> rfl), lo15⟩
def reck6f (a : Rn) (b : Rn) : Rn :=
 (shRs shByR6 a b)
def reck7t (a : Rn) (b : Rn) : Rn :=
 (shRl shByR7 a b)
def reck7f (a : Rn) (b : Rn) : Rn :=
 (shRs shByR7 a b)
def reck8 (l : Bool) (a : Rn) (b : Rn) : Rn :=
 (subR (cR 0#64) a)
def reck9 (l : Bool) (a : Rn) (b : Rn) : Rn :=
 (restR a b)
def reck10 (l : Bool) (a : Rn) (b : Rn) : Rn :=
 (bitR (tXor a.b b.b) a b)
def reck11 (l : Bool) (a : Rn) (b : Rn) : Rn :=
 b
def reck12t (a : Rn) (b : Rn) : Rn :=
 (shRl shByR12 a b)
def reck12f (a : Rn) (b : Rn) : Rn :=
 (shR12s a b)
def recko (op : Int) (l : Bool) (a : Rn) (b : Rn) : Rn :=
 (cR 0#64)
/-- What an operation makes of two ranges. -/
def reckF (op : Int) (l : Bool) (a b : Rn) : Rn := if op = 0 then reck0 l a b else if op = 1 then reck1 l a b else if op = 2 then reck2 l a b else if op = 3 then reck3 l a b else if op = 4 then reck4 l a b else if op = 5 then reck5 l a b else if op = 6 then (bif l then reck6t a b else reck6f a b) else if op = 7 then (bif l then reck7t a b else reck7f a b) else if op = 8 then reck8 l a b else if op = 9 then reck9 l a b else if op = 10 then reck10 l a b else if op = 11 then reck11 l a b else if op = 12 then (bif l then reck12t a b else reck12f a b) else recko op l a b
def do_t (op : Int) (a : Rn) (b : Rn) : Rn :=
 bif ((settleF a).1.lo == (settleF a).1.hi) then bif ((settleF b).1.lo == (settleF b).1.hi) then (cR (evF op true (settleF a).1.lo (settleF b).1.lo))
  else (tightR (reckF op true (settleF a).1 (settleF b).1))
 else (tightR (reckF op true (settleF a).1 (settleF b).1))
def do_f (op : Int) (a : Rn) (b : Rn) : Rn :=
 bif ((settleF (lowR4 a)).1.lo == (settleF (lowR4 a)).1.hi) then bif ((settleF (lowR4 b)).1.lo == (settleF (lowR4 b)).1.hi) then (cR (evF op false (settleF (lowR4 a)).1.lo (settleF (lowR4 b)).1.lo))
  else (lowR4 (reckF op false (settleF (lowR4 a)).1 (settleF (lowR4 b)).1))
 else (lowR4 (reckF op false (settleF (lowR4 a)).1 (settleF (lowR4 b)).1))
/-- What an operation tells of two ranges. -/
def doR (op : Int) (l : Bool) (a b : Rn) : Rn := bif l then do_t op a b else do_f op a b
end Go.Proofs.YtbbfdehipgkjmaaDoor
