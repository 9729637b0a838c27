/- Has, Len, Spend and Add of registry. -/
import Derived.Test.YtcampjgemedhlaaDoorRg1
namespace Go.Proofs.YtcampjgemedhlaaDoor
open Go Go.RowKit Sha
theorem plI_lt (R : Rg) (key : Nat → BitVec 8) (h : plB R key = true) : plI R key < R.c := by
  unfold plB at h
  unfold plI
  obtain ⟨k, hk⟩ := Option.isSome_iff_exists.1 h
  rw [hk]
  unfold plO at hk
  have := List.find?_range_eq_some.1 hk
  simpa using this.2.1
theorem rg_sp_cell {w : World} {b : Nat} {R : Rg} (h : Has w b 98 1057 (rgC R)) (i : Nat) (hi : i < 32) : w.cell? ⟨b, i * 33 + 32, none⟩ = some (.bool (R.sp i)) := by
  have := h.cell (j := i * 33 + 32) (by omega)
  rw [Nat.mul_comm i 33, rg_sp R i hi] at this
  rw [Nat.mul_comm i 33]
  exact this
theorem rg_count_cell {w : World} {b : Nat} {R : Rg} (h : Has w b 98 1057 (rgC R)) : w.cell? ⟨b, 1056, none⟩ = some (.int .i64 (R.c : Int)) := h.cell (by omega)
/-- One is spent. -/
def spendR (R : Rg) (n : Nat) : Rg := ⟨R.K, fun i => if i = n then true else R.sp i, R.c⟩
/-- One more is there. -/
def addR (R : Rg) (key : Nat → BitVec 8) : Rg := ⟨fun i => if i = R.c then key else R.K i, fun i => if i = R.c then false else R.sp i, R.c + 1⟩
theorem rg_spend (R : Rg) (n : Nat) (hn : n < 32) (j : Nat) : upd (rgC R) (n * 33 + 32) (.bool true) j = rgC (spendR R n) j := by
  unfold upd
  by_cases h : j = n * 33 + 32
  · subst h
    rw [if_pos rfl, Nat.mul_comm n 33, rg_sp _ n hn]
    unfold spendR
    simp
  · rw [if_neg h]
    unfold rgC spendR
    by_cases h1 : j = 1056
    · rw [if_pos h1, if_pos h1]
    · rw [if_neg h1, if_neg h1]
      by_cases h2 : j % 33 = 32
      · rw [if_pos h2, if_pos h2]
        simp only
        rw [if_neg (by omega)]
      · rw [if_neg h2, if_neg h2]
def entC (key : Nat → BitVec 8) : Nat → Value := fun j => if j = 32 then .bool false else By (key j)
theorem rg_add (R : Rg) (key : Nat → BitVec 8) (hc : R.c < 32) (j : Nat) (hj : j < 1057) : upd (lay (rgC R) (R.c * 33) 33 (entC key)) 1056 (.int .i64 ((R.c + 1 : Nat) : Int)) j = rgC (addR R key) j := by
  unfold upd lay rgC addR entC
  by_cases h1 : j = 1056
  · rw [if_pos h1, if_pos h1]
  · rw [if_neg h1, if_neg h1]
    by_cases h2 : R.c * 33 ≤ j ∧ j < R.c * 33 + 33
    · rw [if_pos h2]
      have e1 : j / 33 = R.c := by omega
      by_cases h3 : j % 33 = 32
      · rw [if_pos (by omega), if_pos h3]
        simp only
        rw [e1, if_pos rfl, if_neg h1]
      · rw [if_neg (by omega), if_neg h3]
        simp only
        rw [e1, if_pos rfl, show j - R.c * 33 = j % 33 from by omega, if_neg h1]
    · rw [if_neg h2]
      have e1 : j / 33 ≠ R.c := by omega
      simp only
      rw [if_neg h1, if_neg e1, if_neg e1]
/-- What Has tells. -/
def hasB (R : Rg) (key : Nat → BitVec 8) : Bool := plB R key && !R.sp (plI R key)
set_option maxRecDepth 100000 in
theorem Has_any (R : Rg) (b : Nat) (key : Nat → BitVec 8) (w : World) (N : Nat) (hN : Sz w N) (hR : Has w b 98 1057 (rgC R)) (hc : R.c ≤ 32) :
    Calls Tryd.prog 36 #[.pointer (some ⟨b, 0, none⟩), .agg (cellsOf (fun j => By (key j)) 32)] w fun e w' => e = .returned (.bool (hasB R key)) ∧ Below N w w' := by
  have hb : b < N := hR.ltN hN
  cases hp : plB R key
  · have HB := hid (show hasB R key = false by unfold hasB; rw [hp]; rfl)
    have hp' := hid hp
    clear hp
    go_enter Tryd.func36, Tryd.ntmps36
    go_wp2_with (first
      | (refine wpl_box rfl 23 (.tmp 1) rfl 32 _ rfl N hN ?_; intro w1 hN1 hb1 h1; have r1 := hR.below hb1 hb)
      | (refine wpl_load rfl 23 (.tmp 3) rfl N rfl 23 32 _ h1 _ und23 rfl inf23 ?_)
      | (go_at_call 59; refine (place_any R b key _ (N + 1) hN1 r1 hc).mono ?_; rintro e w2 ⟨rfl, hb2⟩; rw [hp'.out])
      | fail)
    go_ret
    exact ⟨by rw [HB.out]; rfl, hb1.trans (hb2.mono (by omega))⟩
  · have hi := plI_lt R key hp
    obtain ⟨i, hie⟩ : ∃ i, i = plI R key := ⟨_, rfl⟩
    have HB := hid (show hasB R key = !R.sp i by unfold hasB; rw [hp, hie]; rfl)
    have hp' := hid hp
    have hie' := hid hie
    rw [← hie] at hi
    clear hp hie
    have hi2 : (i : Int) < 32 := by omega
    go_enter Tryd.func36, Tryd.ntmps36
    go_wp2_with (first
      | (refine wpl_box rfl 23 (.tmp 1) rfl 32 _ rfl N hN ?_; intro w1 hN1 hb1 h1; have r1 := hR.below hb1 hb)
      | (refine wpl_load rfl 23 (.tmp 3) rfl N rfl 23 32 _ h1 _ und23 rfl inf23 ?_)
      | (go_at_call 59; refine (place_any R b key _ (N + 1) hN1 r1 hc).mono ?_; rintro e w2 ⟨rfl, hb2⟩; rw [hp'.out, ← hie'.out]; have c2 := rg_sp_cell (r1.below hb2 (by omega)) i (by omega))
      | fail)
    go_ret
    exact ⟨by rw [HB.out]; rfl, hb1.trans (hb2.mono (by omega))⟩
set_option maxRecDepth 100000 in
theorem Len_any (R : Rg) (b : Nat) (w : World) (hR : Has w b 98 1057 (rgC R)) :
    Calls Tryd.prog 38 #[.pointer (some ⟨b, 0, none⟩)] w fun e w' => e = .returned (.int .i64 (R.c : Int)) ∧ w = w' := by
  have c1 := rg_count_cell hR
  go_enter Tryd.func38, Tryd.ntmps38
  go_wp2_with fail
  go_ret
  exact ⟨rfl, rfl⟩
set_option maxRecDepth 100000 in
theorem Spend_out (R : Rg) (b : Nat) (i : Int) (w : World) (hR : Has w b 98 1057 (rgC R)) (h : i < 0 ∨ (R.c : Int) ≤ i) :
    Calls Tryd.prog 37 #[.pointer (some ⟨b, 0, none⟩), .int .i64 i] w fun e w' => e = .returned (.int .i64 2) ∧ w = w' := by
  have c1 := rg_count_cell hR
  by_cases h0 : i < 0
  · have h1 : decide (i < 0) = true := by simpa using h0
    go_enter Tryd.func37, Tryd.ntmps37
    go_wp2_with fail
    go_ret
    exact ⟨rfl, rfl⟩
  · have h1 : decide (i < 0) = false := by simpa using h0
    have h2 : decide ((R.c : Int) ≤ i) = true := by simp; omega
    clear h
    go_enter Tryd.func37, Tryd.ntmps37
    go_wp2_with fail
    go_ret
    exact ⟨rfl, rfl⟩
theorem inf4 : (Tryd.prog.info? 4).map (·.size) = some 1 := by kernel_rfl
set_option maxRecDepth 100000 in
theorem Spend_spent (R : Rg) (b n : Nat) (w : World) (hR : Has w b 98 1057 (rgC R)) (hn : n < R.c) (hc : R.c ≤ 32) (hs : R.sp n = true) :
    Calls Tryd.prog 37 #[.pointer (some ⟨b, 0, none⟩), .int .i64 (n : Int)] w fun e w' => e = .returned (.int .i64 129) ∧ w = w' := by
  have c1 := rg_count_cell hR
  have c2 := rg_sp_cell hR n (by omega)
  rw [hs] at c2
  clear hs
  have h2 : decide ((R.c : Int) ≤ (n : Int)) = false := by simp; omega
  have h3 : (n : Int) < 32 := by omega
  go_enter Tryd.func37, Tryd.ntmps37
  go_wp2_with fail
  go_ret
  exact ⟨rfl, rfl⟩
set_option maxRecDepth 100000 in
theorem Spend_ok (R : Rg) (b n : Nat) (w : World) (hR : Has w b 98 1057 (rgC R)) (hn : n < R.c) (hc : R.c ≤ 32) (hs : R.sp n = false) :
    Calls Tryd.prog 37 #[.pointer (some ⟨b, 0, none⟩), .int .i64 (n : Int)] w fun e w' => e = .returned (.int .i64 0) ∧ Touch b w w' ∧ Has w' b 98 1057 (rgC (spendR R n)) := by
  have c1 := rg_count_cell hR
  have c2 := rg_sp_cell hR n (by omega)
  rw [hs] at c2
  clear hs
  have h2 : decide ((R.c : Int) ≤ (n : Int)) = false := by simp; omega
  have h3 : (n : Int) < 32 := by omega
  go_enter Tryd.func37, Tryd.ntmps37
  go_wp2_with (first
    | (refine wpl_set rfl 4 (.tmp 29) (.const (.bool true)) rfl b (n * 33 + 32) rfl (.bool true) rfl inf4 rfl rfl 98 1057 _ hR (by omega) ?_; intro w1 ht1 r1; clear c1 c2)
    | fail)
  go_ret
  exact ⟨rfl, ht1, r1.congr (fun j _ => rg_spend R n (by omega) j)⟩
set_option maxRecDepth 100000 in
theorem Add_there (R : Rg) (b : Nat) (key : Nat → BitVec 8) (w : World) (N : Nat) (hN : Sz w N) (hR : Has w b 98 1057 (rgC R)) (hc : R.c ≤ 32) (hp : plB R key = true) :
    Calls Tryd.prog 35 #[.pointer (some ⟨b, 0, none⟩), .agg (cellsOf (fun j => By (key j)) 32)] w fun e w' => e = .returned (.int .i64 17) ∧ Below N w w' := by
  have hb : b < N := hR.ltN hN
  have hp' := hid hp
  clear hp
  go_enter Tryd.func35, Tryd.ntmps35
  go_wp2_with (first
    | (refine wpl_box rfl 23 (.tmp 1) rfl 32 _ rfl N hN ?_; intro w1 hN1 hb1 h1; have r1 := hR.below hb1 hb)
    | (refine wpl_load rfl 23 (.tmp 3) rfl N rfl 23 32 _ h1 _ und23 rfl inf23 ?_)
    | (go_at_call 59; refine (place_any R b key _ (N + 1) hN1 r1 hc).mono ?_; rintro e w2 ⟨rfl, hb2⟩; rw [hp'.out])
    | fail)
  go_ret
  exact ⟨rfl, hb1.trans (hb2.mono (by omega))⟩
set_option maxRecDepth 100000 in
theorem Add_full (R : Rg) (b : Nat) (key : Nat → BitVec 8) (w : World) (N : Nat) (hN : Sz w N) (hR : Has w b 98 1057 (rgC R)) (hc : R.c = 32) (hp : plB R key = false) :
    Calls Tryd.prog 35 #[.pointer (some ⟨b, 0, none⟩), .agg (cellsOf (fun j => By (key j)) 32)] w fun e w' => e = .returned (.int .i64 28) ∧ Below N w w' := by
  have hb : b < N := hR.ltN hN
  have hp' := hid hp
  have hc' := hid hc
  have hcle : R.c ≤ 32 := Nat.le_of_eq hc
  clear hp hc
  go_enter Tryd.func35, Tryd.ntmps35
  go_wp2_with (first
    | (refine wpl_box rfl 23 (.tmp 1) rfl 32 _ rfl N hN ?_; intro w1 hN1 hb1 h1; have r1 := hR.below hb1 hb)
    | (refine wpl_load rfl 23 (.tmp 3) rfl N rfl 23 32 _ h1 _ und23 rfl inf23 ?_)
    | (go_at_call 59; refine (place_any R b key _ (N + 1) hN1 r1 hcle).mono ?_; rintro e w2 ⟨rfl, hb2⟩; rw [hp'.out]; have c2 : w2.cell? ⟨b, 1056, none⟩ = some (.int .i64 32) := by (have := rg_count_cell (r1.below hb2 (by omega)); rw [hc'.out] at this; exact this))
    | fail)
  go_ret
  exact ⟨rfl, hb1.trans (hb2.mono (by omega))⟩
theorem inf95 : (Tryd.prog.info? 95).map (·.size) = some 33 := by kernel_rfl
theorem run_ld1 {P : Program} {a : Act} {w : World} {o : Oper} (ty : TypeId) (x : Operand) (ho : o.op = .load ty x) (p : Addr) (hx : a.eval x = .pointer (some p)) (v : Value) (hc : w.cell? p = some v)
    (hrun : (Instr.loadAt ty (.pointer (some p))).run P w = .ok v w) : (execOp a.eval o).run P w = .ok (.value v) w := by
  unfold execOp
  simp only [ho, hx, Sem.run_bind, hrun, Result.andThen_ok, Sem.run_pure]
set_option maxRecDepth 100000 in
set_option maxHeartbeats 1000000 in
theorem Add_ok (R : Rg) (b : Nat) (key : Nat → BitVec 8) (w : World) (N : Nat) (hN : Sz w N) (hR : Has w b 98 1057 (rgC R)) (hc : R.c < 32) (hp : plB R key = false) :
    Calls Tryd.prog 35 #[.pointer (some ⟨b, 0, none⟩), .agg (cellsOf (fun j => By (key j)) 32)] w fun e w' => e = .returned (.int .i64 0) ∧ Mod b w w' ∧ Has w' b 98 1057 (rgC (addR R key)) := by
  have hb : b < N := hR.ltN hN
  have hp' := hid hp
  have hci : (R.c : Int) < 32 := by omega
  have hcf : ((R.c : Int) == 32) = false := by rw [beq_eq_false_iff_ne]; omega
  clear hp
  go_enter Tryd.func35, Tryd.ntmps35
  go_wp2_with (first
    | (refine wpl_box rfl 23 (.tmp 1) rfl 32 _ rfl N hN ?_; intro w1 hN1 hb1 h1; have r1 := hR.below hb1 hb)
    | (refine wpl_load rfl 23 (.tmp 3) rfl N rfl 23 32 _ h1 _ und23 rfl inf23 ?_)
    | (go_at_call 59; refine (place_any R b key _ (N + 1) hN1 r1 (by omega)).mono ?_; rintro e w2 ⟨rfl, hb2⟩; rw [hp'.out]; have r2 := r1.below hb2 (by omega); have h2 := h1.below hb2 (by omega); have c2 := rg_count_cell r2)
    | fail)
  have hld : (Instr.loadAt 3 (.pointer (some ⟨b, 1056, none⟩))).run Tryd.prog (World.drew w2) = .ok (.int .i64 (R.c : Int)) (World.drew w2) := by
    have c2d : (World.drew w2).cell? ⟨b, 1056, none⟩ = some (.int .i64 (R.c : Int)) := c2
    go_simp
  refine wp_region_any (by kernel_rfl) ?_
  change wpAny _ _ _ _ _ _ _ (World.drew _)
  refine wpAny_take (i := 0) (v := .pointer (some ⟨b, 0, none⟩)) rfl (by kernel_rfl) (by kernel_rfl) (by kernel_rfl) (fun _ _ _ h => h) (Or.inl ⟨by rfl, ?y0⟩) ?r0
  case y0 => (intro w; go_simp; first | done | with_reducible rfl)
  refine wpAny_take (i := 1) (v := .pointer (some ⟨b, 0, none⟩)) rfl (by kernel_rfl) (by kernel_rfl) (by kernel_rfl) (fun _ _ _ h => h) (Or.inl ⟨by rfl, ?y1⟩) ?r1
  case y1 => (intro w; go_simp; first | done | with_reducible rfl)
  refine wpAny_take (i := 2) (v := .pointer (some ⟨b, 0, none⟩)) rfl (by kernel_rfl) (by kernel_rfl) (by kernel_rfl) (fun _ _ _ h => h) (Or.inl ⟨by rfl, ?y2⟩) ?r2
  case y2 => (intro w; go_simp; first | done | with_reducible rfl)
  refine wpAny_take (i := 3) (v := .pointer (some ⟨b, 1056, none⟩)) rfl (by kernel_rfl) (by kernel_rfl) (by kernel_rfl) (fun _ _ _ h => h) (Or.inl ⟨by rfl, ?y3⟩) ?r3
  case y3 => (intro w; go_simp; first | done | with_reducible rfl)
  refine wpAny_take (i := 7) (v := .pointer (some ⟨b, 0, none⟩)) rfl (by kernel_rfl) (by kernel_rfl) (by kernel_rfl) (fun _ _ _ h => h) (Or.inl ⟨by rfl, ?y7⟩) ?r7
  case y7 => (intro w; go_simp; first | done | with_reducible rfl)
  refine wpAny_take (i := 8) (v := .pointer (some ⟨b, 0, none⟩)) rfl (by kernel_rfl) (by kernel_rfl) (by kernel_rfl) (fun _ _ _ h => h) (Or.inl ⟨by rfl, ?y8⟩) ?r8
  case y8 => (intro w; go_simp; first | done | with_reducible rfl)
  simp only [Act.put, List.setIfInBounds_toArray, List.set_cons_succ, List.set_cons_zero, List.getElem_toArray, List.getElem_cons_succ, List.getElem_cons_zero]
  refine wpAny_knot (fun a (_ : Unit) => ((a.put (some 25) (.int .i64 (R.c : Int))).put (some 26) (.agg (cellsOf (fun j => By (key j)) 32))).put (some 27) (.agg (cellsOf (entC key) 33))) (fun _ w' => w' = World.drew w2) [4, 5, 6] 2 ?_ ?_
  · intro HT
    refine wpAny_two 4 5 _ _ _ _ (by kernel_rfl) ?_ ?_
    all_goals simp only [List.filterMap_cons, List.filterMap_nil, List.getElem?_toArray, List.getElem?_cons_succ, List.getElem?_cons_zero]
    · refine wpl_run rfl _ _ (run_ld1 3 (.tmp 24) rfl ⟨b, 1056, none⟩ rfl _ c2 hld) ?_
      change wpAny _ _ _ _ _ _ _ _
      refine wpAny_part [5, 6] _ _ _ _ (by kernel_rfl) ?_
      simp only [List.filterMap_cons, List.filterMap_nil, List.getElem?_toArray, List.getElem?_cons_succ, List.getElem?_cons_zero]
      refine wpl_run rfl _ _ (run_ld 23 (.tmp 3) rfl N rfl 23 32 _ (by exact h2) _ und23 rfl inf23) ?_
      refine wpl_build rfl 95 _ rfl (cellsOf (entC key) 33) (by kernel_rfl) ?_
      change wpAny _ _ _ _ _ _ _ _
      exact wpAny_at (by kernel_rfl) (by kernel_rfl) (HT.out () _ rfl)
    · refine wpl_run rfl _ _ (run_ld 23 (.tmp 3) rfl N rfl 23 32 _ (by exact h2) _ und23 rfl inf23) ?_
      change wpAny _ _ _ _ _ _ _ _
      simp only [Act.put, List.setIfInBounds_toArray, List.set_cons_succ, List.set_cons_zero]
      refine wpAny_take (i := 6) (v := .agg (cellsOf (entC key) 33)) rfl (by kernel_rfl) (by kernel_rfl) (by kernel_rfl) (fun _ _ _ h => h) (Or.inl ⟨by rfl, ?y6⟩) ?r6
      case y6 => (intro w; kernel_rfl)
      refine wpAny_part [4] _ _ _ _ (by kernel_rfl) ?_
      simp only [List.filterMap_cons, List.filterMap_nil, List.getElem?_toArray, List.getElem?_cons_succ, List.getElem?_cons_zero]
      refine wpl_run rfl _ _ (run_ld1 3 (.tmp 24) rfl ⟨b, 1056, none⟩ rfl _ c2 hld) ?_
      change wpAny _ _ _ _ _ _ _ _
      exact wpAny_at (by kernel_rfl) (by kernel_rfl) (HT.out () _ rfl)
  rintro _ _ rfl
  try dsimp only
  try simp only [Act.put, List.setIfInBounds_toArray, List.set_cons_succ, List.set_cons_zero]
  refine wpAny_part [9, 10] _ _ _ _ (by kernel_rfl) ?_
  simp only [List.filterMap_cons, List.filterMap_nil, List.getElem?_toArray, List.getElem?_cons_succ, List.getElem?_cons_zero]
  refine wpl_pure rfl (v := .pointer (some ⟨b, R.c * 33, none⟩)) (by intro w; go_simp) ?_
  refine wpl_store_part rfl 95 (.tmp 30) (.tmp 27) rfl b (R.c * 33) rfl 33 (entC key) rfl 98 1057 _ (by exact r2) (by omega) inf95 (fun j _ => by unfold entC; split <;> rfl) ?_
  intro w3 ht3 r3
  have c3 : w3.cell? ⟨b, 1056, none⟩ = some (.int .i64 (R.c : Int)) := by
    have := r3.cell (j := 1056) (by omega)
    unfold lay at this
    rw [if_neg (by omega)] at this
    exact this
  change wpAny _ _ _ _ _ _ _ _
  refine wpAny_done (by kernel_rfl) ?_ _
  simp only [Act.put, List.setIfInBounds_toArray, List.set_cons_succ, List.set_cons_zero, List.getElem_toArray, List.getElem_cons_succ, List.getElem_cons_zero]
  clear c2 hld
  go_wp2_with (first
    | (refine wpl_set rfl 3 (.tmp 37) (.tmp 35) rfl b 1056 rfl (.int .i64 ((R.c + 1 : Nat) : Int)) rfl inf3 rfl rfl 98 1057 _ r3 (by omega) ?_; intro w4 ht4 r4; clear c3)
    | fail)
  go_ret
  have m2 : Mod b w w2 := mod_of_below hN (hb1.trans (hb2.mono (by omega)))
  exact ⟨rfl, ((m2.trans (mod_drew b w2)).trans ht3.mod).trans ht4.mod, r4.congr (fun j hj => rg_add R key hc j hj)⟩
end Go.Proofs.YtcampjgemedhlaaDoor
