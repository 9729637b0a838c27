/- Tokens: Root, Derive. -/
import Derived.Test.YtilhkgbninbkkaaDoorTk3
import Derived.Test.YtilhkgbninbkkaaDoorRi2
namespace Go.Proofs.YtilhkgbninbkkaaDoor
open Go Go.RowKit
/-- No token, or a new one. -/
def newPost (N : Nat) (w : World) (at_ : Int) (r : Rg) (up : Value) (er : Int) (e : Ending) (w' : World) : Prop :=
  Below N w w' ∧ if er = 0 then ∃ k, e = .returned (.tuple #[.pointer (some ⟨k, 0, none⟩), .int .i64 0]) ∧ N ≤ k ∧ Has w' k 74 8 (tkC at_ r up)
    else e = .returned (.tuple #[.pointer none, .int .i64 er])
theorem newPost.no {N : Nat} {w w' : World} {at_ : Int} {r : Rg} {up : Value} {er : Int} (h : er ≠ 0) (hb : Below N w w') : newPost N w at_ r up er (.returned (.tuple #[.pointer none, .int .i64 er])) w' := ⟨hb, by rw [if_neg h]⟩
theorem newPost.ok {N : Nat} {w w' : World} {at_ : Int} {r : Rg} {up : Value} {k : Nat} (hk : N ≤ k) (hh : Has w' k 74 8 (tkC at_ r up)) (hb : Below N w w') : newPost N w at_ r up 0 (.returned (.tuple #[.pointer (some ⟨k, 0, none⟩), .int .i64 0])) w' :=
  ⟨hb, by rw [if_pos rfl]; exact ⟨k, rfl, hk, hh⟩⟩
section
variable {P : Program} {a : Act} {w : World}
/-- What a load of several cells runs to. -/
theorem run_ldc {o : Oper} (ty : TypeId) (x : Operand) (ho : o.op = .load ty x) (b off : Nat) (hx : a.eval x = .pointer (some ⟨b, off, none⟩)) (m : Nat) (g : Nat → Value) (hc : ∀ j, j < m → w.cell? ⟨b, off + j, none⟩ = some (g j))
    (d : TypeDesc) (hu : P.underlying ty = some d) (hd : d.isRow = true) (hi : (P.info? ty).map (·.size) = some m) : (execOp a.eval o).run P w = .ok (.value (.agg (cellsOf g m))) w := by
  have hrun := run_load_cells (P := P) hc ty d hu hd hi
  unfold execOp
  simp only [ho, hx, Sem.run_bind, hrun, Result.andThen_ok, Sem.run_pure]
end
def rootErr (c : Nat) (at_ : Int) (r : Rg) : Int := if isIn c at_ then if rWithin r rgAll then 0 else 1 else 2
set_option maxRecDepth 100000 in
theorem Root_out (b c : Nat) (f : Nat → Nat) (at_ : Int) (r : Rg) (hb : isIn c at_ = false) (w : World) (N : Nat) (hN : Sz w N) (hT : Tr w b c f) :
    Calls Tryd.prog 27 #[.pointer (some ⟨b, 0, none⟩), .int .i64 at_, rgV r] w (newPost N w at_ r (.pointer none) 2) := by
  unfold rgV
  have hbN := hT.h.ltN hN
  have eE : errIn c at_ = 2 := by unfold errIn; rw [hb]; rfl
  have HD := fun w N hN hT => Depth_any b c f at_ w N hN hT
  rw [eE] at HD
  clear eE
  go_enter Tryd.func27, Tryd.ntmps27
  go_wp2_with (first
    | (refine wpl_box rfl 26 (.tmp 2) rfl 6 _ rfl N hN ?_; intro w1 hN1 hb1 hh1)
    | (go_at_call 53; refine (HD _ (N + 1) hN1 (hT.below hN hb1)).mono ?_; rintro e w2 ⟨rfl, b2⟩)
    | fail)
  go_ret2
  exact newPost.no (by decide) (hb1.trans (b2.mono (by omega)))
set_option maxRecDepth 100000 in
theorem Root_in (b c : Nat) (f : Nat → Nat) (at_ : Int) (r : Rg) (hb : isIn c at_ = true) (q : Bool) (hq : rWithin r rgAll = q) (w : World) (N : Nat) (hN : Sz w N) (hT : Tr w b c f) :
    Calls Tryd.prog 27 #[.pointer (some ⟨b, 0, none⟩), .int .i64 at_, rgV r] w (newPost N w at_ r (.pointer none) (if q then 0 else 1)) := by
  obtain ⟨dR, u1, u2⟩ := undRR
  unfold rgV
  have hbN := hT.h.ltN hN
  have eE : errIn c at_ = 0 := by unfold errIn; rw [hb]; rfl
  have HD := fun w N hN hT => Depth_any b c f at_ w N hN hT
  rw [eE] at HD
  clear eE
  have HW := fun w M hM => Within_any r rgAll w M hM
  rw [hq] at HW
  clear hq
  obtain ⟨E, hE⟩ : ∃ E : Int, E = if q then 0 else 1 := ⟨_, rfl⟩
  rw [← hE]
  have HE := hid hE
  clear hE
  go_enter Tryd.func27, Tryd.ntmps27
  go_upto_region 4 with (first
    | (refine wpl_box rfl 26 (.tmp 2) rfl 6 _ rfl N hN ?_; intro w1 hN1 hb1 hh1)
    | (go_at_call 53; refine (HD _ (N + 1) hN1 (hT.below hN hb1)).mono ?_; rintro e w2 ⟨rfl, b2⟩)
    | fail)
  have k2 := hh1.below b2 (by omega)
  have lo := hb1.trans (b2.mono (by omega))
  obtain ⟨M, hM⟩ := sz_some w2
  have lM := below_sz lo hN hM
  have lM1 := below_sz b2 hN1 hM
  clear hh1 hb1 b2 hN1 HD
  refine wp_region_later M (by kernel_rfl) (by kernel_rfl) ?_
  try simp only [Act.put, List.setIfInBounds_toArray, List.set_cons_succ, List.set_cons_zero]
  refine later_val (fun q => run_ld 26 (.tmp 5) rfl N rfl 26 6 _ (Later.has hM k2 q) _ u1 u2 szRR) (by rfl) ?_; simp only [Act.put, List.setIfInBounds_toArray, List.set_cons_succ, List.set_cons_zero]
  go_big_quiet_step ((go_at_call 26; exact later_of hM _ (fun K hK hKN => All_any _ K hK)))
  go_big_quiet_step ((go_at_call 17; exact later_of hM _ (fun K hK hKN => HW _ K hK)))
  go_big_quiet_step (fail)
  refine wpQuiet_nil ?_
  rintro w3 ⟨q3, e3⟩
  have b3 := q3.b
  rw [← e3] at b3
  clear e3 q3
  have k3 := k2.below b3 (by omega)
  have lo3 := lo.trans (b3.mono lM)
  obtain ⟨M3, hM3⟩ := sz_some w3
  have lM3 := below_sz lo3 hN hM3
  clear k2 lo b3 hM
  cases q
  · have e1 := HE.out
    rw [if_neg (by decide)] at e1
    subst e1
    clear HE
    go_wp2_with fail
    go_ret2
    exact newPost.no (by decide) lo3
  · have e1 := HE.out
    rw [if_pos rfl] at e1
    subst e1
    clear HE
    go_wp2_with (first
      | (refine wpl_load rfl 26 (.tmp 5) rfl N rfl 26 6 _ k3 _ u1 u2 szRR ?_)
      | (refine wpl_build rfl 74 _ rfl (cellsOf (tkC at_ r (.pointer none)) 8) (by kernel_rfl) ?_)
      | (refine wpl_box rfl 74 (.tmp 25) rfl 8 _ rfl M3 hM3 ?_; intro w4 hN4 hb4 hh4)
      | fail)
    go_ret2
    exact newPost.ok lM3 hh4 (lo3.trans (hb4.mono lM3))
theorem Root_any (b c : Nat) (f : Nat → Nat) (at_ : Int) (r : Rg) (w : World) (N : Nat) (hN : Sz w N) (hT : Tr w b c f) :
    Calls Tryd.prog 27 #[.pointer (some ⟨b, 0, none⟩), .int .i64 at_, rgV r] w (newPost N w at_ r (.pointer none) (rootErr c at_ r)) := by
  unfold rootErr
  cases hb : isIn c at_
  · rw [if_neg (by decide)]; exact Root_out b c f at_ r hb w N hN hT
  · rw [if_pos rfl]; exact Root_in b c f at_ r hb _ rfl w N hN hT
set_option maxRecDepth 100000 in
theorem Derive_out (b c : Nat) (f : Nat → Nat) (t : Tk) (us : List Tk) (at_ : Int) (r : Rg) (hb : isIn c at_ = false) (w : World) (N : Nat) (hN : Sz w N) (hT : Tr w b c f) :
    Calls Tryd.prog 28 #[.pointer (some ⟨b, 0, none⟩), .pointer (some ⟨t.b, 0, none⟩), .int .i64 at_, rgV r] w (newPost N w at_ r (.pointer (some ⟨t.b, 0, none⟩)) 2) := by
  unfold rgV
  have hbN := hT.h.ltN hN
  have eE : errIn c at_ = 2 := by unfold errIn; rw [hb]; rfl
  have HD := fun w N hN hT => Depth_any b c f at_ w N hN hT
  rw [eE] at HD
  clear eE
  go_enter Tryd.func28, Tryd.ntmps28
  go_wp2_with (first
    | (refine wpl_box rfl 26 (.tmp 3) rfl 6 _ rfl N hN ?_; intro w1 hN1 hb1 hh1)
    | (go_at_call 53; refine (HD _ (N + 1) hN1 (hT.below hN hb1)).mono ?_; rintro e w2 ⟨rfl, b2⟩)
    | fail)
  go_ret2
  exact newPost.no (by decide) (hb1.trans (b2.mono (by omega)))
/-- Why nothing is derived, at a namespace that is there. -/
def derE (f : Nat → Nat) (c : Nat) (t : Tk) (us : List Tk) (at_ : Int) (r : Rg) : Int := if insI f c at_ t.at_ && rWithin r t.r then if 4 ≤ (t :: us).length then 7 else 0 else 1
set_option maxRecDepth 100000 in
theorem Derive_in (b c : Nat) (f : Nat → Nat) (t : Tk) (us : List Tk) (at_ : Int) (r : Rg) (hb : isIn c at_ = true) (p q l : Bool) (hp : insI f c at_ t.at_ = p) (hq : rWithin r t.r = q) (hl : decide (4 ≤ (t :: us).length) = l) (w : World) (N : Nat) (hN : Sz w N) (hT : Tr w b c f) (hU : Tks w (t :: us)) :
    Calls Tryd.prog 28 #[.pointer (some ⟨b, 0, none⟩), .pointer (some ⟨t.b, 0, none⟩), .int .i64 at_, rgV r] w (newPost N w at_ r (.pointer (some ⟨t.b, 0, none⟩)) (if p && q then if l then 7 else 0 else 1)) := by
  obtain ⟨dR, u1, u2⟩ := undRR
  unfold rgV
  have hbN := hT.h.ltN hN
  have htN := hU.1.ltN hN
  have eE : errIn c at_ = 0 := by unfold errIn; rw [hb]; rfl
  have HD := fun w N hN hT => Depth_any b c f at_ w N hN hT
  rw [eE] at HD
  clear eE
  have HW := fun w M hM => Within_any r t.r w M hM
  have HI := fun w M hM hT => Inside_any b c f at_ t.at_ w M hM hT
  have HF := fun w hU => full_any t us w hU
  rw [hq] at HW
  rw [hp] at HI
  rw [hl] at HF
  clear hq hp hl
  obtain ⟨E, hE⟩ : ∃ E : Int, E = if p && q then if l then 7 else 0 else 1 := ⟨_, rfl⟩
  rw [← hE]
  have HE := hid hE
  clear hE
  go_enter Tryd.func28, Tryd.ntmps28
  go_upto_region 6 with (first
    | (refine wpl_box rfl 26 (.tmp 3) rfl 6 _ rfl N hN ?_; intro w1 hN1 hb1 hh1)
    | (go_at_call 53; refine (HD _ (N + 1) hN1 (hT.below hN hb1)).mono ?_; rintro e w2 ⟨rfl, b2⟩)
    | fail)
  have k2 := hh1.below b2 (by omega)
  have lo := hb1.trans (b2.mono (by omega))
  obtain ⟨M, hM⟩ := sz_some w2
  have lM := below_sz lo hN hM
  have lM1 := below_sz b2 hN1 hM
  have U2 := hU.below hN lo
  have T2 := hT.below hN lo
  have cs := U2.sp
  have cr := U2.rights
  have hA : ∀ x : Later M w2, (Instr.loadAt 3 (.pointer (some ⟨t.b, 0, none⟩))).run Tryd.prog x.w' = .ok (.int .i64 t.at_) x.w' := fun x => by
    have c := Later.cell hM cs x
    go_simp
  clear hh1 hb1 b2 hN1 HD cs
  refine wp_region_later M (by kernel_rfl) (by kernel_rfl) ?_
  try simp only [Act.put, List.setIfInBounds_toArray, List.set_cons_succ, List.set_cons_zero]
  iterate 5 go_big_quiet_step (fail)
  refine later_val (fun x => ld_one 3 (.tmp 27) rfl ⟨t.b, 0, none⟩ rfl _ (hA x)) (by rfl) ?_; simp only [Act.put, List.setIfInBounds_toArray, List.set_cons_succ, List.set_cons_zero]
  go_big_quiet_step ((go_at_call 47; exact later_of hM _ (fun K hK hKN => HI _ K hK (T2.below hM (Later.b _)))))
  cases p
  · iterate 2 go_big_quiet_step (fail)
    iterate 7 go_big_quiet_step (fail)
    go_big_quiet_step (fail)
    refine wpQuiet_nil ?_
    rintro w3 ⟨q3, e3⟩
    have b3 := q3.b
    rw [← e3] at b3
    clear e3 q3
    have lo3 := lo.trans (b3.mono lM)
    have e1 := HE.out
    rw [Bool.false_and, if_neg (by decide)] at e1
    subst e1
    clear HE HF HW HI
    go_wp2_with fail
    go_ret2
    exact newPost.no (by decide) lo3
  · iterate 2 go_big_quiet_step (fail)
    refine later_val (fun q => run_ld 26 (.tmp 7) rfl N rfl 26 6 _ (Later.has hM k2 q) _ u1 u2 szRR) (by rfl) ?_; simp only [Act.put, List.setIfInBounds_toArray, List.set_cons_succ, List.set_cons_zero]
    iterate 3 go_big_quiet_step (fail)
    refine later_val (fun x => run_ldc 26 (.tmp 35) rfl t.b 1 rfl 6 (rgC t.r) (fun j hj => Later.cell hM (cr j hj) x) _ u1 u2 szRR) (by rfl) ?_; simp only [Act.put, List.setIfInBounds_toArray, List.set_cons_succ, List.set_cons_zero]
    go_big_quiet_step ((go_at_call 17; exact later_of hM _ (fun K hK hKN => HW _ K hK)))
    iterate 2 go_big_quiet_step (fail)
    refine wpQuiet_nil ?_
    rintro w3 ⟨q3, e3⟩
    have b3 := q3.b
    rw [← e3] at b3
    clear e3 q3
    have k3 := k2.below b3 (by omega)
    have lo3 := lo.trans (b3.mono lM)
    have U3 := U2.below hM b3
    obtain ⟨M3, hM3⟩ := sz_some w3
    have lM3 := below_sz lo3 hN hM3
    clear k2 lo b3 hM hA cr U2 T2
    cases q
    · have e1 := HE.out
      rw [Bool.true_and, if_neg (by decide)] at e1
      subst e1
      clear HE HF HW HI
      go_wp2_with fail
      go_ret2
      exact newPost.no (by decide) lo3
    · cases l
      · have e1 := HE.out
        rw [Bool.true_and, if_pos rfl, if_neg (by decide)] at e1
        subst e1
        clear HE HW HI
        go_wp2_with (first
          | (go_at_call 54; refine (HF _ U3).mono ?_; rintro e w4 ⟨rfl, rfl⟩)
          | (refine wpl_load rfl 26 (.tmp 7) rfl N rfl 26 6 _ k3 _ u1 u2 szRR ?_)
          | (refine wpl_build rfl 74 _ rfl (cellsOf (tkC at_ r (.pointer (some ⟨t.b, 0, none⟩))) 8) (by kernel_rfl) ?_)
          | (refine wpl_box rfl 74 (.tmp 45) rfl 8 _ rfl M3 hM3 ?_; intro w4 hN4 hb4 hh4)
          | fail)
        go_ret2
        exact newPost.ok lM3 hh4 (lo3.trans (hb4.mono lM3))
      · have e1 := HE.out
        rw [Bool.true_and, if_pos rfl, if_pos rfl] at e1
        subst e1
        clear HE HW HI
        go_wp2_with (first
          | (go_at_call 54; refine (HF _ U3).mono ?_; rintro e w4 ⟨rfl, rfl⟩)
          | fail)
        go_ret2
        exact newPost.no (by decide) lo3
end Go.Proofs.YtilhkgbninbkkaaDoor
