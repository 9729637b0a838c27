/- Tokens: Sound. -/
import Derived.Test.YtilhkgbninbkkaaDoorMgPot3
import Derived.Test.YtilhkgbninbkkaaDoorRi7
import Derived.Test.YtilhkgbninbkkaaDoorQTail
namespace Go.Proofs.YtilhkgbninbkkaaDoor
open Go Go.RowKit
section
variable {P : Program} {w : World}
/-- One operation of a quiet row, by what it runs to in a world that has but drawn. -/
theorem drew_val {ops : Array Oper} {Q : Act → Prop} {a : Act} {o : Oper} {rest : List Oper} {v : Value} (hr : ∀ k, (execOp a.eval o).run P (w.drewN k) = .ok (.value v) (w.drewN k)) (hw : Region.wanted o (yielded ops a.tmps) = true)
    (h : wpQuiet P ops (fun w' => ∃ k, w' = w.drewN k) Q rest (a.put o.dst v)) : wpQuiet P ops (fun w' => ∃ k, w' = w.drewN k) Q (o :: rest) a :=
  wpQuiet_step fun K hK => by
    rw [if_pos hw]
    exact ⟨v, fun w1 ⟨x, e⟩ => by subst e; unfold Oper.quietAt; rw [hr x]; exact ⟨rfl, rfl⟩, hK _ h⟩
end
def prvAt (D : List Tk) (x : Int) : Int := match D with | [] => x | u :: _ => u.at_
def prvR (D : List Tk) : Rg := match D with | [] => rgAll | u :: _ => u.r
/-- Is each within the one ahead? -/
def sndT (f : Nat → Nat) (c : Nat) : List Tk → Bool
  | [] => true
  | t :: D => sndT f c D && (insI f c t.at_ (prvAt D t.at_) && rWithin t.r (prvR D))
theorem sndT_drop {f : Nat → Nat} {c : Nat} : ∀ {ts : List Tk} (k : Nat), sndT f c (ts.drop k) = false → sndT f c ts = false
  | [], k, h => by simpa using h
  | t :: D, 0, h => h
  | t :: D, k + 1, h => by
    have := sndT_drop (ts := D) k h
    unfold sndT
    rw [this]; rfl
theorem cellB {w w' : World} {N b o : Nat} {v : Value} (hN : Sz w N) (h : w.cell? ⟨b, o, none⟩ = some v) (hb : Below N w w') : w'.cell? ⟨b, o, none⟩ = some v := by
  rw [hb.cell (p := ⟨b, o, none⟩) (by have := World.block_lt_of_cell? w _ h; have e : w.heap.size = N := hN; simp only at this ⊢; omega)]; exact h
set_option maxRecDepth 100000 in
theorem Sound_any (b c : Nat) (f : Nat → Nat) (ts : List Tk) (h0 : 0 < ts.length) (hl : ts.length ≤ 1000) (w : World) (N : Nat) (hN : Sz w N) (hT : Tr w b c f) (hU : Tks w ts) :
    Calls Tryd.prog 32 #[.pointer (some ⟨b, 0, none⟩), ptrOf ts] w fun e w' => e = .returned (.bool (sndT f c ts)) ∧ Below N w w' := by
  obtain ⟨dR, u1, u2⟩ := undRR
  have HC := Chain_any ts h0 hl w N hN hU
  obtain ⟨V0, hV0⟩ : ∃ V0, V0 = ptrOf ts := ⟨_, rfl⟩
  rw [← hV0] at HC ⊢
  clear hV0
  obtain ⟨n, hn⟩ : ∃ n, n = ts.length := ⟨_, rfl⟩
  rw [← hn] at HC h0 hl
  have Hn := hid hn
  clear hn
  have z0 : ((n : Int) == 0) = false := by rw [beq_eq_false_iff_ne]; omega
  go_enter Tryd.func32, Tryd.ntmps32
  go_upto_region 4 with (first
    | (go_at_call 31; refine HC.mono ?_; rintro e w1 ⟨g, cap, rfl, hg, hO, b1⟩)
    | fail)
  clear HC z0
  obtain ⟨t0, et0⟩ : ∃ t0, ts.drop (n - 1) = [t0] := by
    have hn := Hn.out
    obtain ⟨t, et⟩ := ptr_drop (ts := ts) (i := n - 1) (by omega)
    refine ⟨t, ?_⟩
    rw [et, List.drop_eq_nil_of_le (by omega)]
  have U1 := hU.below hN b1
  have T1 := hT.below hN b1
  have cA := (hO.at 0 h0).1
  rw [show n - 1 - 0 = n - 1 by omega, blkAt_drop et0] at cA
  unfold Pk at cA
  have cB : w1.cell? ⟨t0.b, 0, none⟩ = some (.int .i64 t0.at_) := by
    have := U1.drop (n - 1)
    rw [et0] at this
    exact this.sp
  obtain ⟨M, hM⟩ := sz_some w1
  have lM := below_sz b1 hN hM
  refine wp_region_any (by kernel_rfl) ?_
  have cAd : w1.drew.cell? ⟨g, 0, none⟩ = some (.pointer (some ⟨t0.b, 0, none⟩)) := cA
  have cBd : w1.drew.cell? ⟨t0.b, 0, none⟩ = some (.int .i64 t0.at_) := cB
  have hMd : Sz w1.drew M := hM
  have U1d : Tks w1.drew ts := U1.same (fun _ _ => rfl)
  have T1d := T1.drew
  have b1d := b1.drew
  have hOd := hO.drew
  change wpAny _ _ _ _ _ _ _ (World.drew _)
  clear cA cB hM U1 T1 b1 hO
  generalize w1.drew = w2 at *
  have h00 : (0 : Int) < (n : Int) := by omega
  refine wpAny_pot (rem := [0, 1, 2, 3, 4, 5, 6, 7]) (FV M 26 rgNone (fun j => if j = 0 then some (.slice (some ⟨g, 0, none⟩) n cap) else if j = 1 then some (.pointer (some ⟨g, 0, none⟩)) else if j < 4 then some (.pointer (some ⟨t0.b, 0, none⟩)) else if j = 4 then some (.pointer (some ⟨t0.b, 0, none⟩))
      else if j = 5 then some (.int .i64 t0.at_) else if j = 6 then some (rgV rgAll) else none)) NoB (Below M w2) _ _ _ _ (by kernel_rfl) (size_dst (by kernel_rfl)) (Below.refl _ _) ?_ ?_
  · intro i hi a wa hI ha hv
    simp only [List.mem_cons, List.not_mem_nil, or_false] at hi
    rcases hi with rfl | rfl | rfl | rfl | rfl | rfl | rfl | rfl
    · have h : a.tmps.getD 5 undef = .slice (some ⟨g, 0, none⟩) n cap := ha 5 (not_dst (by kernel_rfl))
      exact potv_run rfl rfl _ rfl (by clear hv ha; go_simp) hMd hI
    · obtain ⟨v, hv1, hv2⟩ := hv 0 (by simp) (by kernel_rfl)
      have e := hv2.val rfl
      subst e
      have h := hv1 15 (by rfl)
      exact potv_run rfl rfl _ rfl (by clear hv hv1 hv2 ha; go_simp) hMd hI
    · obtain ⟨v, hv1, hv2⟩ := hv 1 (by simp) (by kernel_rfl)
      have e := hv2.val rfl
      subst e
      have h := hv1 16 (by rfl)
      have c := cellB hMd cAd hI
      exact potv_run rfl rfl _ rfl (by clear hv hv1 hv2 ha; go_simp) hMd hI
    · obtain ⟨v, hv1, hv2⟩ := hv 2 (by simp) (by kernel_rfl)
      have e := hv2.val rfl
      subst e
      have h := hv1 17 (by rfl)
      exact potv_run rfl rfl _ rfl (by clear hv hv1 hv2 ha; go_simp) hMd hI
    · obtain ⟨v, hv1, hv2⟩ := hv 3 (by simp) (by kernel_rfl)
      have e := hv2.val rfl
      subst e
      have h := hv1 18 (by rfl)
      exact potv_run rfl rfl _ rfl (by clear hv hv1 hv2 ha; go_simp) hMd hI
    · obtain ⟨v, hv1, hv2⟩ := hv 4 (by simp) (by kernel_rfl)
      have e := hv2.val rfl
      subst e
      have h := hv1 19 (by rfl)
      have c := cellB hMd cBd hI
      exact potv_run rfl rfl _ rfl (by clear hv hv1 hv2 ha; go_simp) hMd hI
    · exact potv_cl rfl rfl 26 _ _ rfl #[] (by simp) (by kernel_rfl) _ (fun K hK => All_any wa K hK) rfl hMd hI
    · exact potv_al rfl rfl rfl zeRR rfl hMd hI
  · intro vals w3 hI hF hG
    have e0 := (hF 0 (by simp)).val rfl
    have e1 := (hF 1 (by simp)).val rfl
    have e2 := (hF 2 (by simp)).val rfl
    have e3 := (hF 3 (by simp)).val rfl
    have e4 := (hF 4 (by simp)).val rfl
    have e5 := (hF 5 (by simp)).val rfl
    have e6 := (hF 6 (by simp)).val rfl
    obtain ⟨B, l7, e7, h7⟩ := (hF 7 (by simp)).al rfl
    clear hF hG
    simp only [List.foldl_cons, List.foldl_nil, dstOf, List.getElem?_toArray, List.getElem?_cons_succ, List.getElem?_cons_zero, Option.bind_some, Act.put, List.setIfInBounds_toArray, List.set_cons_succ, List.set_cons_zero, e0, e1, e2, e3, e4, e5, e6, e7]
    refine wpAny_chain [8, 9] _ _ _ _ (by kernel_rfl) (by decide) ?_
    simp only [List.filterMap_cons, List.filterMap_nil, List.getElem?_toArray, List.getElem?_cons_succ, List.getElem?_cons_zero]
    have lgM : g < M := by
      have := hOd.lt g rfl
      rwa [show w2.heap.size = M from hMd] at this
    have hl2 : w2.heap.size ≤ M := Nat.le_of_eq hMd
    have hO3 := hOd.below hI hl2
    have U3 := U1d.below hMd hI
    have T3 := T1d.below hMd hI
    have lo3 : Below N w w3 := b1d.trans (hI.mono lM)
    have hbN := hT.h.ltN hN
    have hUN : ∀ u ∈ ts, u.b < N := fun u hu => by have := hU.lt u hu; rwa [show w.heap.size = N from hN] at this
    have hUN := hid hUN
    clear hOd hl2 U1d T1d b1d hI cAd cBd hMd hT hU
    refine wpl_pure rfl (v := .int .i64 t0.at_) (fun w => rfl) ?_
    simp only [Act.put, List.setIfInBounds_toArray, List.set_cons_succ, List.set_cons_zero]
    refine wpl_store rfl 26 (.tmp 7) (.tmp 21) rfl B 6 (rgC rgAll) rfl rfl 26 _ h7 szRR (fun j _ => rgC_one _ j) ?_
    intro w4 t4 k4
    simp only [Act.put]
    go_wp2_with fail
    have hO4 := hO3.touch t4 (fun k hk => by simp [blk] at hk; omega)
    have U4 : Tks w4 ts := U3.same (fun u hu => t4.block u.b (by have := hUN.out u hu; omega))
    have T4 := T3.touch t4 (by omega)
    have lo4 := t4.below lo3 (by omega)
    have Hg := hid (show g ≠ B by omega)
    have HB := hid (show N ≤ B by omega)
    clear h7 hO3 U3 T3 lo3 t4 e0 e1 e2 e3 e4 e5 e6 e7
    go_loopg [6, 24] (n + 1) (fun k x i wr => ∃ j : Nat, k = n + 1 - j ∧ j ≤ n ∧ i = .int .i64 (j : Int) ∧ x = .int .i64 (prvAt (ts.drop (n - j)) t0.at_) ∧ Has wr B 26 6 (rgC (prvR (ts.drop (n - j)))) ∧ sndT f c (ts.drop (n - j)) = true ∧
      Own wr 55 (some ⟨g, 0, none⟩) n cap (fun j => Pk (blkAt ts (n - 1 - j))) ∧ Tks wr ts ∧ Tr wr b c f ∧ Below N w wr)
    case atStart =>
      have e : ts.drop (n - 0) = [] := List.drop_eq_nil_of_le (by have := Hn.out; omega)
      exact ⟨0, by omega, by omega, rfl, by rw [e]; rfl, by rw [e]; exact k4, by rw [e]; rfl, hO4, U4, T4, lo4⟩
    case round =>
      clear hO4 U4 T4 lo4 k4
      obtain ⟨j, rfl, hj, rfl, rfl, kB, hS, hO, hU, hT, lo⟩ := hrel
      have j0 : (0 : Int) ≤ (j : Int) := by omega
      by_cases hlt : j < n
      · have q1 : (j : Int) < (n : Int) := by omega
        obtain ⟨t, et⟩ := ptr_drop (ts := ts) (i := n - 1 - j) (by have := Hn.out; omega)
        rw [show n - 1 - j + 1 = n - j by omega] at et
        have cA := (hO.at j hlt).1
        rw [blkAt_drop et] at cA
        unfold Pk at cA
        have Ut := hU.drop (n - 1 - j)
        rw [et] at Ut
        have htN : t.b < N := hUN.out t (List.mem_of_mem_drop (by rw [et]; simp))
        have cs := Ut.sp
        have cr := Ut.rights
        obtain ⟨D, hD⟩ : ∃ D, D = ts.drop (n - j) := ⟨_, rfl⟩
        rw [← hD] at kB hS et ⊢
        have hSt : sndT f c (t :: D) = (insI f c t.at_ (prvAt D t.at_) && rWithin t.r (prvR D)) := by
          show (sndT f c D && _) = _
          rw [hS, Bool.true_and]
        have hpv : prvAt D t0.at_ = prvAt D t.at_ := by
          cases hDD : D with
          | cons u us => rfl
          | nil =>
            have hn := Hn.out
            have : j = 0 := by
              rw [hDD] at hD
              have := congrArg List.length hD
              simp at this
              omega
            subst this
            rw [show n - 1 - 0 = n - 1 by omega, et0] at et
            injection et with e1 _
            rw [e1]
        have HSt := hid hSt
        have HD := hid hD
        have Het := hid et
        clear hSt hD et hS Ut
        rw [hpv]
        obtain ⟨pa, hpa⟩ : ∃ pa, pa = prvAt D t.at_ := ⟨_, rfl⟩
        obtain ⟨pr, hpr⟩ : ∃ pr, pr = prvR D := ⟨_, rfl⟩
        rw [← hpr] at kB HSt
        rw [← hpa] at HSt ⊢
        clear hpa hpr hpv
        obtain ⟨M, hM⟩ := sz_some wr
        have lM := below_sz lo hN hM
        have HI := fun w M hM hT => Inside_any b c f t.at_ pa w M hM hT
        have HW := fun w M hM => Within_any t.r pr w M hM
        obtain ⟨p, hp⟩ : ∃ p, p = insI f c t.at_ pa := ⟨_, rfl⟩
        obtain ⟨q, hq⟩ : ∃ q, q = rWithin t.r pr := ⟨_, rfl⟩
        rw [← hp] at HI HSt
        rw [← hq] at HW HSt
        clear hp hq
        have hA : ∀ x : Later M wr, (Instr.loadAt 3 (.pointer (some ⟨t.b, 0, none⟩))).run Tryd.prog x.w' = .ok (.int .i64 t.at_) x.w' := fun x => by
          have c := Later.cell hM cs x
          go_simp
        have Hlt := hid hlt
        have Hj := hid hj
        clear hlt hj
        go_upto_region 8 with fail
        refine wp_region_later M (by kernel_rfl) (by kernel_rfl) ?_
        try simp only [Act.put, List.setIfInBounds_toArray, List.set_cons_succ, List.set_cons_zero]
        iterate 4 go_big_quiet_step (fail)
        refine later_val (fun x => ld_one 3 (.tmp 31) rfl ⟨t.b, 0, none⟩ rfl _ (hA x)) (by rfl) ?_; simp only [Act.put, List.setIfInBounds_toArray, List.set_cons_succ, List.set_cons_zero]
        go_big_quiet_step (fail)
        go_big_quiet_step ((go_at_call 47; exact later_of hM _ (fun K hK hKN => HI _ K hK (hT.below hM (Later.b _)))))
        cases p
        · iterate 2 go_big_quiet_step (fail)
          iterate 7 go_big_quiet_step (fail)
          go_big_quiet_step (fail)
          refine wpQuiet_nil ?_
          rintro w5 ⟨q5, e5⟩
          have b5 := q5.b
          rw [← e5] at b5
          clear e5 q5
          have lo5 := lo.trans (b5.mono lM)
          have hF : sndT f c ts = false := sndT_drop (n - 1 - j) (by rw [Het.out, HSt.out]; rfl)
          have hF := hid hF
          clear HSt Het HD HI HW hA
          go_wp2_with fail
          go_ret
          exact ⟨by rw [hF.out]; rfl, lo5⟩
        · iterate 2 go_big_quiet_step (fail)
          iterate 3 go_big_quiet_step (fail)
          refine later_val (fun x => run_ldc 26 (.tmp 39) rfl t.b 1 rfl 6 (rgC t.r) (fun j hj => Later.cell hM (cr j hj) x) _ u1 u2 szRR) (by rfl) ?_; simp only [Act.put, List.setIfInBounds_toArray, List.set_cons_succ, List.set_cons_zero]
          refine later_val (fun q => run_ld 26 (.tmp 7) rfl B rfl 26 6 _ (Later.has hM kB q) _ u1 u2 szRR) (by rfl) ?_; simp only [Act.put, List.setIfInBounds_toArray, List.set_cons_succ, List.set_cons_zero]
          go_big_quiet_step ((go_at_call 17; exact later_of hM _ (fun K hK hKN => HW _ K hK)))
          iterate 2 go_big_quiet_step (fail)
          refine wpQuiet_nil ?_
          rintro w5 ⟨q5, e5⟩
          have b5 := q5.b
          rw [← e5] at b5
          clear e5 q5
          have lo5 := lo.trans (b5.mono lM)
          have kB5 := kB.below b5 (kB.ltN hM)
          have hO5 := hO.below b5 (Nat.le_of_eq hM)
          have U5 := hU.below hM b5
          have T5 := hT.below hM b5
          have cs5 := cellB hM cs b5
          have cr5 := fun j hj => cellB hM (cr j hj) b5
          cases q
          · have hF : sndT f c ts = false := sndT_drop (n - 1 - j) (by rw [Het.out, HSt.out]; rfl)
            have hF := hid hF
            clear HSt Het HD HI HW hA
            go_wp2_with fail
            go_ret
            exact ⟨by rw [hF.out]; rfl, lo5⟩
          · clear kB hO hU hT cs cr lo hA HI HW
            go_upto_region 10 with fail
            refine wp_region_quiet_tail 9 (by kernel_rfl) (by kernel_rfl) ?_
            simp only [List.take_succ_cons, List.take_zero, List.drop_succ_cons, List.drop_zero]
            iterate 7 go_big_quiet_step (fail)
            refine drew_val (fun x => run_ldc 26 (.tmp 51) rfl t.b 1 rfl 6 (rgC t.r) (fun j hj => cr5 j hj) _ u1 u2 szRR) (by rfl) ?_; simp only [Act.put, List.setIfInBounds_toArray, List.set_cons_succ, List.set_cons_zero]
            go_big_quiet_step (fail)
            refine wpQuiet_nil ?_
            rintro w6 ⟨q6, e6⟩
            have lo6 : Below N w w6 := by rw [e6]; exact below_drewN lo5 q6
            have kB6 : Has w6 B 26 6 (rgC pr) := by rw [e6]; exact kB5
            have hO6 : Own w6 55 (some ⟨g, 0, none⟩) n cap (fun j => Pk (blkAt ts (n - 1 - j))) := by rw [e6]; exact hO5.same (fun _ _ => rfl)
            have U6 : Tks w6 ts := by rw [e6]; exact U5.same (fun _ _ => rfl)
            have T6 : Tr w6 b c f := by rw [e6]; exact ⟨T5.h, T5.c1, T5.c8, T5.z, T5.dec⟩
            clear e6 lo5 kB5 hO5 U5 T5 cs5 cr5 cA
            go_wp2_with (first
              | (refine wpl_store rfl 26 (.tmp 7) (.tmp 52) rfl B 6 (rgC t.r) rfl rfl 26 _ kB6 szRR (fun j _ => rgC_one _ j) ?_; intro w7 t7 k7)
              | fail)
            have hO7 := hO6.touch t7 (fun k hk => by simp [blk] at hk; have := Hg.out; omega)
            have U7 : Tks w7 ts := U6.same (fun u hu => t7.block u.b (by have := hUN.out u hu; have := HB.out; omega))
            have T7 := T6.touch t7 (by have := HB.out; omega)
            have lo7 := t7.below lo6 HB.out
            go_roundg (n + 1 - (j + 1))
            case measure => have := Hlt.out; omega
            case rel =>
              have e : n - (j + 1) = n - 1 - j := by omega
              refine ⟨j + 1, rfl, Hlt.out, by go_num, ?_, ?_, ?_, hO7, U7, T7, lo7⟩
              · rw [e, Het.out]; rfl
              · rw [e, Het.out]; exact k7
              · rw [e, Het.out, HSt.out]; rfl
      · have q1 : ¬ (j : Int) < (n : Int) := by omega
        obtain rfl : j = n := by omega
        have hF : sndT f c ts = true := by rw [← hS, Nat.sub_self, List.drop_zero]
        have hF := hid hF
        clear hS
        go_wp2_with fail
        go_ret
        exact ⟨by first | (rw [hF.out]; rfl) | rfl, lo⟩
end Go.Proofs.YtilhkgbninbkkaaDoor
