/- Contracts of the document's own rights (layer 11): Common, Within; of rights: Within; from one to the other. -/
import Derived.Test.YtilhkgbninbkkaaDoorRi1
namespace Go.Proofs.YtilhkgbninbkkaaDoor
open Go Go.RowKit
section
variable {P : Program} {ops : Array Oper} {rest : List Oper} {o : Oper} {a : Act} {w : World} {Q : Exit → Act → World → Prop}
end
set_option maxRecDepth 100000 in
set_option maxHeartbeats 2000000 in
theorem Within_any (x y : Rg) (w : World) (N : Nat) (hN : Sz w N) :
    Calls Tryd.prog 17 #[rgV x, rgV y] w fun e w' => e = .returned (.bool (rWithin x y)) ∧ Below N w w' := by
  unfold rgV
  go_enter Tryd.func17, Tryd.ntmps17
  go_upto_region 1 with (first
    | (refine wpl_box rfl 26 (.tmp 0) rfl 6 _ rfl N hN ?_; intro w1 hN1 hb1 hh1)
    | (refine wpl_box rfl 26 (.tmp 1) rfl 6 _ rfl (N + 1) hN1 ?_; intro w2 hN2 hb2 hh2)
    | fail)
  have lo2 : Below N w w2 := hb1.trans (hb2.mono (by omega))
  obtain ⟨f0, f1, f2, f3, f4, f5⟩ := rg_cells (hh1.below hb2 (by omega))
  obtain ⟨g0, g1, g2, g3, g4, g5⟩ := rg_cells hh2
  cases kc : (bits BinOp.andNot IntKind.u16 (u6 x.c) (u6 y.c) == 0)
  · have e : rWithin x y = false := by
      unfold rWithin
      rw [andNot_u6, u6_zero] at kc
      simp [kc]
    have E := hid e
    clear e
    go_wp2
    go_ret
    refine ⟨?_, lo2⟩
    rw [E.out]; rfl
  · skip
    cases kp : (bits BinOp.andNot IntKind.u16 (u6 x.p) (u6 y.p) == 0)
    · have e : rWithin x y = false := by
        unfold rWithin
        rw [andNot_u6, u6_zero] at kp
        simp [kp]
      have E := hid e
      clear e
      go_wp2
      go_ret
      refine ⟨?_, lo2⟩
      rw [E.out]; rfl
    · skip
      cases km : (bits BinOp.andNot IntKind.u16 (u6 x.m) (u6 y.m) == 0)
      · have e : rWithin x y = false := by
          unfold rWithin
          rw [andNot_u6, u6_zero] at km
          simp [km]
        have E := hid e
        clear e
        go_wp2
        go_ret
        refine ⟨?_, lo2⟩
        rw [E.out]; rfl
      · skip
        cases kh : (bits BinOp.andNot IntKind.u16 (u6 x.h) (u6 y.h) == 0)
        · have e : rWithin x y = false := by
            unfold rWithin
            rw [andNot_u6, u6_zero] at kh
            simp [kh]
          have E := hid e
          clear e
          go_wp2
          go_ret
          refine ⟨?_, lo2⟩
          rw [E.out]; rfl
        · skip
          cases hyv : y.v <;> cases hxv : x.v <;> cases hxs : x.s <;> cases hys : y.s
          all_goals
            rw [hxv] at f4; rw [hyv] at g4; rw [hxs] at f5; rw [hys] at g5
            have E := hid (show rWithin x y = ((y.v || !x.v) && (x.s || !y.s)) by
              unfold rWithin
              rw [andNot_u6, u6_zero] at kc kp km kh
              rw [kc, kp, km, kh]; rfl)
            rw [hxv, hyv, hxs, hys] at E
            clear hxv hyv hxs hys
            go_wp2
            go_ret
            refine ⟨?_, lo2⟩
            rw [E.out]; rfl
end Go.Proofs.YtilhkgbninbkkaaDoor
