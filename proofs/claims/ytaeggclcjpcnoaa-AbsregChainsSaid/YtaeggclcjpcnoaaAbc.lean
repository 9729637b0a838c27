/- Registers: whether one covers another one; Maybes. -/
import Derived.Test.YtaeggclcjpcnoaaAbg
namespace Go.Proofs.Ytaeggclcjpcnoaa
open Go Go.RowKit
theorem arC_r (a : Ar) (j : Nat) (hj : j < 6) : arC a (1 + j) = rC a.r j := by
  rcases (show j = 0 ∨ j = 1 ∨ j = 2 ∨ j = 3 ∨ j = 4 ∨ j = 5 by omega) with rfl | rfl | rfl | rfl | rfl | rfl <;> rfl
theorem run_rwP {P : Program} {a : Act} {w : World} {o : Oper} (ty : TypeId) (x : Operand) (ho : o.op = .load ty x) (b off : Nat) (hx : a.eval x = .pointer (some ⟨b, off, none⟩)) (T : TypeId) (n : Nat) (f : Nat → Value) (hh : Has w b T n f) (m : Nat) (hm : off + m ≤ n) (g : Nat → Value) (hg : ∀ j, j < m → f (off + j) = g j) (hu : ∃ d, P.underlying ty = some d ∧ d.isRow = true) (hi : (P.info? ty).map (·.size) = some m) : (execOp a.eval o).run P w = .ok (.value (.agg (cellsOf g m))) w := by
  obtain ⟨d, h1, h2⟩ := hu
  have hrun := run_load_part (P := P) hh off m hm ty d h1 h2 hi
  rw [cellsOf_congr hg] at hrun
  unfold execOp
  simp only [ho, hx, Sem.run_bind, hrun, Result.andThen_ok, Sem.run_pure]
def isMayb (a : Ar) (x : Int) : Bool :=
  bif (a.k == 6) then (a.id == x)
  else false
set_option maxRecDepth 100000 in
set_option maxHeartbeats 4000000 in
theorem IsMaybe_any (a : Ar) (x : Int) (w : World) (N : Nat) (hN : Sz w N) : Calls Try.prog 82 #[(Value.agg (cellsOf (arC a) 11)), (Value.int .i64 x)] w fun e w' => e = .returned (.bool (isMayb a x)) ∧ Below N w w' := by
  obtain ⟨rr, er⟩ : ∃ rr, rr = (isMayb a x) := ⟨_, rfl⟩
  rw [← er]
  have ER := hid er
  clear er
  go_enter Try.func82, Try.ntmps82
  go_upto_region 1 with (first
    | (refine wpl_box rfl 71 (.tmp 0) rfl 11 _ rfl (N) hN ?_; intro w1 hN1 hb1 hh1)
    | fail)
  have lo0 : Below N w w1 := hb1
  have k1 := hh1
  clear hh1 hb1
  cases h1_ : (a.k == 6)
  · have H1_ := hid h1_
    clear h1_
    go_upto_region 1 with fail
    obtain ⟨c2, c3, c4, c5, c6, c7, c8, c9, c10, c11, c12⟩ := ar_cells k1
    refine wp_region_later1 ((N + 1)) ?_
    try simp only [pA]
    go_big_quiet_step (fail)
    refine later_c1 hN1 3 (.tmp 5) rfl rfl undInt rfl c2 (by rfl) ?_; simp only [pA]
    refine later_val (fun q => run_eqlI (x := (.tmp 6)) (y := (.const (.int .i64 6))) rfl rfl rfl (p := a.k) (q := 6) (r := false) H1_.out q.w') (by rfl) ?_; simp only [pA]
    iterate 7 (go_big_quiet_step (fail))
    refine wpQuiet_nil (laterE hN1 ?_)
    intro xw13 M14 hbxw13 hM14 lM14
    have k15 := k1.below hbxw13 (by omega)
    have lo16 := lo0.trans (hbxw13.mono (by omega))
    clear k1 c2 c3 c4 c5 c6 c7 c8 c9 c10 c11 c12 lo0 hbxw13
    go_wp2_with fail
    go_ret
    exact ⟨by rw [ER.out]; first | rfl | (simp only [isMayb, H1_.out, bB] <;> rfl), lo16⟩
  · have H1_ := hid h1_
    clear h1_
    go_upto_region 1 with fail
    obtain ⟨c2, c3, c4, c5, c6, c7, c8, c9, c10, c11, c12⟩ := ar_cells k1
    refine wp_region_later1 ((N + 1)) ?_
    try simp only [pA]
    go_big_quiet_step (fail)
    refine later_c1 hN1 3 (.tmp 5) rfl rfl undInt rfl c2 (by rfl) ?_; simp only [pA]
    refine later_val (fun q => run_eqlI (x := (.tmp 6)) (y := (.const (.int .i64 6))) rfl rfl rfl (p := a.k) (q := 6) (r := true) H1_.out q.w') (by rfl) ?_; simp only [pA]
    iterate 2 (go_big_quiet_step (fail))
    refine later_c1 hN1 3 (.tmp 9) rfl rfl undInt rfl c10 (by rfl) ?_; simp only [pA]
    go_big_quiet_step (fail)
    refine later_val (fun q => run_eqlI (x := (.tmp 10)) (y := (.tmp 11)) rfl rfl rfl (p := a.id) (q := x) (r := (a.id == x)) rfl q.w') (by rfl) ?_; simp only [pA]
    iterate 2 (go_big_quiet_step (fail))
    refine wpQuiet_nil (laterE hN1 ?_)
    intro xw13 M14 hbxw13 hM14 lM14
    have k15 := k1.below hbxw13 (by omega)
    have lo16 := lo0.trans (hbxw13.mono (by omega))
    clear k1 c2 c3 c4 c5 c6 c7 c8 c9 c10 c11 c12 lo0 hbxw13
    go_wp2_with fail
    go_ret
    exact ⟨by rw [ER.out]; first | rfl | (simp only [isMayb, H1_.out, bB] <;> rfl), lo16⟩
def settlA (a : Ar) (c : Bool) : Ar :=
  bif c then ⟨5, zeroR, a.sl, 0, 0, 0⟩
  else ⟨1, (cR 0#64), 0, 0, 0, 0⟩
set_option maxRecDepth 100000 in
set_option maxHeartbeats 4000000 in
theorem Settled_any (a : Ar) (c : Bool) (w : World) (N : Nat) (hN : Sz w N) : Calls Try.prog 83 #[(Value.agg (cellsOf (arC a) 11)), (Value.bool c)] w fun e w' => e = .returned (arV (settlA a c)) ∧ Below N w w' := by
  obtain ⟨rr, er⟩ : ∃ rr, rr = (settlA a c) := ⟨_, rfl⟩
  rw [← er]
  have ER := hid er
  clear er
  unfold arV
  go_enter Try.func83, Try.ntmps83
  go_upto_region 1 with (first
    | (refine wpl_box rfl 71 (.tmp 0) rfl 11 _ rfl (N) hN ?_; intro w1 hN1 hb1 hh1)
    | (refine wpl_alloc rfl 71 rfl 11 (arC zeroA) zeAr (N + 1) hN1 ?_; intro w2 hN2 hb2 hh2)
    | fail)
  have lo0 : Below N w w2 := (hb1.trans (hb2.mono (by omega)))
  have k1 := (hh1.below hb2 (by omega))
  have k2 := hh2
  clear hh1 hb1 hh2 hb2 hN1
  cases h1_ : c
  · have H1_ := hid h1_
    clear h1_
    go_upto_region 3 with fail
    refine wp_region_lit ?_
    try simp only [pA]
    change wpList _ _ _ ((_ :: _ :: []) ++ (_ :: [])) _ _
    refine wpList_prefix (C := fun w' => ∃ x : Later (N + 1 + 1) w2, w' = x.w') _ _ _ _ ⟨⟨_, Below.refl _ _⟩, rfl⟩ ?_
    go_big_quiet_step ((go_at_call 28; exact later_of hN2 _ (fun K hK hKN => SConst_any 0#64 _ K hK)))
    refine later_val (fun q => run_bd 71 _ rfl (cellsOf (arC ⟨1, (cR 0#64), 0, 0, 0, 0⟩) 11) (by kernel_rfl) q.w') (by rfl) ?_; simp only [pA]
    refine wpQuiet_nil (laterE hN2 ?_)
    intro xw3 M4 hbxw3 hM4 lM4
    have k5 := k1.below hbxw3 (by omega)
    have k6 := k2.below hbxw3 (by omega)
    have lo7 := lo0.trans (hbxw3.mono (by omega))
    clear k1 k2 lo0 hbxw3
    refine wpl_store rfl 71 (.tmp 4) (.tmp 10) rfl (N + 1) 11 (arC ⟨1, (cR 0#64), 0, 0, 0, 0⟩) rfl rfl 71 _ k6 szAr (fun j _ => arC_one _ j) ?_
    intro xw8 t9 k10; try simp only [pA]
    have k11 := k5.touch t9 (by omega)
    have lo12 := t9.below lo7 (by omega)
    have h13 := t9.sz hM4
    clear k6 k5 lo7 hM4 t9
    obtain ⟨M14, hM14⟩ := sz_some xw8
    have lt_15 := k11.ltN hM14
    have lt_16 := k10.ltN hM14
    go_wp2_with fail
    refine post_cell rfl (N + 1) rfl k10 _ undAr.choose_spec.1 undAr.choose_spec.2 szAr rfl ?_
    exact ⟨by rw [ER.out]; first | rfl | (simp only [settlA, H1_.out, bB] <;> rfl), lo12⟩
  · have H1_ := hid h1_
    clear h1_
    go_upto_region 2 with fail
    refine wp_region_lit ?_
    try simp only [pA]
    change wpList _ _ _ ((_ :: _ :: _ :: []) ++ (_ :: [])) _ _
    obtain ⟨c3, c4, c5, c6, c7, c8, c9, c10, c11, c12, c13⟩ := ar_cells k1
    refine wpList_prefix (C := fun w' => ∃ x : Later (N + 1 + 1) w2, w' = x.w') _ _ _ _ ⟨⟨_, Below.refl _ _⟩, rfl⟩ ?_
    go_big_quiet_step (fail)
    refine later_c1 hN2 3 (.tmp 6) rfl rfl undInt rfl c10 (by rfl) ?_; simp only [pA]
    refine later_val (fun q => run_bd 71 _ rfl (cellsOf (arC ⟨5, zeroR, a.sl, 0, 0, 0⟩) 11) (by kernel_rfl) q.w') (by rfl) ?_; simp only [pA]
    refine wpQuiet_nil (laterE hN2 ?_)
    intro xw14 M15 hbxw14 hM15 lM15
    have k16 := k1.below hbxw14 (by omega)
    have k17 := k2.below hbxw14 (by omega)
    have lo18 := lo0.trans (hbxw14.mono (by omega))
    clear k1 c3 c4 c5 c6 c7 c8 c9 c10 c11 c12 c13 k2 lo0 hbxw14
    refine wpl_store rfl 71 (.tmp 4) (.tmp 8) rfl (N + 1) 11 (arC ⟨5, zeroR, a.sl, 0, 0, 0⟩) rfl rfl 71 _ k17 szAr (fun j _ => arC_one _ j) ?_
    intro xw19 t20 k21; try simp only [pA]
    have k22 := k16.touch t20 (by omega)
    have lo23 := t20.below lo18 (by omega)
    have h24 := t20.sz hM15
    clear k17 k16 lo18 hM15 t20
    obtain ⟨M25, hM25⟩ := sz_some xw19
    have lt_26 := k22.ltN hM25
    have lt_27 := k21.ltN hM25
    go_wp2_with fail
    refine post_cell rfl (N + 1) rfl k21 _ undAr.choose_spec.1 undAr.choose_spec.2 szAr rfl ?_
    exact ⟨by rw [ER.out]; first | rfl | (simp only [settlA, H1_.out, bB] <;> rfl), lo23⟩
def covA (a : Ar) (b : Ar) : Bool :=
  bif (a.k == 0) then true
  else bif (a.k != b.k) then false
  else bif (a.k == 1) then (sWithin b.r a.r)
  else bif (a.k == 2) then bif (a.sl == b.sl) then bif (decide (a.lo ≤ b.lo)) then (decide (b.hi ≤ a.hi))
      else false
    else false
  else bif (a.k == 3) then bif (a.sl == b.sl) then bif (decide (a.lo ≤ b.lo)) then (decide (b.hi ≤ a.hi))
      else false
    else false
  else bif (a.k == 5) then bif (a.sl == b.sl) then bif (decide (a.lo ≤ b.lo)) then (decide (b.hi ≤ a.hi))
      else false
    else false
  else bif (a.k == 4) then (a.sl == b.sl)
  else bif (a.k == 6) then (a.sl == b.sl)
  else true
set_option maxRecDepth 100000 in
set_option maxHeartbeats 4000000 in
theorem CoversA_any (a : Ar) (b : Ar) (w : World) (N : Nat) (hN : Sz w N) : Calls Try.prog 80 #[(Value.agg (cellsOf (arC a) 11)), (Value.agg (cellsOf (arC b) 11))] w fun e w' => e = .returned (.bool (covA a b)) ∧ Below N w w' := by
  obtain ⟨rr, er⟩ : ∃ rr, rr = (covA a b) := ⟨_, rfl⟩
  rw [← er]
  have ER := hid er
  clear er
  go_enter Try.func80, Try.ntmps80
  go_upto_region 1 with (first
    | (refine wpl_box rfl 71 (.tmp 0) rfl 11 _ rfl (N) hN ?_; intro w1 hN1 hb1 hh1)
    | (refine wpl_box rfl 71 (.tmp 1) rfl 11 _ rfl (N + 1) hN1 ?_; intro w2 hN2 hb2 hh2)
    | fail)
  have lo0 : Below N w w2 := (hb1.trans (hb2.mono (by omega)))
  have k1 := (hh1.below hb2 (by omega))
  have k2 := hh2
  clear hh1 hb1 hh2 hb2 hN1
  cases h1_ : (a.k == 0)
  · have H1_ := hid h1_
    clear h1_
    go_upto_region 1 with fail
    obtain ⟨c3, c4, c5, c6, c7, c8, c9, c10, c11, c12, c13⟩ := ar_cells k1
    refine wp_region_later1 ((N + 1 + 1)) ?_
    try simp only [pA]
    go_big_quiet_step (fail)
    refine later_c1 hN2 3 (.tmp 5) rfl rfl undInt rfl c3 (by rfl) ?_; simp only [pA]
    refine later_val (fun q => run_eqlI (x := (.tmp 6)) (y := (.const (.int .i64 0))) rfl rfl rfl (p := a.k) (q := 0) (r := false) H1_.out q.w') (by rfl) ?_; simp only [pA]
    refine wpQuiet_nil (laterE hN2 ?_)
    intro xw14 M15 hbxw14 hM15 lM15
    have k16 := k1.below hbxw14 (by omega)
    have k17 := k2.below hbxw14 (by omega)
    have lo18 := lo0.trans (hbxw14.mono (by omega))
    clear k1 c3 c4 c5 c6 c7 c8 c9 c10 c11 c12 c13 k2 lo0 hbxw14
    cases h2_ : (a.k != b.k)
    · have H2_ := hid h2_
      clear h2_
      go_upto_region 3 with fail
      obtain ⟨c19, c20, c21, c22, c23, c24, c25, c26, c27, c28, c29⟩ := ar_cells k16
      obtain ⟨c30, c31, c32, c33, c34, c35, c36, c37, c38, c39, c40⟩ := ar_cells k17
      refine wp_region_later1 (M15) ?_
      try simp only [pA]
      go_big_quiet_step (fail)
      refine later_c1 hM15 3 (.tmp 8) rfl rfl undInt rfl c19 (by rfl) ?_; simp only [pA]
      go_big_quiet_step (fail)
      refine later_c1 hM15 3 (.tmp 10) rfl rfl undInt rfl c30 (by rfl) ?_; simp only [pA]
      refine later_val (fun q => run_neqI (x := (.tmp 9)) (y := (.tmp 11)) rfl rfl rfl (p := a.k) (q := b.k) (r := false) H2_.out q.w') (by rfl) ?_; simp only [pA]
      refine wpQuiet_nil (laterE hM15 ?_)
      intro xw41 M42 hbxw41 hM42 lM42
      have k43 := k16.below hbxw41 (by omega)
      have k44 := k17.below hbxw41 (by omega)
      have lo45 := lo18.trans (hbxw41.mono (by omega))
      clear k16 c19 c20 c21 c22 c23 c24 c25 c26 c27 c28 c29 k17 c30 c31 c32 c33 c34 c35 c36 c37 c38 c39 c40 lo18 hbxw41
      go_upto_region 5 with fail
      obtain ⟨c46, c47, c48, c49, c50, c51, c52, c53, c54, c55, c56⟩ := ar_cells k43
      refine wp_region_later1 (M42) ?_
      try simp only [pA]
      go_big_quiet_step (fail)
      refine later_c1 hM42 3 (.tmp 13) rfl rfl undInt rfl c46 (by rfl) ?_; simp only [pA]
      refine wpQuiet_nil (laterE hM42 ?_)
      intro xw57 M58 hbxw57 hM58 lM58
      have k59 := k43.below hbxw57 (by omega)
      have k60 := k44.below hbxw57 (by omega)
      have lo61 := lo45.trans (hbxw57.mono (by omega))
      clear k43 c46 c47 c48 c49 c50 c51 c52 c53 c54 c55 c56 k44 lo45 hbxw57
      cases h3_ : (a.k == 1)
      · have H3_ := hid h3_
        clear h3_
        go_upto_region 6 with fail
        refine wp_region_later1 (M58) ?_
        try simp only [pA]
        refine later_val (fun q => run_eqlI (x := (.tmp 14)) (y := (.const (.int .i64 1))) rfl rfl rfl (p := a.k) (q := 1) (r := false) H3_.out q.w') (by rfl) ?_; simp only [pA]
        go_big_quiet_step (fail)
        refine wpQuiet_nil (laterE hM58 ?_)
        intro xw62 M63 hbxw62 hM63 lM63
        have k64 := k59.below hbxw62 (by omega)
        have k65 := k60.below hbxw62 (by omega)
        have lo66 := lo61.trans (hbxw62.mono (by omega))
        clear k59 k60 lo61 hbxw62
        cases h4_ : (a.k == 2)
        · have H4_ := hid h4_
          clear h4_
          go_upto_region 8 with fail
          refine wp_region_later1 (M63) ?_
          try simp only [pA]
          refine later_val (fun q => run_eqlI (x := (.tmp 14)) (y := (.const (.int .i64 2))) rfl rfl rfl (p := a.k) (q := 2) (r := false) H4_.out q.w') (by rfl) ?_; simp only [pA]
          go_big_quiet_step (fail)
          refine wpQuiet_nil (laterE hM63 ?_)
          intro xw67 M68 hbxw67 hM68 lM68
          have k69 := k64.below hbxw67 (by omega)
          have k70 := k65.below hbxw67 (by omega)
          have lo71 := lo66.trans (hbxw67.mono (by omega))
          clear k64 k65 lo66 hbxw67
          cases h5_ : (a.k == 3)
          · have H5_ := hid h5_
            clear h5_
            go_upto_region 9 with fail
            refine wp_region_later1 (M68) ?_
            try simp only [pA]
            refine later_val (fun q => run_eqlI (x := (.tmp 14)) (y := (.const (.int .i64 3))) rfl rfl rfl (p := a.k) (q := 3) (r := false) H5_.out q.w') (by rfl) ?_; simp only [pA]
            go_big_quiet_step (fail)
            refine wpQuiet_nil (laterE hM68 ?_)
            intro xw72 M73 hbxw72 hM73 lM73
            have k74 := k69.below hbxw72 (by omega)
            have k75 := k70.below hbxw72 (by omega)
            have lo76 := lo71.trans (hbxw72.mono (by omega))
            clear k69 k70 lo71 hbxw72
            cases h6_ : (a.k == 5)
            · have H6_ := hid h6_
              clear h6_
              go_upto_region 10 with fail
              refine wp_region_later1 (M73) ?_
              try simp only [pA]
              refine later_val (fun q => run_eqlI (x := (.tmp 14)) (y := (.const (.int .i64 5))) rfl rfl rfl (p := a.k) (q := 5) (r := false) H6_.out q.w') (by rfl) ?_; simp only [pA]
              go_big_quiet_step (fail)
              refine wpQuiet_nil (laterE hM73 ?_)
              intro xw77 M78 hbxw77 hM78 lM78
              have k79 := k74.below hbxw77 (by omega)
              have k80 := k75.below hbxw77 (by omega)
              have lo81 := lo76.trans (hbxw77.mono (by omega))
              clear k74 k75 lo76 hbxw77
              cases h7_ : (a.k == 4)
              · have H7_ := hid h7_
                clear h7_
                go_upto_region 12 with fail
                refine wp_region_later1 (M78) ?_
                try simp only [pA]
                refine later_val (fun q => run_eqlI (x := (.tmp 14)) (y := (.const (.int .i64 4))) rfl rfl rfl (p := a.k) (q := 4) (r := false) H7_.out q.w') (by rfl) ?_; simp only [pA]
                go_big_quiet_step (fail)
                refine wpQuiet_nil (laterE hM78 ?_)
                intro xw82 M83 hbxw82 hM83 lM83
                have k84 := k79.below hbxw82 (by omega)
                have k85 := k80.below hbxw82 (by omega)
                have lo86 := lo81.trans (hbxw82.mono (by omega))
                clear k79 k80 lo81 hbxw82
                cases h8_ : (a.k == 6)
                · have H8_ := hid h8_
                  clear h8_
                  go_upto_region 13 with fail
                  refine wp_region_later1 (M83) ?_
                  try simp only [pA]
                  refine later_val (fun q => run_eqlI (x := (.tmp 14)) (y := (.const (.int .i64 6))) rfl rfl rfl (p := a.k) (q := 6) (r := false) H8_.out q.w') (by rfl) ?_; simp only [pA]
                  go_big_quiet_step (fail)
                  refine wpQuiet_nil (laterE hM83 ?_)
                  intro xw87 M88 hbxw87 hM88 lM88
                  have k89 := k84.below hbxw87 (by omega)
                  have k90 := k85.below hbxw87 (by omega)
                  have lo91 := lo86.trans (hbxw87.mono (by omega))
                  clear k84 k85 lo86 hbxw87
                  go_wp2_with fail
                  go_ret
                  exact ⟨by rw [ER.out]; first | rfl | (simp only [covA, H1_.out, H2_.out, H3_.out, H4_.out, H5_.out, H6_.out, H7_.out, H8_.out, bB] <;> rfl), lo91⟩
                · have H8_ := hid h8_
                  clear h8_
                  go_upto_region 13 with fail
                  refine wp_region_later1 (M83) ?_
                  try simp only [pA]
                  refine later_val (fun q => run_eqlI (x := (.tmp 14)) (y := (.const (.int .i64 6))) rfl rfl rfl (p := a.k) (q := 6) (r := true) H8_.out q.w') (by rfl) ?_; simp only [pA]
                  go_big_quiet_step (fail)
                  refine wpQuiet_nil (laterE hM83 ?_)
                  intro xw87 M88 hbxw87 hM88 lM88
                  have k89 := k84.below hbxw87 (by omega)
                  have k90 := k85.below hbxw87 (by omega)
                  have lo91 := lo86.trans (hbxw87.mono (by omega))
                  clear k84 k85 lo86 hbxw87
                  go_upto_region 14 with fail
                  obtain ⟨c92, c93, c94, c95, c96, c97, c98, c99, c100, c101, c102⟩ := ar_cells k89
                  obtain ⟨c103, c104, c105, c106, c107, c108, c109, c110, c111, c112, c113⟩ := ar_cells k90
                  refine wp_region_later1 (M88) ?_
                  try simp only [pA]
                  go_big_quiet_step (fail)
                  refine later_c1 hM88 3 (.tmp 48) rfl rfl undInt rfl c99 (by rfl) ?_; simp only [pA]
                  go_big_quiet_step (fail)
                  refine later_c1 hM88 3 (.tmp 50) rfl rfl undInt rfl c110 (by rfl) ?_; simp only [pA]
                  refine later_val (fun q => run_eqlI (x := (.tmp 49)) (y := (.tmp 51)) rfl rfl rfl (p := a.sl) (q := b.sl) (r := (a.sl == b.sl)) rfl q.w') (by rfl) ?_; simp only [pA]
                  go_big_quiet_step (fail)
                  refine wpQuiet_nil (laterE hM88 ?_)
                  intro xw114 M115 hbxw114 hM115 lM115
                  have k116 := k89.below hbxw114 (by omega)
                  have k117 := k90.below hbxw114 (by omega)
                  have lo118 := lo91.trans (hbxw114.mono (by omega))
                  clear k89 c92 c93 c94 c95 c96 c97 c98 c99 c100 c101 c102 k90 c103 c104 c105 c106 c107 c108 c109 c110 c111 c112 c113 lo91 hbxw114
                  go_wp2_with fail
                  go_ret
                  exact ⟨by rw [ER.out]; first | rfl | (simp only [covA, H1_.out, H2_.out, H3_.out, H4_.out, H5_.out, H6_.out, H7_.out, H8_.out, bB] <;> rfl), lo118⟩
              · have H7_ := hid h7_
                clear h7_
                go_upto_region 12 with fail
                refine wp_region_later1 (M78) ?_
                try simp only [pA]
                refine later_val (fun q => run_eqlI (x := (.tmp 14)) (y := (.const (.int .i64 4))) rfl rfl rfl (p := a.k) (q := 4) (r := true) H7_.out q.w') (by rfl) ?_; simp only [pA]
                go_big_quiet_step (fail)
                refine wpQuiet_nil (laterE hM78 ?_)
                intro xw82 M83 hbxw82 hM83 lM83
                have k84 := k79.below hbxw82 (by omega)
                have k85 := k80.below hbxw82 (by omega)
                have lo86 := lo81.trans (hbxw82.mono (by omega))
                clear k79 k80 lo81 hbxw82
                go_upto_region 14 with fail
                obtain ⟨c87, c88, c89, c90, c91, c92, c93, c94, c95, c96, c97⟩ := ar_cells k84
                obtain ⟨c98, c99, c100, c101, c102, c103, c104, c105, c106, c107, c108⟩ := ar_cells k85
                refine wp_region_later1 (M83) ?_
                try simp only [pA]
                go_big_quiet_step (fail)
                refine later_c1 hM83 3 (.tmp 48) rfl rfl undInt rfl c94 (by rfl) ?_; simp only [pA]
                go_big_quiet_step (fail)
                refine later_c1 hM83 3 (.tmp 50) rfl rfl undInt rfl c105 (by rfl) ?_; simp only [pA]
                refine later_val (fun q => run_eqlI (x := (.tmp 49)) (y := (.tmp 51)) rfl rfl rfl (p := a.sl) (q := b.sl) (r := (a.sl == b.sl)) rfl q.w') (by rfl) ?_; simp only [pA]
                go_big_quiet_step (fail)
                refine wpQuiet_nil (laterE hM83 ?_)
                intro xw109 M110 hbxw109 hM110 lM110
                have k111 := k84.below hbxw109 (by omega)
                have k112 := k85.below hbxw109 (by omega)
                have lo113 := lo86.trans (hbxw109.mono (by omega))
                clear k84 c87 c88 c89 c90 c91 c92 c93 c94 c95 c96 c97 k85 c98 c99 c100 c101 c102 c103 c104 c105 c106 c107 c108 lo86 hbxw109
                go_wp2_with fail
                go_ret
                exact ⟨by rw [ER.out]; first | rfl | (simp only [covA, H1_.out, H2_.out, H3_.out, H4_.out, H5_.out, H6_.out, H7_.out, bB] <;> rfl), lo113⟩
            · have H6_ := hid h6_
              clear h6_
              go_upto_region 10 with fail
              refine wp_region_later1 (M73) ?_
              try simp only [pA]
              refine later_val (fun q => run_eqlI (x := (.tmp 14)) (y := (.const (.int .i64 5))) rfl rfl rfl (p := a.k) (q := 5) (r := true) H6_.out q.w') (by rfl) ?_; simp only [pA]
              go_big_quiet_step (fail)
              refine wpQuiet_nil (laterE hM73 ?_)
              intro xw77 M78 hbxw77 hM78 lM78
              have k79 := k74.below hbxw77 (by omega)
              have k80 := k75.below hbxw77 (by omega)
              have lo81 := lo76.trans (hbxw77.mono (by omega))
              clear k74 k75 lo76 hbxw77
              cases h7_ : (a.sl == b.sl)
              · have H7_ := hid h7_
                clear h7_
                go_upto_region 11 with fail
                obtain ⟨c82, c83, c84, c85, c86, c87, c88, c89, c90, c91, c92⟩ := ar_cells k79
                obtain ⟨c93, c94, c95, c96, c97, c98, c99, c100, c101, c102, c103⟩ := ar_cells k80
                refine wp_region_later1 (M78) ?_
                try simp only [pA]
                go_big_quiet_step (fail)
                refine later_c1 hM78 3 (.tmp 26) rfl rfl undInt rfl c89 (by rfl) ?_; simp only [pA]
                go_big_quiet_step (fail)
                refine later_c1 hM78 3 (.tmp 28) rfl rfl undInt rfl c100 (by rfl) ?_; simp only [pA]
                refine later_val (fun q => run_eqlI (x := (.tmp 27)) (y := (.tmp 29)) rfl rfl rfl (p := a.sl) (q := b.sl) (r := false) H7_.out q.w') (by rfl) ?_; simp only [pA]
                iterate 15 (go_big_quiet_step (fail))
                refine wpQuiet_nil (laterE hM78 ?_)
                intro xw104 M105 hbxw104 hM105 lM105
                have k106 := k79.below hbxw104 (by omega)
                have k107 := k80.below hbxw104 (by omega)
                have lo108 := lo81.trans (hbxw104.mono (by omega))
                clear k79 c82 c83 c84 c85 c86 c87 c88 c89 c90 c91 c92 k80 c93 c94 c95 c96 c97 c98 c99 c100 c101 c102 c103 lo81 hbxw104
                go_wp2_with fail
                go_ret
                exact ⟨by rw [ER.out]; first | rfl | (simp only [covA, H1_.out, H2_.out, H3_.out, H4_.out, H5_.out, H6_.out, H7_.out, bB] <;> rfl), lo108⟩
              · have H7_ := hid h7_
                clear h7_
                cases h8_ : (decide (a.lo ≤ b.lo))
                · have H8_ := hid h8_
                  clear h8_
                  go_upto_region 11 with fail
                  obtain ⟨c82, c83, c84, c85, c86, c87, c88, c89, c90, c91, c92⟩ := ar_cells k79
                  obtain ⟨c93, c94, c95, c96, c97, c98, c99, c100, c101, c102, c103⟩ := ar_cells k80
                  refine wp_region_later1 (M78) ?_
                  try simp only [pA]
                  go_big_quiet_step (fail)
                  refine later_c1 hM78 3 (.tmp 26) rfl rfl undInt rfl c89 (by rfl) ?_; simp only [pA]
                  go_big_quiet_step (fail)
                  refine later_c1 hM78 3 (.tmp 28) rfl rfl undInt rfl c100 (by rfl) ?_; simp only [pA]
                  refine later_val (fun q => run_eqlI (x := (.tmp 27)) (y := (.tmp 29)) rfl rfl rfl (p := a.sl) (q := b.sl) (r := true) H7_.out q.w') (by rfl) ?_; simp only [pA]
                  iterate 2 (go_big_quiet_step (fail))
                  refine later_c1 hM78 2 (.tmp 32) rfl rfl undI64 rfl c91 (by rfl) ?_; simp only [pA]
                  go_big_quiet_step (fail)
                  refine later_c1 hM78 2 (.tmp 34) rfl rfl undI64 rfl c102 (by rfl) ?_; simp only [pA]
                  refine later_val (fun q => run_leqI (x := (.tmp 33)) (y := (.tmp 35)) rfl rfl rfl (p := a.lo) (q := b.lo) (r := false) H8_.out q.w') (by rfl) ?_; simp only [pA]
                  iterate 9 (go_big_quiet_step (fail))
                  refine wpQuiet_nil (laterE hM78 ?_)
                  intro xw104 M105 hbxw104 hM105 lM105
                  have k106 := k79.below hbxw104 (by omega)
                  have k107 := k80.below hbxw104 (by omega)
                  have lo108 := lo81.trans (hbxw104.mono (by omega))
                  clear k79 c82 c83 c84 c85 c86 c87 c88 c89 c90 c91 c92 k80 c93 c94 c95 c96 c97 c98 c99 c100 c101 c102 c103 lo81 hbxw104
                  go_wp2_with fail
                  go_ret
                  exact ⟨by rw [ER.out]; first | rfl | (simp only [covA, H1_.out, H2_.out, H3_.out, H4_.out, H5_.out, H6_.out, H7_.out, H8_.out, bB] <;> rfl), lo108⟩
                · have H8_ := hid h8_
                  clear h8_
                  go_upto_region 11 with fail
                  obtain ⟨c82, c83, c84, c85, c86, c87, c88, c89, c90, c91, c92⟩ := ar_cells k79
                  obtain ⟨c93, c94, c95, c96, c97, c98, c99, c100, c101, c102, c103⟩ := ar_cells k80
                  refine wp_region_later1 (M78) ?_
                  try simp only [pA]
                  go_big_quiet_step (fail)
                  refine later_c1 hM78 3 (.tmp 26) rfl rfl undInt rfl c89 (by rfl) ?_; simp only [pA]
                  go_big_quiet_step (fail)
                  refine later_c1 hM78 3 (.tmp 28) rfl rfl undInt rfl c100 (by rfl) ?_; simp only [pA]
                  refine later_val (fun q => run_eqlI (x := (.tmp 27)) (y := (.tmp 29)) rfl rfl rfl (p := a.sl) (q := b.sl) (r := true) H7_.out q.w') (by rfl) ?_; simp only [pA]
                  iterate 2 (go_big_quiet_step (fail))
                  refine later_c1 hM78 2 (.tmp 32) rfl rfl undI64 rfl c91 (by rfl) ?_; simp only [pA]
                  go_big_quiet_step (fail)
                  refine later_c1 hM78 2 (.tmp 34) rfl rfl undI64 rfl c102 (by rfl) ?_; simp only [pA]
                  refine later_val (fun q => run_leqI (x := (.tmp 33)) (y := (.tmp 35)) rfl rfl rfl (p := a.lo) (q := b.lo) (r := true) H8_.out q.w') (by rfl) ?_; simp only [pA]
                  iterate 3 (go_big_quiet_step (fail))
                  refine later_c1 hM78 2 (.tmp 39) rfl rfl undI64 rfl c103 (by rfl) ?_; simp only [pA]
                  go_big_quiet_step (fail)
                  refine later_c1 hM78 2 (.tmp 41) rfl rfl undI64 rfl c92 (by rfl) ?_; simp only [pA]
                  refine later_val (fun q => run_leqI (x := (.tmp 40)) (y := (.tmp 42)) rfl rfl rfl (p := b.hi) (q := a.hi) (r := (decide (b.hi ≤ a.hi))) rfl q.w') (by rfl) ?_; simp only [pA]
                  iterate 2 (go_big_quiet_step (fail))
                  refine wpQuiet_nil (laterE hM78 ?_)
                  intro xw104 M105 hbxw104 hM105 lM105
                  have k106 := k79.below hbxw104 (by omega)
                  have k107 := k80.below hbxw104 (by omega)
                  have lo108 := lo81.trans (hbxw104.mono (by omega))
                  clear k79 c82 c83 c84 c85 c86 c87 c88 c89 c90 c91 c92 k80 c93 c94 c95 c96 c97 c98 c99 c100 c101 c102 c103 lo81 hbxw104
                  go_wp2_with fail
                  go_ret
                  exact ⟨by rw [ER.out]; first | rfl | (simp only [covA, H1_.out, H2_.out, H3_.out, H4_.out, H5_.out, H6_.out, H7_.out, H8_.out, bB] <;> rfl), lo108⟩
          · have H5_ := hid h5_
            clear h5_
            go_upto_region 9 with fail
            refine wp_region_later1 (M68) ?_
            try simp only [pA]
            refine later_val (fun q => run_eqlI (x := (.tmp 14)) (y := (.const (.int .i64 3))) rfl rfl rfl (p := a.k) (q := 3) (r := true) H5_.out q.w') (by rfl) ?_; simp only [pA]
            go_big_quiet_step (fail)
            refine wpQuiet_nil (laterE hM68 ?_)
            intro xw72 M73 hbxw72 hM73 lM73
            have k74 := k69.below hbxw72 (by omega)
            have k75 := k70.below hbxw72 (by omega)
            have lo76 := lo71.trans (hbxw72.mono (by omega))
            clear k69 k70 lo71 hbxw72
            cases h6_ : (a.sl == b.sl)
            · have H6_ := hid h6_
              clear h6_
              go_upto_region 11 with fail
              obtain ⟨c77, c78, c79, c80, c81, c82, c83, c84, c85, c86, c87⟩ := ar_cells k74
              obtain ⟨c88, c89, c90, c91, c92, c93, c94, c95, c96, c97, c98⟩ := ar_cells k75
              refine wp_region_later1 (M73) ?_
              try simp only [pA]
              go_big_quiet_step (fail)
              refine later_c1 hM73 3 (.tmp 26) rfl rfl undInt rfl c84 (by rfl) ?_; simp only [pA]
              go_big_quiet_step (fail)
              refine later_c1 hM73 3 (.tmp 28) rfl rfl undInt rfl c95 (by rfl) ?_; simp only [pA]
              refine later_val (fun q => run_eqlI (x := (.tmp 27)) (y := (.tmp 29)) rfl rfl rfl (p := a.sl) (q := b.sl) (r := false) H6_.out q.w') (by rfl) ?_; simp only [pA]
              iterate 15 (go_big_quiet_step (fail))
              refine wpQuiet_nil (laterE hM73 ?_)
              intro xw99 M100 hbxw99 hM100 lM100
              have k101 := k74.below hbxw99 (by omega)
              have k102 := k75.below hbxw99 (by omega)
              have lo103 := lo76.trans (hbxw99.mono (by omega))
              clear k74 c77 c78 c79 c80 c81 c82 c83 c84 c85 c86 c87 k75 c88 c89 c90 c91 c92 c93 c94 c95 c96 c97 c98 lo76 hbxw99
              go_wp2_with fail
              go_ret
              exact ⟨by rw [ER.out]; first | rfl | (simp only [covA, H1_.out, H2_.out, H3_.out, H4_.out, H5_.out, H6_.out, bB] <;> rfl), lo103⟩
            · have H6_ := hid h6_
              clear h6_
              cases h7_ : (decide (a.lo ≤ b.lo))
              · have H7_ := hid h7_
                clear h7_
                go_upto_region 11 with fail
                obtain ⟨c77, c78, c79, c80, c81, c82, c83, c84, c85, c86, c87⟩ := ar_cells k74
                obtain ⟨c88, c89, c90, c91, c92, c93, c94, c95, c96, c97, c98⟩ := ar_cells k75
                refine wp_region_later1 (M73) ?_
                try simp only [pA]
                go_big_quiet_step (fail)
                refine later_c1 hM73 3 (.tmp 26) rfl rfl undInt rfl c84 (by rfl) ?_; simp only [pA]
                go_big_quiet_step (fail)
                refine later_c1 hM73 3 (.tmp 28) rfl rfl undInt rfl c95 (by rfl) ?_; simp only [pA]
                refine later_val (fun q => run_eqlI (x := (.tmp 27)) (y := (.tmp 29)) rfl rfl rfl (p := a.sl) (q := b.sl) (r := true) H6_.out q.w') (by rfl) ?_; simp only [pA]
                iterate 2 (go_big_quiet_step (fail))
                refine later_c1 hM73 2 (.tmp 32) rfl rfl undI64 rfl c86 (by rfl) ?_; simp only [pA]
                go_big_quiet_step (fail)
                refine later_c1 hM73 2 (.tmp 34) rfl rfl undI64 rfl c97 (by rfl) ?_; simp only [pA]
                refine later_val (fun q => run_leqI (x := (.tmp 33)) (y := (.tmp 35)) rfl rfl rfl (p := a.lo) (q := b.lo) (r := false) H7_.out q.w') (by rfl) ?_; simp only [pA]
                iterate 9 (go_big_quiet_step (fail))
                refine wpQuiet_nil (laterE hM73 ?_)
                intro xw99 M100 hbxw99 hM100 lM100
                have k101 := k74.below hbxw99 (by omega)
                have k102 := k75.below hbxw99 (by omega)
                have lo103 := lo76.trans (hbxw99.mono (by omega))
                clear k74 c77 c78 c79 c80 c81 c82 c83 c84 c85 c86 c87 k75 c88 c89 c90 c91 c92 c93 c94 c95 c96 c97 c98 lo76 hbxw99
                go_wp2_with fail
                go_ret
                exact ⟨by rw [ER.out]; first | rfl | (simp only [covA, H1_.out, H2_.out, H3_.out, H4_.out, H5_.out, H6_.out, H7_.out, bB] <;> rfl), lo103⟩
              · have H7_ := hid h7_
                clear h7_
                go_upto_region 11 with fail
                obtain ⟨c77, c78, c79, c80, c81, c82, c83, c84, c85, c86, c87⟩ := ar_cells k74
                obtain ⟨c88, c89, c90, c91, c92, c93, c94, c95, c96, c97, c98⟩ := ar_cells k75
                refine wp_region_later1 (M73) ?_
                try simp only [pA]
                go_big_quiet_step (fail)
                refine later_c1 hM73 3 (.tmp 26) rfl rfl undInt rfl c84 (by rfl) ?_; simp only [pA]
                go_big_quiet_step (fail)
                refine later_c1 hM73 3 (.tmp 28) rfl rfl undInt rfl c95 (by rfl) ?_; simp only [pA]
                refine later_val (fun q => run_eqlI (x := (.tmp 27)) (y := (.tmp 29)) rfl rfl rfl (p := a.sl) (q := b.sl) (r := true) H6_.out q.w') (by rfl) ?_; simp only [pA]
                iterate 2 (go_big_quiet_step (fail))
                refine later_c1 hM73 2 (.tmp 32) rfl rfl undI64 rfl c86 (by rfl) ?_; simp only [pA]
                go_big_quiet_step (fail)
                refine later_c1 hM73 2 (.tmp 34) rfl rfl undI64 rfl c97 (by rfl) ?_; simp only [pA]
                refine later_val (fun q => run_leqI (x := (.tmp 33)) (y := (.tmp 35)) rfl rfl rfl (p := a.lo) (q := b.lo) (r := true) H7_.out q.w') (by rfl) ?_; simp only [pA]
                iterate 3 (go_big_quiet_step (fail))
                refine later_c1 hM73 2 (.tmp 39) rfl rfl undI64 rfl c98 (by rfl) ?_; simp only [pA]
                go_big_quiet_step (fail)
                refine later_c1 hM73 2 (.tmp 41) rfl rfl undI64 rfl c87 (by rfl) ?_; simp only [pA]
                refine later_val (fun q => run_leqI (x := (.tmp 40)) (y := (.tmp 42)) rfl rfl rfl (p := b.hi) (q := a.hi) (r := (decide (b.hi ≤ a.hi))) rfl q.w') (by rfl) ?_; simp only [pA]
                iterate 2 (go_big_quiet_step (fail))
                refine wpQuiet_nil (laterE hM73 ?_)
                intro xw99 M100 hbxw99 hM100 lM100
                have k101 := k74.below hbxw99 (by omega)
                have k102 := k75.below hbxw99 (by omega)
                have lo103 := lo76.trans (hbxw99.mono (by omega))
                clear k74 c77 c78 c79 c80 c81 c82 c83 c84 c85 c86 c87 k75 c88 c89 c90 c91 c92 c93 c94 c95 c96 c97 c98 lo76 hbxw99
                go_wp2_with fail
                go_ret
                exact ⟨by rw [ER.out]; first | rfl | (simp only [covA, H1_.out, H2_.out, H3_.out, H4_.out, H5_.out, H6_.out, H7_.out, bB] <;> rfl), lo103⟩
        · have H4_ := hid h4_
          clear h4_
          go_upto_region 8 with fail
          refine wp_region_later1 (M63) ?_
          try simp only [pA]
          refine later_val (fun q => run_eqlI (x := (.tmp 14)) (y := (.const (.int .i64 2))) rfl rfl rfl (p := a.k) (q := 2) (r := true) H4_.out q.w') (by rfl) ?_; simp only [pA]
          go_big_quiet_step (fail)
          refine wpQuiet_nil (laterE hM63 ?_)
          intro xw67 M68 hbxw67 hM68 lM68
          have k69 := k64.below hbxw67 (by omega)
          have k70 := k65.below hbxw67 (by omega)
          have lo71 := lo66.trans (hbxw67.mono (by omega))
          clear k64 k65 lo66 hbxw67
          cases h5_ : (a.sl == b.sl)
          · have H5_ := hid h5_
            clear h5_
            go_upto_region 11 with fail
            obtain ⟨c72, c73, c74, c75, c76, c77, c78, c79, c80, c81, c82⟩ := ar_cells k69
            obtain ⟨c83, c84, c85, c86, c87, c88, c89, c90, c91, c92, c93⟩ := ar_cells k70
            refine wp_region_later1 (M68) ?_
            try simp only [pA]
            go_big_quiet_step (fail)
            refine later_c1 hM68 3 (.tmp 26) rfl rfl undInt rfl c79 (by rfl) ?_; simp only [pA]
            go_big_quiet_step (fail)
            refine later_c1 hM68 3 (.tmp 28) rfl rfl undInt rfl c90 (by rfl) ?_; simp only [pA]
            refine later_val (fun q => run_eqlI (x := (.tmp 27)) (y := (.tmp 29)) rfl rfl rfl (p := a.sl) (q := b.sl) (r := false) H5_.out q.w') (by rfl) ?_; simp only [pA]
            iterate 15 (go_big_quiet_step (fail))
            refine wpQuiet_nil (laterE hM68 ?_)
            intro xw94 M95 hbxw94 hM95 lM95
            have k96 := k69.below hbxw94 (by omega)
            have k97 := k70.below hbxw94 (by omega)
            have lo98 := lo71.trans (hbxw94.mono (by omega))
            clear k69 c72 c73 c74 c75 c76 c77 c78 c79 c80 c81 c82 k70 c83 c84 c85 c86 c87 c88 c89 c90 c91 c92 c93 lo71 hbxw94
            go_wp2_with fail
            go_ret
            exact ⟨by rw [ER.out]; first | rfl | (simp only [covA, H1_.out, H2_.out, H3_.out, H4_.out, H5_.out, bB] <;> rfl), lo98⟩
          · have H5_ := hid h5_
            clear h5_
            cases h6_ : (decide (a.lo ≤ b.lo))
            · have H6_ := hid h6_
              clear h6_
              go_upto_region 11 with fail
              obtain ⟨c72, c73, c74, c75, c76, c77, c78, c79, c80, c81, c82⟩ := ar_cells k69
              obtain ⟨c83, c84, c85, c86, c87, c88, c89, c90, c91, c92, c93⟩ := ar_cells k70
              refine wp_region_later1 (M68) ?_
              try simp only [pA]
              go_big_quiet_step (fail)
              refine later_c1 hM68 3 (.tmp 26) rfl rfl undInt rfl c79 (by rfl) ?_; simp only [pA]
              go_big_quiet_step (fail)
              refine later_c1 hM68 3 (.tmp 28) rfl rfl undInt rfl c90 (by rfl) ?_; simp only [pA]
              refine later_val (fun q => run_eqlI (x := (.tmp 27)) (y := (.tmp 29)) rfl rfl rfl (p := a.sl) (q := b.sl) (r := true) H5_.out q.w') (by rfl) ?_; simp only [pA]
              iterate 2 (go_big_quiet_step (fail))
              refine later_c1 hM68 2 (.tmp 32) rfl rfl undI64 rfl c81 (by rfl) ?_; simp only [pA]
              go_big_quiet_step (fail)
              refine later_c1 hM68 2 (.tmp 34) rfl rfl undI64 rfl c92 (by rfl) ?_; simp only [pA]
              refine later_val (fun q => run_leqI (x := (.tmp 33)) (y := (.tmp 35)) rfl rfl rfl (p := a.lo) (q := b.lo) (r := false) H6_.out q.w') (by rfl) ?_; simp only [pA]
              iterate 9 (go_big_quiet_step (fail))
              refine wpQuiet_nil (laterE hM68 ?_)
              intro xw94 M95 hbxw94 hM95 lM95
              have k96 := k69.below hbxw94 (by omega)
              have k97 := k70.below hbxw94 (by omega)
              have lo98 := lo71.trans (hbxw94.mono (by omega))
              clear k69 c72 c73 c74 c75 c76 c77 c78 c79 c80 c81 c82 k70 c83 c84 c85 c86 c87 c88 c89 c90 c91 c92 c93 lo71 hbxw94
              go_wp2_with fail
              go_ret
              exact ⟨by rw [ER.out]; first | rfl | (simp only [covA, H1_.out, H2_.out, H3_.out, H4_.out, H5_.out, H6_.out, bB] <;> rfl), lo98⟩
            · have H6_ := hid h6_
              clear h6_
              go_upto_region 11 with fail
              obtain ⟨c72, c73, c74, c75, c76, c77, c78, c79, c80, c81, c82⟩ := ar_cells k69
              obtain ⟨c83, c84, c85, c86, c87, c88, c89, c90, c91, c92, c93⟩ := ar_cells k70
              refine wp_region_later1 (M68) ?_
              try simp only [pA]
              go_big_quiet_step (fail)
              refine later_c1 hM68 3 (.tmp 26) rfl rfl undInt rfl c79 (by rfl) ?_; simp only [pA]
              go_big_quiet_step (fail)
              refine later_c1 hM68 3 (.tmp 28) rfl rfl undInt rfl c90 (by rfl) ?_; simp only [pA]
              refine later_val (fun q => run_eqlI (x := (.tmp 27)) (y := (.tmp 29)) rfl rfl rfl (p := a.sl) (q := b.sl) (r := true) H5_.out q.w') (by rfl) ?_; simp only [pA]
              iterate 2 (go_big_quiet_step (fail))
              refine later_c1 hM68 2 (.tmp 32) rfl rfl undI64 rfl c81 (by rfl) ?_; simp only [pA]
              go_big_quiet_step (fail)
              refine later_c1 hM68 2 (.tmp 34) rfl rfl undI64 rfl c92 (by rfl) ?_; simp only [pA]
              refine later_val (fun q => run_leqI (x := (.tmp 33)) (y := (.tmp 35)) rfl rfl rfl (p := a.lo) (q := b.lo) (r := true) H6_.out q.w') (by rfl) ?_; simp only [pA]
              iterate 3 (go_big_quiet_step (fail))
              refine later_c1 hM68 2 (.tmp 39) rfl rfl undI64 rfl c93 (by rfl) ?_; simp only [pA]
              go_big_quiet_step (fail)
              refine later_c1 hM68 2 (.tmp 41) rfl rfl undI64 rfl c82 (by rfl) ?_; simp only [pA]
              refine later_val (fun q => run_leqI (x := (.tmp 40)) (y := (.tmp 42)) rfl rfl rfl (p := b.hi) (q := a.hi) (r := (decide (b.hi ≤ a.hi))) rfl q.w') (by rfl) ?_; simp only [pA]
              iterate 2 (go_big_quiet_step (fail))
              refine wpQuiet_nil (laterE hM68 ?_)
              intro xw94 M95 hbxw94 hM95 lM95
              have k96 := k69.below hbxw94 (by omega)
              have k97 := k70.below hbxw94 (by omega)
              have lo98 := lo71.trans (hbxw94.mono (by omega))
              clear k69 c72 c73 c74 c75 c76 c77 c78 c79 c80 c81 c82 k70 c83 c84 c85 c86 c87 c88 c89 c90 c91 c92 c93 lo71 hbxw94
              go_wp2_with fail
              go_ret
              exact ⟨by rw [ER.out]; first | rfl | (simp only [covA, H1_.out, H2_.out, H3_.out, H4_.out, H5_.out, H6_.out, bB] <;> rfl), lo98⟩
      · have H3_ := hid h3_
        clear h3_
        go_upto_region 6 with fail
        refine wp_region_later1 (M58) ?_
        try simp only [pA]
        refine later_val (fun q => run_eqlI (x := (.tmp 14)) (y := (.const (.int .i64 1))) rfl rfl rfl (p := a.k) (q := 1) (r := true) H3_.out q.w') (by rfl) ?_; simp only [pA]
        go_big_quiet_step (fail)
        refine wpQuiet_nil (laterE hM58 ?_)
        intro xw62 M63 hbxw62 hM63 lM63
        have k64 := k59.below hbxw62 (by omega)
        have k65 := k60.below hbxw62 (by omega)
        have lo66 := lo61.trans (hbxw62.mono (by omega))
        clear k59 k60 lo61 hbxw62
        go_upto_region 7 with fail
        obtain ⟨c67, c68, c69, c70, c71, c72, c73, c74, c75, c76, c77⟩ := ar_cells k65
        obtain ⟨c78, c79, c80, c81, c82, c83, c84, c85, c86, c87, c88⟩ := ar_cells k64
        refine wp_region_later1 (M63) ?_
        try simp only [pA]
        go_big_quiet_step (fail)
        refine later_val (fun qq => run_rwP 41 (.tmp 17) rfl (N + 1) 1 rfl 71 11 _ (Later.has hM63 k65 qq) 6 (by omega) _ (arC_r _) undR szR) (by rfl) ?_; simp only [pA]
        go_big_quiet_step (fail)
        refine later_val (fun qq => run_rwP 41 (.tmp 19) rfl N 1 rfl 71 11 _ (Later.has hM63 k64 qq) 6 (by omega) _ (arC_r _) undR szR) (by rfl) ?_; simp only [pA]
        go_big_quiet_step ((go_at_call 32; exact later_of hM63 _ (fun K hK hKN => SWithin_any b.r a.r _ K hK)))
        go_big_quiet_step (fail)
        refine wpQuiet_nil (laterE hM63 ?_)
        intro xw89 M90 hbxw89 hM90 lM90
        have k91 := k64.below hbxw89 (by omega)
        have k92 := k65.below hbxw89 (by omega)
        have lo93 := lo66.trans (hbxw89.mono (by omega))
        clear k64 c78 c79 c80 c81 c82 c83 c84 c85 c86 c87 c88 k65 c67 c68 c69 c70 c71 c72 c73 c74 c75 c76 c77 lo66 hbxw89
        go_wp2_with fail
        go_ret
        exact ⟨by rw [ER.out]; first | rfl | (simp only [covA, H1_.out, H2_.out, H3_.out, bB] <;> rfl), lo93⟩
    · have H2_ := hid h2_
      clear h2_
      go_upto_region 3 with fail
      obtain ⟨c19, c20, c21, c22, c23, c24, c25, c26, c27, c28, c29⟩ := ar_cells k16
      obtain ⟨c30, c31, c32, c33, c34, c35, c36, c37, c38, c39, c40⟩ := ar_cells k17
      refine wp_region_later1 (M15) ?_
      try simp only [pA]
      go_big_quiet_step (fail)
      refine later_c1 hM15 3 (.tmp 8) rfl rfl undInt rfl c19 (by rfl) ?_; simp only [pA]
      go_big_quiet_step (fail)
      refine later_c1 hM15 3 (.tmp 10) rfl rfl undInt rfl c30 (by rfl) ?_; simp only [pA]
      refine later_val (fun q => run_neqI (x := (.tmp 9)) (y := (.tmp 11)) rfl rfl rfl (p := a.k) (q := b.k) (r := true) H2_.out q.w') (by rfl) ?_; simp only [pA]
      refine wpQuiet_nil (laterE hM15 ?_)
      intro xw41 M42 hbxw41 hM42 lM42
      have k43 := k16.below hbxw41 (by omega)
      have k44 := k17.below hbxw41 (by omega)
      have lo45 := lo18.trans (hbxw41.mono (by omega))
      clear k16 c19 c20 c21 c22 c23 c24 c25 c26 c27 c28 c29 k17 c30 c31 c32 c33 c34 c35 c36 c37 c38 c39 c40 lo18 hbxw41
      go_wp2_with fail
      go_ret
      exact ⟨by rw [ER.out]; first | rfl | (simp only [covA, H1_.out, H2_.out, bB] <;> rfl), lo45⟩
  · have H1_ := hid h1_
    clear h1_
    go_upto_region 1 with fail
    obtain ⟨c3, c4, c5, c6, c7, c8, c9, c10, c11, c12, c13⟩ := ar_cells k1
    refine wp_region_later1 ((N + 1 + 1)) ?_
    try simp only [pA]
    go_big_quiet_step (fail)
    refine later_c1 hN2 3 (.tmp 5) rfl rfl undInt rfl c3 (by rfl) ?_; simp only [pA]
    refine later_val (fun q => run_eqlI (x := (.tmp 6)) (y := (.const (.int .i64 0))) rfl rfl rfl (p := a.k) (q := 0) (r := true) H1_.out q.w') (by rfl) ?_; simp only [pA]
    refine wpQuiet_nil (laterE hN2 ?_)
    intro xw14 M15 hbxw14 hM15 lM15
    have k16 := k1.below hbxw14 (by omega)
    have k17 := k2.below hbxw14 (by omega)
    have lo18 := lo0.trans (hbxw14.mono (by omega))
    clear k1 c3 c4 c5 c6 c7 c8 c9 c10 c11 c12 c13 k2 lo0 hbxw14
    go_wp2_with fail
    go_ret
    exact ⟨by rw [ER.out]; first | rfl | (simp only [covA, H1_.out, bB] <;> rfl), lo18⟩
end Go.Proofs.Ytaeggclcjpcnoaa
