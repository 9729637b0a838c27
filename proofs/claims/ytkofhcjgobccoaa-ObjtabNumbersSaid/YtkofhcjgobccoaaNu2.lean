/- The walk of ObjtabNumbers. -/
import Derived.Test.YtkofhcjgobccoaaNu3
import Derived.Deep.CutBlock
import Derived.Deep.DeepCutAuto
import Derived.Deep.LoopGhost
namespace Go.Proofs.Ytkofhcjgobccoaa
open Go Go.RowKit
theorem run_asN {P : Program} {a : Act} {o : Oper} {x : Operand} (ho : o.op = .assign x) (w : World) {v : Value} (hx : a.eval x = v) : (execOp a.eval o).run P w = .ok (.value v) w := by
  unfold execOp
  simp only [ho, hx]
  go_simp
theorem addN1 {P : Program} {a : Act} {o : Oper} {T ty : TypeId} {x y : Operand} {p : Nat} (ho : o.op = .binOp .add T x y ty) (hx : a.eval x = .int .i64 (p : Int)) (hy : a.eval y = .int .i64 1) (hp : p < 1000000) (w : World) : (execOp a.eval o).run P w = .ok (.value (.int .i64 ((p + 1 : Nat) : Int))) w := by
  have e : IntKind.i64.wrap ((p : Int) + 1) = ((p + 1 : Nat) : Int) := by simp [IntKind.wrap, IntKind.signed, IntKind.bits]; omega
  unfold execOp
  simp only [ho, hx, hy]
  rw [← e]
  go_simp
set_option maxRecDepth 100000 in
set_option maxHeartbeats 64000000 in
theorem law_onums (p0 : Option Addr) (m cap0 : Nat) (T : Nat → ByteArray) (p1 : Option Addr) (m1 cap1 : Nat) (D : Nat → Int) (w : World) (N : Nat) (hN : Sz w N)
    (hT : 0 < m → ∃ bb off, p0 = some ⟨bb, off, none⟩ ∧ ∀ k, k < m → w.cell? ⟨bb, off + k, none⟩ = some (Value.string (T k)))
    (hD : 0 < m1 → ∃ bb off, p1 = some ⟨bb, off, none⟩ ∧ ∀ k, k < m1 → w.cell? ⟨bb, off + k, none⟩ = some (.int .i64 (D k))) :
    Calls Try.prog 3 #[.slice p0 m cap0, .slice p1 m1 cap1] w fun e w' => e = .returned (.bool true) ∧ Below N w w' := by
  go_enter Try.func3, Try.ntmps3
  go_wp2_with (first
    | (go_at_call 4; refine (ONewS_any 8 (by omega) (by omega) w N hN (fun _ => ⟨0, 0, ⟨#[]⟩⟩)).mono ?_; rintro e w1 ⟨rfl, hb1, O1, hM1⟩)
    | (go_at_call 5; refine (holds_any _ (N + 1) hM1).mono ?_; rintro e w2 ⟨rfl, hb2⟩)
    | fail)
  have S2 : Nu w N N 0 none 0 0 (fun _ => ⟨0, 0, ⟨#[]⟩⟩) none 0 0 (fun _ => 0) none 0 0 (fun _ => ⟨#[]⟩) w2 :=
    ⟨O1.below hM1 hb2, Own.nil _ _ _, Own.nil _ _ _, Nat.le_refl N, fun _ h => (by cases h), fun _ h => (by cases h), fun _ h => (by cases h), fun _ h => (by cases h), fun _ h => (by cases h), fun _ h => (by cases h), hb1.trans (hb2.mono (by omega))⟩
  clear O1 hM1 hb1 hb2
  go_loopg [7, 8, 9, 10] 30 (fun g s7 s8 s9 s10 wr => ∃ (j last n : Nat) (E : Nat → En ByteArray) (p : Option Addr) (cap : Nat) (q : Option Addr) (capq : Nat) (r : Option Addr) (capr : Nat), j ≤ 30 ∧ g = 30 - j ∧ s10 = .int .i64 j ∧ s7 = .int .i64 last ∧ s8 = .slice q n capq ∧ s9 = .slice r n capr ∧ Nv j last n E ∧
    Nu w N N last p n cap E q n capq (fun k => (E k).id) r n capr (fun k => (E k).x) wr)
  case atStart => exact ⟨0, 0, 0, _, none, 0, none, 0, none, 0, by omega, rfl, rfl, rfl, rfl, rfl, ⟨by omega, by omega, fun k hk => by omega, fun k hk => by omega, fun a c _ hc => by omega⟩, S2⟩
  case round =>
    clear S2
    obtain ⟨j, last, n, E, p, cap, q, capq, r, capr, hj, rfl, rfl, rfl, rfl, rfl, V, C⟩ := hrel
    have j0 : (0 : Int) ≤ (j : Int) := by omega
    have j1 : (j : Int) ≤ 30 := by omega
    have n8 := V.ns
    have ll : last ≤ 30 := Nat.le_trans V.lj hj
    obtain ⟨M, hM⟩ := sz_some wr
    have hNM := below_sz C.bel hN hM
    by_cases hlt : j < m ∧ j < 30
    · obtain ⟨h1, h2⟩ := hlt
      have l1 : (j : Int) < (m : Int) := by omega
      have l2 : (j : Int) < 30 := by omega
      obtain ⟨bb, off, rfl, hcells⟩ := hT (by omega)
      have hbb : bb < N := by
        have := World.block_lt_of_cell? w _ (hcells j h1)
        have e : w.heap.size = N := hN
        simp only at this
        omega
      have ct : wr.cell? ⟨bb, off + j, none⟩ = some (Value.string (T j)) := by rw [C.bel.cell (p := ⟨bb, off + j, none⟩) hbb]; exact hcells j h1
      have ctw := hcells j h1
      clear hcells
      generalize T j = x at ct ctw
      go_upto_region 10 with fail
      go_cut [11, 12] (fun s11 s12 wx => ∃ I F : Int, s11 = .int .i64 I ∧ s12 = .int .i64 F ∧ ((n < 8 ∧ I = (last : Int) + 1 ∧ F = 0 ∧ ∃ p' cap', Nu w N N ((last : Int) + 1) p' (n + 1) cap' (setE E n ⟨(last : Int) + 1, 1, x⟩) q n capq (fun k => (E k).id) r n capr (fun k => (E k).x) wx) ∨
        (n = 8 ∧ I = 0 ∧ F = 12 ∧ Nu w N N last p n cap E q n capq (fun k => (E k).id) r n capr (fun k => (E k).x) wx)))
      case first =>
        as_aux_lemma =>
          by_cases hs : n < 8
          · have hs' : (n : Int) < 8 := by omega
            go_wp2_with fail
            refine (OMakeS_ok N 8 (last : Int) p n cap E x hs' (by omega) (by omega) (by omega) wr M hM C.o).mono ?_
            rintro e y1 ⟨p1', cap1', rfl, T1, hp1, O1⟩
            have C1 := C.table hN hM T1 hp1 O1
            go_wp2_with fail
            go_meet
            exact ⟨_, _, rfl, rfl, .inl ⟨hs, rfl, rfl, _, _, C1⟩⟩
          · have hs' : (n : Int) = 8 := by omega
            have Hs := hid hs'
            clear hs'
            go_wp2_with fail
            refine (OMakeS_full N 8 (last : Int) p n cap E x Hs.out (by omega) wr M hM C.o).mono ?_
            rintro e y1 ⟨rfl, hb1⟩
            have C1 := C.below hN hM hb1
            go_wp2_with fail
            go_meet
            exact ⟨_, _, rfl, rfl, .inr ⟨by omega, rfl, rfl, C1⟩⟩
      case rest =>
        obtain ⟨I, F, rfl, rfl, hc⟩ := hcut
        clear C ct
        have Hc := hid hc
        clear hc
        go_upto_region 11 with fail
        go_cut [63] (fun s63 wx => s63 = .bool false ∧ wx = wc)
        case first =>
          as_aux_lemma =>
            rcases Hc.out with ⟨hs, rfl, rfl, _⟩ | ⟨hs, rfl, rfl, _⟩
            · have hs' : (n : Int) < 8 := by omega
              go_wp2_with fail
              go_meet
              exact ⟨rfl, rfl⟩
            · have hs' : ¬ ((n : Int) < 8) := by omega
              have Hs := hid hs
              clear hs
              go_wp2_with fail
              go_meet
              exact ⟨rfl, rfl⟩
        case rest =>
          obtain ⟨rfl, rfl⟩ := hcut
          go_upto_if 65 with fail
          go_cut [7, 8, 9] (fun s7 s8 s9 wx => ∃ (last n : Nat) (E : Nat → En ByteArray) (p : Option Addr) (cap : Nat) (q : Option Addr) (capq : Nat) (r : Option Addr) (capr : Nat), s7 = .int .i64 last ∧ s8 = .slice q n capq ∧ s9 = .slice r n capr ∧ Nv (j + 1) last n E ∧
            Nu w N N last p n cap E q n capq (fun k => (E k).id) r n capr (fun k => (E k).x) wx)
          case first =>
            rcases Hc.out with ⟨hs, rfl, rfl, p', cap', C1⟩ | ⟨hs, rfl, rfl, C1⟩
            · go_upto_region 17 with fail
              have ctw2 := ctw
              obtain ⟨M1, hM1⟩ := sz_some wc
              have hNM1 := below_sz C1.bel hN hM1
              have Vm := V.make hs x
              obtain ⟨v0, ev⟩ : ∃ y, y = wc.drew := ⟨_, rfl⟩
              have oL0 : Own v0 3 q n capq (fun k => .int .i64 (E k).id) := by rw [ev]; exact C1.l
              have oA0 : Own v0 9 r n capr (fun k => Value.string (E k).x) := by rw [ev]; exact C1.a
              have tf0 : Turn (fun _ => False) wc v0 := by rw [ev]; exact ⟨rfl, rfl, rfl, Nat.le_refl _, fun _ _ _ => rfl⟩
              have hV0 : Sz v0 M1 := by rw [ev]; exact hM1
              have ib0 : Below N w v0 := by rw [ev]; exact below_drewN C1.bel 1
              have hrq : blk r = none ∨ blk r ≠ blk q := by
                cases e : blk r with
                | none => exact .inl rfl
                | some g => exact .inr (fun h => C1.qr g h.symm e)
              have qM := (C1.lt hM1).2.2.1
              have rM := (C1.lt hM1).2.2.2
              have n8b := hs
              refine wp_region_inn (fun u => Below N w u) (below_drewN C1.bel 1) (by kernel_rfl) ?_
              rw [← ev]
              have hne := inn_ne (I := fun u => Below N w u) ib0
              refine anyI_reads [0, 1, 4, 5, 6, 7, 8] _ _ _ ib0 (by kernel_rfl) (fun _ _ _ d _ h => by cases d <;> exact h) ?_
              simp only [pickO, List.map_cons, List.map_nil, List.getElem?_toArray, List.getElem?_cons_succ, List.getElem?_cons_zero, Option.getD_some, Act.put, List.setIfInBounds_toArray, List.set_cons_succ, List.set_cons_zero]
              go_big_quiet_step (fail)
              go_big_quiet_step (fail)
              go_big_quiet_step (fail)
              go_big_quiet_step (fail)
              go_big_quiet_step (fail)
              refine inn_val (v := .pointer (some ⟨bb, off + j, none⟩)) (fun u => run_ixN 22 9 undSsN szSN (.tmp 76) (.tmp 77) rfl rfl rfl (k := j) h1 _) (by rfl) ?_; simp only [Act.put, List.setIfInBounds_toArray, List.set_cons_succ, List.set_cons_zero]
              refine inn_val (v := Value.string x) (fun u => run_c1 9 (.tmp 78) rfl ⟨bb, off + j, none⟩ rfl undStrN rfl (by rw [u.h.cell (p := ⟨bb, off + j, none⟩) hbb]; exact ctw)) (by rfl) ?_; simp only [Act.put, List.setIfInBounds_toArray, List.set_cons_succ, List.set_cons_zero]
              refine wpQuiet_nil ?_
              clear hne
              refine anyI_two 2 9 _ _ _ _ (by kernel_rfl) ?_ ?_
              · simp only [List.filterMap_cons, List.filterMap_nil, List.getElem?_toArray, List.getElem?_cons_succ, List.getElem?_cons_zero]
                refine wpl_bsI1 rfl (.tmp 72) rfl ((last : Int) + 1) rfl (M1) hV0 ?_
                intro w51 hM51 hb51 o51
                have o51L := oL0.below hb51 (Nat.le_of_eq hV0)
                have o51A := oA0.below hb51 (Nat.le_of_eq hV0)
                have ib51 := ib0.trans (hb51.mono (by omega))
                have tf51 := tf0.belowN hV0 hb51
                have lz51 : M1 ≤ M1 + 1 := by omega
                refine ⟨ib51, ?_⟩
                change anyI _ _ _ _ _ _ _ _ _
                try simp only [Act.put, List.setIfInBounds_toArray, List.set_cons_succ, List.set_cons_zero, List.getElem_toArray, List.getElem_cons_succ, List.getElem_cons_zero]
                refine anyI_two 3 9 _ _ _ _ (by kernel_rfl) ?_ ?_
                · simp only [List.filterMap_cons, List.filterMap_nil, List.getElem?_toArray, List.getElem?_cons_succ, List.getElem?_cons_zero]
                  refine wpl_app rfl (.tmp 71) (.tmp 73) 23 rfl 3 undIsN oneIN q n capq rfl _ o51L _ 1 1 rfl _ o51.cellsN (fun _ _ => rfl) (by omega) ?_
                  intro q5 cq5 w52 L52 g52 n52 e52
                  obtain ⟨M52, hM52⟩ := sz_some w52
                  have l52 : M1 + 1 ≤ M52 := by have q1 := g52.size; have q2 := hM51; have q3 := hM52; unfold Sz at q2 q3; omega
                  have A52 := o51A.grew g52 hrq
                  have ib52 := g52.below ib51 (below_le ib51 hN) (fun g hg => (C1.qn g hg).1)
                  have tf52 := Turn.refl (fun _ => False) w52
                  refine ⟨ib52, ?_⟩
                  change anyI _ _ _ _ _ _ _ _ _
                  try simp only [Act.put, List.setIfInBounds_toArray, List.set_cons_succ, List.set_cons_zero, List.getElem_toArray, List.getElem_cons_succ, List.getElem_cons_zero]
                  refine anyI_part [9, 10, 11, 12] _ _ _ _ (by kernel_rfl) ?_
                  simp only [List.filterMap_cons, List.filterMap_nil, List.getElem?_toArray, List.getElem?_cons_succ, List.getElem?_cons_zero]
                  change wpList _ _ _ [_] _ _
                  refine wpl_bsS1 rfl (.tmp 79) rfl x rfl (M52) hM52 ?_
                  intro w53 hM53 hb53 o53
                  have o53A := A52.below hb53 (Nat.le_of_eq hM52)
                  have ib53 := ib52.trans (hb53.mono (by omega))
                  have tf53 := tf52.belowN hM52 hb53
                  have lz53 : M52 ≤ M52 + 1 := by omega
                  refine ⟨ib53, ?_⟩
                  change wpList _ _ _ [_] _ _
                  refine wpl_app rfl (.tmp 75) (.tmp 80) 22 rfl 9 undSsN oneSN r n capr rfl _ o53A _ 1 1 rfl _ o53.cellsN (fun _ _ => rfl) (by omega) ?_
                  intro r5 cr5 w54 A54 g54 n54 e54
                  have ib54 := g54.below ib53 (below_le ib53 hN) (fun g hg => (C1.rn g hg).1)
                  refine ⟨ib54, ?_⟩
                  change wpList _ _ _ [_] _ _
                  refine wpl_run rfl (.slice q5 (n + 1) cq5) _ (run_asN (x := .tmp 74) rfl _ rfl) ?_
                  refine ⟨ib54, ?_⟩
                  change wpList _ _ _ [_] _ _
                  refine wpl_run rfl (.slice r5 (n + 1) cr5) _ (run_asN (x := .tmp 81) rfl _ rfl) ?_
                  refine ⟨ib54, ?_⟩
                  change anyI _ _ _ _ _ _ _ _ _
                  try simp only [Act.put, List.setIfInBounds_toArray, List.set_cons_succ, List.set_cons_zero, List.getElem_toArray, List.getElem_cons_succ, List.getElem_cons_zero]
                  have NU := C1.app2 hN hM1 tf51 g52 n52 tf53 g54 n54 (Z' := fun k => (setE E n ⟨(last : Int) + 1, 1, x⟩ k).id) (X' := fun k => (setE E n ⟨(last : Int) + 1, 1, x⟩ k).x) (L52.congr (fun j hj => cat_setI E n _ x j hj)) (A54.congr (fun j hj => cat_setS E n _ x j hj))
                  clear tf53 tf51
                  refine anyI_done (by kernel_rfl) ?_
                  try simp only [Act.put, List.setIfInBounds_toArray, List.set_cons_succ, List.set_cons_zero, List.getElem_toArray, List.getElem_cons_succ, List.getElem_cons_zero]
                  go_wp2_with fail
                  go_meet
                  exact ⟨last + 1, n + 1, _, _, _, _, _, _, _, rfl, rfl, rfl, Vm, NU⟩
                · simp only [List.filterMap_cons, List.filterMap_nil, List.getElem?_toArray, List.getElem?_cons_succ, List.getElem?_cons_zero]
                  refine wpl_bsS1 rfl (.tmp 79) rfl x rfl (M1 + 1) hM51 ?_
                  intro w56 hM56 hb56 o56
                  have o56L := o51L.below hb56 (Nat.le_of_eq hM51)
                  have o56A := o51A.below hb56 (Nat.le_of_eq hM51)
                  have o56i := o51.below hb56 (Nat.le_of_eq hM51)
                  have ib56 := ib51.trans (hb56.mono (by omega))
                  have tf56 := tf51.belowN hM51 hb56
                  have lz56 : M1 + 1 ≤ M1 + 1 + 1 := by omega
                  refine ⟨ib56, ?_⟩
                  change anyI _ _ _ _ _ _ _ _ _
                  try simp only [Act.put, List.setIfInBounds_toArray, List.set_cons_succ, List.set_cons_zero, List.getElem_toArray, List.getElem_cons_succ, List.getElem_cons_zero]
                  refine anyI_part [3, 10, 11, 12] _ _ _ _ (by kernel_rfl) ?_
                  simp only [List.filterMap_cons, List.filterMap_nil, List.getElem?_toArray, List.getElem?_cons_succ, List.getElem?_cons_zero]
                  change wpList _ _ _ [_] _ _
                  refine wpl_app rfl (.tmp 71) (.tmp 73) 23 rfl 3 undIsN oneIN q n capq rfl _ o56L _ 1 1 rfl _ o56i.cellsN (fun _ _ => rfl) (by omega) ?_
                  intro q5 cq5 w57 L57 g57 n57 e57
                  obtain ⟨M57, hM57⟩ := sz_some w57
                  have l57 : M1 + 1 + 1 ≤ M57 := by have q1 := g57.size; have q2 := hM56; have q3 := hM57; unfold Sz at q2 q3; omega
                  have A57 := o56A.grew g57 hrq
                  have t57 := o56.grew g57 (.inr (by intro h; have h9 := qM _ h.symm; try dsimp only at h9; omega))
                  have ib57 := g57.below ib56 (below_le ib56 hN) (fun g hg => (C1.qn g hg).1)
                  have tf57 := Turn.refl (fun _ => False) w57
                  refine ⟨ib57, ?_⟩
                  change wpList _ _ _ [_] _ _
                  refine wpl_app rfl (.tmp 75) (.tmp 80) 22 rfl 9 undSsN oneSN r n capr rfl _ A57 _ 1 1 rfl _ t57.cellsN (fun _ _ => rfl) (by omega) ?_
                  intro r5 cr5 w58 A58 g58 n58 e58
                  have ib58 := g58.below ib57 (below_le ib57 hN) (fun g hg => (C1.rn g hg).1)
                  refine ⟨ib58, ?_⟩
                  change wpList _ _ _ [_] _ _
                  refine wpl_run rfl (.slice q5 (n + 1) cq5) _ (run_asN (x := .tmp 74) rfl _ rfl) ?_
                  refine ⟨ib58, ?_⟩
                  change wpList _ _ _ [_] _ _
                  refine wpl_run rfl (.slice r5 (n + 1) cr5) _ (run_asN (x := .tmp 81) rfl _ rfl) ?_
                  refine ⟨ib58, ?_⟩
                  change anyI _ _ _ _ _ _ _ _ _
                  try simp only [Act.put, List.setIfInBounds_toArray, List.set_cons_succ, List.set_cons_zero, List.getElem_toArray, List.getElem_cons_succ, List.getElem_cons_zero]
                  have NU := C1.app2 hN hM1 tf56 g57 n57 tf57 g58 n58 (Z' := fun k => (setE E n ⟨(last : Int) + 1, 1, x⟩ k).id) (X' := fun k => (setE E n ⟨(last : Int) + 1, 1, x⟩ k).x) (L57.congr (fun j hj => cat_setI E n _ x j hj)) (A58.congr (fun j hj => cat_setS E n _ x j hj))
                  clear tf57 tf56
                  refine anyI_done (by kernel_rfl) ?_
                  try simp only [Act.put, List.setIfInBounds_toArray, List.set_cons_succ, List.set_cons_zero, List.getElem_toArray, List.getElem_cons_succ, List.getElem_cons_zero]
                  go_wp2_with fail
                  go_meet
                  exact ⟨last + 1, n + 1, _, _, _, _, _, _, _, rfl, rfl, rfl, Vm, NU⟩
              · simp only [List.filterMap_cons, List.filterMap_nil, List.getElem?_toArray, List.getElem?_cons_succ, List.getElem?_cons_zero]
                refine wpl_bsS1 rfl (.tmp 79) rfl x rfl (M1) hV0 ?_
                intro w60 hM60 hb60 o60
                have o60L := oL0.below hb60 (Nat.le_of_eq hV0)
                have o60A := oA0.below hb60 (Nat.le_of_eq hV0)
                have ib60 := ib0.trans (hb60.mono (by omega))
                have tf60 := tf0.belowN hV0 hb60
                have lz60 : M1 ≤ M1 + 1 := by omega
                refine ⟨ib60, ?_⟩
                change anyI _ _ _ _ _ _ _ _ _
                try simp only [Act.put, List.setIfInBounds_toArray, List.set_cons_succ, List.set_cons_zero, List.getElem_toArray, List.getElem_cons_succ, List.getElem_cons_zero]
                refine anyI_part [2, 3, 10, 11, 12] _ _ _ _ (by kernel_rfl) ?_
                simp only [List.filterMap_cons, List.filterMap_nil, List.getElem?_toArray, List.getElem?_cons_succ, List.getElem?_cons_zero]
                change wpList _ _ _ [_] _ _
                refine wpl_bsI1 rfl (.tmp 72) rfl ((last : Int) + 1) rfl (M1 + 1) hM60 ?_
                intro w61 hM61 hb61 o61
                have o61L := o60L.below hb61 (Nat.le_of_eq hM60)
                have o61A := o60A.below hb61 (Nat.le_of_eq hM60)
                have o61t := o60.below hb61 (Nat.le_of_eq hM60)
                have ib61 := ib60.trans (hb61.mono (by omega))
                have tf61 := tf60.belowN hM60 hb61
                have lz61 : M1 + 1 ≤ M1 + 1 + 1 := by omega
                refine ⟨ib61, ?_⟩
                change wpList _ _ _ [_] _ _
                refine wpl_app rfl (.tmp 71) (.tmp 73) 23 rfl 3 undIsN oneIN q n capq rfl _ o61L _ 1 1 rfl _ o61.cellsN (fun _ _ => rfl) (by omega) ?_
                intro q5 cq5 w62 L62 g62 n62 e62
                obtain ⟨M62, hM62⟩ := sz_some w62
                have l62 : M1 + 1 + 1 ≤ M62 := by have q1 := g62.size; have q2 := hM61; have q3 := hM62; unfold Sz at q2 q3; omega
                have A62 := o61A.grew g62 hrq
                have t62 := o61t.grew g62 (.inr (by intro h; have h9 := qM _ h.symm; try dsimp only at h9; omega))
                have ib62 := g62.below ib61 (below_le ib61 hN) (fun g hg => (C1.qn g hg).1)
                have tf62 := Turn.refl (fun _ => False) w62
                refine ⟨ib62, ?_⟩
                change wpList _ _ _ [_] _ _
                refine wpl_app rfl (.tmp 75) (.tmp 80) 22 rfl 9 undSsN oneSN r n capr rfl _ A62 _ 1 1 rfl _ t62.cellsN (fun _ _ => rfl) (by omega) ?_
                intro r5 cr5 w63 A63 g63 n63 e63
                have ib63 := g63.below ib62 (below_le ib62 hN) (fun g hg => (C1.rn g hg).1)
                refine ⟨ib63, ?_⟩
                change wpList _ _ _ [_] _ _
                refine wpl_run rfl (.slice q5 (n + 1) cq5) _ (run_asN (x := .tmp 74) rfl _ rfl) ?_
                refine ⟨ib63, ?_⟩
                change wpList _ _ _ [_] _ _
                refine wpl_run rfl (.slice r5 (n + 1) cr5) _ (run_asN (x := .tmp 81) rfl _ rfl) ?_
                refine ⟨ib63, ?_⟩
                change anyI _ _ _ _ _ _ _ _ _
                try simp only [Act.put, List.setIfInBounds_toArray, List.set_cons_succ, List.set_cons_zero, List.getElem_toArray, List.getElem_cons_succ, List.getElem_cons_zero]
                have NU := C1.app2 hN hM1 tf61 g62 n62 tf62 g63 n63 (Z' := fun k => (setE E n ⟨(last : Int) + 1, 1, x⟩ k).id) (X' := fun k => (setE E n ⟨(last : Int) + 1, 1, x⟩ k).x) (L62.congr (fun j hj => cat_setI E n _ x j hj)) (A63.congr (fun j hj => cat_setS E n _ x j hj))
                clear tf62 tf61
                refine anyI_done (by kernel_rfl) ?_
                try simp only [Act.put, List.setIfInBounds_toArray, List.set_cons_succ, List.set_cons_zero, List.getElem_toArray, List.getElem_cons_succ, List.getElem_cons_zero]
                go_wp2_with fail
                go_meet
                exact ⟨last + 1, n + 1, _, _, _, _, _, _, _, rfl, rfl, rfl, Vm, NU⟩
            · as_aux_lemma =>
                have Hs := hid hs
                clear hs
                go_wp2_with fail
                go_meet
                exact ⟨last, n, E, _, _, _, _, _, _, rfl, rfl, rfl, V.more, C1⟩
          case rest =>
            clear Hc V
            obtain ⟨last2, n2, E2, p2, cap2, q2, capq2, r2, capr2, rfl, rfl, rfl, V2, C2⟩ := hcut
            have n28 := V2.ns
            go_upto_region 18 with fail
            go_cut [98] (fun s98 wx => wx = wc ∧ ∃ B : Bool, s98 = .bool B ∧ (B = true → j < m1 ∧ 0 < n2))
            case first =>
              as_aux_lemma =>
                have bel := C2.bel
                clear C2 V2
                by_cases d1 : j < m1
                · have e1 : (j : Int) < (m1 : Int) := by omega
                  by_cases d2 : 0 < n2
                  · have e2 : (0 : Int) < (n2 : Int) := by omega
                    obtain ⟨dd, doff, rfl, hdc⟩ := hD (by omega)
                    have hdd : dd < N := by
                      have := World.block_lt_of_cell? w _ (hdc j d1)
                      have e : w.heap.size = N := hN
                      simp only at this
                      omega
                    have cd : wc.cell? ⟨dd, doff + j, none⟩ = some (.int .i64 (D j)) := by rw [bel.cell (p := ⟨dd, doff + j, none⟩) hdd]; exact hdc j d1
                    clear hdc
                    generalize D j = z at cd
                    cases hq : (z.tmod 2 == 0) <;>
                    · go_wp2_with fail
                      go_meet
                      exact ⟨rfl, _, rfl, fun _ => ⟨d1, d2⟩⟩
                  · have e2 : ¬ ((0 : Int) < (n2 : Int)) := by omega
                    go_wp2_with fail
                    go_meet
                    exact ⟨rfl, _, rfl, fun h => by cases h⟩
                · have e1 : ¬ ((j : Int) < (m1 : Int)) := by omega
                  go_wp2_with fail
                  go_meet
                  exact ⟨rfl, _, rfl, fun h => by cases h⟩
            case rest =>
              obtain ⟨rfl, B, rfl, hB⟩ := hcut
              go_upto_if 98 with fail
              go_cut [8, 9] (fun s8 s9 wx => ∃ (n : Nat) (E : Nat → En ByteArray) (p : Option Addr) (cap : Nat) (q : Option Addr) (capq : Nat) (r : Option Addr) (capr : Nat), s8 = .slice q n capq ∧ s9 = .slice r n capr ∧ Nv (j + 1) last2 n E ∧
                Nu w N N last2 p n cap E q n capq (fun k => (E k).id) r n capr (fun k => (E k).x) wx)
              case first =>
                cases B
                · as_aux_lemma =>
                    clear hB
                    go_wp2_with fail
                    go_meet
                    exact ⟨n2, E2, _, _, _, _, _, _, rfl, rfl, V2, C2⟩
                · as_aux_lemma =>
                    obtain ⟨d1, d2⟩ := hB rfl
                    clear hB
                    obtain ⟨dd, doff, rfl, hdc⟩ := hD (by omega)
                    have hdd : dd < N := by
                      have := World.block_lt_of_cell? w _ (hdc j d1)
                      have e : w.heap.size = N := hN
                      simp only at this
                      omega
                    have cd : wc.cell? ⟨dd, doff + j, none⟩ = some (.int .i64 (D j)) := by rw [C2.bel.cell (p := ⟨dd, doff + j, none⟩) hdd]; exact hdc j d1
                    clear hdc
                    generalize D j = z at cd
                    have e1 : (j : Int) < (m1 : Int) := by omega
                    obtain ⟨k, ek⟩ : ∃ k, rm z n2 = k := ⟨_, rfl⟩
                    have hk : k < n2 := by rw [← ek]; exact rm_lt _ _ (by omega)
                    have EK := hid ek
                    clear ek
                    have hk1 : (k : Int) < (n2 : Int) := by omega
                    have k0 : (0 : Int) ≤ (k : Int) := by omega
                    have nz : BitVec.ofNat 64 n2 ≠ 0#64 := by
                      intro h
                      have h2 := congrArg BitVec.toNat h
                      rw [BitVec.toNat_ofNat] at h2
                      have h3 : (0#64).toNat = 0 := rfl
                      omega
                    have NZ := hid nz
                    clear nz
                    go_upto_region 20 with (first
                      | (refine wpl_run rfl (Q (BitVec.ofInt 64 z)) _ (run_iu (x := .tmp 102) (z := z) rfl undInt und64 rfl _) ?_)
                      | (refine wpl_run rfl (Q (BitVec.ofNat 64 n2)) _ (by rw [← BitVec.ofInt_natCast]; exact run_iu (x := .tmp 105) (z := (n2 : Int)) rfl undInt und64 rfl _) ?_)
                      | (refine wpl_b rfl rfl (bin_rem _ (BitVec.ofInt 64 z) (BitVec.ofNat 64 n2) NZ.out) rfl rfl ?_)
                      | (refine wpl_run rfl (.int .i64 ((rm z n2 : Nat) : Int)) _ (run_rm (x := .tmp 107) rfl und64 undInt (z := z) (m := n2) (by omega) rfl _) ?_; rw [EK.out])
                      | fail)
                    clear cd
                    obtain ⟨M2, hM2⟩ := sz_some wc
                    obtain ⟨gl, rfl, hcl⟩ := C2.l.cell (by omega)
                    have f1 := hcl k hk
                    rw [Nat.zero_add] at f1
                    clear hcl
                    have CD := ODropS_last N 8 (last2 : Int) p2 n2 cap2 E2 (E2 k).id k hk rfl (fun i hi => V2.other hk hi rfl) (V2.held k hk) (by omega) wc M2 hM2 C2.o
                    have HG := hid (show ∀ i, i < n2 - 1 → (delE E2 k i).id ≠ (E2 k).id from fun i hi => V2.gone hk i hi)
                    have HV := V2.del hk
                    generalize hz0 : (E2 k).id = zz at CD f1 HG
                    clear hz0
                    go_wp2_with fail
                    refine CD.mono ?_
                    rintro e y1 ⟨rfl, T1, O1⟩
                    clear CD
                    have C3 := C2.table hN hM2 T1 (fun g hg => .inl hg) O1
                    obtain ⟨M3, hM3⟩ := sz_some y1
                    have hl3 : gl < M3 := (C3.lt hM3).2.2.1 gl rfl
                    have f2 : y1.cell? ⟨gl, k, none⟩ = some (.int .i64 zz) := by
                      have hgl : ¬ (gl = N ∨ blk p2 = some gl) := by
                        rintro (h | h)
                        · exact (C2.qn gl rfl).2 h
                        · exact C2.pq gl h rfl
                      unfold World.cell? at f1 ⊢
                      rw [T1.block gl ((C2.lt hM2).2.2.1 gl rfl |> fun h => by have e : wc.heap.size = M2 := hM2; omega) hgl]
                      exact f1
                    clear f1 T1 O1
                    have CG := OGetS_no N 8 (last2 : Int) p2 (n2 - 1) cap2 (delE E2 k) zz HG.out (by omega) y1 M3 hM3 C3.o
                    go_wp2_with fail
                    refine CG.mono ?_
                    rintro e y2 ⟨rfl, hb2⟩
                    clear CG f2
                    have C4 := C3.below hN hM3 hb2
                    clear C3 hb2 hM3 C2 hM2
                    go_upto_region 24 with fail
                    obtain ⟨ga, era, -⟩ := C4.a.cell (by omega)
                    obtain ⟨M4, hM4⟩ := sz_some y2
                    have hNM4 := below_sz C4.bel hN hM4
                    have lq := C4.l.le
                    have lr := C4.a.le
                    obtain ⟨v0, ev⟩ : ∃ y, y = y2.drew := ⟨_, rfl⟩
                    have oL0 : Own v0 3 (some ⟨gl, 0, none⟩) n2 capq2 (fun k => .int .i64 (E2 k).id) := by rw [ev]; exact C4.l
                    have oA0 : Own v0 9 r2 n2 capr2 (fun k => Value.string (E2 k).x) := by rw [ev]; exact C4.a
                    subst era
                    have hV0 : Sz v0 M4 := by rw [ev]; exact hM4
                    have ib0 : Below M4 y2 v0 := by rw [ev]; exact below_drewN (Below.refl _ _) 1
                    have qM := (C4.lt hM4).2.2.1 gl rfl
                    have rM := (C4.lt hM4).2.2.2 ga rfl
                    have el : 0 + k + (n2 - (k + 1)) = n2 - 1 := by omega
                    refine wp_region_inn (fun u => Below M4 y2 u) (below_drewN (Below.refl _ _) 1) (by kernel_rfl) ?_
                    rw [← ev]
                    have hne := inn_ne (I := fun u => Below M4 y2 u) ib0
                    refine anyI_reads [1, 2, 3, 5, 6, 7, 8, 11, 12, 13, 15, 16, 17, 18] _ _ _ ib0 (by kernel_rfl) (fun _ _ _ d _ h => by cases d <;> exact h) ?_
                    simp only [pickO, List.map_cons, List.map_nil, List.getElem?_toArray, List.getElem?_cons_succ, List.getElem?_cons_zero, Option.getD_some, Act.put, List.setIfInBounds_toArray, List.set_cons_succ, List.set_cons_zero]
                    go_big_quiet_step (fail)
                    go_big_quiet_step (fail)
                    refine inn_val (v := .slice (some ⟨gl, 0, none⟩) k capq2) (fun u => run_slToN 23 3 undIsN szIN (.tmp 138) (.tmp 139) rfl rfl rfl (k := k) (by omega) _) (by rfl) ?_; simp only [Act.put, List.setIfInBounds_toArray, List.set_cons_succ, List.set_cons_zero]
                    go_big_quiet_step (fail)
                    go_big_quiet_step (fail)
                    refine inn_val (v := .int .i64 ((k + 1 : Nat) : Int)) (fun u => addN1 (x := .tmp 143) (y := .const (.int .i64 1)) (p := k) rfl rfl rfl (by omega) _) (by rfl) ?_; simp only [Act.put, List.setIfInBounds_toArray, List.set_cons_succ, List.set_cons_zero]
                    refine inn_val (v := .slice (some ⟨gl, sofN 0 (k + 1) capq2, none⟩) (n2 - (k + 1)) (capq2 - (k + 1))) (fun u => run_slFN 23 3 undIsN szIN (.tmp 142) (.tmp 144) rfl rfl rfl (l := k + 1) (by omega) (by omega) _) (by rfl) ?_; simp only [Act.put, List.setIfInBounds_toArray, List.set_cons_succ, List.set_cons_zero]
                    go_big_quiet_step (fail)
                    go_big_quiet_step (fail)
                    refine inn_val (v := .slice (some ⟨ga, 0, none⟩) k capr2) (fun u => run_slToN 22 9 undSsN szSN (.tmp 148) (.tmp 149) rfl rfl rfl (k := k) (by omega) _) (by rfl) ?_; simp only [Act.put, List.setIfInBounds_toArray, List.set_cons_succ, List.set_cons_zero]
                    go_big_quiet_step (fail)
                    go_big_quiet_step (fail)
                    refine inn_val (v := .int .i64 ((k + 1 : Nat) : Int)) (fun u => addN1 (x := .tmp 153) (y := .const (.int .i64 1)) (p := k) rfl rfl rfl (by omega) _) (by rfl) ?_; simp only [Act.put, List.setIfInBounds_toArray, List.set_cons_succ, List.set_cons_zero]
                    refine inn_val (v := .slice (some ⟨ga, sofN 0 (k + 1) capr2, none⟩) (n2 - (k + 1)) (capr2 - (k + 1))) (fun u => run_slFN 22 9 undSsN szSN (.tmp 152) (.tmp 154) rfl rfl rfl (l := k + 1) (by omega) (by omega) _) (by rfl) ?_; simp only [Act.put, List.setIfInBounds_toArray, List.set_cons_succ, List.set_cons_zero]
                    refine wpQuiet_nil ?_
                    clear hne
                    refine anyI_two 0 10 _ _ _ _ (by kernel_rfl) ?_ ?_
                    · simp only [List.filterMap_cons, List.filterMap_nil, List.getElem?_toArray, List.getElem?_cons_succ, List.getElem?_cons_zero]
                      refine wpl_bsI0 rfl rfl (M4) hV0 ?_
                      intro w65 hM65 hb65 o65
                      have o65L := oL0.below hb65 (Nat.le_of_eq hV0)
                      have o65A := oA0.below hb65 (Nat.le_of_eq hV0)
                      have ib65 := ib0.trans (hb65.mono (by omega))
                      have nb65 : ∀ g, blk (some (⟨M4, 0, none⟩ : Addr)) = some g → M4 ≤ g ∧ g < M4 + 1 := fun g hg => by have e := Option.some.inj hg; dsimp only at e; omega
                      refine ⟨ib65, ?_⟩
                      change anyI _ _ _ _ _ _ _ _ _
                      try simp only [Act.put, List.setIfInBounds_toArray, List.set_cons_succ, List.set_cons_zero, List.getElem_toArray, List.getElem_cons_succ, List.getElem_cons_zero]
                      refine anyI_two 4 10 _ _ _ _ (by kernel_rfl) ?_ ?_
                      · simp only [List.filterMap_cons, List.filterMap_nil, List.getElem?_toArray, List.getElem?_cons_succ, List.getElem?_cons_zero]
                        refine wpl_app rfl (.tmp 137) (.tmp 140) 23 rfl 3 undIsN oneIN _ _ _ rfl _ o65 _ _ _ rfl _ (show Cells _ _ k _ from fun h0 => by obtain ⟨ad, e, hc⟩ := o65L.cellsN (by omega); exact ⟨ad, e, fun j hj => hc j (by omega)⟩) (fun _ _ => rfl) (by omega) ?_
                        intro pi66 cpi66 w66 O66 g66 n66 e66
                        obtain ⟨M66, hM66⟩ := sz_some w66
                        have z66 : w66.heap.size = M66 := hM66
                        have y66 : w65.heap.size = M4 + 1 := hM65
                        have l66 : M4 + 1 ≤ M66 := by have q1 := g66.size; omega
                        have O66L := o65L.grew g66 (.inr (by intro h; have h9 := (nb65 _ h.symm).1; try dsimp only at h9; omega))
                        have O66A := o65A.grew g66 (.inr (by intro h; have h9 := (nb65 _ h.symm).1; try dsimp only at h9; omega))
                        have ib66 := g66.below ib65 (by omega) (fun g hg => (nb65 g hg).1)
                        have nb66 : ∀ g, blk pi66 = some g → M4 ≤ g ∧ g < M66 := fun g hg => by have h8 := O66.lt g hg; rcases n66 with e8 | e8; rw [e8] at hg; have h5 := nb65 g hg; exact ⟨h5.1, by omega⟩; rw [e8] at hg; have h6 := Option.some.inj hg; exact ⟨by omega, by omega⟩
                        refine ⟨ib66, ?_⟩
                        change anyI _ _ _ _ _ _ _ _ _
                        try simp only [Act.put, List.setIfInBounds_toArray, List.set_cons_succ, List.set_cons_zero, List.getElem_toArray, List.getElem_cons_succ, List.getElem_cons_zero]
                        refine anyI_two 9 10 _ _ _ _ (by kernel_rfl) ?_ ?_
                        · simp only [List.filterMap_cons, List.filterMap_nil, List.getElem?_toArray, List.getElem?_cons_succ, List.getElem?_cons_zero]
                          refine wpl_app rfl (.tmp 141) (.tmp 145) 23 rfl 3 undIsN oneIN _ _ _ rfl _ O66 _ _ _ rfl _ (O66L.cellsF (l := k + 1) (by omega)) (fun _ _ => rfl) (by omega) ?_
                          intro pi67 cpi67 w67 O67 g67 n67 e67
                          obtain ⟨M67, hM67⟩ := sz_some w67
                          have z67 : w67.heap.size = M67 := hM67
                          have y67 : w66.heap.size = M66 := hM66
                          have l67 : M66 ≤ M67 := by have q1 := g67.size; omega
                          have O67L := O66L.grew g67 (.inr (by intro h; have h9 := (nb66 _ h.symm).1; try dsimp only at h9; omega))
                          have O67A := O66A.grew g67 (.inr (by intro h; have h9 := (nb66 _ h.symm).1; try dsimp only at h9; omega))
                          have ib67 := g67.below ib66 (by omega) (fun g hg => (nb66 g hg).1)
                          have nb67 : ∀ g, blk pi67 = some g → M4 ≤ g ∧ g < M67 := fun g hg => by have h8 := O67.lt g hg; rcases n67 with e8 | e8; rw [e8] at hg; have h5 := nb66 g hg; exact ⟨h5.1, by omega⟩; rw [e8] at hg; have h6 := Option.some.inj hg; exact ⟨by omega, by omega⟩
                          refine ⟨ib67, ?_⟩
                          change anyI _ _ _ _ _ _ _ _ _
                          try simp only [Act.put, List.setIfInBounds_toArray, List.set_cons_succ, List.set_cons_zero, List.getElem_toArray, List.getElem_cons_succ, List.getElem_cons_zero]
                          refine anyI_part [10, 14, 19, 20, 21] _ _ _ _ (by kernel_rfl) ?_
                          simp only [List.filterMap_cons, List.filterMap_nil, List.getElem?_toArray, List.getElem?_cons_succ, List.getElem?_cons_zero]
                          change wpList _ _ _ [_] _ _
                          refine wpl_bsS0 rfl rfl (M67) hM67 ?_
                          intro w68 hM68 hb68 o68
                          have o68L := O67L.below hb68 (Nat.le_of_eq hM67)
                          have o68A := O67A.below hb68 (Nat.le_of_eq hM67)
                          have o68i := O67.below hb68 (Nat.le_of_eq hM67)
                          have ib68 := ib67.trans (hb68.mono (by omega))
                          have nb68 : ∀ g, blk (some (⟨M67, 0, none⟩ : Addr)) = some g → M4 ≤ g ∧ g < M67 + 1 := fun g hg => by have e := Option.some.inj hg; dsimp only at e; omega
                          have nb68i : ∀ g, blk pi67 = some g → M4 ≤ g ∧ g < M67 + 1 := fun g hg => by have h := nb67 g hg; omega
                          have D68 : ∀ g, blk pi67 = some g → blk (some (⟨M67, 0, none⟩ : Addr)) ≠ some g := fun g h1 h2 => by have e := Option.some.inj h2; have h := nb67 g h1; dsimp only at e; omega
                          refine ⟨ib68, ?_⟩
                          change wpList _ _ _ [_] _ _
                          refine wpl_app rfl (.tmp 147) (.tmp 150) 22 rfl 9 undSsN oneSN _ _ _ rfl _ o68 _ _ _ rfl _ (show Cells _ _ k _ from fun h0 => by obtain ⟨ad, e, hc⟩ := o68A.cellsN (by omega); exact ⟨ad, e, fun j hj => hc j (by omega)⟩) (fun _ _ => rfl) (by omega) ?_
                          intro pt69 cpt69 w69 O69 g69 n69 e69
                          obtain ⟨M69, hM69⟩ := sz_some w69
                          have z69 : w69.heap.size = M69 := hM69
                          have y69 : w68.heap.size = M67 + 1 := hM68
                          have l69 : M67 + 1 ≤ M69 := by have q1 := g69.size; omega
                          have O69L := o68L.grew g69 (.inr (by intro h; have h9 := (nb68 _ h.symm).1; try dsimp only at h9; omega))
                          have O69A := o68A.grew g69 (.inr (by intro h; have h9 := (nb68 _ h.symm).1; try dsimp only at h9; omega))
                          have N69i : blk pi67 = none ∨ blk pi67 ≠ blk (some (⟨M67, 0, none⟩ : Addr)) := by cases e9 : blk pi67 with | none => exact .inl rfl | some g9 => exact .inr (fun h => D68 g9 e9 h.symm)
                          have O69i := o68i.grew g69 N69i
                          have ib69 := g69.below ib68 (by omega) (fun g hg => (nb68 g hg).1)
                          have nb69 : ∀ g, blk pt69 = some g → M4 ≤ g ∧ g < M69 := fun g hg => by have h8 := O69.lt g hg; rcases n69 with e8 | e8; rw [e8] at hg; have h5 := nb68 g hg; exact ⟨h5.1, by omega⟩; rw [e8] at hg; have h6 := Option.some.inj hg; exact ⟨by omega, by omega⟩
                          have nb69i : ∀ g, blk pi67 = some g → M4 ≤ g ∧ g < M69 := fun g hg => by have h := nb68i g hg; omega
                          have D69 : ∀ g, blk pi67 = some g → blk pt69 ≠ some g := fun g h1 h2 => by rcases n69 with e8 | e8; rw [e8] at h2; exact D68 g h1 h2; rw [e8] at h2; have h6 := Option.some.inj h2; have h7 := nb68i g h1; omega
                          refine ⟨ib69, ?_⟩
                          change wpList _ _ _ [_] _ _
                          refine wpl_app rfl (.tmp 151) (.tmp 155) 22 rfl 9 undSsN oneSN _ _ _ rfl _ O69 _ _ _ rfl _ (O69A.cellsF (l := k + 1) (by omega)) (fun _ _ => rfl) (by omega) ?_
                          intro pt70 cpt70 w70 O70 g70 n70 e70
                          obtain ⟨M70, hM70⟩ := sz_some w70
                          have z70 : w70.heap.size = M70 := hM70
                          have y70 : w69.heap.size = M69 := hM69
                          have l70 : M69 ≤ M70 := by have q1 := g70.size; omega
                          have O70L := O69L.grew g70 (.inr (by intro h; have h9 := (nb69 _ h.symm).1; try dsimp only at h9; omega))
                          have O70A := O69A.grew g70 (.inr (by intro h; have h9 := (nb69 _ h.symm).1; try dsimp only at h9; omega))
                          have N70i : blk pi67 = none ∨ blk pi67 ≠ blk pt69 := by cases e9 : blk pi67 with | none => exact .inl rfl | some g9 => exact .inr (fun h => D69 g9 e9 h.symm)
                          have O70i := O69i.grew g70 N70i
                          have ib70 := g70.below ib69 (by omega) (fun g hg => (nb69 g hg).1)
                          have nb70 : ∀ g, blk pt70 = some g → M4 ≤ g ∧ g < M70 := fun g hg => by have h8 := O70.lt g hg; rcases n70 with e8 | e8; rw [e8] at hg; have h5 := nb69 g hg; exact ⟨h5.1, by omega⟩; rw [e8] at hg; have h6 := Option.some.inj hg; exact ⟨by omega, by omega⟩
                          have nb70i : ∀ g, blk pi67 = some g → M4 ≤ g ∧ g < M70 := fun g hg => by have h := nb69i g hg; omega
                          have D70 : ∀ g, blk pi67 = some g → blk pt70 ≠ some g := fun g h1 h2 => by rcases n70 with e8 | e8; rw [e8] at h2; exact D69 g h1 h2; rw [e8] at h2; have h6 := Option.some.inj h2; have h7 := nb69i g h1; omega
                          refine ⟨ib70, ?_⟩
                          change wpList _ _ _ [_] _ _
                          refine wpl_run rfl (.slice pi67 (0 + k + (n2 - (k + 1))) cpi67) _ (run_asN (x := .tmp 146) rfl _ rfl) ?_
                          refine ⟨ib70, ?_⟩
                          change wpList _ _ _ [_] _ _
                          refine wpl_run rfl (.slice pt70 (0 + k + (n2 - (k + 1))) cpt70) _ (run_asN (x := .tmp 156) rfl _ rfl) ?_
                          refine ⟨ib70, ?_⟩
                          change anyI _ _ _ _ _ _ _ _ _
                          try simp only [Act.put, List.setIfInBounds_toArray, List.set_cons_succ, List.set_cons_zero, List.getElem_toArray, List.getElem_cons_succ, List.getElem_cons_zero]
                          have oI := O70i
                          have oT := O70
                          rw [el] at oI oT
                          have NU := C4.new2 hN hM4 ib70 (fun g hg => (nb70i g hg).1) (fun g hg => (nb70 g hg).1) D70 (Z' := fun i => (delE E2 k i).id) (X' := fun i => (delE E2 k i).x) (oI.congr (fun j hj => cat_delN (fun z => .int .i64 z) (fun i => (E2 i).id) (fun i => (delE E2 k i).id) _ k n2 hk (fun i => by unfold delE; split <;> rfl) j hj)) (oT.congr (fun j hj => cat_delN (fun z => Value.string z) (fun i => (E2 i).x) (fun i => (delE E2 k i).x) _ k n2 hk (fun i => by unfold delE; split <;> rfl) j hj))
                          refine anyI_done (by kernel_rfl) ?_
                          try simp only [Act.put, List.setIfInBounds_toArray, List.set_cons_succ, List.set_cons_zero, List.getElem_toArray, List.getElem_cons_succ, List.getElem_cons_zero]
                          rw [el]
                          go_wp2_with fail
                          go_meet
                          exact ⟨n2 - 1, delE E2 k, _, _, _, _, _, _, rfl, rfl, HV, NU⟩
                        · simp only [List.filterMap_cons, List.filterMap_nil, List.getElem?_toArray, List.getElem?_cons_succ, List.getElem?_cons_zero]
                          refine wpl_bsS0 rfl rfl (M66) hM66 ?_
                          intro w71 hM71 hb71 o71
                          have o71L := O66L.below hb71 (Nat.le_of_eq hM66)
                          have o71A := O66A.below hb71 (Nat.le_of_eq hM66)
                          have o71i := O66.below hb71 (Nat.le_of_eq hM66)
                          have ib71 := ib66.trans (hb71.mono (by omega))
                          have nb71 : ∀ g, blk (some (⟨M66, 0, none⟩ : Addr)) = some g → M4 ≤ g ∧ g < M66 + 1 := fun g hg => by have e := Option.some.inj hg; dsimp only at e; omega
                          have nb71i : ∀ g, blk pi66 = some g → M4 ≤ g ∧ g < M66 + 1 := fun g hg => by have h := nb66 g hg; omega
                          have D71 : ∀ g, blk pi66 = some g → blk (some (⟨M66, 0, none⟩ : Addr)) ≠ some g := fun g h1 h2 => by have e := Option.some.inj h2; have h := nb66 g h1; dsimp only at e; omega
                          refine ⟨ib71, ?_⟩
                          change anyI _ _ _ _ _ _ _ _ _
                          try simp only [Act.put, List.setIfInBounds_toArray, List.set_cons_succ, List.set_cons_zero, List.getElem_toArray, List.getElem_cons_succ, List.getElem_cons_zero]
                          refine anyI_part [9, 14, 19, 20, 21] _ _ _ _ (by kernel_rfl) ?_
                          simp only [List.filterMap_cons, List.filterMap_nil, List.getElem?_toArray, List.getElem?_cons_succ, List.getElem?_cons_zero]
                          change wpList _ _ _ [_] _ _
                          refine wpl_app rfl (.tmp 141) (.tmp 145) 23 rfl 3 undIsN oneIN _ _ _ rfl _ o71i _ _ _ rfl _ (o71L.cellsF (l := k + 1) (by omega)) (fun _ _ => rfl) (by omega) ?_
                          intro pi72 cpi72 w72 O72 g72 n72 e72
                          obtain ⟨M72, hM72⟩ := sz_some w72
                          have z72 : w72.heap.size = M72 := hM72
                          have y72 : w71.heap.size = M66 + 1 := hM71
                          have l72 : M66 + 1 ≤ M72 := by have q1 := g72.size; omega
                          have O72L := o71L.grew g72 (.inr (by intro h; have h9 := (nb71i _ h.symm).1; try dsimp only at h9; omega))
                          have O72A := o71A.grew g72 (.inr (by intro h; have h9 := (nb71i _ h.symm).1; try dsimp only at h9; omega))
                          have N72t : blk (some (⟨M66, 0, none⟩ : Addr)) = none ∨ blk (some (⟨M66, 0, none⟩ : Addr)) ≠ blk pi66 := by cases e9 : blk (some (⟨M66, 0, none⟩ : Addr)) with | none => exact .inl rfl | some g9 => exact .inr (fun h => D71 g9 h.symm e9)
                          have O72t := o71.grew g72 N72t
                          have ib72 := g72.below ib71 (by omega) (fun g hg => (nb71i g hg).1)
                          have nb72 : ∀ g, blk pi72 = some g → M4 ≤ g ∧ g < M72 := fun g hg => by have h8 := O72.lt g hg; rcases n72 with e8 | e8; rw [e8] at hg; have h5 := nb71i g hg; exact ⟨h5.1, by omega⟩; rw [e8] at hg; have h6 := Option.some.inj hg; exact ⟨by omega, by omega⟩
                          have nb72t : ∀ g, blk (some (⟨M66, 0, none⟩ : Addr)) = some g → M4 ≤ g ∧ g < M72 := fun g hg => by have h := nb71 g hg; omega
                          have D72 : ∀ g, blk pi72 = some g → blk (some (⟨M66, 0, none⟩ : Addr)) ≠ some g := fun g h1 h2 => by rcases n72 with e8 | e8; rw [e8] at h1; exact D71 g h1 h2; rw [e8] at h1; have h6 := Option.some.inj h1; have h7 := nb71 g h2; omega
                          refine ⟨ib72, ?_⟩
                          change wpList _ _ _ [_] _ _
                          refine wpl_app rfl (.tmp 147) (.tmp 150) 22 rfl 9 undSsN oneSN _ _ _ rfl _ O72t _ _ _ rfl _ (show Cells _ _ k _ from fun h0 => by obtain ⟨ad, e, hc⟩ := O72A.cellsN (by omega); exact ⟨ad, e, fun j hj => hc j (by omega)⟩) (fun _ _ => rfl) (by omega) ?_
                          intro pt73 cpt73 w73 O73 g73 n73 e73
                          obtain ⟨M73, hM73⟩ := sz_some w73
                          have z73 : w73.heap.size = M73 := hM73
                          have y73 : w72.heap.size = M72 := hM72
                          have l73 : M72 ≤ M73 := by have q1 := g73.size; omega
                          have O73L := O72L.grew g73 (.inr (by intro h; have h9 := (nb72t _ h.symm).1; try dsimp only at h9; omega))
                          have O73A := O72A.grew g73 (.inr (by intro h; have h9 := (nb72t _ h.symm).1; try dsimp only at h9; omega))
                          have N73i : blk pi72 = none ∨ blk pi72 ≠ blk (some (⟨M66, 0, none⟩ : Addr)) := by cases e9 : blk pi72 with | none => exact .inl rfl | some g9 => exact .inr (fun h => D72 g9 e9 h.symm)
                          have O73i := O72.grew g73 N73i
                          have ib73 := g73.below ib72 (by omega) (fun g hg => (nb72t g hg).1)
                          have nb73 : ∀ g, blk pt73 = some g → M4 ≤ g ∧ g < M73 := fun g hg => by have h8 := O73.lt g hg; rcases n73 with e8 | e8; rw [e8] at hg; have h5 := nb72t g hg; exact ⟨h5.1, by omega⟩; rw [e8] at hg; have h6 := Option.some.inj hg; exact ⟨by omega, by omega⟩
                          have nb73i : ∀ g, blk pi72 = some g → M4 ≤ g ∧ g < M73 := fun g hg => by have h := nb72 g hg; omega
                          have D73 : ∀ g, blk pi72 = some g → blk pt73 ≠ some g := fun g h1 h2 => by rcases n73 with e8 | e8; rw [e8] at h2; exact D72 g h1 h2; rw [e8] at h2; have h6 := Option.some.inj h2; have h7 := nb72 g h1; omega
                          refine ⟨ib73, ?_⟩
                          change wpList _ _ _ [_] _ _
                          refine wpl_app rfl (.tmp 151) (.tmp 155) 22 rfl 9 undSsN oneSN _ _ _ rfl _ O73 _ _ _ rfl _ (O73A.cellsF (l := k + 1) (by omega)) (fun _ _ => rfl) (by omega) ?_
                          intro pt74 cpt74 w74 O74 g74 n74 e74
                          obtain ⟨M74, hM74⟩ := sz_some w74
                          have z74 : w74.heap.size = M74 := hM74
                          have y74 : w73.heap.size = M73 := hM73
                          have l74 : M73 ≤ M74 := by have q1 := g74.size; omega
                          have O74L := O73L.grew g74 (.inr (by intro h; have h9 := (nb73 _ h.symm).1; try dsimp only at h9; omega))
                          have O74A := O73A.grew g74 (.inr (by intro h; have h9 := (nb73 _ h.symm).1; try dsimp only at h9; omega))
                          have N74i : blk pi72 = none ∨ blk pi72 ≠ blk pt73 := by cases e9 : blk pi72 with | none => exact .inl rfl | some g9 => exact .inr (fun h => D73 g9 e9 h.symm)
                          have O74i := O73i.grew g74 N74i
                          have ib74 := g74.below ib73 (by omega) (fun g hg => (nb73 g hg).1)
                          have nb74 : ∀ g, blk pt74 = some g → M4 ≤ g ∧ g < M74 := fun g hg => by have h8 := O74.lt g hg; rcases n74 with e8 | e8; rw [e8] at hg; have h5 := nb73 g hg; exact ⟨h5.1, by omega⟩; rw [e8] at hg; have h6 := Option.some.inj hg; exact ⟨by omega, by omega⟩
                          have nb74i : ∀ g, blk pi72 = some g → M4 ≤ g ∧ g < M74 := fun g hg => by have h := nb73i g hg; omega
                          have D74 : ∀ g, blk pi72 = some g → blk pt74 ≠ some g := fun g h1 h2 => by rcases n74 with e8 | e8; rw [e8] at h2; exact D73 g h1 h2; rw [e8] at h2; have h6 := Option.some.inj h2; have h7 := nb73i g h1; omega
                          refine ⟨ib74, ?_⟩
                          change wpList _ _ _ [_] _ _
                          refine wpl_run rfl (.slice pi72 (0 + k + (n2 - (k + 1))) cpi72) _ (run_asN (x := .tmp 146) rfl _ rfl) ?_
                          refine ⟨ib74, ?_⟩
                          change wpList _ _ _ [_] _ _
                          refine wpl_run rfl (.slice pt74 (0 + k + (n2 - (k + 1))) cpt74) _ (run_asN (x := .tmp 156) rfl _ rfl) ?_
                          refine ⟨ib74, ?_⟩
                          change anyI _ _ _ _ _ _ _ _ _
                          try simp only [Act.put, List.setIfInBounds_toArray, List.set_cons_succ, List.set_cons_zero, List.getElem_toArray, List.getElem_cons_succ, List.getElem_cons_zero]
                          have oI := O74i
                          have oT := O74
                          rw [el] at oI oT
                          have NU := C4.new2 hN hM4 ib74 (fun g hg => (nb74i g hg).1) (fun g hg => (nb74 g hg).1) D74 (Z' := fun i => (delE E2 k i).id) (X' := fun i => (delE E2 k i).x) (oI.congr (fun j hj => cat_delN (fun z => .int .i64 z) (fun i => (E2 i).id) (fun i => (delE E2 k i).id) _ k n2 hk (fun i => by unfold delE; split <;> rfl) j hj)) (oT.congr (fun j hj => cat_delN (fun z => Value.string z) (fun i => (E2 i).x) (fun i => (delE E2 k i).x) _ k n2 hk (fun i => by unfold delE; split <;> rfl) j hj))
                          refine anyI_done (by kernel_rfl) ?_
                          try simp only [Act.put, List.setIfInBounds_toArray, List.set_cons_succ, List.set_cons_zero, List.getElem_toArray, List.getElem_cons_succ, List.getElem_cons_zero]
                          rw [el]
                          go_wp2_with fail
                          go_meet
                          exact ⟨n2 - 1, delE E2 k, _, _, _, _, _, _, rfl, rfl, HV, NU⟩
                      · simp only [List.filterMap_cons, List.filterMap_nil, List.getElem?_toArray, List.getElem?_cons_succ, List.getElem?_cons_zero]
                        refine wpl_bsS0 rfl rfl (M4 + 1) hM65 ?_
                        intro w75 hM75 hb75 o75
                        have o75L := o65L.below hb75 (Nat.le_of_eq hM65)
                        have o75A := o65A.below hb75 (Nat.le_of_eq hM65)
                        have o75i := o65.below hb75 (Nat.le_of_eq hM65)
                        have ib75 := ib65.trans (hb75.mono (by omega))
                        have nb75 : ∀ g, blk (some (⟨M4 + 1, 0, none⟩ : Addr)) = some g → M4 ≤ g ∧ g < M4 + 1 + 1 := fun g hg => by have e := Option.some.inj hg; dsimp only at e; omega
                        have nb75i : ∀ g, blk (some (⟨M4, 0, none⟩ : Addr)) = some g → M4 ≤ g ∧ g < M4 + 1 + 1 := fun g hg => by have h := nb65 g hg; omega
                        have D75 : ∀ g, blk (some (⟨M4, 0, none⟩ : Addr)) = some g → blk (some (⟨M4 + 1, 0, none⟩ : Addr)) ≠ some g := fun g h1 h2 => by have e := Option.some.inj h2; have h := nb65 g h1; dsimp only at e; omega
                        refine ⟨ib75, ?_⟩
                        change anyI _ _ _ _ _ _ _ _ _
                        try simp only [Act.put, List.setIfInBounds_toArray, List.set_cons_succ, List.set_cons_zero, List.getElem_toArray, List.getElem_cons_succ, List.getElem_cons_zero]
                        refine anyI_part [4, 9, 14, 19, 20, 21] _ _ _ _ (by kernel_rfl) ?_
                        simp only [List.filterMap_cons, List.filterMap_nil, List.getElem?_toArray, List.getElem?_cons_succ, List.getElem?_cons_zero]
                        change wpList _ _ _ [_] _ _
                        refine wpl_app rfl (.tmp 137) (.tmp 140) 23 rfl 3 undIsN oneIN _ _ _ rfl _ o75i _ _ _ rfl _ (show Cells _ _ k _ from fun h0 => by obtain ⟨ad, e, hc⟩ := o75L.cellsN (by omega); exact ⟨ad, e, fun j hj => hc j (by omega)⟩) (fun _ _ => rfl) (by omega) ?_
                        intro pi76 cpi76 w76 O76 g76 n76 e76
                        obtain ⟨M76, hM76⟩ := sz_some w76
                        have z76 : w76.heap.size = M76 := hM76
                        have y76 : w75.heap.size = M4 + 1 + 1 := hM75
                        have l76 : M4 + 1 + 1 ≤ M76 := by have q1 := g76.size; omega
                        have O76L := o75L.grew g76 (.inr (by intro h; have h9 := (nb75i _ h.symm).1; try dsimp only at h9; omega))
                        have O76A := o75A.grew g76 (.inr (by intro h; have h9 := (nb75i _ h.symm).1; try dsimp only at h9; omega))
                        have N76t : blk (some (⟨M4 + 1, 0, none⟩ : Addr)) = none ∨ blk (some (⟨M4 + 1, 0, none⟩ : Addr)) ≠ blk (some (⟨M4, 0, none⟩ : Addr)) := by cases e9 : blk (some (⟨M4 + 1, 0, none⟩ : Addr)) with | none => exact .inl rfl | some g9 => exact .inr (fun h => D75 g9 h.symm e9)
                        have O76t := o75.grew g76 N76t
                        have ib76 := g76.below ib75 (by omega) (fun g hg => (nb75i g hg).1)
                        have nb76 : ∀ g, blk pi76 = some g → M4 ≤ g ∧ g < M76 := fun g hg => by have h8 := O76.lt g hg; rcases n76 with e8 | e8; rw [e8] at hg; have h5 := nb75i g hg; exact ⟨h5.1, by omega⟩; rw [e8] at hg; have h6 := Option.some.inj hg; exact ⟨by omega, by omega⟩
                        have nb76t : ∀ g, blk (some (⟨M4 + 1, 0, none⟩ : Addr)) = some g → M4 ≤ g ∧ g < M76 := fun g hg => by have h := nb75 g hg; omega
                        have D76 : ∀ g, blk pi76 = some g → blk (some (⟨M4 + 1, 0, none⟩ : Addr)) ≠ some g := fun g h1 h2 => by rcases n76 with e8 | e8; rw [e8] at h1; exact D75 g h1 h2; rw [e8] at h1; have h6 := Option.some.inj h1; have h7 := nb75 g h2; omega
                        refine ⟨ib76, ?_⟩
                        change wpList _ _ _ [_] _ _
                        refine wpl_app rfl (.tmp 141) (.tmp 145) 23 rfl 3 undIsN oneIN _ _ _ rfl _ O76 _ _ _ rfl _ (O76L.cellsF (l := k + 1) (by omega)) (fun _ _ => rfl) (by omega) ?_
                        intro pi77 cpi77 w77 O77 g77 n77 e77
                        obtain ⟨M77, hM77⟩ := sz_some w77
                        have z77 : w77.heap.size = M77 := hM77
                        have y77 : w76.heap.size = M76 := hM76
                        have l77 : M76 ≤ M77 := by have q1 := g77.size; omega
                        have O77L := O76L.grew g77 (.inr (by intro h; have h9 := (nb76 _ h.symm).1; try dsimp only at h9; omega))
                        have O77A := O76A.grew g77 (.inr (by intro h; have h9 := (nb76 _ h.symm).1; try dsimp only at h9; omega))
                        have N77t : blk (some (⟨M4 + 1, 0, none⟩ : Addr)) = none ∨ blk (some (⟨M4 + 1, 0, none⟩ : Addr)) ≠ blk pi76 := by cases e9 : blk (some (⟨M4 + 1, 0, none⟩ : Addr)) with | none => exact .inl rfl | some g9 => exact .inr (fun h => D76 g9 h.symm e9)
                        have O77t := O76t.grew g77 N77t
                        have ib77 := g77.below ib76 (by omega) (fun g hg => (nb76 g hg).1)
                        have nb77 : ∀ g, blk pi77 = some g → M4 ≤ g ∧ g < M77 := fun g hg => by have h8 := O77.lt g hg; rcases n77 with e8 | e8; rw [e8] at hg; have h5 := nb76 g hg; exact ⟨h5.1, by omega⟩; rw [e8] at hg; have h6 := Option.some.inj hg; exact ⟨by omega, by omega⟩
                        have nb77t : ∀ g, blk (some (⟨M4 + 1, 0, none⟩ : Addr)) = some g → M4 ≤ g ∧ g < M77 := fun g hg => by have h := nb76t g hg; omega
                        have D77 : ∀ g, blk pi77 = some g → blk (some (⟨M4 + 1, 0, none⟩ : Addr)) ≠ some g := fun g h1 h2 => by rcases n77 with e8 | e8; rw [e8] at h1; exact D76 g h1 h2; rw [e8] at h1; have h6 := Option.some.inj h1; have h7 := nb76t g h2; omega
                        refine ⟨ib77, ?_⟩
                        change wpList _ _ _ [_] _ _
                        refine wpl_app rfl (.tmp 147) (.tmp 150) 22 rfl 9 undSsN oneSN _ _ _ rfl _ O77t _ _ _ rfl _ (show Cells _ _ k _ from fun h0 => by obtain ⟨ad, e, hc⟩ := O77A.cellsN (by omega); exact ⟨ad, e, fun j hj => hc j (by omega)⟩) (fun _ _ => rfl) (by omega) ?_
                        intro pt78 cpt78 w78 O78 g78 n78 e78
                        obtain ⟨M78, hM78⟩ := sz_some w78
                        have z78 : w78.heap.size = M78 := hM78
                        have y78 : w77.heap.size = M77 := hM77
                        have l78 : M77 ≤ M78 := by have q1 := g78.size; omega
                        have O78L := O77L.grew g78 (.inr (by intro h; have h9 := (nb77t _ h.symm).1; try dsimp only at h9; omega))
                        have O78A := O77A.grew g78 (.inr (by intro h; have h9 := (nb77t _ h.symm).1; try dsimp only at h9; omega))
                        have N78i : blk pi77 = none ∨ blk pi77 ≠ blk (some (⟨M4 + 1, 0, none⟩ : Addr)) := by cases e9 : blk pi77 with | none => exact .inl rfl | some g9 => exact .inr (fun h => D77 g9 e9 h.symm)
                        have O78i := O77.grew g78 N78i
                        have ib78 := g78.below ib77 (by omega) (fun g hg => (nb77t g hg).1)
                        have nb78 : ∀ g, blk pt78 = some g → M4 ≤ g ∧ g < M78 := fun g hg => by have h8 := O78.lt g hg; rcases n78 with e8 | e8; rw [e8] at hg; have h5 := nb77t g hg; exact ⟨h5.1, by omega⟩; rw [e8] at hg; have h6 := Option.some.inj hg; exact ⟨by omega, by omega⟩
                        have nb78i : ∀ g, blk pi77 = some g → M4 ≤ g ∧ g < M78 := fun g hg => by have h := nb77 g hg; omega
                        have D78 : ∀ g, blk pi77 = some g → blk pt78 ≠ some g := fun g h1 h2 => by rcases n78 with e8 | e8; rw [e8] at h2; exact D77 g h1 h2; rw [e8] at h2; have h6 := Option.some.inj h2; have h7 := nb77 g h1; omega
                        refine ⟨ib78, ?_⟩
                        change wpList _ _ _ [_] _ _
                        refine wpl_app rfl (.tmp 151) (.tmp 155) 22 rfl 9 undSsN oneSN _ _ _ rfl _ O78 _ _ _ rfl _ (O78A.cellsF (l := k + 1) (by omega)) (fun _ _ => rfl) (by omega) ?_
                        intro pt79 cpt79 w79 O79 g79 n79 e79
                        obtain ⟨M79, hM79⟩ := sz_some w79
                        have z79 : w79.heap.size = M79 := hM79
                        have y79 : w78.heap.size = M78 := hM78
                        have l79 : M78 ≤ M79 := by have q1 := g79.size; omega
                        have O79L := O78L.grew g79 (.inr (by intro h; have h9 := (nb78 _ h.symm).1; try dsimp only at h9; omega))
                        have O79A := O78A.grew g79 (.inr (by intro h; have h9 := (nb78 _ h.symm).1; try dsimp only at h9; omega))
                        have N79i : blk pi77 = none ∨ blk pi77 ≠ blk pt78 := by cases e9 : blk pi77 with | none => exact .inl rfl | some g9 => exact .inr (fun h => D78 g9 e9 h.symm)
                        have O79i := O78i.grew g79 N79i
                        have ib79 := g79.below ib78 (by omega) (fun g hg => (nb78 g hg).1)
                        have nb79 : ∀ g, blk pt79 = some g → M4 ≤ g ∧ g < M79 := fun g hg => by have h8 := O79.lt g hg; rcases n79 with e8 | e8; rw [e8] at hg; have h5 := nb78 g hg; exact ⟨h5.1, by omega⟩; rw [e8] at hg; have h6 := Option.some.inj hg; exact ⟨by omega, by omega⟩
                        have nb79i : ∀ g, blk pi77 = some g → M4 ≤ g ∧ g < M79 := fun g hg => by have h := nb78i g hg; omega
                        have D79 : ∀ g, blk pi77 = some g → blk pt79 ≠ some g := fun g h1 h2 => by rcases n79 with e8 | e8; rw [e8] at h2; exact D78 g h1 h2; rw [e8] at h2; have h6 := Option.some.inj h2; have h7 := nb78i g h1; omega
                        refine ⟨ib79, ?_⟩
                        change wpList _ _ _ [_] _ _
                        refine wpl_run rfl (.slice pi77 (0 + k + (n2 - (k + 1))) cpi77) _ (run_asN (x := .tmp 146) rfl _ rfl) ?_
                        refine ⟨ib79, ?_⟩
                        change wpList _ _ _ [_] _ _
                        refine wpl_run rfl (.slice pt79 (0 + k + (n2 - (k + 1))) cpt79) _ (run_asN (x := .tmp 156) rfl _ rfl) ?_
                        refine ⟨ib79, ?_⟩
                        change anyI _ _ _ _ _ _ _ _ _
                        try simp only [Act.put, List.setIfInBounds_toArray, List.set_cons_succ, List.set_cons_zero, List.getElem_toArray, List.getElem_cons_succ, List.getElem_cons_zero]
                        have oI := O79i
                        have oT := O79
                        rw [el] at oI oT
                        have NU := C4.new2 hN hM4 ib79 (fun g hg => (nb79i g hg).1) (fun g hg => (nb79 g hg).1) D79 (Z' := fun i => (delE E2 k i).id) (X' := fun i => (delE E2 k i).x) (oI.congr (fun j hj => cat_delN (fun z => .int .i64 z) (fun i => (E2 i).id) (fun i => (delE E2 k i).id) _ k n2 hk (fun i => by unfold delE; split <;> rfl) j hj)) (oT.congr (fun j hj => cat_delN (fun z => Value.string z) (fun i => (E2 i).x) (fun i => (delE E2 k i).x) _ k n2 hk (fun i => by unfold delE; split <;> rfl) j hj))
                        refine anyI_done (by kernel_rfl) ?_
                        try simp only [Act.put, List.setIfInBounds_toArray, List.set_cons_succ, List.set_cons_zero, List.getElem_toArray, List.getElem_cons_succ, List.getElem_cons_zero]
                        rw [el]
                        go_wp2_with fail
                        go_meet
                        exact ⟨n2 - 1, delE E2 k, _, _, _, _, _, _, rfl, rfl, HV, NU⟩
                    · simp only [List.filterMap_cons, List.filterMap_nil, List.getElem?_toArray, List.getElem?_cons_succ, List.getElem?_cons_zero]
                      refine wpl_bsS0 rfl rfl (M4) hV0 ?_
                      intro w80 hM80 hb80 o80
                      have o80L := oL0.below hb80 (Nat.le_of_eq hV0)
                      have o80A := oA0.below hb80 (Nat.le_of_eq hV0)
                      have ib80 := ib0.trans (hb80.mono (by omega))
                      have nb80 : ∀ g, blk (some (⟨M4, 0, none⟩ : Addr)) = some g → M4 ≤ g ∧ g < M4 + 1 := fun g hg => by have e := Option.some.inj hg; dsimp only at e; omega
                      refine ⟨ib80, ?_⟩
                      change anyI _ _ _ _ _ _ _ _ _
                      try simp only [Act.put, List.setIfInBounds_toArray, List.set_cons_succ, List.set_cons_zero, List.getElem_toArray, List.getElem_cons_succ, List.getElem_cons_zero]
                      refine anyI_part [0, 4, 9, 14, 19, 20, 21] _ _ _ _ (by kernel_rfl) ?_
                      simp only [List.filterMap_cons, List.filterMap_nil, List.getElem?_toArray, List.getElem?_cons_succ, List.getElem?_cons_zero]
                      change wpList _ _ _ [_] _ _
                      refine wpl_bsI0 rfl rfl (M4 + 1) hM80 ?_
                      intro w81 hM81 hb81 o81
                      have o81L := o80L.below hb81 (Nat.le_of_eq hM80)
                      have o81A := o80A.below hb81 (Nat.le_of_eq hM80)
                      have o81t := o80.below hb81 (Nat.le_of_eq hM80)
                      have ib81 := ib80.trans (hb81.mono (by omega))
                      have nb81 : ∀ g, blk (some (⟨M4 + 1, 0, none⟩ : Addr)) = some g → M4 ≤ g ∧ g < M4 + 1 + 1 := fun g hg => by have e := Option.some.inj hg; dsimp only at e; omega
                      have nb81t : ∀ g, blk (some (⟨M4, 0, none⟩ : Addr)) = some g → M4 ≤ g ∧ g < M4 + 1 + 1 := fun g hg => by have h := nb80 g hg; omega
                      have D81 : ∀ g, blk (some (⟨M4 + 1, 0, none⟩ : Addr)) = some g → blk (some (⟨M4, 0, none⟩ : Addr)) ≠ some g := fun g h1 h2 => by have e := Option.some.inj h1; have h := nb80 g h2; dsimp only at e; omega
                      refine ⟨ib81, ?_⟩
                      change wpList _ _ _ [_] _ _
                      refine wpl_app rfl (.tmp 137) (.tmp 140) 23 rfl 3 undIsN oneIN _ _ _ rfl _ o81 _ _ _ rfl _ (show Cells _ _ k _ from fun h0 => by obtain ⟨ad, e, hc⟩ := o81L.cellsN (by omega); exact ⟨ad, e, fun j hj => hc j (by omega)⟩) (fun _ _ => rfl) (by omega) ?_
                      intro pi82 cpi82 w82 O82 g82 n82 e82
                      obtain ⟨M82, hM82⟩ := sz_some w82
                      have z82 : w82.heap.size = M82 := hM82
                      have y82 : w81.heap.size = M4 + 1 + 1 := hM81
                      have l82 : M4 + 1 + 1 ≤ M82 := by have q1 := g82.size; omega
                      have O82L := o81L.grew g82 (.inr (by intro h; have h9 := (nb81 _ h.symm).1; try dsimp only at h9; omega))
                      have O82A := o81A.grew g82 (.inr (by intro h; have h9 := (nb81 _ h.symm).1; try dsimp only at h9; omega))
                      have N82t : blk (some (⟨M4, 0, none⟩ : Addr)) = none ∨ blk (some (⟨M4, 0, none⟩ : Addr)) ≠ blk (some (⟨M4 + 1, 0, none⟩ : Addr)) := by cases e9 : blk (some (⟨M4, 0, none⟩ : Addr)) with | none => exact .inl rfl | some g9 => exact .inr (fun h => D81 g9 h.symm e9)
                      have O82t := o81t.grew g82 N82t
                      have ib82 := g82.below ib81 (by omega) (fun g hg => (nb81 g hg).1)
                      have nb82 : ∀ g, blk pi82 = some g → M4 ≤ g ∧ g < M82 := fun g hg => by have h8 := O82.lt g hg; rcases n82 with e8 | e8; rw [e8] at hg; have h5 := nb81 g hg; exact ⟨h5.1, by omega⟩; rw [e8] at hg; have h6 := Option.some.inj hg; exact ⟨by omega, by omega⟩
                      have nb82t : ∀ g, blk (some (⟨M4, 0, none⟩ : Addr)) = some g → M4 ≤ g ∧ g < M82 := fun g hg => by have h := nb81t g hg; omega
                      have D82 : ∀ g, blk pi82 = some g → blk (some (⟨M4, 0, none⟩ : Addr)) ≠ some g := fun g h1 h2 => by rcases n82 with e8 | e8; rw [e8] at h1; exact D81 g h1 h2; rw [e8] at h1; have h6 := Option.some.inj h1; have h7 := nb81t g h2; omega
                      refine ⟨ib82, ?_⟩
                      change wpList _ _ _ [_] _ _
                      refine wpl_app rfl (.tmp 141) (.tmp 145) 23 rfl 3 undIsN oneIN _ _ _ rfl _ O82 _ _ _ rfl _ (O82L.cellsF (l := k + 1) (by omega)) (fun _ _ => rfl) (by omega) ?_
                      intro pi83 cpi83 w83 O83 g83 n83 e83
                      obtain ⟨M83, hM83⟩ := sz_some w83
                      have z83 : w83.heap.size = M83 := hM83
                      have y83 : w82.heap.size = M82 := hM82
                      have l83 : M82 ≤ M83 := by have q1 := g83.size; omega
                      have O83L := O82L.grew g83 (.inr (by intro h; have h9 := (nb82 _ h.symm).1; try dsimp only at h9; omega))
                      have O83A := O82A.grew g83 (.inr (by intro h; have h9 := (nb82 _ h.symm).1; try dsimp only at h9; omega))
                      have N83t : blk (some (⟨M4, 0, none⟩ : Addr)) = none ∨ blk (some (⟨M4, 0, none⟩ : Addr)) ≠ blk pi82 := by cases e9 : blk (some (⟨M4, 0, none⟩ : Addr)) with | none => exact .inl rfl | some g9 => exact .inr (fun h => D82 g9 h.symm e9)
                      have O83t := O82t.grew g83 N83t
                      have ib83 := g83.below ib82 (by omega) (fun g hg => (nb82 g hg).1)
                      have nb83 : ∀ g, blk pi83 = some g → M4 ≤ g ∧ g < M83 := fun g hg => by have h8 := O83.lt g hg; rcases n83 with e8 | e8; rw [e8] at hg; have h5 := nb82 g hg; exact ⟨h5.1, by omega⟩; rw [e8] at hg; have h6 := Option.some.inj hg; exact ⟨by omega, by omega⟩
                      have nb83t : ∀ g, blk (some (⟨M4, 0, none⟩ : Addr)) = some g → M4 ≤ g ∧ g < M83 := fun g hg => by have h := nb82t g hg; omega
                      have D83 : ∀ g, blk pi83 = some g → blk (some (⟨M4, 0, none⟩ : Addr)) ≠ some g := fun g h1 h2 => by rcases n83 with e8 | e8; rw [e8] at h1; exact D82 g h1 h2; rw [e8] at h1; have h6 := Option.some.inj h1; have h7 := nb82t g h2; omega
                      refine ⟨ib83, ?_⟩
                      change wpList _ _ _ [_] _ _
                      refine wpl_app rfl (.tmp 147) (.tmp 150) 22 rfl 9 undSsN oneSN _ _ _ rfl _ O83t _ _ _ rfl _ (show Cells _ _ k _ from fun h0 => by obtain ⟨ad, e, hc⟩ := O83A.cellsN (by omega); exact ⟨ad, e, fun j hj => hc j (by omega)⟩) (fun _ _ => rfl) (by omega) ?_
                      intro pt84 cpt84 w84 O84 g84 n84 e84
                      obtain ⟨M84, hM84⟩ := sz_some w84
                      have z84 : w84.heap.size = M84 := hM84
                      have y84 : w83.heap.size = M83 := hM83
                      have l84 : M83 ≤ M84 := by have q1 := g84.size; omega
                      have O84L := O83L.grew g84 (.inr (by intro h; have h9 := (nb83t _ h.symm).1; try dsimp only at h9; omega))
                      have O84A := O83A.grew g84 (.inr (by intro h; have h9 := (nb83t _ h.symm).1; try dsimp only at h9; omega))
                      have N84i : blk pi83 = none ∨ blk pi83 ≠ blk (some (⟨M4, 0, none⟩ : Addr)) := by cases e9 : blk pi83 with | none => exact .inl rfl | some g9 => exact .inr (fun h => D83 g9 e9 h.symm)
                      have O84i := O83.grew g84 N84i
                      have ib84 := g84.below ib83 (by omega) (fun g hg => (nb83t g hg).1)
                      have nb84 : ∀ g, blk pt84 = some g → M4 ≤ g ∧ g < M84 := fun g hg => by have h8 := O84.lt g hg; rcases n84 with e8 | e8; rw [e8] at hg; have h5 := nb83t g hg; exact ⟨h5.1, by omega⟩; rw [e8] at hg; have h6 := Option.some.inj hg; exact ⟨by omega, by omega⟩
                      have nb84i : ∀ g, blk pi83 = some g → M4 ≤ g ∧ g < M84 := fun g hg => by have h := nb83 g hg; omega
                      have D84 : ∀ g, blk pi83 = some g → blk pt84 ≠ some g := fun g h1 h2 => by rcases n84 with e8 | e8; rw [e8] at h2; exact D83 g h1 h2; rw [e8] at h2; have h6 := Option.some.inj h2; have h7 := nb83 g h1; omega
                      refine ⟨ib84, ?_⟩
                      change wpList _ _ _ [_] _ _
                      refine wpl_app rfl (.tmp 151) (.tmp 155) 22 rfl 9 undSsN oneSN _ _ _ rfl _ O84 _ _ _ rfl _ (O84A.cellsF (l := k + 1) (by omega)) (fun _ _ => rfl) (by omega) ?_
                      intro pt85 cpt85 w85 O85 g85 n85 e85
                      obtain ⟨M85, hM85⟩ := sz_some w85
                      have z85 : w85.heap.size = M85 := hM85
                      have y85 : w84.heap.size = M84 := hM84
                      have l85 : M84 ≤ M85 := by have q1 := g85.size; omega
                      have O85L := O84L.grew g85 (.inr (by intro h; have h9 := (nb84 _ h.symm).1; try dsimp only at h9; omega))
                      have O85A := O84A.grew g85 (.inr (by intro h; have h9 := (nb84 _ h.symm).1; try dsimp only at h9; omega))
                      have N85i : blk pi83 = none ∨ blk pi83 ≠ blk pt84 := by cases e9 : blk pi83 with | none => exact .inl rfl | some g9 => exact .inr (fun h => D84 g9 e9 h.symm)
                      have O85i := O84i.grew g85 N85i
                      have ib85 := g85.below ib84 (by omega) (fun g hg => (nb84 g hg).1)
                      have nb85 : ∀ g, blk pt85 = some g → M4 ≤ g ∧ g < M85 := fun g hg => by have h8 := O85.lt g hg; rcases n85 with e8 | e8; rw [e8] at hg; have h5 := nb84 g hg; exact ⟨h5.1, by omega⟩; rw [e8] at hg; have h6 := Option.some.inj hg; exact ⟨by omega, by omega⟩
                      have nb85i : ∀ g, blk pi83 = some g → M4 ≤ g ∧ g < M85 := fun g hg => by have h := nb84i g hg; omega
                      have D85 : ∀ g, blk pi83 = some g → blk pt85 ≠ some g := fun g h1 h2 => by rcases n85 with e8 | e8; rw [e8] at h2; exact D84 g h1 h2; rw [e8] at h2; have h6 := Option.some.inj h2; have h7 := nb84i g h1; omega
                      refine ⟨ib85, ?_⟩
                      change wpList _ _ _ [_] _ _
                      refine wpl_run rfl (.slice pi83 (0 + k + (n2 - (k + 1))) cpi83) _ (run_asN (x := .tmp 146) rfl _ rfl) ?_
                      refine ⟨ib85, ?_⟩
                      change wpList _ _ _ [_] _ _
                      refine wpl_run rfl (.slice pt85 (0 + k + (n2 - (k + 1))) cpt85) _ (run_asN (x := .tmp 156) rfl _ rfl) ?_
                      refine ⟨ib85, ?_⟩
                      change anyI _ _ _ _ _ _ _ _ _
                      try simp only [Act.put, List.setIfInBounds_toArray, List.set_cons_succ, List.set_cons_zero, List.getElem_toArray, List.getElem_cons_succ, List.getElem_cons_zero]
                      have oI := O85i
                      have oT := O85
                      rw [el] at oI oT
                      have NU := C4.new2 hN hM4 ib85 (fun g hg => (nb85i g hg).1) (fun g hg => (nb85 g hg).1) D85 (Z' := fun i => (delE E2 k i).id) (X' := fun i => (delE E2 k i).x) (oI.congr (fun j hj => cat_delN (fun z => .int .i64 z) (fun i => (E2 i).id) (fun i => (delE E2 k i).id) _ k n2 hk (fun i => by unfold delE; split <;> rfl) j hj)) (oT.congr (fun j hj => cat_delN (fun z => Value.string z) (fun i => (E2 i).x) (fun i => (delE E2 k i).x) _ k n2 hk (fun i => by unfold delE; split <;> rfl) j hj))
                      refine anyI_done (by kernel_rfl) ?_
                      try simp only [Act.put, List.setIfInBounds_toArray, List.set_cons_succ, List.set_cons_zero, List.getElem_toArray, List.getElem_cons_succ, List.getElem_cons_zero]
                      rw [el]
                      go_wp2_with fail
                      go_meet
                      exact ⟨n2 - 1, delE E2 k, _, _, _, _, _, _, rfl, rfl, HV, NU⟩
              case rest =>
                clear hB V2 C2
                obtain ⟨n3, E3, p3, cap3, q3, capq3, r3, capr3, rfl, rfl, V3, C3⟩ := hcut
                have n38 := V3.ns
                obtain ⟨M3, hM3⟩ := sz_some wc
                go_wp2_with fail
                go_loopg [18] n3 (fun g i wr => ∃ k : Nat, k ≤ n3 ∧ g = n3 - k ∧ i = .int .i64 k ∧ Below M3 wc wr)
                case atStart => exact ⟨0, by omega, rfl, rfl, Below.refl _ _⟩
                case round =>
                  obtain ⟨k, hk, rfl, rfl, qb⟩ := hrel
                  have k0 : (0 : Int) ≤ (k : Int) := by omega
                  have k1 : (k : Int) ≤ 8 := by omega
                  obtain ⟨Mk, hMk⟩ := sz_some wr
                  have Ck := C3.below hN hM3 qb
                  have lMk := below_sz qb hM3 hMk
                  by_cases hlt : k < n3
                  · have hl1 : (k : Int) < (n3 : Int) := by omega
                    obtain ⟨gl, rfl, hcl⟩ := Ck.l.cell (by omega)
                    obtain ⟨ga, rfl, hca⟩ := Ck.a.cell (by omega)
                    have lga : ga < Mk := (Ck.lt hMk).2.2.2 ga rfl
                    have f1 := hcl k hlt
                    have f2 := hca k hlt
                    rw [Nat.zero_add] at f1 f2
                    have CG := OGetS_ok N 8 (last2 : Int) p3 n3 cap3 E3 (E3 k).id k hlt rfl (fun i hi => V3.other hlt hi rfl) (by omega) wr Mk hMk Ck.o
                    generalize (E3 k).id = z at CG f1
                    generalize (E3 k).x = t at CG f2
                    clear hcl hca
                    go_wp2_with fail
                    refine CG.mono ?_
                    rintro e y1 ⟨rfl, hb1⟩
                    have f3 : y1.cell? ⟨ga, k, none⟩ = some (Value.string t) := by rw [hb1.cell (p := ⟨ga, k, none⟩) lga]; exact f2
                    clear CG f1 f2
                    go_wp2_with fail
                    go_roundg (n3 - (k + 1))
                    case measure => omega
                    case rel => exact ⟨k + 1, by omega, rfl, by go_num, qb.trans (hb1.mono lMk)⟩
                  · have hl1 : ¬ ((k : Int) < (n3 : Int)) := by omega
                    go_wp2_with fail
                    go_roundg (30 - (j + 1))
                    case measure => omega
                    case rel => exact ⟨j + 1, last2, n3, E3, _, _, _, _, _, _, by omega, rfl, by go_num, rfl, rfl, rfl, V3, Ck⟩
    · have t1 : ¬ ((j : Int) < (m : Int)) ∨ ((j : Int) < (m : Int) ∧ ¬ ((j : Int) < 30)) := by omega
      have CL := OLiveS_any N 8 (last : Int) p n cap E (by omega) wr M hM C.o
      have bel := C.bel
      clear C V hT hD
      rcases t1 with t1 | ⟨t1, t2⟩
      · go_wp2_with fail
        refine CL.mono ?_
        rintro e w9 ⟨q9, c9, rfl, _, _, hb9⟩
        go_wp2_with fail
        go_ret
        exact ⟨rfl, bel.trans (hb9.mono hNM)⟩
      · go_wp2_with fail
        refine CL.mono ?_
        rintro e w9 ⟨q9, c9, rfl, _, _, hb9⟩
        go_wp2_with fail
        go_ret
        exact ⟨rfl, bel.trans (hb9.mono hNM)⟩
end Go.Proofs.Ytkofhcjgobccoaa
