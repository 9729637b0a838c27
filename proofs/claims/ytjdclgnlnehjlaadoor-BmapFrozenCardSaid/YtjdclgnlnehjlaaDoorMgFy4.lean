/- BmapFrozen: the document's plain. BmapFrozen: the document's exact. -/
import Derived.Test.YtjdclgnlnehjlaaDoorMgFy2
namespace Go.Proofs.YtjdclgnlnehjlaaDoor
open Go Go.RowKit
def dOf (t : ByteArray) : Nat → BitVec 8 := fun k => BitVec.ofNat 8 (byT t k)
theorem str_dOf (t : ByteArray) : strOf (dOf t) t.size = t := by
  apply ByteArray.ext
  show ((List.range t.size).map (fun j => UInt8.ofNat (dOf t j).toNat)).toArray = t.data
  apply Array.ext
  · rw [List.size_toArray, List.length_map, List.length_range]; rfl
  · intro i h1 h2
    have hi : i < t.size := h2
    rw [List.getElem_toArray, List.getElem_map, List.getElem_range]
    show UInt8.ofNat (BitVec.ofNat 8 (byT t i)).toNat = t.data[i]
    rw [BitVec.toNat_ofNat, Nat.mod_eq_of_lt (byT_lt t i)]
    unfold byT
    rw [dif_pos hi, UInt8.ofNat_toNat, ByteArray.getElem_eq_getElem_data]
theorem run_rem8q {P : Program} {a : Act} {o : Oper} {x y : Operand} {T ty : TypeId} {n r : Nat} (ho : o.op = .binOp .rem T x y ty) (hx : a.eval x = .int .i64 (n : Int)) (hy : a.eval y = .int .i64 8) (hn : n < 1000000) (hr : n % 8 = r) (w : World) : (execOp a.eval o).run P w = .ok (.value (.int .i64 (r : Int))) w := by
  rw [← hr]; exact run_rem8i ho hx hy hn w
def opN (d : BitVec 8) (r : Nat) : BitVec 8 := BitVec.ofInt 8 (bits .andNot .u8 (v8 d) (128 / 2 ^ r))
/-- The bits from lo on that do not count, away, one by one. -/
def plS (D : Nat → BitVec 8) (lo : Nat) : Nat → (Nat → BitVec 8)
  | 0 => D
  | s + 1 => updB (plS D lo s) (4 + (lo + s) / 8) (opN (plS D lo s (4 + (lo + s) / 8)) ((lo + s) % 8))
def plainT (ty : Nat) (t : ByteArray) : ByteArray := if ty = 5 then strOf (plS (dOf t) (bitsT t) (8 * (t.size - 4) - bitsT t)) t.size else t
theorem plainT_size (ty : Nat) (t : ByteArray) : (plainT ty t).size = t.size := by
  unfold plainT; split
  · rw [strOf_size]
  · rfl
theorem opN_val (d : BitVec 8) (r : Nat) : v8 (opN d r) = bits .andNot .u8 (v8 d) (128 / 2 ^ r) := by
  unfold opN v8
  rw [BitVec.toNat_ofInt]
  unfold bits
  simp only [IntKind.wrap_u8]
  omega
set_option maxRecDepth 100000 in
set_option maxHeartbeats 4000000 in
theorem plain_any (m : Rm) (t : ByteArray) (hk : m.ty = 5 → 4 ≤ t.size ∧ t.size ≤ 16) (w : World) (N : Nat) (hN : Sz w N) (hA : RmAt w m) :
    Calls Tryd.prog 55 #[.pointer (some ⟨m.b, 0, none⟩), .string t] w fun e w' => e = .returned (.string (plainT m.ty t)) ∧ Below N w w' := by
  have d0 := hid hA.c0
  by_cases h5 : m.ty = 5
  · obtain ⟨l4, l16⟩ := hk h5
    obtain ⟨L, hL⟩ : ∃ L, t.size = L := ⟨_, rfl⟩
    rw [hL] at l4 l16
    have E12 := hid (show ((m.ty : Int) != 5) = false by rw [h5]; rfl)
    obtain ⟨lo, hlo⟩ : ∃ lo, bitsT t = lo := ⟨_, rfl⟩
    obtain ⟨D, hD⟩ : ∃ D, dOf t = D := ⟨_, rfl⟩
    have EP := hid (show plainT m.ty t = strOf (plS D lo (8 * (L - 4) - lo)) L by unfold plainT; rw [if_pos h5, hL, hlo, hD])
    have et : t = strOf D L := by rw [← hD, ← hL, str_dOf]
    obtain ⟨cap, w1, hr1, hS1, hb1, r1⟩ := run_raw (P := Tryd.prog) 9 35 undBS undBB undBy w N hN D L
    rw [← et] at hr1
    have Hr1 := hid hr1
    have HL := hid hL
    have HLO := hid hlo
    clear hr1 et hL hlo hD h5 hk
    go_enter Tryd.func55, Tryd.ntmps55
    go_wp2_with (first
      | (go_at_call 57; refine (bits_any _ (by rw [HL.out]; exact l4) _).mono ?_; rintro e w2 ⟨rfl, x2, rfl⟩; rw [HLO.out])
      | ((with_reducible show wpList _ _ _ (_ :: _) _ _); first
        | (refine wpl_run rfl (.int .i64 (m.ty : Int)) _ (run_cell1 (x := .tmp 10) 3 rfl rfl undIt rfl d0.out) ?_; try simp only [pA])
        | (refine wpl_run rfl (.bool false) _ (run_neqZ (x := .tmp 11) rfl rfl rfl E12.out _) ?_; try simp only [pA])
        | (refine wpl_conv2 rfl 9 35 (.tmp 14) rfl _ _ _ rfl Hr1.out ?_; try simp only [pA]))
      | fail)
    have r2 : Raw (w1.drewN x2) N L (fun j => By (D j)) := r1.same rfl
    have hb2 : Below N w (w1.drewN x2) := below_drewN hb1 x2
    generalize w1.drewN x2 = w2 at *
    clear r1 hb1 hS1 Hr1 E12 d0 HLO
    go_loopw [6] (fun x6 wr => ∃ s : Nat, x6 = .int .i64 ((lo + s : Nat) : Int) ∧ s ≤ 8 * (L - 4) - lo ∧ Raw wr N L (fun j => By (plS D lo s j)) ∧ Below N w wr) (fun x6 _ => 8 * (L - 4) - (intOf x6).toNat)
    case atStart => exact ⟨0, rfl, by omega, r2, hb2⟩
    case round =>
      clear r2 hb2
      obtain ⟨s, rfl, hs, r, hb⟩ := hrel
      obtain ⟨M, hM⟩ := sz_some wr
      have hNM := r.ltN hM
      obtain ⟨i, hi⟩ : ∃ i, lo + s = i := ⟨_, rfl⟩
      have HI := hid hi
      rw [hi]
      clear hi
      obtain ⟨j, hj⟩ : ∃ j, L = j + 4 := ⟨L - 4, by omega⟩
      have EJ := hid (show (L : Int) - 4 = (j : Int) by omega)
      have j16 : j ≤ 16 := by omega
      have arms : True := trivial
      by_cases hlt : i < 8 * j
      · have E23 := hid (show decide ((i : Int) < 8 * (j : Int)) = true from decide_eq_true (by omega))
        obtain ⟨k, hkk⟩ : ∃ k, 4 + i / 8 = k := ⟨_, rfl⟩
        obtain ⟨r8, hr8⟩ : ∃ r, i % 8 = r := ⟨_, rfl⟩
        have kL : k < L := by omega
        have i1k : i < 1000000 := by omega
        have r7 : r8 ≤ 7 := by omega
        have r0 : (0 : Int) ≤ (r8 : Int) := by omega
        have r70 : (r8 : Int) ≤ 7 := by omega
        have EK := hid (show (4 : Int) + ((i / 8 : Nat) : Int) = (k : Int) by omega)
        have k0 : -1000000 ≤ (k : Int) := by omega
        have k1 : (k : Int) < 1000000 := by omega
        have ER := hid hr8
        obtain ⟨d, hd⟩ : ∃ d, plS D lo s k = d := ⟨_, rfl⟩
        have hce : wr.cell? ⟨N, k, none⟩ = some (By d) := by rw [← hd]; exact r.cell kL
        have EN := hid (show updB (plS D lo s) k (opN d r8) = plS D lo (s + 1) by
          show _ = updB (plS D lo s) (4 + (lo + s) / 8) (opN (plS D lo s (4 + (lo + s) / 8)) ((lo + s) % 8))
          rw [HI.out, hkk, hr8, hd])
        have EI := hid (show lo + (s + 1) = i + 1 by have := HI.out; omega)
        have hs1 : s + 1 ≤ 8 * (L - 4) - lo := by have := HI.out; omega
        have HLJ := hid hj
        clear hkk hr8 hd hj arms
        go_upto_region 7 with (first
          | ((with_reducible show wpList _ _ _ (_ :: _) _ _); first
            | (refine wpl_run rfl (.int .i64 (L : Int)) _ (run_lenL (x := .tmp 19) rfl undBB rfl _) ?_; try simp only [pA])
            | (refine wpl_run rfl (.int .i64 (j : Int)) _ (run_subN (x := .tmp 20) rfl rfl rfl EJ.out (by omega) (by omega) _) ?_; try simp only [pA])
            | (refine wpl_run rfl (.int .i64 (8 * (j : Int))) _ (run_mulN (y := .tmp 21) rfl rfl rfl rfl (by omega) (by omega) _) ?_; try simp only [pA])
            | (refine wpl_run rfl (.bool true) _ (run_lssK (x := .tmp 18) rfl rfl rfl E23.out _) ?_; try simp only [pA]))
          | fail)
        refine wp_region_later_tail M 15 (by kernel_rfl) (by kernel_rfl) ?_
        simp only [List.take_succ_cons, List.take_zero, List.drop_succ_cons, List.drop_zero]
        go_big_quiet_step (fail)
        go_big_quiet_step (fail)
        refine later_val (v := .int .i64 ((i / 8 : Nat) : Int)) (fun q => run_quo8 (x := .tmp 27) rfl rfl rfl i1k _) (by rfl) ?_; try simp only [pA]
        refine later_val (v := .int .i64 (k : Int)) (fun q => run_addN (y := .tmp 28) rfl rfl rfl EK.out k0 k1 _) (by rfl) ?_; try simp only [pA]
        go_big_quiet_step (fail)
        go_big_quiet_step (fail)
        refine later_val (v := .int .i64 ((i / 8 : Nat) : Int)) (fun q => run_quo8 (x := .tmp 31) rfl rfl rfl i1k _) (by rfl) ?_; try simp only [pA]
        refine later_val (v := .int .i64 (k : Int)) (fun q => run_addN (y := .tmp 32) rfl rfl rfl EK.out k0 k1 _) (by rfl) ?_; try simp only [pA]
        refine later_val (v := .pointer (some ⟨N, k, none⟩)) (fun q => run_iaS0 (x := .tmp 30) (y := .tmp 33) rfl rfl rfl undBB szBy kL _) (by rfl) ?_; try simp only [pA]
        refine later_val (v := .int .u8 (v8 d)) (fun q => run_cell1 (x := .tmp 34) 5 rfl rfl undBy rfl (Later.cell hM hce q)) (by rfl) ?_; try simp only [pA]
        go_big_quiet_step (fail)
        refine later_val (v := .int .i64 (r8 : Int)) (fun q => run_rem8q (x := .tmp 36) rfl rfl rfl i1k ER.out _) (by rfl) ?_; try simp only [pA]
        go_big_quiet_step (fail)
        go_big_quiet_step (fail)
        refine later_val (v := .pointer (some ⟨N, k, none⟩)) (fun q => run_iaS0 (x := .tmp 26) (y := .tmp 29) rfl rfl rfl undBB szBy kL _) (by rfl) ?_; try simp only [pA]
        refine wpQuiet_nil ?_
        rintro w5 ⟨x5, e5⟩
        have hb5 := x5.b
        rw [← e5] at hb5
        have r5 := r.below hb5 hNM
        have hbb := hb.trans (hb5.mono (by omega))
        clear e5 x5 hb5 hce r hb E23
        rw [← opN_val d r8]
        go_wp2_with (first
          | (refine wpl_setR rfl 5 (.tmp 40) (.tmp 39) rfl N k rfl (By (opN d r8)) rfl szBy rfl rfl L _ r5 kL ?_; intro w6 t6 r6; replace r6 := r6.byB; try simp only [pA])
          | ((with_reducible show wpList _ _ _ (_ :: _) _ _); first
            | (refine wpl_run rfl (.int .i64 ((i + 1 : Nat) : Int)) _ (run_inc (x := .tmp 24) rfl rfl rfl rfl (by omega) _) ?_; try simp only [pA]))
          | fail)
        rw [EN.out] at r6
        exact ⟨⟨s + 1, by rw [EI.out], hs1, r6, t6.below hbb (Nat.le_refl N)⟩, by have := HLJ.out; simp [intOf]; omega⟩
      · have E23 := hid (show decide ((i : Int) < 8 * (j : Int)) = false from decide_eq_false (by omega))
        have es : plS D lo s = plS D lo (8 * (L - 4) - lo) := by
          have := HI.out
          by_cases e0 : s = 8 * (L - 4) - lo
          · rw [e0]
          · omega
        rw [es] at r
        have Hcv := hid (run_string (P := Tryd.prog) wr 35 9 5 undBB undBy undBS (some ⟨N, 0, none⟩) L cap _ r.ats)
        clear hj es arms
        go_wp2_with (first
          | ((with_reducible show wpList _ _ _ (_ :: _) _ _); first
            | (refine wpl_conv rfl 35 9 (.tmp 41) rfl _ (.string (strOf (plS D lo (8 * (L - 4) - lo)) L)) rfl Hcv.out ?_; try simp only [pA])
            | (refine wpl_run rfl (.int .i64 (L : Int)) _ (run_lenL (x := .tmp 19) rfl undBB rfl _) ?_; try simp only [pA])
            | (refine wpl_run rfl (.int .i64 (j : Int)) _ (run_subN (x := .tmp 20) rfl rfl rfl EJ.out (by omega) (by omega) _) ?_; try simp only [pA])
            | (refine wpl_run rfl (.int .i64 (8 * (j : Int))) _ (run_mulN (y := .tmp 21) rfl rfl rfl rfl (by omega) (by omega) _) ?_; try simp only [pA])
            | (refine wpl_run rfl (.bool false) _ (run_lssK (x := .tmp 18) rfl rfl rfl E23.out _) ?_; try simp only [pA]))
          | fail)
        go_ret
        exact ⟨by rw [EP.out]; rfl, hb⟩
  · have t12 : ((m.ty : Int) != 5) = true := by rw [bne_iff_ne]; omega
    have c0 := d0.out
    have EP := hid (show plainT m.ty t = t from if_neg h5)
    clear h5
    go_enter Tryd.func55, Tryd.ntmps55
    go_wp2
    go_ret
    exact ⟨by rw [EP.out]; rfl, Below.refl _ _⟩
end Go.Proofs.YtjdclgnlnehjlaaDoor
namespace Go.Proofs.YtjdclgnlnehjlaaDoor
open Go Go.RowKit
theorem undRE : Tryd.prog.underlying 62 = some (.slice 66) := by kernel_rfl
theorem szRE : (Tryd.prog.info? 66).map (·.size) = some 2 := by kernel_rfl
section
variable {P : Program} {a : Act} {o : Oper} {x y : Operand} {T ty : TypeId}
theorem run_iaS2 {e : TypeId} {g n' c k : Nat} {b : Option Addr} (ho : o.op = .indexAddr T x y) (hx : a.eval x = .slice b n' c) (hb : b = some ⟨g, 0, none⟩) (hy : a.eval y = .int .i64 (k : Int)) (hu : P.underlying T = some (.slice e)) (hs : (P.info? e).map (·.size) = some 2) (hk : k < n') (w : World) : (execOp a.eval o).run P w = .ok (.value (.pointer (some ⟨g, k * 2, none⟩))) w := by
  subst hb
  cases hq : P.info? e with
  | none => rw [hq] at hs; cases hs
  | some u =>
    rw [hq] at hs
    have h1 : u.size = 2 := by simpa using hs
    have h2 : ¬ (n' ≤ k) := by omega
    unfold execOp
    simp only [ho, hx, hy]
    simp [Instr.indexAt, Instr.sureAddr, asIntOf, Sem.run_bind, run_underlying hu, sizeOf, typeInfo, hq, h1, Addr.add, h2, hk]
    try exact fun h => h.symm
end
def PlX (m : Rm) (e : Ending) : Prop := (∃ i, i < m.n ∧ e = .returned (.int .i64 ((i : Nat) : Int))) ∨ e = .returned (.int .i64 (-1))
set_option maxRecDepth 100000 in
set_option maxHeartbeats 4000000 in
theorem exact_any (m : Rm) (t : ByteArray) (hk : m.ty = 5 → 4 ≤ t.size ∧ t.size ≤ 16) (w : World) (N : Nat) (hN : Sz w N) (hA : RmAt w m) :
    Calls Tryd.prog 53 #[.pointer (some ⟨m.b, 0, none⟩), .string t] w fun e w' => PlX m e ∧ Below N w w' := by
  go_enter Tryd.func53, Tryd.ntmps53
  go_wp2_with fail
  go_loopw [5] (fun x5 wr => ∃ i : Nat, x5 = .int .i64 (i : Int) ∧ i ≤ m.n ∧ Below N w wr) (fun x5 _ => m.n - (intOf x5).toNat)
  case atStart => exact ⟨0, rfl, by omega, Below.refl _ _⟩
  case round =>
    obtain ⟨i, rfl, hi, hb⟩ := hrel
    obtain ⟨M, hM⟩ := sz_some wr
    have hNM := below_sz hb hN hM
    have A := hA.below hN hb
    have d4 := hid A.c4
    have hn := A.n
    by_cases h1 : i < m.n
    · have E12 := hid (show decide ((i : Int) < (m.n : Int)) = true from decide_eq_true (by omega))
      obtain ⟨g, hg⟩ := A.ptr (by omega)
      have HG := hid hg
      have D4 := d4
      have hce : wr.cell? ⟨g, i * 2, none⟩ = some (.string (m.E i).k) := A.at hg i h1 0 (by omega)
      obtain ⟨r, hr⟩ : ∃ r, ((m.E i).k.toList == (plainT m.ty t).toList) = r := ⟨_, rfl⟩
      have ER := hid hr
      clear hr hg
      go_upto_region 4 with (first
        | ((with_reducible show wpList _ _ _ (_ :: _) _ _); first
          | (refine wpl_run rfl (.slice m.p m.n m.cap) _ (run_cell1 (x := .tmp 9) 62 rfl rfl undRE rfl d4.out) ?_; try simp only [pA])
          | (refine wpl_run rfl (.int .i64 (m.n : Int)) _ (run_lenL (x := .tmp 10) rfl undRE rfl _) ?_; try simp only [pA])
          | (refine wpl_run rfl (.bool true) _ (run_lssK (x := .tmp 6) rfl rfl rfl E12.out _) ?_; try simp only [pA]))
        | fail)
      refine wp_region_later M (by kernel_rfl) (by kernel_rfl) ?_
      go_big_quiet_step (fail)
      go_big_quiet_step (fail)
      go_big_quiet_step (fail)
      refine later_val (v := .slice m.p m.n m.cap) (fun q => run_cell1 (x := .tmp 17) 62 rfl rfl undRE rfl (Later.cell hM d4.out q)) (by rfl) ?_; try simp only [pA]
      go_big_quiet_step (fail)
      refine later_val (v := .pointer (some ⟨g, i * 2, none⟩)) (fun q => run_iaS2 (x := .tmp 18) (y := .tmp 19) rfl rfl HG.out rfl undRE szRE h1 _) (by rfl) ?_; try simp only [pA]
      go_big_quiet_step (fail)
      refine later_val (v := .string (m.E i).k) (fun q => run_cell1 (x := .tmp 21) 9 rfl rfl undBS rfl (Later.cell hM hce q)) (by rfl) ?_; try simp only [pA]
      go_big_quiet_step (fail)
      go_big_quiet_step (fail)
      go_big_quiet_step ((go_at_call 55; exact later_of hM _ (fun K hK hKN => plain_any m t hk _ K hK (A.below hM (Later.b _)))))
      refine later_val (v := .bool r) (fun q => run_eqT (x := .tmp 22) (y := .tmp 25) rfl rfl rfl ER.out _) (by rfl) ?_; try simp only [pA]
      refine wpQuiet_nil ?_
      rintro w5 ⟨x5, e5⟩
      have hb5 := x5.b
      rw [← e5] at hb5
      have hbb := hb.trans (hb5.mono hNM)
      clear e5 x5 hb5 hce hb E12 d4 D4 A hA
      cases r
      · go_wp2_with (first
          | ((with_reducible show wpList _ _ _ (_ :: _) _ _); first
            | (refine wpl_run rfl (.int .i64 ((i + 1 : Nat) : Int)) _ (run_inc (x := .tmp 13) rfl rfl rfl rfl (by omega) _) ?_; try simp only [pA]))
          | fail)
        exact ⟨⟨i + 1, rfl, by omega, hbb⟩, by simp [intOf]; omega⟩
      · go_wp2_with fail
        go_ret
        exact ⟨.inl ⟨i, h1, rfl⟩, hbb⟩
    · have E12 := hid (show decide ((i : Int) < (m.n : Int)) = false from decide_eq_false (by omega))
      go_wp2_with (first
        | ((with_reducible show wpList _ _ _ (_ :: _) _ _); first
          | (refine wpl_run rfl (.slice m.p m.n m.cap) _ (run_cell1 (x := .tmp 9) 62 rfl rfl undRE rfl d4.out) ?_; try simp only [pA])
          | (refine wpl_run rfl (.int .i64 (m.n : Int)) _ (run_lenL (x := .tmp 10) rfl undRE rfl _) ?_; try simp only [pA])
          | (refine wpl_run rfl (.bool false) _ (run_lssK (x := .tmp 6) rfl rfl rfl E12.out _) ?_; try simp only [pA]))
        | fail)
      go_ret
      exact ⟨.inr rfl, hb⟩
end Go.Proofs.YtjdclgnlnehjlaaDoor
