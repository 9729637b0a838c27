/- RegionStacks: bytes that aren't told; bytes that are filled in. -/
import Derived.Test.YtjcjmlmdcjkceaaRs6
import Derived.Laws.CopyRow
namespace Go.Proofs.Ytjcjmlmdcjkceaa
open Go Go.RowKit
set_option maxRecDepth 100000 in
set_option maxHeartbeats 8000000 in
theorem Bytes_un (b : Nat) (v : Vl) (hv : v.tag = 3) (m : Me) (k f : Nat) (hk : k ≤ 64) (hin : inB (sn v.n) 0 (-64) 64 = true) (hf : at0 (sn v.n) 0 (-64) = f) (fk : f + k ≤ 64) (ha : allT (fun j => m.Wr (f + j)) k = false) (w : World) (N : Nat) (hN : Sz w N) (hh : Has w b 83 193 (meC m)) :
    Calls Try.prog 9 #[.pointer (some ⟨b, 0, none⟩), vlV v, .int .i64 ((k : Nat) : Int)] w fun e w' => e = .returned (.tuple #[.slice none 0 0, .int .i64 14]) ∧ Below N w w' := by
  have HO : Hid (decide (((k : Nat) : Int) ≤ ((64 : Nat) : Int) - ((f : Nat) : Int)) = true) := hid (decide_eq_true (by omega))
  have HA := hid ha
  have HF := hid hf
  have hbl := hh.ltN hN
  have k1 : ¬ (k : Int) < 0 := by omega
  have k2 : ¬ (64 : Int) < (k : Int) := by omega
  clear hf ha
  obtain ⟨tag, vn, sl, c⟩ := v
  simp only at hv
  subst hv
  unfold vlV
  go_enter Try.func9, Try.ntmps9
  go_wp2_with (first
    | (refine wpl_box rfl 26 (.tmp 1) rfl 4 _ rfl N hN ?_; intro w1 hN1 hb1 h1; replace hh := hh.below hb1 (by omega))
    | (refine wpl_load rfl 26 (.tmp 4) rfl N rfl 26 4 _ h1 _ undVl.choose_spec.1 undVl.choose_spec.2 szVl ?_)
    | (refine wpl_want (by rfl) ?_; refine wpl_load rfl 26 (.tmp 4) rfl N rfl 26 4 _ h1 _ undVl.choose_spec.1 undVl.choose_spec.2 szVl ?_)
    | (go_at_call 27; refine (Span_in b ⟨3, vn, sl, c⟩ 0 ((k : Nat) : Int) _ 64 64 (-64) (fun _ => True) (fun _ _ _ _ _ _ => trivial) (by omega) (.inr rfl) (base_stack b _ rfl) hin _ (N + 1) hN1 trivial).mono ?_; rintro e w4 ⟨rfl, hb4⟩; rw [HF.out, HO.out]; obtain ⟨M4, hM4⟩ := sz_some w4; have l4 := below_sz hb4 hN1 hM4; replace h1 := h1.below hb4 (by omega); replace hh := hh.below hb4 (by omega); replace hb4 := hb1.trans (hb4.mono (by omega)); clear hN1 hb1)
    | (go_at_call 29; refine (Readable_stack b ⟨3, vn, sl, c⟩ rfl m f k fk _ M4 hM4 hh).mono ?_; rintro e w7 ⟨rfl, hb7⟩; rw [HA.out]; obtain ⟨M7, hM7⟩ := sz_some w7; have l7 := below_sz hb7 hM4 hM7; replace hh := hh.below hb7 (by omega); replace hb4 := hb4.trans (hb7.mono (by omega)); clear h1 hb7 hM4)
    | fail)
  go_ret2
  exact ⟨rfl, hb4⟩
set_option maxRecDepth 100000 in
set_option maxHeartbeats 8000000 in
theorem Bytes_long (b : Nat) (v : Vl) (hv : v.tag = 3) (m : Me) (k f : Nat) (hk : k ≤ 64) (hin : inB (sn v.n) 0 (-64) 64 = true) (hf : at0 (sn v.n) 0 (-64) = f) (fk : ¬ f + k ≤ 64) (w : World) (N : Nat) (hN : Sz w N) (hh : Has w b 83 193 (meC m)) :
    Calls Try.prog 9 #[.pointer (some ⟨b, 0, none⟩), vlV v, .int .i64 ((k : Nat) : Int)] w fun e w' => e = .returned (.tuple #[.slice none 0 0, .int .i64 14]) ∧ Below N w w' := by
  have HO : Hid (decide (((k : Nat) : Int) ≤ ((64 : Nat) : Int) - ((f : Nat) : Int)) = false) := hid (decide_eq_false (by omega))
  have HF := hid hf
  have hbl := hh.ltN hN
  have k1 : ¬ (k : Int) < 0 := by omega
  have k2 : ¬ (64 : Int) < (k : Int) := by omega
  clear hf
  obtain ⟨tag, vn, sl, c⟩ := v
  simp only at hv
  subst hv
  unfold vlV
  go_enter Try.func9, Try.ntmps9
  go_wp2_with (first
    | (refine wpl_box rfl 26 (.tmp 1) rfl 4 _ rfl N hN ?_; intro w1 hN1 hb1 h1; replace hh := hh.below hb1 (by omega))
    | (refine wpl_load rfl 26 (.tmp 4) rfl N rfl 26 4 _ h1 _ undVl.choose_spec.1 undVl.choose_spec.2 szVl ?_)
    | (refine wpl_want (by rfl) ?_; refine wpl_load rfl 26 (.tmp 4) rfl N rfl 26 4 _ h1 _ undVl.choose_spec.1 undVl.choose_spec.2 szVl ?_)
    | (go_at_call 27; refine (Span_in b ⟨3, vn, sl, c⟩ 0 ((k : Nat) : Int) _ 64 64 (-64) (fun _ => True) (fun _ _ _ _ _ _ => trivial) (by omega) (.inr rfl) (base_stack b _ rfl) hin _ (N + 1) hN1 trivial).mono ?_; rintro e w4 ⟨rfl, hb4⟩; rw [HF.out, HO.out]; obtain ⟨M4, hM4⟩ := sz_some w4; have l4 := below_sz hb4 hN1 hM4; replace h1 := h1.below hb4 (by omega); replace hh := hh.below hb4 (by omega); replace hb4 := hb1.trans (hb4.mono (by omega)); clear hN1 hb1)
    | fail)
  go_ret2
  exact ⟨rfl, hb4⟩
set_option maxRecDepth 100000 in
set_option maxHeartbeats 8000000 in
theorem Bytes_out (b : Nat) (v : Vl) (hv : v.tag = 3) (m : Me) (k : Nat) (hk : k ≤ 64) (hin : inB (sn v.n) 0 (-64) 64 = false) (w : World) (N : Nat) (hN : Sz w N) (hh : Has w b 83 193 (meC m)) :
    Calls Try.prog 9 #[.pointer (some ⟨b, 0, none⟩), vlV v, .int .i64 ((k : Nat) : Int)] w fun e w' => e = .returned (.tuple #[.slice none 0 0, .int .i64 14]) ∧ Below N w w' := by
  have hbl := hh.ltN hN
  have k1 : ¬ (k : Int) < 0 := by omega
  have k2 : ¬ (64 : Int) < (k : Int) := by omega
  obtain ⟨tag, vn, sl, c⟩ := v
  simp only at hv
  subst hv
  unfold vlV
  go_enter Try.func9, Try.ntmps9
  go_wp2_with (first
    | (refine wpl_box rfl 26 (.tmp 1) rfl 4 _ rfl N hN ?_; intro w1 hN1 hb1 h1; replace hh := hh.below hb1 (by omega))
    | (refine wpl_load rfl 26 (.tmp 4) rfl N rfl 26 4 _ h1 _ undVl.choose_spec.1 undVl.choose_spec.2 szVl ?_)
    | (refine wpl_want (by rfl) ?_; refine wpl_load rfl 26 (.tmp 4) rfl N rfl 26 4 _ h1 _ undVl.choose_spec.1 undVl.choose_spec.2 szVl ?_)
    | (go_at_call 27; refine (Span_out b ⟨3, vn, sl, c⟩ 0 ((k : Nat) : Int) _ 64 64 (-64) (fun _ => True) (fun _ _ _ _ _ _ => trivial) (by omega) (.inr rfl) (by omega) (base_stack b _ rfl) hin _ (N + 1) hN1 trivial).mono ?_; rintro e w4 ⟨rfl, hb4⟩; replace hb4 := hb1.trans (hb4.mono (by omega)); clear hN1 hb1 h1)
    | fail)
  go_ret2
  exact ⟨rfl, hb4⟩
/-- Bytes are filled in. -/
def fiM (m : Me) (f n : Nat) (D : Nat → W) : Me := ⟨m.X, fun j => if f ≤ j ∧ j < f + n then D (j - f) else m.B j, (wrM m f n).Wr, (wrM m f n).K, m.mp⟩
theorem run_slL {P : Program} {a : Act} {o : Oper} (t e : TypeId) (x y : Operand) (ho : o.op = .slice t x (some y) none none) {b off n cap l : Nat} (hx : a.eval x = .slice (some ⟨b, off, none⟩) n cap) (hy : a.eval y = .int .i64 (l : Int)) (hu : P.underlying t = some (.slice e)) (hi : (P.info? e).map (·.size) = some 1) (hl : l ≤ n) (hh : n ≤ cap) (w : World) :
    (execOp a.eval o).run P w = .ok (.value (.slice (some ⟨b, soff off l cap, none⟩) (n - l) (cap - l))) w := by
  cases hq : P.info? e with
  | none => simp [hq] at hi
  | some i =>
    have hi : i.size = 1 := by simpa [hq] using hi
    unfold execOp soff
    simp only [ho, Option.map, hx, hy]
    by_cases e5 : cap = l
    · subst e5
      obtain rfl : n = cap := by omega
      simp [Instr.sliceAt, Instr.slice, run_underlying hu, Instr.sliceBounds, Instr.sliceBound, asIntOf, sizeOf, typeInfo, hq, hi, Sem.run_bind, Addr.add_mid]
    · simp [Instr.sliceAt, Instr.slice, run_underlying hu, Instr.sliceBounds, Instr.sliceBound, asIntOf, sizeOf, typeInfo, hq, hi, Sem.run_bind, hl, hh, e5, Addr.add_mid]
theorem lay_fi (m : Me) (f n : Nat) (D : Nat → W) (h : f + n ≤ 64) (j : Nat) : lay (meC (wrM m f n)) (soff 32 f 64) n (fun j => Yv (D j)) j = meC (fiM m f n D) j := by
  by_cases h0 : n = 0
  · subst h0
    unfold lay
    rw [if_neg (by omega)]
    have e : fiM m f 0 D = wrM m f 0 := by
      unfold fiM wrM
      congr 1
      funext j; rw [if_neg (by omega)]
    rw [e]
  · unfold lay soff meC
    rw [if_neg (show ¬ 64 = f by omega)]
    by_cases e : 32 + f ≤ j ∧ j < 32 + f + n
    · rw [if_pos e, if_neg (by omega), if_pos (by omega)]
      show Yv (D (j - (32 + f))) = Yv (if f ≤ j - 32 ∧ j - 32 < f + n then D (j - 32 - f) else m.B (j - 32))
      rw [if_pos (by omega), show j - 32 - f = j - (32 + f) by omega]
    · rw [if_neg e]
      by_cases h1 : j < 32
      · rw [if_pos h1, if_pos h1]; rfl
      · rw [if_neg h1, if_neg h1]
        by_cases h2 : j < 96
        · rw [if_pos h2, if_pos h2]
          show Yv (m.B (j - 32)) = Yv (if f ≤ j - 32 ∧ j - 32 < f + n then D (j - 32 - f) else m.B (j - 32))
          rw [if_neg (by omega)]
        · rw [if_neg h2, if_neg h2]; rfl
set_option maxRecDepth 100000 in
set_option maxHeartbeats 8000000 in
theorem Fill_out (b : Nat) (v : Vl) (hv : v.tag = 3) (m : Me) (pb : Option Addr) (n cb : Nat) (hn : n < 1000) (hin : inB (sn v.n) 0 (-64) 64 = false) (w : World) (N : Nat) (hN : Sz w N) (hh : Has w b 83 193 (meC m)) : Calls Try.prog 12 #[.pointer (some ⟨b, 0, none⟩), vlV v, .slice pb n cb] w fun e w' => e = .returned (.int .i64 14) ∧ Grew (some b) w w' ∧ Has w' b 83 193 (meC (m)) := by
  have hbl := hh.ltN hN
  obtain ⟨tag, vn, sl, c⟩ := v
  simp only at hv
  subst hv
  unfold vlV
  go_enter Try.func12, Try.ntmps12
  go_wp2_with (first
    | (refine wpl_box rfl 26 (.tmp 1) rfl 4 _ rfl N hN ?_; intro w1 hN1 hb1 h1; replace hh := hh.below hb1 (by omega))
    | (refine wpl_run rfl (.int .i64 ((n : Nat) : Int)) _ (run_lenS (x := .tmp 15) (T := 32) undSY rfl rfl _) ?_)
    | (refine wpl_load rfl 26 (.tmp 4) rfl N rfl 26 4 _ h1 _ undVl.choose_spec.1 undVl.choose_spec.2 szVl ?_)
    | (go_at_call 27; refine (Span_out b ⟨3, vn, sl, c⟩ 0 ((n : Nat) : Int) _ 64 64 (-64) (fun _ => True) (fun _ _ _ _ _ _ => trivial) (by omega) (.inr rfl) (by omega) (base_stack b _ rfl) hin _ (N + 1) hN1 trivial).mono ?_; rintro e w4 ⟨rfl, hb4⟩; replace hh := hh.below hb4 (by omega); replace hb4 := hb1.trans (hb4.mono (by omega)); clear hN1 hb1 h1)
    | fail)
  go_ret
  exact ⟨rfl, below_grew hb4 hN, hh⟩
set_option maxRecDepth 100000 in
set_option maxHeartbeats 8000000 in
theorem Fill_far (b : Nat) (v : Vl) (hv : v.tag = 3) (m : Me) (pb : Option Addr) (n cb : Nat) (hn : n < 1000) (f : Nat) (hin : inB (sn v.n) 0 (-64) 64 = true) (hf : at0 (sn v.n) 0 (-64) = f) (fk : ¬ f + n ≤ 64) (w : World) (N : Nat) (hN : Sz w N) (hh : Has w b 83 193 (meC m)) : Calls Try.prog 12 #[.pointer (some ⟨b, 0, none⟩), vlV v, .slice pb n cb] w fun e w' => e = .returned (.int .i64 14) ∧ Grew (some b) w w' ∧ Has w' b 83 193 (meC (m)) := by
  have HO : Hid (decide (((n : Nat) : Int) ≤ ((64 : Nat) : Int) - ((f : Nat) : Int)) = false) := hid (decide_eq_false (by omega))
  have HF := hid hf
  clear hf
  have hbl := hh.ltN hN
  obtain ⟨tag, vn, sl, c⟩ := v
  simp only at hv
  subst hv
  unfold vlV
  go_enter Try.func12, Try.ntmps12
  go_wp2_with (first
    | (refine wpl_box rfl 26 (.tmp 1) rfl 4 _ rfl N hN ?_; intro w1 hN1 hb1 h1; replace hh := hh.below hb1 (by omega))
    | (refine wpl_run rfl (.int .i64 ((n : Nat) : Int)) _ (run_lenS (x := .tmp 15) (T := 32) undSY rfl rfl _) ?_)
    | (refine wpl_load rfl 26 (.tmp 4) rfl N rfl 26 4 _ h1 _ undVl.choose_spec.1 undVl.choose_spec.2 szVl ?_)
    | (go_at_call 27; refine (Span_in b ⟨3, vn, sl, c⟩ 0 ((n : Nat) : Int) _ 64 64 (-64) (fun _ => True) (fun _ _ _ _ _ _ => trivial) (by omega) (.inr rfl) (base_stack b _ rfl) hin _ (N + 1) hN1 trivial).mono ?_; rintro e w4 ⟨rfl, hb4⟩; rw [HF.out, HO.out]; obtain ⟨M4, hM4⟩ := sz_some w4; have l4 := below_sz hb4 hN1 hM4; replace h1 := h1.below hb4 (by omega); replace hh := hh.below hb4 (by omega); replace hb4 := hb1.trans (hb4.mono (by omega)); clear hN1 hb1)
    | fail)
  go_ret
  exact ⟨rfl, below_grew hb4 hN, hh⟩
theorem Ats.touch0 {w w' : World} {p : Option Addr} {n k : Nat} {g : Nat → Value} (h : Ats w p n g) (t : Touch k w w') (hne : 0 < n → ∀ b, blk p = some b → b ≠ k) : Ats w' p n g := fun h0 => h.touch t (hne h0) h0
set_option maxRecDepth 100000 in
set_option maxHeartbeats 8000000 in
theorem Fill_some (b : Nat) (v : Vl) (hv : v.tag = 3) (m : Me) (bb ob : Nat) (n cb : Nat) (hn : n < 1000) (f : Nat) (D : Nat → W) (hin : inB (sn v.n) 0 (-64) 64 = true) (hf : at0 (sn v.n) 0 (-64) = f) (fk : f + n ≤ 64) (w : World) (N : Nat) (hN : Sz w N) (hh : Has w b 83 193 (meC m)) (hA : Ats w (some ⟨bb, ob, none⟩) n (fun j => Yv (D j))) (hne : 0 < n → bb ≠ b) : Calls Try.prog 12 #[.pointer (some ⟨b, 0, none⟩), vlV v, .slice (some ⟨bb, ob, none⟩) n cb] w fun e w' => e = .returned (.int .i64 0) ∧ Grew (some b) w w' ∧ Has w' b 83 193 (meC (fiM m f n D)) := by
  have HO : Hid (decide (((n : Nat) : Int) ≤ ((64 : Nat) : Int) - ((f : Nat) : Int)) = true) := hid (decide_eq_true (by omega))
  have HF := hid hf
  have hf64 : f ≤ 64 := by omega
  clear hf
  have hbl := hh.ltN hN
  obtain ⟨tag, vn, sl, c⟩ := v
  simp only at hv
  subst hv
  unfold vlV
  go_enter Try.func12, Try.ntmps12
  go_upto_region 8 with (first
    | (refine wpl_box rfl 26 (.tmp 1) rfl 4 _ rfl N hN ?_; intro w1 hN1 hb1 h1; replace hh := hh.below hb1 (by omega); replace hA := hA.below hN hb1)
    | (refine wpl_run rfl (.int .i64 ((n : Nat) : Int)) _ (run_lenS (x := .tmp 15) (T := 32) undSY rfl rfl _) ?_)
    | (refine wpl_load rfl 26 (.tmp 4) rfl N rfl 26 4 _ h1 _ undVl.choose_spec.1 undVl.choose_spec.2 szVl ?_)
    | (go_at_call 27; refine (Span_in b ⟨3, vn, sl, c⟩ 0 ((n : Nat) : Int) _ 64 64 (-64) (fun _ => True) (fun _ _ _ _ _ _ => trivial) (by omega) (.inr rfl) (base_stack b _ rfl) hin _ (N + 1) hN1 trivial).mono ?_; rintro e w4 ⟨rfl, hb4⟩; rw [HF.out, HO.out]; obtain ⟨M4, hM4⟩ := sz_some w4; have l4 := below_sz hb4 hN1 hM4; replace h1 := h1.below hb4 (by omega); replace hh := hh.below hb4 (by omega); replace hA := hA.below hN1 hb4; replace hb4 := hb1.trans (hb4.mono (by omega)); clear hN1 hb1)
    | (refine wpl_want (by rfl) ?_; refine wpl_load rfl 26 (.tmp 4) rfl N rfl 26 4 _ h1 _ undVl.choose_spec.1 undVl.choose_spec.2 szVl ?_)
    | (go_at_call 32; refine (Writable_stack b ⟨3, vn, sl, c⟩ rfl _ M4 hM4).mono ?_; rintro e w5 ⟨rfl, hb5⟩; obtain ⟨M5, hM5⟩ := sz_some w5; have l5 := below_sz hb5 hM4 hM5; replace h1 := h1.below hb5 (by omega); replace hh := hh.below hb5 (by omega); replace hA := hA.below hM4 hb5; replace hb4 := hb4.trans (hb5.mono (by omega)); have c0 : w5.cell? ⟨N, 0, none⟩ = some (.int .i64 3) := h1.cell (j := 0) (by omega); clear hM4 hb5)
    | (refine wpl_run rfl (.int .i64 ((n : Nat) : Int)) _ (run_lenS (x := .tmp 34) (T := 32) undSY rfl rfl _) ?_)
    | (go_at_call 34; refine (Write_any b m f n fk _ hh).mono ?_; rintro e w6 ⟨rfl, -, T6, h6⟩; replace hA := hA.touch0 T6 (fun h0 k hk => by have := hne h0; simp [blk] at hk; omega); have g6 := (below_grew (b := some b) hb4 hN).trans (touch_grew T6); clear T6 hb4 hh h1 c0)
    | fail)
  go_wp2_with (first
    | (refine wpl_run rfl (.slice (some ⟨b, soff 32 f 64, none⟩) (64 - f) (64 - f)) _ (run_slL 32 5 (.tmp 37) (.tmp 38) rfl rfl rfl undSY szY1 hf64 (Nat.le_refl _) _) ?_)
    | (refine wpl_copy rfl (.tmp 39) (.tmp 40) 32 32 rfl 5 undSY szY1 b (soff 32 f 64) (64 - f) (64 - f) rfl ⟨bb, ob, none⟩ n cb rfl 83 193 _ h6 n (fun j => Yv (D j)) (Nat.min_eq_left (by omega)).symm (fun j hj => by rw [Addr.add_mid]; exact at_L hA hj) (by unfold soff; split <;> omega) (fun _ _ => rfl) ?_; intro w7 t7 h7; replace h7 := h7.congr (fun j _ => lay_fi m f n D fk j); replace g6 := grew_touch g6 t7; clear h6 t7)
    | fail)
  go_ret
  exact ⟨rfl, g6, h7⟩
end Go.Proofs.Ytjcjmlmdcjkceaa
