/- A program's memory: bytes of the stack, a copy of them. -/
import Derived.Test.YtjcjmlmdcjkceaaRm4
namespace Go.Proofs.Ytjcjmlmdcjkceaa
open Go Go.RowKit
/-- A slice literal without elements. -/
theorem wpl_lit0 {P : Program} {ops : Array Oper} {rest : List Oper} {o : Oper} {a : Act} {w : World} {Q : Exit → Act → World → Prop} (hgd : o.guard = none) (T E : TypeId) (ho : o.op = .buildSlice T 0 #[]) (ht : P.underlying T = some (.slice E)) (hs : (P.info? E).map (·.size) = some 1)
    (N : Nat) (hN : Sz w N) (f : Nat → Value) (h : ∀ w1, Sz w1 (N + 1) → Below N w w1 → Own w1 E (some ⟨N, 0, none⟩) 0 0 f → wpList P ops Q rest (a.put o.dst (.slice (some ⟨N, 0, none⟩) 0 0)) w1) : wpList P ops Q (o :: rest) a w := by
  cases hq : P.info? E with
  | none => simp [hq] at hs
  | some i =>
    have hi : i.size = 1 := by simpa [hq] using hs
    have e : w.heap.size = N := hN
    subst e
    have hz : Array.map (fun x : Nat => (default : Value)) (Array.range 0) = #[] := by simp
    refine wpl_run hgd (.slice (some ⟨w.heap.size, 0, none⟩) 0 0) (w.alloc (.cells #[] E)) ?_ (h _ (sz_alloc hN _) (below_new w _ _ hN) (.inr ⟨_, #[], rfl, heap_alloc_new w _, Nat.le_refl _, rfl, fun j hj => by omega⟩))
    unfold execOp
    simp [ho, Instr.buildSlice, Sem.run_bind, run_underlying ht, sizeOf, typeInfo, hq, hi, Instr.fill, newRow, run_newObj_alloc, hz]
theorem oneY : OneCell Try.prog 5 := oneCell_of (v := .int .u8 0) (k := 1) (by kernel_rfl) (by omega) rfl
theorem base_ctx (b : Nat) (v : Vl) (hv : v.tag = 2) : BaseOf b v (some ⟨b, 0, none⟩) 32 32 0 (fun _ => True) := fun w N hN _ => BytesOf_ctx b v hv w N hN
theorem ats_X {w : World} {b T : Nat} {m : Me} (hh : Has w b T 193 (meC m)) (f n : Nat) (h : f + n ≤ 32) : Ats w (some ⟨b, soff 0 f 32, none⟩) n (fun j => Yv (m.X (f + j))) := fun h0 =>
  ⟨b, soff 0 f 32, rfl, fun j hj => by unfold soff; rw [if_neg (by omega), Nat.zero_add]; exact (hh.cell (j := f + j) (by omega)).trans (congrArg some (meC_X m (by omega)))⟩
set_option maxRecDepth 100000 in
set_option maxHeartbeats 16000000 in
theorem Load_ctx (b : Nat) (v : Vl) (hv : v.tag = 2) (m : Me) (off : Int) (k f : Nat) (hk : sizeOk k) (hin : inB (sn v.n) off 0 32 = true) (hf : at0 (sn v.n) off 0 = f) (fk : f + k ≤ 32) (w : World) (N : Nat) (hN : Sz w N) (hh : Has w b 83 193 (meC m)) :
    Calls Try.prog 8 #[.pointer (some ⟨b, 0, none⟩), vlV v, .int .i64 off, .int .i64 ((k : Nat) : Int)] w fun e w' => e = .returned (.tuple #[vlV ⟨1, numF (fun j => m.X (f + j)) k, 0, none⟩, .int .i64 0]) ∧ Below N w w' := by
  have HO : Hid (decide (((k : Nat) : Int) ≤ ((32 : Nat) : Int) - ((f : Nat) : Int)) = true) := hid (decide_eq_true (by omega))
  have hk8 : k ≤ 8 ∧ 0 < k := by rcases hk with rfl | rfl | rfl | rfl <;> omega
  have HF := hid hf
  have HK := hid hk
  have hbl := hh.ltN hN
  clear hf hk
  obtain ⟨tag, vn, sl, c⟩ := v
  simp only at hv
  subst hv
  unfold vlV
  go_enter Try.func8, Try.ntmps8
  go_upto_region 4 with (first
    | (refine wpl_box rfl 26 (.tmp 1) rfl 4 _ rfl N hN ?_; intro w1 hN1 hb1 h1; replace hh := hh.below hb1 (by omega))
    | (refine wpl_alloc rfl 26 rfl 4 (vlC zeroV) zeVl (N + 1) hN1 ?_; intro w2 hN2 hb2 h2; replace h1 := h1.below hb2 (by omega); replace hh := hh.below hb2 (by omega); replace hb2 := hb1.trans (hb2.mono (by omega)); clear hb1 hN1)
    | (go_at_call 26; refine (IsSize_ok k HK.out _).mono ?_; rintro e w3 ⟨rfl, rfl⟩)
    | (refine wpl_load rfl 26 (.tmp 5) rfl N rfl 26 4 _ h1 _ undVl.choose_spec.1 undVl.choose_spec.2 szVl ?_)
    | (go_at_call 27; refine (Span_in b ⟨2, vn, sl, c⟩ off ((k : Nat) : Int) _ 32 32 0 (fun _ => True) (fun _ _ _ _ _ _ => trivial) (by omega) (.inl rfl) (base_ctx b _ rfl) hin _ (N + 1 + 1) hN2 trivial).mono ?_; rintro e w4 ⟨rfl, hb4⟩; rw [HF.out, HO.out]; obtain ⟨M4, hM4⟩ := sz_some w4; have l4 := below_sz hb4 hN2 hM4; replace h1 := h1.below hb4 (by omega); replace h2 := h2.below hb4 (by omega); replace hh := hh.below hb4 (by omega); replace hb2 := hb2.trans (hb4.mono (by omega)); clear hN2 hb4)
    | fail)
  have c0 : w4.cell? ⟨N, 0, none⟩ = some (.int .i64 2) := h1.cell (j := 0) (by omega)
  go_wp2_with (first
    | (refine wpl_load rfl 26 (.tmp 5) rfl N rfl 26 4 _ h1 _ undVl.choose_spec.1 undVl.choose_spec.2 szVl ?_)
    | (go_at_call 29; refine (Readable_other b ⟨2, vn, sl, c⟩ (.inl rfl) _ _ _ M4 hM4).mono ?_; rintro e w7 ⟨rfl, hb7⟩; replace h2 := h2.below hb7 (by omega); replace hh := hh.below hb7 (by omega); replace hb2 := hb2.trans (hb7.mono (by omega)); clear h1 hb7)
    | (refine wpl_run rfl (.int .i64 ((f + k : Nat) : Int)) _ (run_addN (x := .tmp 62) (y := .tmp 63) rfl rfl rfl (by omega) _) ?_)
    | (refine wpl_run rfl (.slice (some ⟨b, soff 0 f 32, none⟩) k (32 - f)) _ (run_slSn 32 5 (.tmp 60) (.tmp 61) (.tmp 64) rfl rfl rfl rfl undSY szY1 fk _) ?_)
    | (go_at_call 30; refine (Number_any (some ⟨b, soff 0 f 32, none⟩) k (32 - f) (fun j => m.X (f + j)) (by omega) _ (ats_X hh f k fk)).mono ?_; rintro e w9 ⟨rfl, rfl⟩)
    | (refine wpl_run rfl (.agg (cellsOf (vlC ⟨1, numF (fun j => m.X (f + j)) k, 0, none⟩) 4)) _ (run_bd 26 #[(0, .const (.int .i64 1)), (1, .tmp 66)] rfl (cellsOf (vlC ⟨1, numF (fun j => m.X (f + j)) k, 0, none⟩) 4) (by kernel_rfl) _) ?_)
    | (refine wpl_store rfl 26 (.tmp 8) (.tmp 67) rfl (N + 1) 4 (vlC ⟨1, numF (fun j => m.X (f + j)) k, 0, none⟩) rfl rfl 26 _ h2 szVl (fun j _ => vlC_one _ j) ?_; intro w8 t8 h8; replace hb2 := t8.below hb2 (by omega))
    | fail)
  exact post_cb (x := .int .i64 0) rfl (N + 1) rfl h8 undVl szVl rfl rfl ⟨rfl, hb2⟩
end Go.Proofs.Ytjcjmlmdcjkceaa
