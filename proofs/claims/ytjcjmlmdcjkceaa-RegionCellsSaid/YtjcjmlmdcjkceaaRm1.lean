/- A program's memory: where bytes are. -/
import Derived.Test.YtjcjmlmdcjkceaaRm0
namespace Go.Proofs.Ytjcjmlmdcjkceaa
open Go Go.RowKit
/-- Where n bytes are: the first one's index, if they are there. -/
def inB (A off least : Int) (len : Nat) : Bool := decide (least ≤ A + off ∧ A + off ≤ least + len)
def at0 (A off least : Int) : Nat := (A + off - least).toNat
/-- What is known of a value's bytes: the slice, and the least place. -/
def BaseOf (b : Nat) (v : Vl) (p : Option Addr) (len cap : Nat) (least : Int) (I : World → Prop) : Prop :=
  ∀ (w : World) (N : Nat), Sz w N → I w → Calls Try.prog 47 #[.pointer (some ⟨b, 0, none⟩), vlV v] w fun e w' => e = .returned (.tuple #[.slice p len cap, .int .i64 least, .bool true]) ∧ Below N w w'
theorem fit_in {A off : Int} (h : -9223372036854775808 ≤ A + off) (h2 : A + off < 9223372036854775808) : wrap64 (A + off) = A + off ∧ fitB A off = true := by
  have e := wrap_id h h2
  refine ⟨e, ?_⟩
  unfold fitB; rw [e, beq_iff_eq]
  by_cases x : off < 0
  · rw [decide_eq_true (by omega), decide_eq_true x]
  · rw [decide_eq_false (by omega), decide_eq_false x]
theorem fit_eq {A off : Int} (hA : -9223372036854775808 ≤ A ∧ A < 9223372036854775808) (ho : -9223372036854775808 ≤ off ∧ off < 9223372036854775808) (h : fitB A off = true) : wrap64 (A + off) = A + off := by
  unfold fitB at h
  rw [beq_iff_eq, decide_eq_decide] at h
  have h1 := h.1
  have h2 := h.2
  unfold wrap64 at *
  omega
theorem span_out {A off least : Int} {len : Nat} (hl : len < 1000000) (hls : least = 0 ∨ least = -64) (hA : -9223372036854775808 ≤ A ∧ A < 9223372036854775808) (ho : -9223372036854775808 ≤ off ∧ off < 9223372036854775808) (h : inB A off least len = false) (s : Int) (hs : wrap64 (A + off) = s) :
    fitB A off = true → decide (s < least) = false → decide (least + (len : Int) < s) = false → False := by
  intro h1 h2 h3
  rw [fit_eq hA ho h1] at hs
  subst hs
  have h2 := of_decide_eq_false h2
  have h3 := of_decide_eq_false h3
  exact of_decide_eq_false h ⟨by omega, by omega⟩
theorem span_in {A off least : Int} {len : Nat} (hl : len < 1000000) (hls : least = 0 ∨ least = -64) (h : inB A off least len = true) :
    wrap64 (A + off) = least + ((at0 A off least : Nat) : Int) ∧ fitB A off = true ∧ (at0 A off least : Nat) ≤ len := by
  have h := of_decide_eq_true h
  obtain ⟨e1, e2⟩ := fit_in (A := A) (off := off) (by omega) (by omega)
  refine ⟨?_, e2, ?_⟩
  · rw [e1]; unfold at0; omega
  · unfold at0; omega
set_option maxRecDepth 100000 in
set_option maxHeartbeats 4000000 in
theorem Span_out (b : Nat) (v : Vl) (off n : Int) (p : Option Addr) (len cap : Nat) (least : Int) (I : World → Prop) (hI : ∀ w w' N, Sz w N → Below N w w' → I w → I w') (hl : len < 1000000) (hls : least = 0 ∨ least = -64) (ho : -9223372036854775808 ≤ off ∧ off < 9223372036854775808)
    (hB : BaseOf b v p len cap least I) (hin : inB (sn v.n) off least len = false) (w : World) (N : Nat) (hN : Sz w N) (hw : I w) : Calls Try.prog 27 #[.pointer (some ⟨b, 0, none⟩), vlV v, .int .i64 off, .int .i64 n] w fun e w' => e = .returned (.tuple #[.slice none 0 0, .int .i64 0, .bool false]) ∧ Below N w w' := by
  obtain ⟨A, eA⟩ : ∃ A, sn v.n = A := ⟨_, rfl⟩
  have hA : -9223372036854775808 ≤ A ∧ A < 9223372036854775808 := by rw [← eA]; exact ⟨sn_lo v.n, sn_hi v.n⟩
  rw [eA] at hin
  obtain ⟨s, es⟩ : ∃ s, wrap64 (A + off) = s := ⟨_, rfl⟩
  obtain ⟨fit, ef⟩ : ∃ x, fitB A off = x := ⟨_, rfl⟩
  obtain ⟨r1, e1⟩ : ∃ x, decide (s < least) = x := ⟨_, rfl⟩
  obtain ⟨r2, e2⟩ : ∃ x, decide (least + (len : Int) < s) = x := ⟨_, rfl⟩
  have hno := span_out hl hls hA ho hin s es
  rw [ef, e1, e2] at hno
  have HNO := hid hno
  have EA := hid eA
  have ES := hid es
  have EF := hid ef
  have E1 := hid e1
  have E2 := hid e2
  have HI := hid hI
  have HL := hid hl
  have HS := hid hls
  clear hno eA es ef e1 e2 hin hI hA ho hl hls
  unfold vlV
  go_enter Try.func27, Try.ntmps27
  go_wp2_with (first
    | (refine wpl_box rfl 26 (.tmp 1) rfl 4 _ rfl N hN ?_; intro w1 hN1 hb1 h1; replace hw := HI.out _ _ _ hN hb1 hw; have c1 : w1.cell? ⟨N, 1, none⟩ = some (Q v.n) := h1.cell (j := 1) (by omega))
    | (refine wpl_load rfl 26 (.tmp 5) rfl N rfl 26 4 _ h1 _ undVl.choose_spec.1 undVl.choose_spec.2 szVl ?_)
    | (go_at_call 47; refine (hB _ _ hN1 hw).mono ?_; rintro e w2 ⟨rfl, hb2⟩; replace c1 := keep_c hb2 hN1 c1; replace hb2 := hb1.trans (hb2.mono (by omega)); clear hb1 hN1 h1 hw)
    | (refine wpl_run rfl (.int .i64 A) _ (by rw [← EA.out]; exact run_us (x := .tmp 26) rfl und64 undI64 rfl _) ?_)
    | (go_at_call 48; refine (Sum_any A off _).mono ?_; rintro e w3 ⟨rfl, rfl⟩; rw [ES.out, EF.out])
    | (refine wpl_want (by rfl) ?_; refine wpl_run rfl (.bool r1) _ (run_lssI (x := .tmp 39) (y := .tmp 40) rfl rfl rfl E1.out _) ?_; cases r1)
    | (refine wpl_want (by rfl) ?_; refine wpl_run rfl (.int .i64 ((len : Nat) : Int)) _ (run_lenS (x := .tmp 46) (T := 32) (by kernel_rfl) rfl rfl _) ?_)
    | (refine wpl_want (by rfl) ?_; refine wpl_run rfl (.int .i64 (least + ((len : Nat) : Int))) _ (by rw [← wrap_id (x := least + ((len : Nat) : Int)) (by have := HS.out; omega) (by have := HS.out; have := HL.out; omega)]; exact run_addI (x := .tmp 45) (y := .tmp 47) rfl rfl rfl _) ?_)
    | (refine wpl_want (by rfl) ?_; refine wpl_run rfl (.bool r2) _ (run_gtrI (x := .tmp 44) (y := .tmp 48) rfl rfl rfl E2.out _) ?_; cases r2)
    | fail)
  all_goals (first | exact bodyPost_ret (results_tmp3 rfl _ _ _) rfl ⟨rfl, hb2⟩ | exact (HNO.out (by assumption) trivial trivial).elim)
set_option maxRecDepth 100000 in
set_option maxHeartbeats 4000000 in
theorem Span_in (b : Nat) (v : Vl) (off n : Int) (p : Option Addr) (len cap : Nat) (least : Int) (I : World → Prop) (hI : ∀ w w' N, Sz w N → Below N w w' → I w → I w') (hl : len < 1000000) (hls : least = 0 ∨ least = -64) 
    (hB : BaseOf b v p len cap least I) (hin : inB (sn v.n) off least len = true) (w : World) (N : Nat) (hN : Sz w N) (hw : I w) : Calls Try.prog 27 #[.pointer (some ⟨b, 0, none⟩), vlV v, .int .i64 off, .int .i64 n] w fun e w' => e = .returned (.tuple #[.slice p len cap, .int .i64 ((at0 (sn v.n) off least : Nat) : Int), .bool (decide (n ≤ (len : Int) - ((at0 (sn v.n) off least : Nat) : Int)))]) ∧ Below N w w' := by
  obtain ⟨A, eA⟩ : ∃ A, sn v.n = A := ⟨_, rfl⟩
  rw [eA] at hin
  rw [eA]
  obtain ⟨f, efx⟩ : ∃ f, at0 A off least = f := ⟨_, rfl⟩
  obtain ⟨es, ef, hf⟩ := span_in hl hls hin
  rw [efx] at es hf
  rw [efx]
  obtain ⟨s, ess⟩ : ∃ s, s = least + ((f : Nat) : Int) := ⟨_, rfl⟩
  rw [← ess] at es
  have e1 : decide (s < least) = false := decide_eq_false (by omega)
  have e2 : decide (least + (len : Int) < s) = false := decide_eq_false (by omega)
  have fs : wrap64 (s - least) = ((f : Nat) : Int) := by rw [wrap_id (by omega) (by omega)]; omega
  have fl : wrap64 (((len : Nat) : Int) - ((f : Nat) : Int)) = ((len : Nat) : Int) - ((f : Nat) : Int) := wrap_id (by omega) (by omega)
  have FS := hid fs
  have FL := hid fl
  have EA := hid eA
  have ES := hid es
  have EF := hid ef
  have E1 := hid e1
  have E2 := hid e2
  have HI := hid hI
  have HL := hid hl
  have HS := hid hls
  clear eA es ef e1 e2 hin hI hl hls efx fs fl ess hf
  unfold vlV
  go_enter Try.func27, Try.ntmps27
  go_wp2_with (first
    | (refine wpl_box rfl 26 (.tmp 1) rfl 4 _ rfl N hN ?_; intro w1 hN1 hb1 h1; replace hw := HI.out _ _ _ hN hb1 hw; have c1 : w1.cell? ⟨N, 1, none⟩ = some (Q v.n) := h1.cell (j := 1) (by omega))
    | (refine wpl_load rfl 26 (.tmp 5) rfl N rfl 26 4 _ h1 _ undVl.choose_spec.1 undVl.choose_spec.2 szVl ?_)
    | (go_at_call 47; refine (hB _ _ hN1 hw).mono ?_; rintro e w2 ⟨rfl, hb2⟩; replace c1 := keep_c hb2 hN1 c1; replace hb2 := hb1.trans (hb2.mono (by omega)); clear hb1 hN1 h1 hw)
    | (refine wpl_run rfl (.int .i64 A) _ (by rw [← EA.out]; exact run_us (x := .tmp 26) rfl und64 undI64 rfl _) ?_)
    | (go_at_call 48; refine (Sum_any A off _).mono ?_; rintro e w3 ⟨rfl, rfl⟩; rw [ES.out, EF.out])
    | (refine wpl_want (by rfl) ?_; refine wpl_run rfl (.bool false) _ (run_lssI (x := .tmp 39) (y := .tmp 40) rfl rfl rfl E1.out _) ?_)
    | (refine wpl_want (by rfl) ?_; refine wpl_run rfl (.int .i64 ((len : Nat) : Int)) _ (run_lenS (x := .tmp 46) (T := 32) (by kernel_rfl) rfl rfl _) ?_)
    | (refine wpl_want (by rfl) ?_; refine wpl_run rfl (.int .i64 (least + ((len : Nat) : Int))) _ (by rw [← wrap_id (x := least + ((len : Nat) : Int)) (by have := HS.out; omega) (by have := HS.out; have := HL.out; omega)]; exact run_addI (x := .tmp 45) (y := .tmp 47) rfl rfl rfl _) ?_)
    | (refine wpl_want (by rfl) ?_; refine wpl_run rfl (.bool false) _ (run_gtrI (x := .tmp 44) (y := .tmp 48) rfl rfl rfl E2.out _) ?_)
    | fail)
  refine bodyPost_ret (results_tmp3 rfl _ _ _) rfl ⟨?_, hb2⟩
  show Ending.returned (.tuple #[.slice p len cap, .int .i64 (wrap64 (s - least)), .bool (decide (n ≤ wrap64 (((len : Nat) : Int) - wrap64 (s - least))))]) = _
  rw [FS.out, FL.out]
end Go.Proofs.Ytjcjmlmdcjkceaa
