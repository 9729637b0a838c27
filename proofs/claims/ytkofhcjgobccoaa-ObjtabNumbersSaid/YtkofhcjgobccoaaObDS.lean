/- Contracts of objtab at string: slices.Delete, Drop. -/
import Derived.Test.YtkofhcjgobccoaaObS
import Derived.Test.YtkofhcjgobccoaaQTail
namespace Go.Proofs.Ytkofhcjgobccoaa
open Go Go.RowKit
set_option maxRecDepth 100000 in
set_option maxHeartbeats 1000000 in
theorem DeleteS_any (g n cap k : Nat) (E : Nat → En ByteArray) (hk : k < n) (hn : n ≤ 1000) (w : World) (hE : OwnK w 43 3 (some ⟨g, 0, none⟩) n cap (enC Value.string E)) :
    Calls Try.prog 12 #[.slice (some ⟨g, 0, none⟩) n cap, .int .i64 (k : Int), .int .i64 ((k : Int) + 1)] w fun e w' => e = .returned (.slice (some ⟨g, 0, none⟩) (n - 1) cap) ∧ Touch g w w' ∧ OwnK w' 43 3 (some ⟨g, 0, none⟩) (n - 1) cap (enC Value.string (delE E k)) := by
  have hcap := hE.le
  have e1 : ((k : Int) == (k : Int) + 1) = false := by rw [beq_eq_false_iff_ne]; omega
  have s1 : ∀ w, (Instr.sliceAt 38 (.slice (some ⟨g, 0, none⟩) n cap) (some (.int .i64 (k : Int))) (some (.int .i64 ((k : Int) + 1))) (some (.int .i64 (n : Int)))).run Try.prog w = .ok (.slice (some ⟨g, k * 3, none⟩) (k + 1 - k) (n - k)) w := fun w =>
    run_cut_three 38 43 3 undES szES g n cap k (k + 1) n (by omega) (by omega) (by omega) (by omega) w
  have s2 : ∀ w, (Instr.sliceAt 38 (.slice (some ⟨g, 0, none⟩) n cap) none (some (.int .i64 (k : Int))) none).run Try.prog w = .ok (.slice (some ⟨g, 0, none⟩) k cap) w := fun w =>
    run_cut_front 38 43 3 undES szES g n cap k (by omega) w
  have s3 : ∀ w, (Instr.sliceAt 38 (.slice (some ⟨g, 0, none⟩) n cap) (some (.int .i64 ((k : Int) + 1))) none none).run Try.prog w = .ok (.slice (if cap = k + 1 then some ⟨g, 0, none⟩ else (some (⟨g, 0, none⟩ : Addr)).map (·.add ((k + 1) * 3))) (n - (k + 1)) (cap - (k + 1))) w := fun w =>
    run_cut_tail 38 43 3 undES szES (some ⟨g, 0, none⟩) n cap (k + 1) (by omega) w
  obtain ⟨q, hq⟩ : ∃ q, q = (if cap = k + 1 then some ⟨g, 0, none⟩ else (some (⟨g, 0, none⟩ : Addr)).map (·.add ((k + 1) * 3))) := ⟨_, rfl⟩
  rw [← hq] at s3
  have Hc : ∀ w' : World, OwnK w' 43 3 (some ⟨g, 0, none⟩) n cap (enC Value.string E) → Cells w' q ((n - (k + 1)) * 3) (fun j => enC Value.string E ((k + 1) * 3 + j)) := fun w' hO h0 => by
    obtain ⟨g', hg, hc⟩ := hO.cell (by omega)
    obtain rfl : g = g' := by injection hg with hg; injection hg
    refine ⟨⟨g, (k + 1) * 3, none⟩, ?_, fun j hj => ?_⟩
    · rw [hq, if_neg (by omega)]
      simp [Addr.add_mid]
    · have := hc ((k + 1) * 3 + j) (by omega)
      rw [Nat.zero_add] at this
      rw [Addr.add_mid, this]
  have HC := hid Hc
  clear hq Hc
  obtain ⟨m, hm⟩ : ∃ m, m = n - (k + 1) := ⟨_, rfl⟩
  have hkm : n - 1 = k + m := by omega
  obtain ⟨r, hr⟩ : ∃ r, r = n - 1 := ⟨_, rfl⟩
  have s4 : ∀ w, (Instr.sliceAt 38 (.slice (some ⟨g, 0, none⟩) r cap) (some (.int .i64 (r : Int))) (some (.int .i64 (n : Int))) none).run Try.prog w = .ok (.slice (some ⟨g, r * 3, none⟩) 1 (cap - r)) w := fun w => by
    have := run_cut_mid 38 43 3 undES szES g r cap r n (by omega) (by omega) (by omega) w
    rwa [show n - r = 1 by omega] at this
  rw [← hm] at s3 HC
  rw [← hr] at hkm ⊢
  have hrn : r + 1 ≤ n := by omega
  have Hkm := hid hkm
  have Hrn := hid (show r = n - 1 from hr)
  have hkm' : k + m ≤ cap := by omega
  have hkr : k ≤ r := by omega
  clear hr hm hkm
  go_enter Try.func12, Try.ntmps12
  go_wp2
  refine wp_region_quiet_tail 6 (by kernel_rfl) (by kernel_rfl) ?_
  simp only [List.take_succ_cons, List.take_zero, List.drop_succ_cons, List.drop_zero]
  repeat go_big_quiet_step (fail)
  refine wpQuiet_nil ?_
  rintro w1 ⟨x, rfl⟩
  have E1 : OwnK (w.drewN x) 43 3 (some ⟨g, 0, none⟩) n cap (enC Value.string E) := hE
  have T1 : Touch g w (w.drewN x) := ⟨rfl, rfl, rfl, rfl, fun _ _ => rfl⟩
  generalize w.drewN x = w1 at *
  clear hE
  refine wpl_app_room rfl (.tmp 22) (.tmp 25) 38 rfl 43 3 (by omega) undES kES g k cap rfl (enC Value.string E) (E1.cut (by omega)) q m (cap - (k + 1)) rfl (fun j => enC Value.string E ((k + 1) * 3 + j)) (HC.out w1 E1) (fun j _ => enC_one (fun _ => rfl) _ _) r Hkm.out hkm' ?_
  intro w2 E2 T2
  have E2' : OwnK w2 43 3 (some ⟨g, 0, none⟩) r cap (enC Value.string (delE E k)) := E2.congr (fun j hj => cat_del Value.string E k n hk j (by have := Hrn.out; omega))
  have T12 : Touch g w w2 := ⟨T2.os.trans T1.os, T2.tape.trans T1.tape, T2.output.trans T1.output, T2.size.trans T1.size, fun i hi => (T2.block i hi).trans (T1.block i hi)⟩
  clear E1 E2 T1 T2 HC s1 s2 s3
  go_wp2_with (first
    | (refine wpl_clear_last rfl (.tmp 31) 38 rfl 43 3 (.agg (cellsOf (oneC Value.string ⟨0, 0, ⟨#[]⟩⟩) 3)) undES zES rfl (by omega) (fun j h => by simp only [Value.cells, cellsOf, List.getElem_toArray, List.getElem_map]; exact oneC_one (fun _ => rfl) _ _) g r cap (cap - r) rfl _ E2' (by omega) ?_; intro w3 E3 T3)
    | fail)
  go_ret
  exact ⟨rfl, ⟨T3.os.trans T12.os, T3.tape.trans T12.tape, T3.output.trans T12.output, T3.size.trans T12.size, fun i hi => (T3.block i hi).trans (T12.block i hi)⟩, E3⟩
set_option maxRecDepth 100000 in
theorem ODropS_more (b : Nat) (size last : Int) (p : Option Addr) (n cap : Nat) (E : Nat → En ByteArray) (z : Int) (k : Nat) (hk : k < n) (hz : (E k).id = z) (hl : ∀ i, i < k → (E i).id ≠ z) (h0 : 2 ≤ (E k).held) (h1 : (E k).held ≤ 1000) (hn : n ≤ 1000) (w : World) (N : Nat) (hN : Sz w N) (hO : ObS w b size last p n cap E) :
    Calls Try.prog 7 #[.pointer (some ⟨b, 0, none⟩), .int .i64 z] w fun e w' => e = .returned (.tuple #[.bool false, .int .i64 0]) ∧ Turn (fun j => blk p = some j) w w' ∧ ObS w' b size last p n cap (setE E k ⟨(E k).id, (E k).held - 1, (E k).x⟩) := by
  obtain ⟨g, rfl⟩ := hO.ptr (by omega)
  have hgb := hO.ne g rfl
  have hlt : (k : Int) < (n : Int) := by omega
  obtain ⟨h, hh⟩ : ∃ h, h = (E k).held := ⟨_, rfl⟩
  rw [← hh] at h0 h1
  have hpos : 0 < h - 1 := by omega
  have Hh := hid hh
  clear hh
  go_enter Try.func7, Try.ntmps7
  go_wp2_with (first
    | (go_at_call 11; refine (placeS_at b size last _ n cap E z k hk hz hl hn _ N hN hO).mono ?_; rintro e w1 ⟨rfl, hb1⟩; have O1 := hO.below hN hb1; have d2 := O1.c2; have dk : w1.cell? ⟨g, k * 3 + 1, none⟩ = some (.int .i64 h) := (O1.at k hk 1 (by omega)).trans (by show some (Value.int .i64 (E k).held) = _; rw [Hh.out]); clear hz hl)
    | (refine wpl_setK rfl 3 (.tmp 28) (.tmp 26) rfl g (k * 3 + 1) rfl (.int .i64 (h - 1)) rfl intSzS rfl rfl 43 3 n cap _ O1.e (by omega) ?_; intro w2 ht2 o2; clear d2 dk; have O2 : ObS w2 b size last (some ⟨g, 0, none⟩) n cap (setE E k ⟨(E k).id, h - 1, (E k).x⟩) := ⟨O1.h.touch ht2 (fun e => hgb e.symm), o2.congr (fun j _ => upd_held _ E k _ j), hO.ne⟩; have d2 := O2.c2; have dk : w2.cell? ⟨g, k * 3 + 1, none⟩ = some (.int .i64 (h - 1)) := (O2.at k hk 1 (by omega)).trans (by show some (Value.int .i64 (setE E k ⟨(E k).id, h - 1, (E k).x⟩ k).held) = _; unfold setE; rw [if_pos rfl]))
    | fail)
  go_ret2
  rw [← Hh.out]
  exact ⟨rfl, (turn_below hN hb1 _).trans ht2.turn (fun j hj _ => by subst hj; rfl), O2⟩
set_option maxRecDepth 100000 in
theorem ODropS_last (b : Nat) (size last : Int) (p : Option Addr) (n cap : Nat) (E : Nat → En ByteArray) (z : Int) (k : Nat) (hk : k < n) (hz : (E k).id = z) (hl : ∀ i, i < k → (E i).id ≠ z) (h1 : (E k).held = 1) (hn : n ≤ 1000) (w : World) (N : Nat) (hN : Sz w N) (hO : ObS w b size last p n cap E) :
    Calls Try.prog 7 #[.pointer (some ⟨b, 0, none⟩), .int .i64 z] w fun e w' => e = .returned (.tuple #[.bool true, .int .i64 0]) ∧ Turn (fun j => j = b ∨ blk p = some j) w w' ∧ ObS w' b size last p (n - 1) cap (delE E k) := by
  obtain ⟨g, rfl⟩ := hO.ptr (by omega)
  have hgb := hO.ne g rfl
  have hlt : (k : Int) < (n : Int) := by omega
  have k0 : (0 : Int) ≤ (k : Int) := by omega
  have k1 : (k : Int) ≤ 1000 := by omega
  have Hh := hid h1
  clear h1
  go_enter Try.func7, Try.ntmps7
  go_wp2_with (first
    | (go_at_call 11; refine (placeS_at b size last _ n cap E z k hk hz hl hn _ N hN hO).mono ?_; rintro e w1 ⟨rfl, hb1⟩; have O1 := hO.below hN hb1; have d2 := O1.c2; have dk : w1.cell? ⟨g, k * 3 + 1, none⟩ = some (.int .i64 1) := (O1.at k hk 1 (by omega)).trans (by show some (Value.int .i64 (E k).held) = _; rw [Hh.out]); clear hz hl)
    | (refine wpl_setK rfl 3 (.tmp 28) (.tmp 26) rfl g (k * 3 + 1) rfl (.int .i64 0) rfl intSzS rfl rfl 43 3 n cap _ O1.e (by omega) ?_; intro w2 ht2 o2; clear d2 dk; have O2 : ObS w2 b size last (some ⟨g, 0, none⟩) n cap (setE E k ⟨(E k).id, 0, (E k).x⟩) := ⟨O1.h.touch ht2 (fun e => hgb e.symm), o2.congr (fun j _ => upd_held _ E k _ j), hO.ne⟩; have d2 := O2.c2; have dk : w2.cell? ⟨g, k * 3 + 1, none⟩ = some (.int .i64 0) := (O2.at k hk 1 (by omega)).trans (by show some (Value.int .i64 (setE E k ⟨(E k).id, 0, (E k).x⟩ k).held) = _; unfold setE; rw [if_pos rfl]))
    | (go_at_call 12; refine (DeleteS_any g n cap k _ hk hn _ O2.e).mono ?_; rintro e w3 ⟨rfl, ht3, e3⟩; have h3 := O2.h.touch ht3 (fun e => hgb e.symm); clear d2 dk)
    | (refine wpl_set rfl 38 (.tmp 48) (.tmp 46) rfl b 2 rfl (.slice (some ⟨g, 0, none⟩) (n - 1) cap) rfl szSlS rfl rfl 40 3 _ h3 (by omega) ?_; intro w4 ht4 hh4)
    | fail)
  go_ret2
  refine ⟨rfl, (((turn_below hN hb1 _).trans ht2.turn (fun j hj _ => .inr (by subst hj; rfl))).trans ht3.turn (fun j hj _ => .inr (by subst hj; rfl))).trans ht4.turn (fun j hj _ => .inl hj), hh4.congr (fun j hj => ?_), (e3.touch ht4 (fun g' hg' => hO.ne g' hg')).congr (fun j hj => enC_congr (n := n - 1) (fun i hi => ?_) j hj), hO.ne⟩
  · unfold upd obC
    rcases (show j = 0 ∨ j = 1 ∨ j = 2 by omega) with rfl | rfl | rfl <;> rfl
  · unfold delE setE
    by_cases h : i < k
    · rw [if_pos h, if_pos h, if_neg (by omega)]
    · rw [if_neg h, if_neg h, if_neg (by omega)]
end Go.Proofs.Ytkofhcjgobccoaa
