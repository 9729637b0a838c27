/- Contracts of objtab at string: the words, place, New, Get, Held, Hold, Make. -/
import Derived.Test.YtkofhcjgobccoaaChecked
import Derived.Test.YtkofhcjgobccoaaObW
namespace Go.Proofs.Ytkofhcjgobccoaa
open Go Go.RowKit
theorem undES : Try.prog.underlying 38 = some (.slice 43) := by kernel_rfl
theorem szES : (Try.prog.info? 43).map (·.size) = some 3 := by kernel_rfl
theorem szSlS : (Try.prog.info? 38).map (·.size) = some 1 := by kernel_rfl
theorem zES : (Try.prog.info? 43).map (fun i => (i.zero, i.size)) = some (some (.agg (cellsOf (oneC Value.string ⟨0, 0, ⟨#[]⟩⟩) 3)), 3) := by kernel_rfl
theorem kES : KCell Try.prog 43 3 := kCell_of (v := .agg (cellsOf (oneC Value.string ⟨0, 0, ⟨#[]⟩⟩) 3)) (k := 32) (by kernel_rfl) (by omega) rfl
theorem stES : ∃ fs, Try.prog.underlying 43 = some (.struct fs) := by
  have h : (match Try.prog.underlying 43 with | some (.struct _) => true | _ => false) = true := by kernel_rfl
  cases e : Try.prog.underlying 43 with
  | none => rw [e] at h; cases h
  | some d => cases d <;> first | exact ⟨_, rfl⟩ | (rw [e] at h; cases h)
theorem intSzS : (Try.prog.info? 3).map (·.size) = some 1 := by kernel_rfl
/-- A table of objects lies there. -/
structure ObS (w : World) (b : Nat) (size last : Int) (p : Option Addr) (n cap : Nat) (E : Nat → En ByteArray) : Prop where
  h : Has w b 40 3 (obC size last p n cap)
  e : OwnK w 43 3 p n cap (enC Value.string E)
  ne : ∀ g, blk p = some g → g ≠ b
section
variable {w w' : World} {b n cap : Nat} {size last : Int} {p : Option Addr} {E F : Nat → En ByteArray}
theorem ObS.c0 (h : ObS w b size last p n cap E) : w.cell? ⟨b, 0, none⟩ = some (.int .i64 size) := h.h.cell (by omega)
theorem ObS.c1 (h : ObS w b size last p n cap E) : w.cell? ⟨b, 1, none⟩ = some (.int .i64 last) := h.h.cell (by omega)
theorem ObS.c2 (h : ObS w b size last p n cap E) : w.cell? ⟨b, 2, none⟩ = some (.slice p n cap) := h.h.cell (by omega)
theorem ObS.ptr (h : ObS w b size last p n cap E) (h0 : 0 < n) : ∃ g, p = some ⟨g, 0, none⟩ := by
  obtain ⟨g, hg, _⟩ := h.e.cell h0
  exact ⟨g, hg⟩
theorem ObS.at {g : Nat} (h : ObS w b size last (some ⟨g, 0, none⟩) n cap E) (k : Nat) (hk : k < n) (i : Nat) (hi : i < 3) : w.cell? ⟨g, k * 3 + i, none⟩ = some (oneC Value.string (E k) i) := by
  obtain ⟨g', hg, hc⟩ := h.e.cell (by omega)
  obtain rfl : g = g' := by injection hg with hg; injection hg
  have := hc (k * 3 + i) (by omega)
  rw [Nat.zero_add] at this
  rw [this, enC_at _ _ _ _ hi]
theorem ObS.below {N : Nat} (h : ObS w b size last p n cap E) (hN : Sz w N) (hb : Below N w w') : ObS w' b size last p n cap E := ⟨h.h.below hb (h.h.ltN hN), h.e.below hb (Nat.le_of_eq hN), h.ne⟩
theorem ObS.drew (h : ObS w b size last p n cap E) : ObS w.drew b size last p n cap E := ⟨h.h, h.e, h.ne⟩
theorem ObS.turn {S : Nat → Prop} (h : ObS w b size last p n cap E) (t : Turn S w w') (hb : ¬ S b) (hp : ∀ g, blk p = some g → ¬ S g) : ObS w' b size last p n cap E := ⟨h.h.turn t hb, h.e.turn t hp, h.ne⟩
theorem ObS.congr (h : ObS w b size last p n cap E) (e : ∀ k, k < n → E k = F k) : ObS w b size last p n cap F := ⟨h.h, h.e.congr (fun j hj => enC_congr e j hj), h.ne⟩
end
set_option maxRecDepth 100000 in
theorem ONewS_any (n : Nat) (h1 : 1 ≤ n) (h2 : n ≤ 64) (w : World) (N : Nat) (hN : Sz w N) (E : Nat → En ByteArray) :
    Calls Try.prog 4 #[.int .i64 (n : Int)] w fun e w' => e = .returned (.tuple #[.pointer (some ⟨N, 0, none⟩), .int .i64 0]) ∧ Below N w w' ∧ ObS w' N (n : Int) 0 none 0 0 E ∧ Sz w' (N + 1) := by
  have t1 : ¬ ((n : Int) < 1) := by omega
  have t2 : ¬ ((64 : Int) < (n : Int)) := by omega
  go_enter Try.func4, Try.ntmps4
  go_wp2_with (first
    | (refine wpl_build rfl 40 _ rfl (cellsOf (obC (n : Int) 0 none 0 0) 3) (by kernel_rfl) ?_)
    | (refine wpl_box rfl 40 (.tmp 11) rfl 3 _ rfl N hN ?_; intro w1 hN1 hb1 hh1)
    | fail)
  go_ret2
  exact ⟨rfl, hb1, ⟨hh1, OwnK.nil _ _ _ _, fun _ h => by cases h⟩, hN1⟩
set_option maxRecDepth 100000 in
theorem placeS_at (b : Nat) (size last : Int) (p : Option Addr) (n cap : Nat) (E : Nat → En ByteArray) (z : Int) (k : Nat) (hk : k < n) (hz : (E k).id = z) (hl : ∀ i, i < k → (E i).id ≠ z) (hn : n ≤ 1000) (w : World) (N : Nat) (hN : Sz w N) (hO : ObS w b size last p n cap E) :
    Calls Try.prog 11 #[.pointer (some ⟨b, 0, none⟩), .int .i64 z] w fun e w' => e = .returned (.tuple #[.int .i64 (k : Int), .bool true]) ∧ Below N w w' := by
  obtain ⟨g, rfl⟩ := hO.ptr (by omega)
  obtain ⟨fs, hfs⟩ := stES
  have c2 := hO.c2
  have Hl := hid hl
  have Hz := hid hz
  clear hl hz
  go_enter Try.func11, Try.ntmps11
  go_wp2
  go_loopw [13] (fun i wr => ∃ j : Nat, j ≤ k ∧ i = .int .i64 j ∧ Below N w wr) (fun i _ => n - (intOf i).toNat)
  case atStart => exact ⟨0, by omega, rfl, Below.refl _ _⟩
  case round =>
    obtain ⟨j, hj, rfl, qb⟩ := hrel
    obtain ⟨M, hM⟩ := sz_some wr
    have hNM := below_sz qb hN hM
    have hlt : (j : Int) < (n : Int) := by omega
    have Hce := hid (fun i hi => (hO.below hN qb).at j (by omega) i hi)
    by_cases he : j = k
    · subst he
      have ez : ((E j).id == z) = true := by rw [beq_iff_eq]; exact Hz.out
      generalize E j = ej at Hce ez
      go_wp2_with (first
        | (refine wpl_load_cells rfl 43 (.tmp 16) rfl g (j * 3) rfl 3 (oneC Value.string ej) Hce.out _ hfs rfl szES ?_)
        | (refine wpl_alloc rfl 43 rfl 3 _ zES M hM ?_; intro x1 hX1 hb1 ha1)
        | (refine wpl_store rfl 43 (.tmp 7) (.tmp 17) rfl M 3 (oneC Value.string ej) rfl rfl 43 _ ha1 szES (fun j _ => oneC_one (fun _ => rfl) _ j) ?_; intro x2 ht2 ha2; have cs2 : x2.cell? ⟨M, 0, none⟩ = some (.int .i64 ej.id) := ha2.cell (by omega))
        | fail)
      go_ret2
      exact ⟨rfl, qb.trans ((ht2.below hb1 (Nat.le_refl M)).mono hNM)⟩
    · have ez : ((E j).id == z) = false := by rw [beq_eq_false_iff_ne]; exact Hl.out j (by omega)
      generalize E j = ej at Hce ez
      go_wp2_with (first
        | (refine wpl_load_cells rfl 43 (.tmp 16) rfl g (j * 3) rfl 3 (oneC Value.string ej) Hce.out _ hfs rfl szES ?_)
        | (refine wpl_alloc rfl 43 rfl 3 _ zES M hM ?_; intro x1 hX1 hb1 ha1)
        | (refine wpl_store rfl 43 (.tmp 7) (.tmp 17) rfl M 3 (oneC Value.string ej) rfl rfl 43 _ ha1 szES (fun j _ => oneC_one (fun _ => rfl) _ j) ?_; intro x2 ht2 ha2; have cs2 : x2.cell? ⟨M, 0, none⟩ = some (.int .i64 ej.id) := ha2.cell (by omega))
        | fail)
      exact ⟨⟨j + 1, by omega, by go_num, qb.trans ((ht2.below hb1 (Nat.le_refl M)).mono hNM)⟩, by simp [intOf]; omega⟩
set_option maxRecDepth 100000 in
theorem placeS_no (b : Nat) (size last : Int) (p : Option Addr) (n cap : Nat) (E : Nat → En ByteArray) (z : Int) (hl : ∀ i, i < n → (E i).id ≠ z) (hn : n ≤ 1000) (w : World) (N : Nat) (hN : Sz w N) (hO : ObS w b size last p n cap E) :
    Calls Try.prog 11 #[.pointer (some ⟨b, 0, none⟩), .int .i64 z] w fun e w' => e = .returned (.tuple #[.int .i64 0, .bool false]) ∧ Below N w w' := by
  obtain ⟨fs, hfs⟩ := stES
  have c2 := hO.c2
  have Hl := hid hl
  clear hl
  go_enter Try.func11, Try.ntmps11
  go_wp2
  go_loopw [13] (fun i wr => ∃ j : Nat, j ≤ n ∧ i = .int .i64 j ∧ Below N w wr) (fun i _ => n - (intOf i).toNat)
  case atStart => exact ⟨0, by omega, rfl, Below.refl _ _⟩
  case round =>
    obtain ⟨j, hj, rfl, qb⟩ := hrel
    obtain ⟨M, hM⟩ := sz_some wr
    have hNM := below_sz qb hN hM
    by_cases he : j < n
    · have hlt : (j : Int) < (n : Int) := by omega
      obtain ⟨g, rfl⟩ := hO.ptr (by omega)
      have Hce := hid (fun i hi => (hO.below hN qb).at j he i hi)
      have ez : ((E j).id == z) = false := by rw [beq_eq_false_iff_ne]; exact Hl.out j he
      generalize E j = ej at Hce ez
      go_wp2_with (first
        | (refine wpl_load_cells rfl 43 (.tmp 16) rfl g (j * 3) rfl 3 (oneC Value.string ej) Hce.out _ hfs rfl szES ?_)
        | (refine wpl_alloc rfl 43 rfl 3 _ zES M hM ?_; intro x1 hX1 hb1 ha1)
        | (refine wpl_store rfl 43 (.tmp 7) (.tmp 17) rfl M 3 (oneC Value.string ej) rfl rfl 43 _ ha1 szES (fun j _ => oneC_one (fun _ => rfl) _ j) ?_; intro x2 ht2 ha2; have cs2 : x2.cell? ⟨M, 0, none⟩ = some (.int .i64 ej.id) := ha2.cell (by omega))
        | fail)
      exact ⟨⟨j + 1, by omega, by go_num, qb.trans ((ht2.below hb1 (Nat.le_refl M)).mono hNM)⟩, by simp [intOf]; omega⟩
    · go_wp2
      go_ret2
      exact ⟨rfl, qb⟩
set_option maxRecDepth 100000 in
theorem OGetS_ok (b : Nat) (size last : Int) (p : Option Addr) (n cap : Nat) (E : Nat → En ByteArray) (z : Int) (k : Nat) (hk : k < n) (hz : (E k).id = z) (hl : ∀ i, i < k → (E i).id ≠ z) (hn : n ≤ 1000) (w : World) (N : Nat) (hN : Sz w N) (hO : ObS w b size last p n cap E) :
    Calls Try.prog 8 #[.pointer (some ⟨b, 0, none⟩), .int .i64 z] w fun e w' => e = .returned (.tuple #[Value.string (E k).x, .int .i64 0]) ∧ Below N w w' := by
  obtain ⟨g, rfl⟩ := hO.ptr (by omega)
  have hlt : (k : Int) < (n : Int) := by omega
  go_enter Try.func8, Try.ntmps8
  go_wp2_with (first
    | (go_at_call 11; refine (placeS_at b size last _ n cap E z k hk hz hl hn _ N hN hO).mono ?_; rintro e w1 ⟨rfl, hb1⟩; have O1 := hO.below hN hb1; have d2 := O1.c2; have dk : w1.cell? ⟨g, k * 3 + 2, none⟩ = some (Value.string (E k).x) := O1.at k hk 2 (by omega); clear hz hl)
    | fail)
  go_ret2
  exact ⟨rfl, hb1⟩
set_option maxRecDepth 100000 in
theorem OGetS_no (b : Nat) (size last : Int) (p : Option Addr) (n cap : Nat) (E : Nat → En ByteArray) (z : Int) (hl : ∀ i, i < n → (E i).id ≠ z) (hn : n ≤ 1000) (w : World) (N : Nat) (hN : Sz w N) (hO : ObS w b size last p n cap E) :
    Calls Try.prog 8 #[.pointer (some ⟨b, 0, none⟩), .int .i64 z] w fun e w' => e = .returned (.tuple #[Value.string ⟨#[]⟩, .int .i64 2]) ∧ Below N w w' := by
  go_enter Try.func8, Try.ntmps8
  go_wp2_with (first
    | (go_at_call 11; refine (placeS_no b size last p n cap E z hl hn _ N hN hO).mono ?_; rintro e w1 ⟨rfl, hb1⟩; clear hl)
    | fail)
  go_ret2
  exact ⟨rfl, hb1⟩
set_option maxRecDepth 100000 in
theorem OHoldS_ok (b : Nat) (size last : Int) (p : Option Addr) (n cap : Nat) (E : Nat → En ByteArray) (z : Int) (k : Nat) (hk : k < n) (hz : (E k).id = z) (hl : ∀ i, i < k → (E i).id ≠ z) (h0 : 0 ≤ (E k).held) (h1 : (E k).held < 1000) (hn : n ≤ 1000) (w : World) (N : Nat) (hN : Sz w N) (hO : ObS w b size last p n cap E) :
    Calls Try.prog 10 #[.pointer (some ⟨b, 0, none⟩), .int .i64 z] w fun e w' => e = .returned (.int .i64 0) ∧ Turn (fun j => blk p = some j) w w' ∧ ObS w' b size last p n cap (setE E k ⟨(E k).id, (E k).held + 1, (E k).x⟩) := by
  obtain ⟨g, rfl⟩ := hO.ptr (by omega)
  have hgb := hO.ne g rfl
  have hlt : (k : Int) < (n : Int) := by omega
  have ez : ((E k).held == 1000) = false := by rw [beq_eq_false_iff_ne]; omega
  obtain ⟨h, hh⟩ : ∃ h, h = (E k).held := ⟨_, rfl⟩
  rw [← hh] at ez h0 h1
  have Hh := hid hh
  clear hh
  go_enter Try.func10, Try.ntmps10
  go_wp2_with (first
    | (go_at_call 11; refine (placeS_at b size last _ n cap E z k hk hz hl hn _ N hN hO).mono ?_; rintro e w1 ⟨rfl, hb1⟩; have O1 := hO.below hN hb1; have d2 := O1.c2; have dk : w1.cell? ⟨g, k * 3 + 1, none⟩ = some (.int .i64 h) := (O1.at k hk 1 (by omega)).trans (by show some (Value.int .i64 (E k).held) = _; rw [Hh.out]); clear hz hl)
    | (refine wpl_setK rfl 3 (.tmp 36) (.tmp 34) rfl g (k * 3 + 1) rfl (.int .i64 (h + 1)) rfl intSzS rfl rfl 43 3 n cap _ O1.e (by omega) ?_; intro w2 ht2 o2)
    | fail)
  go_ret
  refine ⟨rfl, (turn_below hN hb1 _).trans ht2.turn (fun j hj _ => by subst hj; rfl), O1.h.touch ht2 (fun e => hgb e.symm), o2.congr (fun j _ => ?_), hO.ne⟩
  rw [Hh.out]
  exact upd_held _ E k _ j
set_option maxRecDepth 100000 in
theorem OMakeS_full (b : Nat) (size last : Int) (p : Option Addr) (n cap : Nat) (E : Nat → En ByteArray) (x : ByteArray) (hs : (n : Int) = size) (hn : n ≤ 64) (w : World) (N : Nat) (hN : Sz w N) (hO : ObS w b size last p n cap E) :
    Calls Try.prog 6 #[.pointer (some ⟨b, 0, none⟩), Value.string x] w fun e w' => e = .returned (.tuple #[.int .i64 0, .int .i64 12]) ∧ Below N w w' := by
  subst hs
  go_enter Try.func6, Try.ntmps6
  go_wp2
  have hl2 : ∀ x : Later N w, (Instr.loadAt 38 (.pointer (some ⟨b, 2, none⟩))).run Try.prog x.w' = .ok (.slice p n cap) x.w' := fun x => by
    have c := (hO.below hN x.b).c2
    go_simp
  have hl0 : ∀ x : Later N w, (Instr.loadAt 3 (.pointer (some ⟨b, 0, none⟩))).run Try.prog x.w' = .ok (.int .i64 (n : Int)) x.w' := fun x => by
    have c := (hO.below hN x.b).c0
    go_simp
  refine wp_region_later N (by kernel_rfl) (by kernel_rfl) ?_
  repeat first
    | (refine later_val (fun x => ld_one 38 (.tmp 10) rfl ⟨b, 2, none⟩ rfl _ (hl2 x)) (by rfl) ?_; simp only [Act.put, List.setIfInBounds_toArray, List.set_cons_succ, List.set_cons_zero])
    | (refine later_val (fun x => ld_one 3 (.tmp 15) rfl ⟨b, 0, none⟩ rfl _ (hl0 x)) (by rfl) ?_; simp only [Act.put, List.setIfInBounds_toArray, List.set_cons_succ, List.set_cons_zero])
    | go_big_quiet_step (fail)
  refine wpQuiet_nil ?_
  rintro w5 ⟨x5, e5⟩
  have hb5 := x5.b
  rw [← e5] at hb5
  clear e5 x5 hl2 hl0
  go_wp2
  go_ret2
  exact ⟨rfl, hb5⟩
set_option maxRecDepth 100000 in
set_option maxHeartbeats 1000000 in
theorem OMakeS_ok (b : Nat) (size last : Int) (p : Option Addr) (n cap : Nat) (E : Nat → En ByteArray) (x : ByteArray) (hs : (n : Int) < size) (hn : n ≤ 64) (hla : 0 ≤ last) (hlb : last ≤ 1000000) (w : World) (N : Nat) (hN : Sz w N) (hO : ObS w b size last p n cap E) :
    Calls Try.prog 6 #[.pointer (some ⟨b, 0, none⟩), Value.string x] w fun e w' => ∃ p' cap', e = .returned (.tuple #[.int .i64 (last + 1), .int .i64 0]) ∧ Turn (fun j => j = b ∨ blk p = some j) w w' ∧ (∀ g, blk p' = some g → blk p = some g ∨ N ≤ g) ∧
      ObS w' b size (last + 1) p' (n + 1) cap' (setE E n ⟨last + 1, 1, x⟩) := by
  have t1 : ¬ (size ≤ (n : Int)) := by omega
  have hbN : b < N := hO.h.ltN hN
  go_enter Try.func6, Try.ntmps6
  go_wp2
  have hl2 : ∀ x : Later N w, (Instr.loadAt 38 (.pointer (some ⟨b, 2, none⟩))).run Try.prog x.w' = .ok (.slice p n cap) x.w' := fun x => by
    have c := (hO.below hN x.b).c2
    go_simp
  have hl0 : ∀ x : Later N w, (Instr.loadAt 3 (.pointer (some ⟨b, 0, none⟩))).run Try.prog x.w' = .ok (.int .i64 size) x.w' := fun x => by
    have c := (hO.below hN x.b).c0
    go_simp
  refine wp_region_later N (by kernel_rfl) (by kernel_rfl) ?_
  repeat first
    | (refine later_val (fun x => ld_one 38 (.tmp 10) rfl ⟨b, 2, none⟩ rfl _ (hl2 x)) (by rfl) ?_; simp only [Act.put, List.setIfInBounds_toArray, List.set_cons_succ, List.set_cons_zero])
    | (refine later_val (fun x => ld_one 3 (.tmp 15) rfl ⟨b, 0, none⟩ rfl _ (hl0 x)) (by rfl) ?_; simp only [Act.put, List.setIfInBounds_toArray, List.set_cons_succ, List.set_cons_zero])
    | go_big_quiet_step (fail)
  refine wpQuiet_nil ?_
  rintro w5 ⟨x5, e5⟩
  have hb5 := x5.b
  rw [← e5] at hb5
  clear e5 x5 hl2 hl0
  have O5 := hO.below hN hb5
  have c1 := O5.c1
  go_wp2_with (first
    | (refine wpl_set rfl 3 (.tmp 24) (.tmp 22) rfl b 1 rfl (.int .i64 (last + 1)) rfl intSzS rfl rfl 40 3 _ O5.h (by omega) ?_; intro w6 ht6 hh6)
    | fail)
  have h6 : Has w6 b 40 3 (obC size (last + 1) p n cap) := hh6.congr (fun j hj => by
    unfold upd obC
    rcases (show j = 0 ∨ j = 1 ∨ j = 2 by omega) with rfl | rfl | rfl <;> rfl)
  have e6 := O5.e.touch ht6 (fun g hg => O5.ne g hg)
  have T6 : Turn (fun j => j = b ∨ blk p = some j) w w6 := (turn_below hN hb5 _).trans ht6.turn (fun j hj _ => .inl hj)
  obtain ⟨M, hM⟩ := sz_some w6
  have hNM : N ≤ M := sz_turn T6 hN hM
  clear c1 hh6 ht6 O5 hb5
  have hlA : ∀ w', Has w' b 40 3 (obC size (last + 1) p n cap) → (Instr.loadAt 38 (.pointer (some ⟨b, 2, none⟩))).run Try.prog w' = .ok (.slice p n cap) w' := fun w' h => by
    have c : w'.cell? ⟨b, 2, none⟩ = some (.slice p n cap) := h.cell (by omega)
    go_simp
  have hlB : ∀ w', Has w' b 40 3 (obC size (last + 1) p n cap) → (Instr.loadAt 3 (.pointer (some ⟨b, 1, none⟩))).run Try.prog w' = .ok (.int .i64 (last + 1)) w' := fun w' h => by
    have c : w'.cell? ⟨b, 1, none⟩ = some (.int .i64 (last + 1)) := h.cell (by omega)
    go_simp
  refine wp_region_any (by kernel_rfl) ?_
  change wpAny _ _ _ _ _ _ _ (World.drew _)
  refine anyT_any (s := 15) (I := fun w' => Has w' b 40 3 (obC size (last + 1) p n cap)) _ _ _ _ ?_
  have hne := inn_ne (I := fun w' => Has w' b 40 3 (obC size (last + 1) p n cap)) h6
  refine anyT_reads [0, 1, 2, 3, 4, 5, 6, 7, 8, 9, 10] _ _ _ h6.drew (by kernel_rfl) (fun _ _ _ d _ h => by cases d <;> exact h) ?_
  simp only [pickO, List.map_cons, List.map_nil, List.getElem?_toArray, List.getElem?_cons_succ, List.getElem?_cons_zero, Option.getD_some, Act.put, List.setIfInBounds_toArray, List.set_cons_succ, List.set_cons_zero]
  repeat first
    | (refine inn_val (fun x => ld_one 38 (.tmp 28) rfl ⟨b, 2, none⟩ rfl _ (hlA x.w' x.h)) (by rfl) ?_; simp only [Act.put, List.setIfInBounds_toArray, List.set_cons_succ, List.set_cons_zero])
    | (refine inn_val (fun x => ld_one 3 (.tmp 32) rfl ⟨b, 1, none⟩ rfl _ (hlB x.w' x.h)) (by rfl) ?_; simp only [Act.put, List.setIfInBounds_toArray, List.set_cons_succ, List.set_cons_zero])
    | go_big_quiet_step (fail)
  refine wpQuiet_nil ?_
  clear hne hlA hlB
  have hMd : Sz w6.drew M := hM
  have hd := h6.drew
  have ed := e6.drew
  have Td : Turn (fun j => j = b ∨ blk p = some j) w w6.drew := T6.trans (turn_drew (fun _ => False) w6) (fun _ h => h.elim)
  clear h6 e6 T6 hM
  generalize World.drew w6 = wd at *
  refine anyT_one 11 _ _ _ _ (by kernel_rfl) ?_
  simp only [List.filterMap_cons, List.filterMap_nil, List.getElem?_toArray, List.getElem?_cons_succ, List.getElem?_cons_zero]
  refine wpl_runs rfl (.slice (some ⟨wd.heap.size, 0, none⟩) 1 1) (wd.alloc (.cells #[.int .i64 (last + 1), .int .i64 1, Value.string x] 43)) (by go_simp) ?_
  have em : wd.heap.size = M := hMd
  have h1 := hd.alloc (.cells #[.int .i64 (last + 1), .int .i64 1, Value.string x] 43)
  have e1 := ed.alloc (.cells #[.int .i64 (last + 1), .int .i64 1, Value.string x] 43)
  have k1 := cells_new_three wd (.int .i64 (last + 1)) (.int .i64 1) (Value.string x) 43 (oneC Value.string ⟨last + 1, 1, x⟩) (by rfl) (by rfl) (by rfl)
  have z1 := sz_alloc hMd (.cells #[.int .i64 (last + 1), .int .i64 1, Value.string x] 43)
  have T1 := Td.trans (turn_alloc (fun _ => False) wd (.cells #[.int .i64 (last + 1), .int .i64 1, Value.string x] 43)) (fun _ h => h.elim)
  rw [em] at k1 ⊢
  generalize wd.alloc (.cells #[.int .i64 (last + 1), .int .i64 1, Value.string x] 43) = w1 at *
  refine ⟨fun _ => h1, ?_⟩
  change anyT _ _ _ _ _ _ _ _ _ _
  try simp only [Act.put, List.setIfInBounds_toArray, List.set_cons_succ, List.set_cons_zero, List.getElem_toArray, List.getElem_cons_succ, List.getElem_cons_zero]
  refine anyT_one 12 _ _ _ _ (by kernel_rfl) ?_
  simp only [List.filterMap_cons, List.filterMap_nil, List.getElem?_toArray, List.getElem?_cons_succ, List.getElem?_cons_zero]
  refine wpl_appK rfl (.tmp 29) (.tmp 36) 38 rfl 43 3 (by omega) undES kES p n cap rfl (enC Value.string E) e1 _ 1 1 rfl (oneC Value.string ⟨last + 1, 1, x⟩) k1 (fun j _ => oneC_one (fun _ => rfl) _ j) (by omega) ?_
  intro p2 cap2 w2 e2 g2 q2 n2
  have h2 := h1.grew g2 (fun e => hO.ne b e.symm rfl)
  have e1s : w1.heap.size = M + 1 := z1
  rw [e1s] at q2
  have T2 : Turn (fun j => j = b ∨ blk p = some j) w w2 := T1.trans g2.turn (fun j hj _ => .inr hj)
  refine ⟨fun _ => h2, ?_⟩
  change anyT _ _ _ _ _ _ _ _ _ _
  try simp only [Act.put, List.setIfInBounds_toArray, List.set_cons_succ, List.set_cons_zero, List.getElem_toArray, List.getElem_cons_succ, List.getElem_cons_zero]
  refine anyT_one 13 _ _ _ _ (by kernel_rfl) ?_
  simp only [List.filterMap_cons, List.filterMap_nil, List.getElem?_toArray, List.getElem?_cons_succ, List.getElem?_cons_zero]
  refine wpl_pure rfl (v := .pointer (some ⟨b, 0, none⟩)) (by intro w; first | rfl | (go_simp; first | done | with_reducible rfl)) ?_
  refine ⟨fun _ => h2, ?_⟩
  change anyT _ _ _ _ _ _ _ _ _ _
  try simp only [Act.put, List.setIfInBounds_toArray, List.set_cons_succ, List.set_cons_zero, List.getElem_toArray, List.getElem_cons_succ, List.getElem_cons_zero]
  refine anyT_one 14 _ _ _ _ (by kernel_rfl) ?_
  simp only [List.filterMap_cons, List.filterMap_nil, List.getElem?_toArray, List.getElem?_cons_succ, List.getElem?_cons_zero]
  refine wpl_pure rfl (v := .pointer (some ⟨b, 2, none⟩)) (by intro w; first | rfl | (go_simp; first | done | with_reducible rfl)) ?_
  refine ⟨fun _ => h2, ?_⟩
  change anyT _ _ _ _ _ _ _ _ _ _
  try simp only [Act.put, List.setIfInBounds_toArray, List.set_cons_succ, List.set_cons_zero, List.getElem_toArray, List.getElem_cons_succ, List.getElem_cons_zero]
  refine anyT_one 15 _ _ _ _ (by kernel_rfl) ?_
  simp only [List.filterMap_cons, List.filterMap_nil, List.getElem?_toArray, List.getElem?_cons_succ, List.getElem?_cons_zero]
  refine wpl_set rfl 38 (.tmp 39) (.tmp 37) rfl b 2 rfl (.slice p2 (n + 1) cap2) rfl szSlS rfl rfl 40 3 _ h2 (by omega) ?_
  intro w3 t3 h3
  refine ⟨fun h => absurd h (by simp), ?_⟩
  refine anyT_of_any _ _ _ _ (by kernel_rfl) ?_
  change wpAny _ _ _ _ _ _ _ _
  refine wpAny_done (by kernel_rfl) ?_ _
  try simp only [Act.put, List.setIfInBounds_toArray, List.set_cons_succ, List.set_cons_zero, List.getElem_toArray, List.getElem_cons_succ, List.getElem_cons_zero]
  have hp2 : ∀ g, blk p2 = some g → blk p = some g ∨ N ≤ g := fun g hg => by
    rcases q2 with e | e
    · rw [e] at hg; exact .inl hg
    · rw [e, Option.some.injEq] at hg; exact .inr (by omega)
  have hnb : ∀ g, blk p2 = some g → g ≠ b := fun g hg => by
    rcases hp2 g hg with h | h
    · exact hO.ne g h
    · omega
  have h3' : Has w3 b 40 3 (obC size (last + 1) p2 (n + 1) cap2) := h3.congr (fun j hj => by
    unfold upd obC
    rcases (show j = 0 ∨ j = 1 ∨ j = 2 by omega) with rfl | rfl | rfl <;> rfl)
  have e3 := (e2.touch t3 hnb).congr (fun j hj => cat_set Value.string E n ⟨last + 1, 1, x⟩ (oneC Value.string ⟨last + 1, 1, x⟩) (fun i hi => (enC_self Value.string _ i hi).symm) j hj)
  have T3 : Turn (fun j => j = b ∨ blk p = some j) w w3 := T2.trans t3.turn (fun j hj _ => .inl hj)
  have c1 : w3.cell? ⟨b, 1, none⟩ = some (.int .i64 (last + 1)) := h3'.cell (by omega)
  clear Td T1 T2 g2 e2 e1 k1 h1 h2 h3 t3 ed hd q2 n2
  go_wp2
  go_ret2
  exact ⟨p2, cap2, rfl, T3, hp2, h3', e3, hnb⟩
end Go.Proofs.Ytkofhcjgobccoaa
