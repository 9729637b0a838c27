/- bmap: putNumber; New of an Array. BmapPrefix: number. Two rows of the same things, both in order, no two alike in order: one row. Nothing of the program. -/
import Derived.Test.YtjdclgnlnehjlaaDoorMgBk
import Derived.Test.YtjdclgnlnehjlaaDoorInns
import Derived.Deep.LoopGhost
import Derived.Laws.IdiomStrings
import Derived.Sort.Statements
import Derived.Lib.Bytealg
namespace Go.Proofs.YtjdclgnlnehjlaaDoor
open Go Go.RowKit
/-- The first four are a number's bytes, the lowest first; the number is a byte's. -/
def num4 (n : Nat) (f : Nat → BitVec 8) : Nat → BitVec 8 := fun j => if j = 0 then b8 n else if j < 4 then 0#8 else f j
set_option maxRecDepth 100000 in
theorem putN_any (g L cap n : Nat) (hL : 4 ≤ L) (hn : n < 256) (f : Nat → BitVec 8) (w : World) (hh : Has w g 5 L (fun j => By (f j))) :
    Calls Tryd.prog 26 #[.slice (some ⟨g, 0, none⟩) L cap, .int .i64 (n : Int)] w fun e w' => e = .returned (.tuple #[]) ∧ Touch g w w' ∧ Has w' g 5 L (fun j => By (num4 n f j)) := by
  have n0 : (0 : Int) ≤ (n : Int) := by omega
  have n1 : (n : Int) < 256 := by omega
  have l0 : (0 : Int) < (L : Int) := by omega
  have l1 : (1 : Int) < (L : Int) := by omega
  have l2 : (2 : Int) < (L : Int) := by omega
  have l3 : (3 : Int) < (L : Int) := by omega
  have s1 : (n : Int) / 256 = 0 := by omega
  have s2 : (n : Int) / 65536 = 0 := by omega
  have s3 : (n : Int) / 16777216 = 0 := by omega
  go_enter Tryd.func26, Tryd.ntmps26
  go_wp2
  refine wp_loop_rounds 5 ?_
  rw [rounds_succ]
  go_wp2_with (first
    | (refine wpl_set rfl 5 (.tmp 15) (.tmp 14) rfl g 0 rfl (.int .u8 (n : Int)) rfl szBy rfl rfl 5 L _ hh (by omega) ?_; intro w1 t1 h1)
    | fail)
  rw [rounds_succ]
  go_wp2_with (first
    | (refine wpl_set rfl 5 (.tmp 15) (.tmp 14) rfl g 1 rfl (.int .u8 0) rfl szBy rfl rfl 5 L _ h1 (by omega) ?_; intro w2 t2 h2)
    | fail)
  rw [rounds_succ]
  go_wp2_with (first
    | (refine wpl_set rfl 5 (.tmp 15) (.tmp 14) rfl g 2 rfl (.int .u8 0) rfl szBy rfl rfl 5 L _ h2 (by omega) ?_; intro w3 t3 h3)
    | fail)
  rw [rounds_succ]
  go_wp2_with (first
    | (refine wpl_set rfl 5 (.tmp 15) (.tmp 14) rfl g 3 rfl (.int .u8 0) rfl szBy rfl rfl 5 L _ h3 (by omega) ?_; intro w4 t4 h4)
    | fail)
  rw [rounds_succ]
  go_wp2
  go_end0
  refine ⟨rfl, ⟨t4.os.trans (t3.os.trans (t2.os.trans t1.os)), t4.tape.trans (t3.tape.trans (t2.tape.trans t1.tape)), t4.output.trans (t3.output.trans (t2.output.trans t1.output)), t4.size.trans (t3.size.trans (t2.size.trans t1.size)),
    fun k hk => (t4.block k hk).trans ((t3.block k hk).trans ((t2.block k hk).trans (t1.block k hk)))⟩, h4.congr (fun j hj => ?_)⟩
  unfold upd num4
  by_cases j0 : j = 0
  · subst j0
    exact by_nat n hn
  · by_cases j3 : j < 4
    · rcases (show j = 1 ∨ j = 2 ∨ j = 3 by omega) with rfl | rfl | rfl <;> rfl
    · rw [if_neg (by omega), if_neg (by omega), if_neg (by omega), if_neg (by omega), if_neg (by omega), if_neg (by omega)]
/-- An Array's entries: as many as there may be, each a nought. -/
def key4 (i : Nat) : ByteArray := strOf (num4 i (fun _ => 0#8)) 4
/-- The first nn entries of an Array, whose bytes V tells. -/
structure Ar (w0 : World) (N b val ent nn : Nat) (V : Nat → Nat → BitVec 8) (m : Mp) (w : World) : Prop where
  at_ : MpAt w m
  eb : m.b = b
  ety : m.ty = 0
  ekey : m.key = 4
  eval : m.val = val
  eent : m.ent = ent
  efz : m.fz = false
  en : m.n = nn
  lo : ∀ k, Foot m k → N ≤ k
  bel : Below N w0 w
  ks : ∀ i, i < nn → (m.E i).k = key4 i
  vs : ∀ i, i < nn → ∀ j, j < val → (m.E i).v j = V i j
theorem Ar.low {w0 w w' : World} {N M b val ent nn : Nat} {V : Nat → Nat → BitVec 8} {m : Mp} (h : Ar w0 N b val ent nn V m w) (hM : Sz w M) (hb : Below M w w') (hNM : N ≤ M) : Ar w0 N b val ent nn V m w' :=
  ⟨h.at_.below hM hb, h.eb, h.ety, h.ekey, h.eval, h.eent, h.efz, h.en, h.lo, h.bel.trans (hb.mono hNM), h.ks, h.vs⟩
theorem Ar.put {w0 w w' : World} {N M b val ent nn : Nat} {m : Mp} (h : Ar w0 N b val ent nn (fun _ _ => 0#8) m w) (hM : Sz w M) (hNM : N ≤ M) (P : Putted m M (key4 nn) (fun _ => 0#8) w w') : ∃ m', Ar w0 N b val ent (nn + 1) (fun _ _ => 0#8) m' w' := by
  obtain ⟨T, p', cap', A, hp⟩ := P
  have hn := h.en
  refine ⟨m.put p' cap' M (key4 nn) (fun _ => 0#8), A, h.eb, h.ety, h.ekey, h.eval, h.eent, h.efz, by show m.n + 1 = nn + 1; omega, fun j hj => ?_, ?_, fun i hi => ?_, fun i hi j hj => ?_⟩
  · rcases foot_put hj hp with hj | hj
    · exact h.lo j hj
    · omega
  · exact T.below h.bel (fun j hj => h.lo j (top_foot hj)) (by have e : w.heap.size = M := hM; omega)
  · show (setF m.E m.n ⟨key4 nn, M, M + 1, fun _ => 0#8⟩ i).k = key4 i
    by_cases hin : i = m.n
    · rw [hin, setF_self]; show key4 nn = key4 m.n; rw [hn]
    · rw [setF_ne _ _ _ hin]; exact h.ks i (by omega)
  · show (setF m.E m.n ⟨key4 nn, M, M + 1, fun _ => 0#8⟩ i).v j = 0#8
    by_cases hin : i = m.n
    · rw [hin, setF_self]
    · rw [setF_ne _ _ _ hin]; exact h.vs i (by omega) j hj
def NewAr (w : World) (N val ent : Nat) (e : Ending) (w' : World) : Prop := ∃ b m, N ≤ b ∧ e = .returned (.tuple #[.pointer (some ⟨b, 0, none⟩), .int .i64 0]) ∧ Ar w N b val ent ent (fun _ _ => 0#8) m w'
set_option maxRecDepth 100000 in
set_option maxHeartbeats 2000000 in
theorem New_array (val ent : Nat) (h1 : 1 ≤ val) (h2 : val ≤ 64) (h3 : 1 ≤ ent) (h4 : ent ≤ 64) (w : World) (N : Nat) (hN : Sz w N) :
    Calls Tryd.prog 7 #[spV 0 4 val ent] w fun e w' => NewAr w N val ent e w' := by
  have h : SpecOk 0 4 val ent := ⟨⟨4, 4, .inl ⟨rfl, rfl, rfl⟩, by omega, by omega⟩, h1, h2, h3, h4⟩
  have e64 : (ent : Int) ≤ 64 := by omega
  unfold spV
  go_enter Tryd.func7, Tryd.ntmps7
  go_wp2_with (first
    | (refine wpl_box rfl 31 (.tmp 0) rfl 4 (mp0 0 4 val ent 0).sp (by rfl) N hN ?_; intro w1 hN1 hb1 hh1; have e0 : w1.cell? ⟨N, 0, none⟩ = some (.int .i64 0) := hh1.cell (by omega); have e1 : w1.cell? ⟨N, 1, none⟩ = some (.int .i64 4) := hh1.cell (by omega); have e2 : w1.cell? ⟨N, 2, none⟩ = some (.int .i64 (val : Int)) := hh1.cell (by omega); have e3 : w1.cell? ⟨N, 3, none⟩ = some (.int .i64 (ent : Int)) := hh1.cell (by omega))
    | (go_at_call 25; refine (Check_ok 0 4 val ent h _ (N + 1) hN1).mono ?_; rintro e w2 ⟨rfl, hb2⟩; clear e0 e1 e2 e3; have hh2 := hh1.below hb2 (by omega); have e0 : w2.cell? ⟨N, 0, none⟩ = some (.int .i64 0) := hh2.cell (by omega); have e1 : w2.cell? ⟨N, 1, none⟩ = some (.int .i64 4) := hh2.cell (by omega); have e2 : w2.cell? ⟨N, 2, none⟩ = some (.int .i64 (val : Int)) := hh2.cell (by omega); have e3 : w2.cell? ⟨N, 3, none⟩ = some (.int .i64 (ent : Int)) := hh2.cell (by omega); obtain ⟨M, hM⟩ := sz_some w2; have L := below_sz hb2 hN1 hM)
    | (refine wpl_box rfl 59 (.tmp 14) rfl 6 (mpC (mp0 0 4 val ent 0)) (by rfl) M hM ?_; intro w3 hN3 hb3 hh3; clear e0 e1 e2 e3; have hh4 := hh2.below hb3 (by omega); have e0 : w3.cell? ⟨N, 0, none⟩ = some (.int .i64 0) := hh4.cell (by omega); have e3 : w3.cell? ⟨N, 3, none⟩ = some (.int .i64 (ent : Int)) := hh4.cell (by omega))
    | fail)
  have A0 : Ar w N M val ent 0 (fun _ _ => 0#8) (mp0 0 4 val ent M) w3 :=
    ⟨⟨hh3.congr (fun j _ => rfl), OwnK.nil _ _ _ _, fun i hi => absurd hi (Nat.not_lt_zero i), fun i hi => absurd hi (Nat.not_lt_zero i), fun i j hi => absurd hi (Nat.not_lt_zero i)⟩, rfl, rfl, rfl, rfl, rfl, rfl, rfl,
      fun k hk => by rcases hk with rfl | hk | ⟨i, hi, _⟩; (show N ≤ _; exact Nat.le_of_succ_le L); cases hk; exact absurd hi (Nat.not_lt_zero i), (hb1.trans (hb2.mono (by omega))).trans (hb3.mono (by omega)), fun i hi => by omega, fun i hi => by omega⟩
  have H0 := hid A0
  have Hh4 := hid hh4
  clear A0 hh4 e0 e3 hh3 hh2 hh1 hb3 hb2 hb1 hN3 hN1 hM
  go_loopg [21] ent (fun g i wr => ∃ (k : Nat) (m : Mp), k ≤ ent ∧ g = ent - k ∧ i = .int .i64 k ∧ Ar w N M val ent k (fun _ _ => 0#8) m wr ∧ Has wr N 31 4 (mp0 0 4 val ent 0).sp)
  case atStart => exact ⟨0, _, by omega, rfl, rfl, H0.out, Hh4.out⟩
  case round =>
    clear H0 Hh4
    obtain ⟨k, m, hk, rfl, rfl, A, hsp⟩ := hrel
    obtain ⟨X, hX⟩ := sz_some wr
    have hNX := below_sz A.bel hN hX
    have k0 : (0 : Int) ≤ (k : Int) := by omega
    have k1 : (k : Int) ≤ 64 := by omega
    by_cases hlt : k < ent
    · have i1 : (k : Int) < (ent : Int) := by omega
      have hNl : N < X := hsp.ltN hX
      go_wp2_with (first
        | (refine wpl_make_full rfl 35 (.const (.int .i64 4)) (.const (.int .i64 4)) rfl 4 rfl rfl 5 (.int .u8 0) 1 undBB zBy (by omega) rfl (by omega) X hX ?_; intro x1 hX1 hb1 hh1)
        | (go_at_call 26; refine (putN_any X 4 4 k (by omega) (by omega) (fun _ => 0#8) _ (hh1.congr (fun _ _ => rfl))).mono ?_; rintro e x2 ⟨rfl, t2, h2'⟩)
        | fail)
      have A1 := A.low hX hb1 hNX
      have sp1 := hsp.below hb1 hNl
      have hX2 := t2.sz hX1
      have b2 : Below X wr x2 := t2.below hb1 (Nat.le_refl X)
      have A2 := A.low hX b2 hNX
      have sp2 := hsp.below b2 hNl
      have hcv : ∀ x : Inn (fun w' => Has w' X 5 4 (fun j => By (num4 k (fun _ => 0#8) j)) ∧ Has w' N 31 4 (mp0 0 4 val ent 0).sp), (convert 35 9 (.slice (some ⟨X, 0, none⟩) 4 4)).run Tryd.prog x.w' = .ok (.string (key4 k)) x.w' := fun x => run_string (P := Tryd.prog) x.w' 35 9 5 undBB undBy undBS _ 4 4 (num4 k (fun _ => 0#8)) x.h.1.ats
      have hlV : ∀ w', Has w' N 31 4 (mp0 0 4 val ent 0).sp → (Instr.loadAt 3 (.pointer (some ⟨N, 2, none⟩))).run Tryd.prog w' = .ok (.int .i64 (val : Int)) w' := fun w' h => by
        have c : w'.cell? ⟨N, 2, none⟩ = some (.int .i64 (val : Int)) := h.cell (by omega)
        go_simp
      clear A A1 hsp sp1 hb1 hX1 t2 hh1
      refine wp_region_any (by kernel_rfl) ?_
      change wpAny _ _ _ _ _ _ _ (World.drew _)
      refine anyI_any (I := fun w' => Has w' X 5 4 (fun j => By (num4 k (fun _ => 0#8) j)) ∧ Has w' N 31 4 (mp0 0 4 val ent 0).sp) _ _ _ _ ?_
      have hne := inn_ne (I := fun w' => Has w' X 5 4 (fun j => By (num4 k (fun _ => 0#8) j)) ∧ Has w' N 31 4 (mp0 0 4 val ent 0).sp) ⟨h2', sp2⟩
      refine anyI_reads [0, 1, 2, 3, 4] _ _ _ ⟨h2'.drew, sp2.drew⟩ (by kernel_rfl) (fun _ _ _ d _ h => by cases d <;> exact h) ?_
      simp only [pickO, List.map_cons, List.map_nil, List.getElem?_toArray, List.getElem?_cons_succ, List.getElem?_cons_zero, Option.getD_some, Act.put, List.setIfInBounds_toArray, List.set_cons_succ, List.set_cons_zero]
      iterate 4 go_big_quiet_step (fail)
      refine inn_val (fun x => ld_one 3 (.tmp 31) rfl ⟨N, 2, none⟩ rfl _ (hlV x.w' x.h.2)) (by rfl) ?_
      simp only [Act.put, List.setIfInBounds_toArray, List.set_cons_succ, List.set_cons_zero]
      refine wpQuiet_nil ?_
      clear hne hcv hlV
      have Ad : Ar w N M val ent k (fun _ _ => 0#8) m x2.drew := ⟨A2.at_.drew, A2.eb, A2.ety, A2.ekey, A2.eval, A2.eent, A2.efz, A2.en, A2.lo, A2.bel.drew, A2.ks, A2.vs⟩
      have hd : Has x2.drew X 5 4 (fun j => By (num4 k (fun _ => 0#8) j)) := h2'.drew
      have sd := sp2.drew
      have hXd : Sz x2.drew (X + 1) := hX2
      clear A2 h2' sp2 hX2
      generalize World.drew x2 = xd at *
      refine anyI_part [5, 6] _ _ _ _ (by kernel_rfl) ?_
      simp only [List.filterMap_cons, List.filterMap_nil, List.getElem?_toArray, List.getElem?_cons_succ, List.getElem?_cons_zero]
      change wpList _ _ _ [_] _ _
      refine wpl_make_full rfl 35 (.tmp 32) (.tmp 32) rfl val rfl rfl 5 (.int .u8 0) 1 undBB zBy (by omega) rfl (by omega) (X + 1) hXd ?_
      intro x3 hX3 hb3 hv3
      have A3 := Ad.low hXd hb3 (by omega)
      have h3' := hd.below hb3 (by omega)
      have s3' := sd.below hb3 (by omega)
      refine ⟨⟨h3', s3'⟩, ?_⟩
      change wpList _ _ _ [_] _ _
      go_wp2_with fail
      have U := put_any m (key4 k) (some ⟨X + 1, 0, none⟩) val (fun _ => 0#8) (by rw [A3.en]; omega) (by rw [A3.eval]; omega) (by rw [A3.eval]; omega) x3 (X + 1 + 1) hX3 A3.at_ (by rw [A3.eval]; exact (hv3.congr (fun _ _ => rfl)).ats)
      rw [A3.eval, A3.eb] at U
      refine U.mono ?_
      rintro e x4 ⟨rfl, P4⟩
      obtain ⟨m4, A4⟩ := A3.put hX3 (by omega) P4
      have hp4 := h3'.turn P4.1 (fun hT => hT.elim (has_types h3' A3.at_.h (by decide)) (fun hT => has_own h3' A3.at_.e (by decide) _ hT rfl))
      have sp4 := s3'.turn P4.1 (fun hT => hT.elim (has_types s3' A3.at_.h (by decide)) (fun hT => has_own s3' A3.at_.e (by decide) _ hT rfl))
      dsimp only
      go_step
      refine ⟨⟨hp4, sp4⟩, ?_⟩
      change anyI _ _ _ _ _ _ _ _ _
      refine anyI_done (by kernel_rfl) ?_
      try simp only [Act.put, List.setIfInBounds_toArray, List.set_cons_succ, List.set_cons_zero, List.getElem_toArray, List.getElem_cons_succ, List.getElem_cons_zero]
      clear Ad A3 hd sd h3' s3' hv3 P4 U hp4
      go_wp2
      go_roundg (ent - (k + 1))
      case measure => omega
      case rel => exact ⟨k + 1, m4, by omega, rfl, by go_num, A4, sp4⟩
    · have i1 : ¬ ((k : Int) < (ent : Int)) := by omega
      obtain rfl : k = ent := by omega
      go_wp2_with fail
      go_ret2
      exact ⟨M, m, by omega, rfl, A⟩
end Go.Proofs.YtjdclgnlnehjlaaDoor
namespace Go.Proofs.YtjdclgnlnehjlaaDoor
open Go Go.RowKit
theorem at_strOf (D : Nat → BitVec 8) (n k : Nat) (h : k < (strOf D n).size) : (((strOf D n)[k]'h).toNat : Int) = v8 (D k) := by
  simp [strOf, v8, ByteArray.getElem_eq_getElem_data]
/-- Block b has n bytes, and behind them what its capacity leaves; only what lies behind its end is marked. -/
def Raw (w : World) (b n : Nat) (f : Nat → Value) : Prop := ∃ C z, w.heap[b]? = some (.cells C 5 (z, z + 1)) ∧ n ≤ z ∧ C.size = z ∧ ∀ j, j < n → C[j]? = some (f j)
section
variable {P : Program} {w w' : World} {b n : Nat} {f g : Nat → Value}
theorem Raw.cell (h : Raw w b n f) {j : Nat} (hj : j < n) : w.cell? ⟨b, j, none⟩ = some (f j) := by
  obtain ⟨C, z, h, _, _, hc⟩ := h
  rw [cell_of_row w b j _ _ _ h, hc j hj]
theorem Raw.free (h : Raw w b n f) {j : Nat} (hj : j < n) : w.frozen? ⟨b, j, none⟩ = false := by
  obtain ⟨C, z, h, hz, _, hc⟩ := h
  simp [World.frozen?, h]
  omega
theorem Raw.same (h : Raw w b n f) (e : w'.heap[b]? = w.heap[b]?) : Raw w' b n f := by obtain ⟨C, z, h, r⟩ := h; exact ⟨C, z, e.trans h, r⟩
theorem Raw.congr (h : Raw w b n f) (e : ∀ j, j < n → f j = g j) : Raw w b n g := by
  obtain ⟨C, z, h, h1, h2, hc⟩ := h
  exact ⟨C, z, h, h1, h2, fun j hj => by rw [← e j hj]; exact hc j hj⟩
theorem Raw.ats (h : Raw w b n f) : Ats w (some ⟨b, 0, none⟩) n f := fun _ => ⟨b, 0, rfl, fun j hj => by rw [Nat.zero_add]; exact h.cell hj⟩
theorem Raw.set (h : Raw w b n f) (k : Nat) (v : Value) : Raw (w.setCell ⟨b, k, none⟩ v) b n (upd f k v) := by
  obtain ⟨C, z, h, h1, h2, hc⟩ := h
  refine ⟨C.setIfInBounds k v, z, by simp [World.setCell, Array.getElem?_modify, h], h1, by simpa using h2, fun j hj => ?_⟩
  rw [Array.getElem?_setIfInBounds]
  unfold upd
  by_cases e : k = j
  · subst e
    rw [if_pos rfl, if_pos (by omega), if_pos rfl]
  · rw [if_neg e, if_neg (fun h => e h.symm)]
    exact hc j hj
theorem run_store_raw {k : Nat} (hh : Raw w b n f) (hk : k < n) (ty : TypeId) (v : Value) (hi : (P.info? ty).map (·.size) = some 1) (hv : v.cells = #[v]) (h1 : v.oneCell' = true) :
    (Instr.storeAt ty (.pointer (some ⟨b, k, none⟩)) v).run P w = .ok () (w.setCell ⟨b, k, none⟩ v) := by
  have := run_storeCells_cells (P := P) b k [v] 0 w (fun j hj => by
      have : j = 0 := by simpa using hj
      subst this
      rw [show k + 0 + 0 = k from rfl, hh.cell hk]; rfl) (fun j hj => by
      have : j = 0 := by simpa using hj
      subst this
      exact hh.free hk) (fun u hu => by
      have : u = v := by simpa using hu
      rw [this]; exact h1)
  cases hq : P.info? ty with
  | none => simp [hq] at hi
  | some i =>
    have hs : i.size = 1 := by simpa [hq] using hi
    simp only [Nat.add_zero, World.setCells] at this
    simp [Instr.storeAt, Instr.sureAddr, storeVar, sizeOf, typeInfo, hq, hv, hs, this]
variable {ops : Array Oper} {rest : List Oper} {o : Oper} {a : Act} {Q : Exit → Act → World → Prop}
theorem wpl_setR (hg : o.guard = none) (ty : TypeId) (x y : Operand) (ho : o.op = .store ty x y) (b k : Nat) (hx : a.eval x = .pointer (some ⟨b, k, none⟩)) (v : Value) (hy : a.eval y = v)
    (hi : (P.info? ty).map (·.size) = some 1) (hv : v.cells = #[v]) (h1 : v.oneCell' = true) (n : Nat) (f : Nat → Value) (hh : Raw w b n f) (hk : k < n)
    (h : ∀ w1, Touch b w w1 → Raw w1 b n (upd f k v) → wpList P ops Q rest (a.put o.dst undef) w1) : wpList P ops Q (o :: rest) a w := by
  refine wpList_plain hg fun K hK => ?_
  have hrun := run_store_raw (P := P) hh hk ty v hi hv h1
  unfold Oper.wp execOp
  simp only [ho, hx, hy, Sem.run_bind, hrun, Result.andThen_ok]
  exact hK _ _ (h _ (touch_setCell w ⟨b, k, none⟩ v) (hh.set k v))
/-- A text as bytes of the call's own. -/
theorem run_raw (src dst : TypeId) (hs : P.underlying src = some .string) (hd : P.underlying dst = some (.slice 5)) (he : P.underlying 5 = some (.int .u8)) (w : World) (N : Nat) (hN : Sz w N) (D : Nat → BitVec 8) (n : Nat) :
    ∃ cap w', (convert src dst (.string (strOf D n))).run P w = .ok (.slice (some ⟨N, 0, none⟩) n cap) w' ∧ Sz w' (N + 1) ∧ Below N w w' ∧ Raw w' N n (fun j => By (D j)) := by
  have e : w.heap.size = N := hN
  subst e
  have hr := run_bytes_of_string (P := P) w src dst 5 (strOf D n) hs hd he
  rw [strOf_size] at hr
  refine ⟨_, _, hr, sz_alloc (w := w.drew) rfl _, (below_drewN (Below.refl w.heap.size w) 1).trans (below_new w.drew _ _ rfl), bytesRow (strOf D n) (grownCap w n 0 5), _, heap_alloc_new _ _, ?_, rfl, fun j hj => ?_⟩
  · simp [bytesRow, strOf]
  · unfold bytesRow
    rw [Array.getElem?_append_left (by simpa [strOf] using hj)]
    have := at_strOf D n j (by rw [strOf_size]; exact hj)
    simp [strOf, hj, By, v8]
end
/-- A Prefix's key of one byte: how many bits it has, and the byte. -/
def k5 (c : Nat) (a : BitVec 8) : Nat → BitVec 8 := fun j => if j = 0 then b8 c else if j = 4 then a else 0#8
end Go.Proofs.YtjdclgnlnehjlaaDoor
namespace Go.Proofs.YtjdclgnlnehjlaaDoor
open Go
theorem perm_sorted_eq {α : Type} (r : α → α → Prop) : ∀ (l1 l2 : List α), l1.Perm l2 → l1.Pairwise r → l2.Pairwise r → (∀ x, x ∈ l1 → ∀ y, y ∈ l1 → r x y → r y x → x = y) → l1 = l2
  | [], l2, p, _, _, _ => p.nil_eq
  | x :: xs, [], p, _, _, _ => by have := p.length_eq; simp at this
  | x :: xs, y :: ys, p, h1, h2, ha => by
    rw [List.pairwise_cons] at h1 h2
    have hx : x ∈ y :: ys := p.mem_iff.1 (by simp)
    have hy : y ∈ x :: xs := p.mem_iff.2 (by simp)
    have e : x = y := by
      rcases List.mem_cons.1 hx with e | hx
      · exact e
      · rcases List.mem_cons.1 hy with e | hy'
        · exact e.symm
        · exact ha x (by simp) y hy (h1.1 y hy') (h2.1 x hx)
    subst e
    rw [perm_sorted_eq r xs ys (p.cons_inv) h1.2 h2.2 (fun a hxa b hb => ha a (List.mem_cons_of_mem _ hxa) b (List.mem_cons_of_mem _ hb))]
/-- In the words of the sort: what is sorted by lt is a row of which each is no less than those ahead of it. -/
theorem sortedIn_pairwise {α : Type} [Inhabited α] (lt : α → α → Bool) (d : Array α) (h : Go.Sort.SortedIn lt 0 d.size d) : d.toList.Pairwise (fun x y => lt y x = false) := by
  rw [List.pairwise_iff_getElem]
  intro i j hi hj hij
  have hi' : i < d.size := by simpa using hi
  have hj' : j < d.size := by simpa using hj
  have := h i j (Nat.zero_le _) hij hj'
  rw [getElem!_pos d i hi', getElem!_pos d j hj'] at this
  simpa using this
/-- Texts by their bytes: strings.Compare's order is a total one. -/
theorem cmpB_cons (a b : UInt8) (x y : List UInt8) : Lib.compareBytes (a :: x) (b :: y) < 0 ↔ a.toNat < b.toNat ∨ (a = b ∧ Lib.compareBytes x y < 0) := by
  have e : Lib.compareBytes (a :: x) (b :: y) = if a < b then -1 else if b < a then 1 else Lib.compareBytes x y := by rw [Lib.compareBytes]
  rw [e]
  clear e
  by_cases h1 : a < b
  · have := UInt8.lt_iff_toNat_lt.1 h1
    simp [h1, this]
  · have h1' : ¬ a.toNat < b.toNat := fun h => h1 (UInt8.lt_iff_toNat_lt.2 h)
    by_cases h2 : b < a
    · have h2' := UInt8.lt_iff_toNat_lt.1 h2
      have : ¬ a = b := fun e => by rw [e] at h2'; omega
      simp [h1, h2, h1', this]
    · have h2' : ¬ b.toNat < a.toNat := fun h => h2 (UInt8.lt_iff_toNat_lt.2 h)
      have : a = b := UInt8.toNat_inj.1 (by omega)
      simp [this]
theorem cmpB_nil (x : List UInt8) : ¬ Lib.compareBytes x [] < 0 := by cases x <;> simp [Lib.compareBytes]
theorem cmpB_nil_cons (b : UInt8) (y : List UInt8) : Lib.compareBytes [] (b :: y) < 0 := by simp [Lib.compareBytes]
theorem cmpB_irrefl : ∀ x : List UInt8, ¬ Lib.compareBytes x x < 0
  | [] => cmpB_nil []
  | a :: x => fun h => by
    rcases (cmpB_cons a a x x).1 h with h | h
    · omega
    · exact cmpB_irrefl x h.2
theorem cmpB_trans : ∀ x y z : List UInt8, Lib.compareBytes x y < 0 → Lib.compareBytes y z < 0 → Lib.compareBytes x z < 0
  | _, _, [], _, h => absurd h (cmpB_nil _)
  | _, [], _ :: _, h, _ => absurd h (cmpB_nil _)
  | [], _ :: _, _ :: _, _, _ => cmpB_nil_cons _ _
  | a :: x, b :: y, c :: z, h1, h2 => by
    rw [cmpB_cons] at h1 h2 ⊢
    rcases h1 with h1 | ⟨rfl, h1⟩ <;> rcases h2 with h2 | ⟨rfl, h2⟩
    · exact .inl (by omega)
    · exact .inl h1
    · exact .inl h2
    · exact .inr ⟨rfl, cmpB_trans x y z h1 h2⟩
theorem cmpB_total : ∀ x y : List UInt8, x = y ∨ Lib.compareBytes x y < 0 ∨ Lib.compareBytes y x < 0
  | [], [] => .inl rfl
  | [], _ :: _ => .inr (.inl (cmpB_nil_cons _ _))
  | _ :: _, [] => .inr (.inr (cmpB_nil_cons _ _))
  | a :: x, b :: y => by
    rw [cmpB_cons, cmpB_cons]
    by_cases hab : a = b
    · subst hab
      rcases cmpB_total x y with h | h | h
      · exact .inl (by rw [h])
      · exact .inr (.inl (.inr ⟨rfl, h⟩))
      · exact .inr (.inr (.inr ⟨rfl, h⟩))
    · have : a.toNat ≠ b.toNat := fun e => hab (UInt8.toNat_inj.1 e)
      rcases Nat.lt_or_gt_of_ne this with h | h
      · exact .inr (.inl (.inl h))
      · exact .inr (.inr (.inl h))
/-- Whatever has a text is in order by its text. -/
theorem swo_text {α : Type} (key : α → ByteArray) : Go.Sort.SWO (fun x y : α => decide (Lib.compareBytes (key x).data.toList (key y).data.toList < 0)) where
  irrefl x := by simpa using cmpB_irrefl (key x).data.toList
  trans x y z h1 h2 := by
    simp only [decide_eq_true_eq] at *
    exact cmpB_trans _ _ _ h1 h2
  ntrans x y z h1 h2 := by
    simp only [decide_eq_false_iff_not] at *
    intro h
    rcases cmpB_total (key x).data.toList (key y).data.toList with e | e | e
    · rw [e] at h; exact h2 h
    · exact h1 e
    · exact h2 (cmpB_trans _ _ _ e h)
theorem anti_text {α : Type} (key : α → ByteArray) (x y : α) (h1 : decide (Lib.compareBytes (key y).data.toList (key x).data.toList < 0) = false) (h2 : decide (Lib.compareBytes (key x).data.toList (key y).data.toList < 0) = false) : key x = key y := by
  simp only [decide_eq_false_iff_not] at *
  rcases cmpB_total (key x).data.toList (key y).data.toList with e | e | e
  · have e' : (key x).data = (key y).data := Array.ext' e
    cases hx : key x; cases hy : key y
    rw [hx, hy] at e'
    simp only at e'
    rw [e']
  · exact absurd e h2
  · exact absurd e h1
end Go.Proofs.YtjdclgnlnehjlaaDoor
