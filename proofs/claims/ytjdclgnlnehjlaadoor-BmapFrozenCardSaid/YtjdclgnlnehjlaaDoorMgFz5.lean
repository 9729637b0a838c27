/- BmapFrozen: keyText, nearest of any key. BmapFrozen: place, nearest, Cell, Lookup of any key. BmapFrozen: what a map stays, whatever is asked of it; use, Cell, Lookup. BmapFrozen: Cell, Lookup of any key. -/
import Derived.Test.YtjdclgnlnehjlaaDoorMgFz1
import Derived.Test.YtjdclgnlnehjlaaDoorBm8
namespace Go.Proofs.YtjdclgnlnehjlaaDoor
open Go Go.RowKit
/-- What a map's numbers may be. -/
structure Sp (m : Mp) : Prop where
  ty : m.ty ≤ 5
  key : m.key ≤ 16
  k5 : m.ty = 5 → 4 ≤ m.key
  k3 : m.ty = 3 ∨ m.ty = 4 → m.key = 0
  v1 : 1 ≤ m.val
  v64 : m.val ≤ 64
  e1 : 1 ≤ m.ent
  ent : m.ent ≤ 64
  n : m.n ≤ m.ent
theorem Sp.n1000 {m : Mp} (h : Sp m) : m.n ≤ 1000 := by have := h.n; have := h.ent; omega
section
variable {P : Program} {a : Act} {o : Oper} {x y : Operand} {T ty : TypeId}
theorem run_subN {p q r : Int} (ho : o.op = .binOp .sub T x y ty) (hx : a.eval x = .int .i64 p) (hy : a.eval y = .int .i64 q) (hr : p - q = r) (h0 : -1000000 ≤ r) (h1 : r < 1000000) (w : World) : (execOp a.eval o).run P w = .ok (.value (.int .i64 r)) w := by
  have e : IntKind.i64.wrap (p - q) = r := by rw [hr, IntKind.wrap_i64]; omega
  rw [run_subI (P := P) ho hx hy w, e]
theorem run_subI64 {p : Int} (ho : o.op = .binOp .sub T x y ty) (hx : a.eval x = .int .i64 p) (hy : a.eval y = .int .i64 1) (h0 : 0 ≤ p) (h1 : p < 1000000000000) (w : World) : (execOp a.eval o).run P w = .ok (.value (.int .i64 (p - 1))) w := by
  have e : IntKind.i64.wrap (p - 1) = p - 1 := by rw [IntKind.wrap_i64]; omega
  rw [run_subI (P := P) ho hx hy w, e]
theorem run_neqU {p q : Int} {r : Bool} (ho : o.op = .binOp .neq T x y ty) (hx : a.eval x = .int .u64 p) (hy : a.eval y = .int .u64 q) (h : (p != q) = r) (w : World) : (execOp a.eval o).run P w = .ok (.value (.bool r)) w := by
  subst h; unfold execOp; simp only [ho, hx, hy]; go_simp
theorem run_mulN {p q r : Int} (ho : o.op = .binOp .mul T x y ty) (hx : a.eval x = .int .i64 p) (hy : a.eval y = .int .i64 q) (hr : p * q = r) (h0 : -1000000 ≤ r) (h1 : r < 1000000) (w : World) : (execOp a.eval o).run P w = .ok (.value (.int .i64 r)) w := by
  have e : IntKind.i64.wrap (p * q) = r := by rw [hr, IntKind.wrap_i64]; omega
  rw [run_mulI (P := P) ho hx hy w, e]
theorem run_cvN {src dst : TypeId} {k k2 : IntKind} {z : Int} (ho : o.op = .convert src dst x) (hs : P.underlying src = some (.int k)) (hd : P.underlying dst = some (.int k2)) (hx : a.eval x = .int k z) (hz : k2.wrap z = z) (w : World) : (execOp a.eval o).run P w = .ok (.value (.int k2 z)) w := by
  unfold execOp
  simp only [ho, hx]
  simp [convert, Sem.run_bind, run_underlying hs, run_underlying hd, Conv.intToInt, hz]
end
theorem undU32 : Tryd.prog.underlying 108 = some (.int .u32) := by kernel_rfl
def NoKey (e : Ending) : Prop := e = .returned (.tuple #[.string ⟨#[]⟩, .bool false])
def KTx (m : Mp) (n : Nat) (e : Ending) : Prop := NoKey e ∨ (m.ty ≠ 3 ∧ m.ty ≠ 4 ∧ n = m.key ∧ ∃ D', e = .returned (.tuple #[.string (strOf D' m.key), .bool true]))
set_option maxRecDepth 100000 in
theorem keyText_any (m : Mp) (hs : Sp m) (D : Nat → BitVec 8) (n : Nat) (q : Option Addr) (c : Nat) (w : World) (N : Nat) (hN : Sz w N) (hA : MpAt w m) (hq : Ats w q n (fun j => By (D j))) :
    Calls Tryd.prog 40 #[.pointer (some ⟨m.b, 0, none⟩), .slice q n c] w fun e w' => KTx m n e ∧ Below N w w' := by
  have d0 := hA.c0
  have d1 := hA.c1
  by_cases hl : m.ty = 3 ∨ m.ty = 4
  · clear d0 d1
    go_enter Tryd.func40, Tryd.ntmps40
    go_wp2_with (first
      | (go_at_call 37; refine (isLine_yes m hl _ hA).mono ?_; rintro e w1 ⟨rfl, rfl⟩)
      | fail)
    go_ret2
    exact ⟨.inl rfl, Below.refl _ _⟩
  · have h3 : m.ty ≠ 3 := fun h => hl (.inl h)
    have h4 : m.ty ≠ 4 := fun h => hl (.inr h)
    by_cases hn : n = m.key
    · by_cases h5 : m.ty = 5
      · have hk := hs.k5 h5
        have hk2 := hs.key
        obtain ⟨j, hj⟩ : ∃ j, m.key = j + 4 := ⟨m.key - 4, by omega⟩
        have Hj := hid hj
        subst hn
        have H5 := hid h5
        have t5 : ((m.ty : Int) != 5) = false := by rw [h5]; rfl
        have E18 := hid (show ((m.key : Int) != (m.key : Int)) = false by simp)
        have E27 := hid t5
        have hcv := run_string (P := Tryd.prog) w 35 9 5 undBB undBy undBS q m.key c D hq
        have Hcv := hid hcv
        have hsz : (strOf D m.key).size = m.key := strOf_size _ _
        have d0h := hid d0
        have d1h := hid d1
        have H3 := hid h3
        have H4 := hid h4
        have Hs := hid hsz
        clear hcv t5 h5 hl d0 d1 h3 h4 hj hsz
        go_enter Tryd.func40, Tryd.ntmps40
        go_upto_region 7 with (first
          | (go_at_call 37; refine (isLine_no m H3.out H4.out _ hA).mono ?_; rintro e w1 ⟨rfl, rfl⟩)
          | (go_at_call 68; refine (number_any _ (by rw [Hs.out]; exact hk) _).mono ?_; rintro e w1 ⟨⟨z, rfl, hz0, hz1⟩, rfl⟩)
          | ((with_reducible show wpList _ _ _ (_ :: _) _ _); first
            | (refine wpl_conv rfl 35 9 (.tmp 20) rfl _ (.string (strOf D m.key)) rfl Hcv.out ?_; try simp only [pA])
            | (refine wpl_want (by rfl) ?_; refine wpl_run rfl (.int .i64 (m.key : Int)) _ (run_lenL (x := .tmp 11) rfl undBB rfl _) ?_; try simp only [pA])
            | (refine wpl_want (by rfl) ?_; refine wpl_run rfl (.int .i64 (m.key : Int)) _ (run_cell1 (x := .tmp 16) 3 rfl rfl undIt rfl d1h.out) ?_; try simp only [pA])
            | (refine wpl_want (by rfl) ?_; refine wpl_run rfl (.bool false) _ (run_neqZ (x := .tmp 12) rfl rfl rfl E18.out _) ?_; try simp only [pA])
            | (refine wpl_run rfl (.int .i64 (m.ty : Int)) _ (run_cell1 (x := .tmp 25) 3 rfl rfl undIt rfl d0h.out) ?_; try simp only [pA])
            | (refine wpl_run rfl (.bool false) _ (run_neqZ (x := .tmp 26) rfl rfl rfl E27.out _) ?_; try simp only [pA]))
          | fail)
        obtain ⟨bv, hbv⟩ : ∃ bv, decide (8 * (j : Int) < z) = bv := ⟨_, rfl⟩
        have EBV := hid hbv
        have EJ := hid (show (m.key : Int) - 4 = (j : Int) by have := Hj.out; omega)
        have hj16 : j ≤ 16 := by have := Hj.out; omega
        clear hbv
        cases bv
        · go_wp2_with (first
            | (go_at_call 69; refine (cut_any D m.key hk (by omega) z _ N hN).mono ?_; rintro e w1 ⟨⟨D', rfl⟩, hb1⟩)
            | ((with_reducible show wpList _ _ _ (_ :: _) _ _); first
              | (refine wpl_run rfl (.int .i64 (m.key : Int)) _ (run_lenS (x := .tmp 32) rfl undBS rfl Hs.out _) ?_; try simp only [pA])
              | (refine wpl_run rfl (.int .i64 (j : Int)) _ (run_subN (x := .tmp 33) rfl rfl rfl EJ.out (by omega) (by omega) _) ?_; try simp only [pA])
              | (refine wpl_run rfl (.int .i64 (8 * (j : Int))) _ (run_mulN (y := .tmp 34) rfl rfl rfl rfl (by omega) (by omega) _) ?_; try simp only [pA])
              | (refine wpl_run rfl (.int .u32 (8 * (j : Int))) _ (run_cvN (x := .tmp 35) rfl undIt undU32 rfl (by rw [IntKind.wrap_u32]; omega) _) ?_; try simp only [pA])
              | (refine wpl_run rfl (.bool false) _ (run_gtrK (x := .tmp 31) rfl rfl rfl EBV.out _) ?_; try simp only [pA])
              | (refine wpl_run rfl (.int .i64 z) _ (run_cvN (x := .tmp 39) rfl undU32 undIt rfl (by rw [IntKind.wrap_i64]; omega) _) ?_; try simp only [pA]))
            | fail)
          go_ret2
          exact ⟨.inr ⟨H3.out, H4.out, rfl, D', rfl⟩, hb1⟩
        · go_wp2_with (first
            | ((with_reducible show wpList _ _ _ (_ :: _) _ _); first
              | (refine wpl_run rfl (.int .i64 (m.key : Int)) _ (run_lenS (x := .tmp 32) rfl undBS rfl Hs.out _) ?_; try simp only [pA])
              | (refine wpl_run rfl (.int .i64 (j : Int)) _ (run_subN (x := .tmp 33) rfl rfl rfl EJ.out (by omega) (by omega) _) ?_; try simp only [pA])
              | (refine wpl_run rfl (.int .i64 (8 * (j : Int))) _ (run_mulN (y := .tmp 34) rfl rfl rfl rfl (by omega) (by omega) _) ?_; try simp only [pA])
              | (refine wpl_run rfl (.int .u32 (8 * (j : Int))) _ (run_cvN (x := .tmp 35) rfl undIt undU32 rfl (by rw [IntKind.wrap_u32]; omega) _) ?_; try simp only [pA])
              | (refine wpl_run rfl (.bool true) _ (run_gtrK (x := .tmp 31) rfl rfl rfl EBV.out _) ?_; try simp only [pA]))
            | fail)
          go_ret2
          exact ⟨.inl rfl, Below.refl _ _⟩
      · subst hn
        exact (keyText_ok m D _ ⟨h3, h4, h5, rfl⟩ q c w N hN hA hq).mono fun e w' ⟨he, hb⟩ => ⟨.inr ⟨h3, h4, rfl, D, he⟩, hb⟩
    · have t18 : ((n : Int) != (m.key : Int)) = true := by rw [bne_iff_ne]; omega
      clear d0
      go_enter Tryd.func40, Tryd.ntmps40
      go_wp2_with (first
        | (go_at_call 37; refine (isLine_no m h3 h4 _ hA).mono ?_; rintro e w1 ⟨rfl, rfl⟩)
        | fail)
      go_ret2
      exact ⟨.inl rfl, Below.refl _ _⟩
end Go.Proofs.YtjdclgnlnehjlaaDoor
namespace Go.Proofs.YtjdclgnlnehjlaaDoor
open Go Go.RowKit
theorem first_or (f : Nat → ByteArray) (t : ByteArray) : ∀ n, (∃ k, k < n ∧ f k = t ∧ ∀ i, i < k → f i ≠ t) ∨ ∀ i, i < n → f i ≠ t
  | 0 => .inr (fun i hi => absurd hi (Nat.not_lt_zero i))
  | n + 1 => by
    rcases first_or f t n with ⟨k, h1, h2, h3⟩ | h
    · exact .inl ⟨k, by omega, h2, h3⟩
    · by_cases e : f n = t
      · exact .inl ⟨n, by omega, e, h⟩
      · refine .inr (fun i hi => ?_)
        by_cases ei : i = n
        · rw [ei]; exact e
        · exact h i (by omega)
theorem kat_or (m : Mp) (t : ByteArray) : (∃ k, KAt m t k) ∨ KNo m t := first_or (fun i => (m.E i).k) t m.n
def PlaceR (m : Mp) (t : ByteArray) (e : Ending) : Prop := (∃ k, KAt m t k ∧ e = .returned (.int .i64 ((k : Nat) : Int))) ∨ (KNo m t ∧ e = .returned (.int .i64 (-1)))
theorem place_any (m : Mp) (hs : Sp m) (t : ByteArray) (w : World) (N : Nat) (hN : Sz w N) (hA : MpAt w m) :
    Calls Tryd.prog 41 #[.pointer (some ⟨m.b, 0, none⟩), .string t] w fun e w' => PlaceR m t e ∧ Below N w w' := by
  rcases kat_or m t with ⟨k, hk⟩ | hk
  · exact (place_at m t k hk.1 hk.2.1 hk.2.2 hs.n1000 w N hN hA).mono fun e w' ⟨he, hb⟩ => ⟨.inl ⟨k, hk, he⟩, hb⟩
  · exact (place_no m t hk hs.n1000 w N hN hA).mono fun e w' ⟨he, hb⟩ => ⟨.inr ⟨hk, he⟩, hb⟩
def NearR (m : Mp) (e : Ending) : Prop := (∃ k, k < m.n ∧ e = .returned (.int .i64 ((k : Nat) : Int))) ∨ e = .returned (.int .i64 (-1))
set_option maxRecDepth 100000 in
theorem nearest_any (m : Mp) (hs : Sp m) (D : Nat → BitVec 8) (w : World) (N : Nat) (hN : Sz w N) (hA : MpAt w m) :
    Calls Tryd.prog 58 #[.pointer (some ⟨m.b, 0, none⟩), .string (strOf D m.key)] w fun e w' => NearR m e ∧ Below N w w' := by
  by_cases h5 : m.ty = 5
  · have d0 := hid hA.c0
    have E12 := hid (show ((m.ty : Int) != 5) = false by rw [h5]; rfl)
    have hk := hs.k5 h5
    have hk2 := hs.key
    have Hs := hid (show (strOf D m.key).size = m.key from strOf_size _ _)
    clear h5
    go_enter Tryd.func58, Tryd.ntmps58
    go_wp2_with (first
      | (go_at_call 68; refine (number_any _ (by rw [Hs.out]; exact hk) _).mono ?_; rintro e w1 ⟨⟨z, rfl, hz0, hz1⟩, ew⟩; have ew2 := ew.symm; subst ew2)
      | ((with_reducible show wpList _ _ _ (_ :: _) _ _); first
        | (refine wpl_run rfl (.int .i64 (m.ty : Int)) _ (run_cell1 (x := .tmp 10) 3 rfl rfl undIt rfl d0.out) ?_; try simp only [pA])
        | (refine wpl_run rfl (.bool false) _ (run_neqZ (x := .tmp 11) rfl rfl rfl E12.out _) ?_; try simp only [pA])
        | (refine wpl_run rfl (.int .i64 z) _ (run_cvN (x := .tmp 17) rfl undU32 undIt rfl (by rw [IntKind.wrap_i64]; omega) _) ?_; try simp only [pA]))
      | fail)
    go_loopw [5] (fun x5 wr => ∃ z : Int, x5 = .int .i64 z ∧ -1 ≤ z ∧ z < 4294967296 ∧ Below N w wr) (fun x5 _ => (intOf x5 + 1).toNat)
    case atStart => exact ⟨z, rfl, by omega, hz1, Below.refl _ _⟩
    case round =>
      clear hz0 hz1 d0 E12
      obtain ⟨z, rfl, hz0, hz1, hb⟩ := hrel
      obtain ⟨M, hM⟩ := sz_some wr
      have hNM := below_sz hb hN hM
      have A := hA.below hN hb
      by_cases h0 : 0 ≤ z
      · have E20 := hid (show decide ((0 : Int) ≤ z) = true from decide_eq_true h0)
        go_wp2_with (first
          | (go_at_call 69; refine (cut_any D m.key hk (by omega) z _ M hM).mono ?_; rintro e w1 ⟨⟨D', rfl⟩, hb1⟩; obtain ⟨M1, hM1⟩ := sz_some w1; have L1 := below_sz hb1 hM hM1; have A1 := A.below hM hb1)
          | ((with_reducible show wpList _ _ _ (_ :: _) _ _); first
            | (refine wpl_run rfl (.bool true) _ (run_geqK (x := .tmp 19) rfl rfl rfl E20.out _) ?_; try simp only [pA]))
          | fail)
        refine (place_any m hs _ _ M1 hM1 A1).mono ?_
        rintro e w2 ⟨hP, hb2⟩
        have bb := hb.trans ((hb1.mono hNM).trans (hb2.mono (by omega)))
        clear A A1 hb hb1 hb2 hM hM1
        rcases hP with ⟨k, hk1, rfl⟩ | ⟨_, rfl⟩
        · have E29 := hid (show ((k : Int) != -1) = true by rw [bne_iff_ne]; omega)
          go_wp2_with (first
            | ((with_reducible show wpList _ _ _ (_ :: _) _ _); first
              | (refine wpl_run rfl (.bool true) _ (run_neqZ (x := .tmp 28) rfl rfl rfl E29.out _) ?_; try simp only [pA]))
            | fail)
          go_ret
          exact ⟨.inl ⟨k, hk1.1, rfl⟩, bb⟩
        · go_wp2_with (first
            | ((with_reducible show wpList _ _ _ (_ :: _) _ _); first
              | (refine wpl_run rfl (.bool false) _ (run_neqZ (x := .tmp 28) rfl rfl rfl (by decide) _) ?_; try simp only [pA])
              | (refine wpl_run rfl (.int .i64 (z - 1)) _ (run_subI64 (x := .tmp 21) rfl rfl rfl (by omega) (by omega) _) ?_; try simp only [pA]))
            | fail)
          exact ⟨⟨z - 1, rfl, by omega, by omega, bb⟩, by simp [intOf]; omega⟩
      · have E20 := hid (show decide ((0 : Int) ≤ z) = false from decide_eq_false h0)
        go_wp2_with (first
          | ((with_reducible show wpList _ _ _ (_ :: _) _ _); first
            | (refine wpl_run rfl (.bool false) _ (run_geqK (x := .tmp 19) rfl rfl rfl E20.out _) ?_; try simp only [pA]))
          | fail)
        go_ret
        exact ⟨.inr rfl, hb⟩
  · rcases kat_or m (strOf D m.key) with ⟨k, hk⟩ | hk
    · exact (nearest_at m _ h5 k hk.1 hk.2.1 hk.2.2 hs.n1000 w N hN hA).mono fun e w' ⟨he, hb⟩ => ⟨.inl ⟨k, hk.1, he⟩, hb⟩
    · exact (nearest_no m _ h5 hk hs.n1000 w N hN hA).mono fun e w' ⟨he, hb⟩ => ⟨.inr he, hb⟩
end Go.Proofs.YtjdclgnlnehjlaaDoor
namespace Go.Proofs.YtjdclgnlnehjlaaDoor
open Go Go.RowKit
structure FInv (m : Mp) : Prop where
  sp : Sp m
  k : ∀ i, i < m.n → (m.E i).k.size ≤ 16
  dis : m.ty ≠ 3 → m.ty ≠ 4 → ∀ i j, i < m.n → j < m.n → (m.E i).k = (m.E j).k → i = j
def SameM (m m' : Mp) : Prop := m'.b = m.b ∧ m'.ty = m.ty ∧ m'.key = m.key ∧ m'.val = m.val ∧ m'.ent = m.ent ∧ m'.fz = m.fz
theorem SameM.refl (m : Mp) : SameM m m := ⟨rfl, rfl, rfl, rfl, rfl, rfl⟩
theorem Sp.same {m m' : Mp} (h : Sp m) (s : SameM m m') (hn : m'.n ≤ m.ent) : Sp m' := by
  obtain ⟨_, e1, e2, e3, e4, _⟩ := s
  exact ⟨e1 ▸ h.ty, e2 ▸ h.key, fun h5 => e2 ▸ h.k5 (e1 ▸ h5), fun h3 => e2 ▸ h.k3 (e1 ▸ h3), e3 ▸ h.v1, e3 ▸ h.v64, e4 ▸ h.e1, e4 ▸ h.ent, e4 ▸ hn⟩
/-- The entries' keys are those of some others, each once. -/
theorem FInv.re {m m' : Mp} (h : FInv m) (s : SameM m m') (hn : m'.n ≤ m.ent) (ix : Nat → Nat) (h1 : ∀ i, i < m'.n → ix i < m.n) (h2 : ∀ i j, i < m'.n → j < m'.n → ix i = ix j → i = j) (he : ∀ i, i < m'.n → (m'.E i).k = (m.E (ix i)).k) : FInv m' :=
  ⟨h.sp.same s hn, fun i hi => by rw [he i hi]; exact h.k _ (h1 i hi), fun h3 h4 i j hi hj e => by
    rw [he i hi, he j hj] at e
    rw [s.2.1] at h3 h4
    exact h2 i j hi hj (h.dis h3 h4 _ _ (h1 i hi) (h1 j hj) e)⟩
theorem FInv.use {m : Mp} (h : FInv m) (k : Nat) (hk : k < m.n) : FInv (m.use k) := by
  refine h.re (SameM.refl m) h.sp.n (fun i => if i = m.n - 1 then k else if i < k then i else i + 1) (fun i hi => ?_) (fun i j hi hj e => ?_) (fun i hi => ?_)
  · have hi' : i < m.n := hi
    show (if i = m.n - 1 then k else if i < k then i else i + 1) < m.n
    split; omega; split <;> omega
  · have hi' : i < m.n := hi
    have hj' : j < m.n := hj
    have e' : (if i = m.n - 1 then k else if i < k then i else i + 1) = (if j = m.n - 1 then k else if j < k then j else j + 1) := e
    split at e' <;> split at e' <;> (repeat' split at e') <;> omega
  · show (setF (delF m.E k) (m.n - 1) (m.E k) i).k = (m.E (if i = m.n - 1 then k else if i < k then i else i + 1)).k
    by_cases e : i = m.n - 1
    · rw [if_pos e, e, setF_self]
    · rw [if_neg e, setF_ne _ _ _ e]
      unfold delF
      split <;> rfl
theorem FInv.del {m : Mp} (h : FInv m) (k : Nat) (hk : k < m.n) : FInv (m.del k) := by
  have hn := h.sp.n
  refine h.re (SameM.refl m) (show m.n - 1 ≤ m.ent by omega) (fun i => if i < k then i else i + 1) (fun i hi => ?_) (fun i j hi hj e => ?_) (fun i hi => ?_)
  · have hi' : i < m.n - 1 := hi
    show (if i < k then i else i + 1) < m.n
    split <;> omega
  · have e' : (if i < k then i else i + 1) = (if j < k then j else j + 1) := e
    split at e' <;> split at e' <;> omega
  · show (delF m.E k i).k = (m.E (if i < k then i else i + 1)).k
    unfold delF
    split <;> rfl
theorem FInv.setv {m : Mp} (h : FInv m) (k : Nat) (D : Nat → BitVec 8) : FInv (m.set k D) := by
  refine h.re (SameM.refl m) h.sp.n (fun i => i) (fun i hi => hi) (fun i j _ _ e => e) (fun i hi => ?_)
  show (setF m.E k ⟨(m.E k).k, (m.E k).c, (m.E k).b, D⟩ i).k = (m.E i).k
  by_cases e : i = k
  · rw [e, setF_self]
  · rw [setF_ne _ _ _ e]
theorem FInv.put {m : Mp} (h : FInv m) (p' : Option Addr) (cap' N : Nat) (t : ByteArray) (D : Nat → BitVec 8) (hn : m.n < m.ent) (ht : t.size ≤ 16) (hk : (m.ty = 3 ∨ m.ty = 4) ∨ KNo m t) : FInv (m.put p' cap' N t D) := by
  have hE : ∀ i, ((m.put p' cap' N t D).E i).k = if i = m.n then t else (m.E i).k := fun i => by
    show (setF m.E m.n ⟨t, N, N + 1, D⟩ i).k = _
    by_cases e : i = m.n
    · rw [if_pos e, e, setF_self]
    · rw [if_neg e, setF_ne _ _ _ e]
  refine ⟨h.sp.same (SameM.refl m) (show m.n + 1 ≤ m.ent by omega), fun i hi => ?_, fun h3 h4 i j hi hj e => ?_⟩
  · have hi' : i < m.n + 1 := hi
    rw [hE]
    split
    · exact ht
    · exact h.k i (by omega)
  · have hi' : i < m.n + 1 := hi
    have hj' : j < m.n + 1 := hj
    have h3' : m.ty ≠ 3 := h3
    have h4' : m.ty ≠ 4 := h4
    rcases hk with hk | hk
    · rcases hk with hk | hk
      · exact absurd hk h3'
      · exact absurd hk h4'
    rw [hE, hE] at e
    by_cases ei : i = m.n
    · by_cases ej : j = m.n
      · omega
      · rw [if_pos ei, if_neg ej] at e
        exact absurd e.symm (hk j (by omega))
    · by_cases ej : j = m.n
      · rw [if_neg ei, if_pos ej] at e
        exact absurd e (hk i (by omega))
      · rw [if_neg ei, if_neg ej] at e
        exact h.dis h3' h4' i j (by omega) (by omega) e
/-- The next state of a map. -/
structure Nx (m : Mp) (w : World) (N : Nat) (w' : World) (m' : Mp) : Prop where
  sm : SameM m m'
  at_ : MpAt w' m'
  inv : FInv m'
  turn : Turn (Foot m) w w'
  ft : ∀ x, Foot m' x → Foot m x ∨ N ≤ x
theorem Nx.stay {m : Mp} {w w' : World} {N : Nat} (hN : Sz w N) (hA : MpAt w m) (h : FInv m) (hb : Below N w w') : Nx m w N w' m :=
  ⟨SameM.refl m, hA.below hN hb, h, turn_below hN hb _, fun _ h => .inl h⟩
theorem Nx.pre {m m' : Mp} {w w1 w2 : World} {N M : Nat} (hN : Sz w N) (hb : Below N w w1) (hM : Sz w1 M) (h : Nx m w1 M w2 m') : Nx m w N w2 m' :=
  ⟨h.sm, h.at_, h.inv, turn_low hN hb h.turn, fun x hx => (h.ft x hx).imp (fun h => h) (fun h => by have := below_sz hb hN hM; omega)⟩
theorem Nx.post {m m' : Mp} {w w1 w2 : World} {N M : Nat} (h : Nx m w N w1 m') (hN : Sz w N) (hM : Sz w1 M) (hb : Below M w1 w2) : Nx m w N w2 m' :=
  ⟨h.sm, h.at_.below hM hb, h.inv, h.turn.trans (turn_below hM hb (Foot m)) (fun _ h _ => h), h.ft⟩
/-- What is used, and where it stands then. -/
def UseOf (m : Mp) (k : Nat) (m' : Mp) : Prop := (m.ty ≠ 2 ∧ m' = m) ∨ (m.ty = 2 ∧ m' = m.use k)
theorem UseOf.at_ {m m' : Mp} {k : Nat} (hk : k < m.n) (h : UseOf m k m') : ∃ k', k' < m'.n ∧ m'.E k' = m.E k := by
  rcases h with ⟨_, rfl⟩ | ⟨_, rfl⟩
  · exact ⟨k, hk, rfl⟩
  · exact ⟨m.n - 1, show m.n - 1 < m.n by omega, setF_self _ _ _⟩
theorem use_any (m : Mp) (hm : FInv m) (k : Nat) (hk : k < m.n) (w : World) (N : Nat) (hN : Sz w N) (hA : MpAt w m) :
    Calls Tryd.prog 44 #[.pointer (some ⟨m.b, 0, none⟩), .int .i64 (k : Int)] w fun e w' => e = .returned (.pointer (some ⟨(m.E k).c, 0, none⟩)) ∧ ∃ m', UseOf m k m' ∧ Nx m w N w' m' := by
  by_cases h2 : m.ty = 2
  · exact (use_lru m k hk hm.sp.n1000 h2 w N hN hA).mono fun e w' ⟨he, t, A⟩ => ⟨he, _, .inr ⟨h2, rfl⟩, SameM.refl m, A, hm.use k hk, t.mono (fun x hx => top_foot hx), fun x hx => .inl (foot_use hk hx)⟩
  · exact (use_plain m k hk hm.sp.n1000 h2 w N hN hA).mono fun e w' ⟨he, hb⟩ => ⟨he, m, .inl ⟨h2, rfl⟩, Nx.stay hN hA hm hb⟩
end Go.Proofs.YtjdclgnlnehjlaaDoor
namespace Go.Proofs.YtjdclgnlnehjlaaDoor
open Go Go.RowKit
def CellR (m : Mp) (e : Ending) (m' : Mp) : Prop := (∃ z : Int, z ≠ 0 ∧ e = .returned (.tuple #[.pointer none, .int .i64 z]) ∧ m' = m) ∨ (∃ k k', k < m.n ∧ k' < m'.n ∧ m'.E k' = m.E k ∧ UseOf m k m' ∧ e = .returned (.tuple #[.pointer (some ⟨(m.E k).c, 0, none⟩), .int .i64 0]))
set_option maxRecDepth 100000 in
theorem Cell_any (m : Mp) (hm : FInv m) (D : Nat → BitVec 8) (n : Nat) (q : Option Addr) (c : Nat) (w : World) (N : Nat) (hN : Sz w N) (hA : MpAt w m) (hq : Ats w q n (fun j => By (D j))) :
    Calls Tryd.prog 33 #[.pointer (some ⟨m.b, 0, none⟩), .slice q n c] w fun e w' => ∃ m', CellR m e m' ∧ Nx m w N w' m' := by
  go_enter Tryd.func33, Tryd.ntmps33
  go_wp2_with fail
  refine (keyText_any m hm.sp D n q c _ N hN hA hq).mono ?_
  rintro e w1 ⟨hr, hb1⟩
  obtain ⟨M1, hM1⟩ := sz_some w1
  have L1 := below_sz hb1 hN hM1
  rcases hr with rfl | ⟨_, _, _, D', rfl⟩
  · go_wp2_with fail
    go_ret2
    exact ⟨m, .inl ⟨22, by decide, rfl, rfl⟩, Nx.stay hN hA hm hb1⟩
  · have A1 := hA.below hN hb1
    go_wp2_with fail
    refine (nearest_any m hm.sp D' _ M1 hM1 A1).mono ?_
    rintro e w2 ⟨hr, hb2⟩
    obtain ⟨M2, hM2⟩ := sz_some w2
    have L2 := below_sz hb2 hM1 hM2
    have hb02 := hb1.trans (hb2.mono L1)
    rcases hr with ⟨k, hk, rfl⟩ | rfl
    · have E23 := hid (show ((k : Int) == -1) = false by rw [beq_eq_false_iff_ne]; omega)
      have A2 := hA.below hN hb02
      go_wp2_with (first
        | ((with_reducible show wpList _ _ _ (_ :: _) _ _); first
          | (refine wpl_run rfl (.bool false) _ (run_eqK (x := .tmp 22) rfl rfl rfl E23.out _) ?_; try simp only [pA]))
        | fail)
      refine (use_any m hm k hk _ M2 hM2 A2).mono ?_
      rintro e w3 ⟨rfl, m', hu, hx⟩
      go_wp2_with fail
      go_ret2
      obtain ⟨k', hk', e'⟩ := hu.at_ hk
      exact ⟨m', .inr ⟨k, k', hk, hk', e', hu, rfl⟩, hx.pre hN hb02 hM2⟩
    · go_wp2_with fail
      go_ret2
      exact ⟨m, .inl ⟨2, by decide, rfl, rfl⟩, Nx.stay hN hA hm hb02⟩
def LookR (m : Mp) (N : Nat) (e : Ending) (w' : World) (m' : Mp) : Prop := (∃ z : Int, z ≠ 0 ∧ e = .returned (.tuple #[.slice none 0 0, .int .i64 z]) ∧ m' = m) ∨ (∃ k D, k < m.n ∧ UseOf m k m' ∧ Val N m.val D e w')
set_option maxRecDepth 100000 in
theorem Look_any (m : Mp) (hm : FInv m) (D : Nat → BitVec 8) (n : Nat) (q : Option Addr) (c : Nat) (w : World) (N : Nat) (hN : Sz w N) (hA : MpAt w m) (hq : Ats w q n (fun j => By (D j))) :
    Calls Tryd.prog 16 #[.pointer (some ⟨m.b, 0, none⟩), .slice q n c] w fun e w' => ∃ m', LookR m N e w' m' ∧ Nx m w N w' m' := by
  go_enter Tryd.func16, Tryd.ntmps16
  go_wp2_with fail
  refine (Cell_any m hm D n q c _ N hN hA hq).mono ?_
  rintro e w1 ⟨m', hr, hx⟩
  obtain ⟨M1, hM1⟩ := sz_some w1
  have L1 : N ≤ M1 := by
    have e1 : w1.heap.size = M1 := hM1
    have e2 : w.heap.size = N := hN
    have := hx.turn.size
    omega
  rcases hr with ⟨z, hz, rfl, rfl⟩ | ⟨k, k', hk, hk', e', hu, rfl⟩
  · have E15 := hid (show (z != 0) = true from bne_iff_ne.2 hz)
    go_wp2_with (first
      | ((with_reducible show wpList _ _ _ (_ :: _) _ _); first
        | (refine wpl_run rfl (.bool true) _ (run_neqZ (x := .tmp 14) rfl rfl rfl E15.out _) ?_; try simp only [pA]))
      | fail)
    go_ret2
    exact ⟨_, .inl ⟨z, hz, rfl, rfl⟩, hx⟩
  · go_wp2_with fail
    have eb := hx.sm.1
    have ev := hx.sm.2.2.2.1
    have hc := hx.at_.c k' hk'
    have hv := hx.at_.v k' hk'
    rw [e'] at hc hv
    rw [← eb]
    refine (value_any m' (m.E k).c (m.E k).b _ hx.inv.sp.v1 hx.inv.sp.v64 _ M1 hM1 hx.at_ hc hv).mono ?_
    rintro e w2 ⟨rfl, hb2, hM2, hv2⟩
    go_wp2_with fail
    go_ret2
    exact ⟨m', .inr ⟨k, _, hk, hu, M1, L1, rfl, by rw [ev] at hv2; exact hv2⟩, hx.post hN hM1 hb2⟩
end Go.Proofs.YtjdclgnlnehjlaaDoor
