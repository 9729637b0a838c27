/- BmapPrefix: number. -/
import Derived.Test.YteicoheihalnnaaBa1
import Derived.Laws.IdiomStrings
namespace Go.Proofs.Yteicoheihalnnaa
open Go Go.RowKit
theorem at_strOf (D : Nat → BitVec 8) (n k : Nat) (h : k < (strOf D n).size) : (((strOf D n)[k]'h).toNat : Int) = v8 (D k) := by
  simp [strOf, v8, ByteArray.getElem_eq_getElem_data]
/-- Block b has n bytes, and behind them what its capacity leaves; only what lies behind its end is marked. -/
def Raw (w : World) (b n : Nat) (f : Nat → Value) : Prop := ∃ C z, w.heap[b]? = some (.cells C 5 (z, z + 1)) ∧ n ≤ z ∧ C.size = z ∧ ∀ j, j < n → C[j]? = some (f j)
section
variable {P : Program} {w w' : World} {b n : Nat} {f g : Nat → Value}
theorem Raw.cell (h : Raw w b n f) {j : Nat} (hj : j < n) : w.cell? ⟨b, j, none⟩ = some (f j) := by
  obtain ⟨C, z, h, _, _, hc⟩ := h
  rw [cell_of_row w b j _ _ _ h, hc j hj]
theorem Raw.free (h : Raw w b n f) {j : Nat} (hj : j < n) : w.frozen? ⟨b, j, none⟩ = false := by
  obtain ⟨C, z, h, hz, _, hc⟩ := h
  simp [World.frozen?, h]
  omega
theorem Raw.same (h : Raw w b n f) (e : w'.heap[b]? = w.heap[b]?) : Raw w' b n f := by obtain ⟨C, z, h, r⟩ := h; exact ⟨C, z, e.trans h, r⟩
theorem Raw.congr (h : Raw w b n f) (e : ∀ j, j < n → f j = g j) : Raw w b n g := by
  obtain ⟨C, z, h, h1, h2, hc⟩ := h
  exact ⟨C, z, h, h1, h2, fun j hj => by rw [← e j hj]; exact hc j hj⟩
theorem Raw.ats (h : Raw w b n f) : Ats w (some ⟨b, 0, none⟩) n f := fun _ => ⟨b, 0, rfl, fun j hj => by rw [Nat.zero_add]; exact h.cell hj⟩
theorem Raw.set (h : Raw w b n f) (k : Nat) (v : Value) : Raw (w.setCell ⟨b, k, none⟩ v) b n (upd f k v) := by
  obtain ⟨C, z, h, h1, h2, hc⟩ := h
  refine ⟨C.setIfInBounds k v, z, by simp [World.setCell, Array.getElem?_modify, h], h1, by simpa using h2, fun j hj => ?_⟩
  rw [Array.getElem?_setIfInBounds]
  unfold upd
  by_cases e : k = j
  · subst e
    rw [if_pos rfl, if_pos (by omega), if_pos rfl]
  · rw [if_neg e, if_neg (fun h => e h.symm)]
    exact hc j hj
theorem run_store_raw {k : Nat} (hh : Raw w b n f) (hk : k < n) (ty : TypeId) (v : Value) (hi : (P.info? ty).map (·.size) = some 1) (hv : v.cells = #[v]) (h1 : v.oneCell' = true) :
    (Instr.storeAt ty (.pointer (some ⟨b, k, none⟩)) v).run P w = .ok () (w.setCell ⟨b, k, none⟩ v) := by
  have := run_storeCells_cells (P := P) b k [v] 0 w (fun j hj => by
      have : j = 0 := by simpa using hj
      subst this
      rw [show k + 0 + 0 = k from rfl, hh.cell hk]; rfl) (fun j hj => by
      have : j = 0 := by simpa using hj
      subst this
      exact hh.free hk) (fun u hu => by
      have : u = v := by simpa using hu
      rw [this]; exact h1)
  cases hq : P.info? ty with
  | none => simp [hq] at hi
  | some i =>
    have hs : i.size = 1 := by simpa [hq] using hi
    simp only [Nat.add_zero, World.setCells] at this
    simp [Instr.storeAt, Instr.sureAddr, storeVar, sizeOf, typeInfo, hq, hv, hs, this]
variable {ops : Array Oper} {rest : List Oper} {o : Oper} {a : Act} {Q : Exit → Act → World → Prop}
theorem wpl_setR (hg : o.guard = none) (ty : TypeId) (x y : Operand) (ho : o.op = .store ty x y) (b k : Nat) (hx : a.eval x = .pointer (some ⟨b, k, none⟩)) (v : Value) (hy : a.eval y = v)
    (hi : (P.info? ty).map (·.size) = some 1) (hv : v.cells = #[v]) (h1 : v.oneCell' = true) (n : Nat) (f : Nat → Value) (hh : Raw w b n f) (hk : k < n)
    (h : ∀ w1, Touch b w w1 → Raw w1 b n (upd f k v) → wpList P ops Q rest (a.put o.dst undef) w1) : wpList P ops Q (o :: rest) a w := by
  refine wpList_plain hg fun K hK => ?_
  have hrun := run_store_raw (P := P) hh hk ty v hi hv h1
  unfold Oper.wp execOp
  simp only [ho, hx, hy, Sem.run_bind, hrun, Result.andThen_ok]
  exact hK _ _ (h _ (touch_setCell w ⟨b, k, none⟩ v) (hh.set k v))
/-- A text as bytes of the call's own. -/
theorem run_raw (src dst : TypeId) (hs : P.underlying src = some .string) (hd : P.underlying dst = some (.slice 5)) (he : P.underlying 5 = some (.int .u8)) (w : World) (N : Nat) (hN : Sz w N) (D : Nat → BitVec 8) (n : Nat) :
    ∃ cap w', (convert src dst (.string (strOf D n))).run P w = .ok (.slice (some ⟨N, 0, none⟩) n cap) w' ∧ Sz w' (N + 1) ∧ Below N w w' ∧ Raw w' N n (fun j => By (D j)) := by
  have e : w.heap.size = N := hN
  subst e
  have hr := run_bytes_of_string (P := P) w src dst 5 (strOf D n) hs hd he
  rw [strOf_size] at hr
  refine ⟨_, _, hr, sz_alloc (w := w.drew) rfl _, (below_drewN (Below.refl w.heap.size w) 1).trans (below_new w.drew _ _ rfl), bytesRow (strOf D n) (grownCap w n 0 5), _, heap_alloc_new _ _, ?_, rfl, fun j hj => ?_⟩
  · simp [bytesRow, strOf]
  · unfold bytesRow
    rw [Array.getElem?_append_left (by simpa [strOf] using hj)]
    have := at_strOf D n j (by rw [strOf_size]; exact hj)
    simp [strOf, hj, By, v8]
end
/-- A Prefix's key of one byte: how many bits it has, and the byte. -/
def k5 (c : Nat) (a : BitVec 8) : Nat → BitVec 8 := fun j => if j = 0 then b8 c else if j = 4 then a else 0#8
def key5 (c : Nat) (a : BitVec 8) : ByteArray := strOf (k5 c a) 5
theorem or_l (c : Nat) (hc : c < 256) : bits BinOp.or IntKind.u32 0 (c : Int) = (c : Int) := by
  have : ∀ x : Fin 256, bits BinOp.or IntKind.u32 0 ((x.val : Nat) : Int) = ((x.val : Nat) : Int) := by decide +kernel
  exact this ⟨c, hc⟩
theorem or_r (c : Nat) (hc : c < 256) : bits BinOp.or IntKind.u32 (c : Int) 0 = (c : Int) := by
  have : ∀ x : Fin 256, bits BinOp.or IntKind.u32 ((x.val : Nat) : Int) 0 = ((x.val : Nat) : Int) := by decide +kernel
  exact this ⟨c, hc⟩
set_option maxRecDepth 100000 in
theorem number_5 (c : Nat) (hc : c < 256) (a : BitVec 8) (w : World) :
    Calls Try.prog 35 #[.string (key5 c a)] w fun e w' => e = .returned (.int .u32 (c : Int)) ∧ w' = w := by
  have hs : (key5 c a).size = 5 := strOf_size _ _
  obtain ⟨X, hX⟩ : ∃ X : Nat → Int, X = fun k => v8 (k5 c a k) := ⟨_, rfl⟩
  have hb : ∀ (n : Nat) (h : n < (key5 c a).size), (((key5 c a)[n]'h).toNat : Int) = X n := fun n h => (at_strOf _ 5 n h).trans (by rw [hX])
  have x0 : X 0 = (c : Int) := by
    have := by_nat c hc
    unfold By at this
    injection this with _ h
    rw [hX]
    exact h.symm
  have x1 : X 1 = 0 := by rw [hX]; rfl
  have x2 : X 2 = 0 := by rw [hX]; rfl
  have x3 : X 3 = 0 := by rw [hX]; rfl
  clear hX
  generalize key5 c a = s at *
  have c0 : (0 : Int) ≤ (c : Int) := by omega
  have c1 : (c : Int) < 256 := by omega
  go_enter Try.func35, Try.ntmps35
  go_wp2
  refine wp_loop_rounds 5 ?_
  rw [rounds_succ]
  go_wp2_with fail
  rw [rounds_succ]
  go_wp2_with fail
  rw [rounds_succ]
  go_wp2_with fail
  rw [rounds_succ]
  go_wp2_with fail
  rw [rounds_succ]
  go_wp2_with fail
  rw [or_l c hc, or_r c hc, or_r c hc, or_r c hc]
  go_ret
  exact ⟨rfl, rfl⟩
end Go.Proofs.Yteicoheihalnnaa
