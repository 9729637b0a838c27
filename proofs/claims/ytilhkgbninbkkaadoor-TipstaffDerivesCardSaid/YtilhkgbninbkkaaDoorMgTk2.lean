/- Tokens: their cells, chains of them; contracts of rooted, full, has, rightsOf, Command, Program, Map, Helper. Tokens: contracts of full, has, rightsOf, Command, Program, Map, Helper. -/
import Derived.Test.YtilhkgbninbkkaaDoorMgSha
import Derived.Test.YtilhkgbninbkkaaDoorSp5
import Derived.LaidEqlPtr
namespace Go.Proofs.YtilhkgbninbkkaaDoor
open Go Go.RowKit
/-- A token: its block, its namespace, its rights. -/
structure Tk where
  b : Nat
  at_ : Int
  r : Rg
def ptrOf (ts : List Tk) : Value := match ts with
  | [] => .pointer none
  | t :: _ => .pointer (some ⟨t.b, 0, none⟩)
/-- A token's cells. -/
def tkC (s : Int) (r : Rg) (up : Value) : Nat → Value := fun j => if j = 0 then .int .i64 s else if j < 7 then rgC r (j - 1) else up
/-- A chain, from a token to its root; each was made behind those that it comes of. -/
def Tks (w : World) : List Tk → Prop
  | [] => True
  | t :: ts => Has w t.b 74 8 (tkC t.at_ t.r (ptrOf ts)) ∧ (∀ u ∈ ts, u.b < t.b) ∧ Tks w ts
theorem Tks.same {w w' : World} : ∀ {ts : List Tk}, Tks w ts → (∀ t ∈ ts, w'.heap[t.b]? = w.heap[t.b]?) → Tks w' ts
  | [], _, _ => trivial
  | t :: ts, h, e => ⟨h.1.same (e t (by simp)), h.2.1, Tks.same h.2.2 (fun u hu => e u (by simp [hu]))⟩
theorem Tks.lt {w : World} : ∀ {ts : List Tk}, Tks w ts → ∀ t ∈ ts, t.b < w.heap.size
  | t :: ts, h, u, hu => by
    rcases List.mem_cons.1 hu with rfl | hu
    · exact h.1.lt
    · exact Tks.lt h.2.2 u hu
theorem Tks.below {w w' : World} {N : Nat} {ts : List Tk} (h : Tks w ts) (hN : Sz w N) (hb : Below N w w') : Tks w' ts := h.same (fun t ht => hb.block t.b (by have := h.lt t ht; rwa [show w.heap.size = N from hN] at this))
theorem Tks.turn {w w' : World} {S : Nat → Prop} {ts : List Tk} (h : Tks w ts) (t : Turn S w w') (hS : ∀ u ∈ ts, ¬ S u.b) : Tks w' ts := h.same (fun u hu => t.block u.b (h.lt u hu) (hS u hu))
theorem Tks.drop {w : World} : ∀ {ts : List Tk} (i : Nat), Tks w ts → Tks w (ts.drop i)
  | [], i, _ => by simp [Tks]
  | t :: ts, 0, h => h
  | t :: ts, i + 1, h => by
    show Tks w (ts.drop i)
    exact Tks.drop i h.2.2
theorem Tks.drewN {w : World} {ts : List Tk} (h : Tks w ts) (n : Nat) : Tks (w.drewN n) ts := h.same (fun _ _ => rfl)
section
variable {w : World} {t : Tk} {ts : List Tk}
theorem Tks.sp (h : Tks w (t :: ts)) : w.cell? ⟨t.b, 0, none⟩ = some (.int .i64 t.at_) := h.1.cell (j := 0) (by omega)
theorem Tks.up (h : Tks w (t :: ts)) : w.cell? ⟨t.b, 7, none⟩ = some (ptrOf ts) := h.1.cell (j := 7) (by omega)
end
theorem ptr_drop {ts : List Tk} {i : Nat} (h : i < ts.length) : ∃ t, ts.drop i = t :: ts.drop (i + 1) := by
  refine ⟨ts[i], ?_⟩
  rw [List.drop_eq_getElem_cons h]
/-- The rights of a token are read as a whole. -/
theorem Tks.rights {w : World} {t : Tk} {ts : List Tk} (h : Tks w (t :: ts)) : ∀ j, j < 6 → w.cell? ⟨t.b, 1 + j, none⟩ = some (rgC t.r j) := fun j hj => by
  rw [h.1.cell (j := 1 + j) (by omega)]
  unfold tkC
  rw [if_neg (by omega), if_pos (by omega), show 1 + j - 1 = j by omega]
theorem undTp : Tryd.prog.underlying 55 = some (.pointer 74) := by kernel_rfl
theorem infTk : ∃ i, Tryd.prog.info? 74 = some i ∧ i.size = 8 := size_of (by kernel_rfl)
set_option maxRecDepth 100000 in
theorem rooted_any (ts : List Tk) (hl : ts.length ≤ 1000) (w : World) (hT : Tks w ts) :
    Calls Tryd.prog 55 #[ptrOf ts] w fun e w' => e = .returned (.bool true) ∧ ∃ n, w' = w.drewN n := by
  obtain ⟨L, hL⟩ : ∃ L, L = ts.length := ⟨_, rfl⟩
  have HL := hid hL
  clear hL
  go_enter Tryd.func55, Tryd.ntmps55
  go_wp2
  go_loopg [3, 4] (L + 1) (fun g s f wr => ∃ i : Nat, g = L + 1 - i ∧ 2 * i ≤ L + 1 ∧ s = ptrOf (ts.drop i) ∧ f = ptrOf (ts.drop (2 * i)) ∧ Tks wr ts ∧ Hid (∃ n, wr = w.drewN n))
  case atStart => exact ⟨0, by omega, by omega, rfl, rfl, hT, hid ⟨0, rfl⟩⟩
  case round =>
    clear hT
    obtain ⟨i, rfl, hi, rfl, rfl, hT, hW⟩ := hrel
    have hL := HL.out
    by_cases h1 : 2 * i < ts.length
    · obtain ⟨t, et⟩ := ptr_drop h1
      obtain ⟨u, eu⟩ := ptr_drop (ts := ts) (i := i) (by omega)
      have Ht := hT.drop (2 * i)
      have Hu := hT.drop i
      rw [et] at Ht ⊢
      rw [eu] at Hu ⊢
      have ct := Ht.up
      have cu := Hu.up
      simp only [ptrOf]
      by_cases h2 : 2 * i + 1 < ts.length
      · obtain ⟨v, ev⟩ := ptr_drop h2
        rw [ev] at ct
        have Hv := Ht.2.2
        rw [ev] at Hv
        have cv := Hv.up
        simp only [ptrOf] at ct
        obtain ⟨y, ey⟩ := ptr_drop (ts := ts) (i := i + 1) (by omega)
        have hsl : ptrOf (ts.drop (i + 1)) = .pointer (some ⟨y.b, 0, none⟩) := by rw [ey]; rfl
        rw [hsl] at cu
        have hne : ∀ x : Tk, x ∈ ts.drop (2 * i + 1 + 1) → y.b ≠ x.b := fun x hx => by
          have hy := hT.drop (i + 1)
          rw [ey] at hy
          have hx2 : x ∈ ts.drop (i + 1 + 1) := by
            have : ts.drop (2 * i + 1 + 1) = (ts.drop (i + 1 + 1)).drop i := by rw [List.drop_drop]; congr 1; omega
            rw [this] at hx
            exact List.mem_of_mem_drop hx
          have := hy.2.1 x hx2
          omega
        have HT := hid hT
        by_cases h3 : 2 * i + 1 + 1 < ts.length
        · obtain ⟨x, ex⟩ := ptr_drop h3
          have hxy := hne x (by rw [ex]; simp)
          have hfa : ptrOf (ts.drop (2 * i + 1 + 1)) = .pointer (some ⟨x.b, 0, none⟩) := by rw [ex]; rfl
          rw [hfa] at cv
          have hy := hT.drop (i + 1)
          rw [ey] at hy
          have hx := hT.drop (2 * i + 1 + 1)
          rw [ex] at hx
          obtain ⟨ti, hti, htz⟩ := infTk
          have hq : ∀ n, (binOp .eql 55 (.pointer (some ⟨y.b, 0, none⟩)) (.pointer (some ⟨x.b, 0, none⟩))).run Tryd.prog (wr.drewN n) = .ok (.bool false) (wr.drewN n) := fun n =>
            run_eql_ptr_other (wr.drewN n) undTp hti (by omega) (fun e => hxy (congrArg (·.block) e)) hy.1.out hx.1.out
          have hi2 : 2 * (i + 1) ≤ L + 1 := by omega
          have Hsl := hid hsl
          have Hfa := hid hfa
          clear hx hy hti htz
          clear hL hne hsl hfa et eu ev ey ex Ht Hu Hv hT
          go_wp2_with fail
          go_quiet (fail)
          go_wp2
          go_roundg (L + 1 - (i + 1))
          case measure => omega
          case rel => exact ⟨i + 1, rfl, hi2, Hsl.out.symm, by rw [show 2 * (i + 1) = 2 * i + 1 + 1 by omega]; exact Hfa.out.symm, HT.out.drewN _, by
            obtain ⟨n, e⟩ := hW.out
            exact hid ⟨n + nq, by rw [e, World.drewN_drewN]⟩⟩
        · have hfa : ptrOf (ts.drop (2 * i + 1 + 1)) = .pointer none := by rw [List.drop_eq_nil_of_le (by omega)]; rfl
          rw [hfa] at cv
          have hi2 : 2 * (i + 1) ≤ L + 1 := by omega
          have Hsl := hid hsl
          have Hfa := hid hfa
          clear hL hne hsl hfa et eu ev ey Ht Hu Hv hT
          go_wp2_with fail
          go_quiet (fail)
          go_wp2
          go_roundg (L + 1 - (i + 1))
          case measure => omega
          case rel => exact ⟨i + 1, rfl, hi2, Hsl.out.symm, by rw [show 2 * (i + 1) = 2 * i + 1 + 1 by omega]; exact Hfa.out.symm, HT.out.drewN _, by
            obtain ⟨n, e⟩ := hW.out
            exact hid ⟨n + nq, by rw [e, World.drewN_drewN]⟩⟩
      · have hfa : ptrOf (ts.drop (2 * i + 1)) = .pointer none := by rw [List.drop_eq_nil_of_le (by omega)]; rfl
        rw [hfa] at ct
        clear hL hfa et eu Ht Hu
        go_wp2_with fail
        go_ret
        exact ⟨rfl, hW.out⟩
    · have hfa : ptrOf (ts.drop (2 * i)) = .pointer none := by rw [List.drop_eq_nil_of_le (by omega)]; rfl
      rw [hfa]
      clear hfa hL
      go_wp2_with fail
      go_ret
      exact ⟨rfl, hW.out⟩
end Go.Proofs.YtilhkgbninbkkaaDoor
namespace Go.Proofs.YtilhkgbninbkkaaDoor
open Go Go.RowKit
set_option maxRecDepth 100000 in
theorem full_any (t : Tk) (us : List Tk) (w : World) (hT : Tks w (t :: us)) :
    Calls Tryd.prog 54 #[.pointer (some ⟨t.b, 0, none⟩)] w fun e w' => e = .returned (.bool (decide (4 ≤ (t :: us).length))) ∧ w' = w := by
  obtain ⟨ts, hts⟩ : ∃ ts, ts = t :: us := ⟨_, rfl⟩
  have e0 : Value.pointer (some ⟨t.b, 0, none⟩) = ptrOf (ts.drop 0) := by rw [hts]; rfl
  have hl : 0 < ts.length := by rw [hts]; simp
  rw [← hts] at hT ⊢
  rw [e0]
  clear hts e0
  go_enter Tryd.func54, Tryd.ntmps54
  go_wp2
  go_loop [0, 3] (fun x i => ∃ j : Nat, j ≤ 3 ∧ j < ts.length ∧ i = .int .i64 (j : Int) ∧ x = ptrOf (ts.drop j)) (fun _ i => 3 - (intOf i).toNat)
  case atStart => exact ⟨0, by omega, hl, rfl, rfl⟩
  case round =>
    obtain ⟨j, hj, hlt, rfl, rfl⟩ := hrel
    have j0 : (0 : Int) ≤ (j : Int) := by omega
    by_cases h3 : j < 3
    · have q3 : (j : Int) < 3 := by omega
      obtain ⟨u, eu⟩ := ptr_drop hlt
      have Hu := hT.drop j
      rw [eu] at Hu ⊢
      have cu := Hu.up
      simp only [ptrOf]
      by_cases h4 : j + 1 < ts.length
      · obtain ⟨v, ev⟩ := ptr_drop h4
        have hv : ptrOf (ts.drop (j + 1)) = .pointer (some ⟨v.b, 0, none⟩) := by rw [ev]; rfl
        rw [hv] at cu
        have Hv := hid hv
        clear hv ev eu Hu
        go_wp2
        go_round
        case rel => exact ⟨j + 1, by omega, h4, by go_num, Hv.out.symm⟩
        case measure => simp [intOf]; omega
      · have hv : ptrOf (ts.drop (j + 1)) = .pointer none := by rw [List.drop_eq_nil_of_le (by omega)]; rfl
        rw [hv] at cu
        have hd := hid (show decide (4 ≤ ts.length) = false by simp; omega)
        clear hv eu Hu
        go_wp2
        go_ret
        exact ⟨by rw [hd.out]; rfl, rfl⟩
    · have q3 : ¬ (j : Int) < 3 := by omega
      have hd := hid (show decide (4 ≤ ts.length) = true by simp; omega)
      go_wp2
      go_ret
      exact ⟨by rw [hd.out]; rfl, rfl⟩
end Go.Proofs.YtilhkgbninbkkaaDoor
