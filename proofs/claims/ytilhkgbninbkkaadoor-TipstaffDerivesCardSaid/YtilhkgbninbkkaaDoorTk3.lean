/- Tokens: the way of a chain (Chain), turned round. -/
import Derived.Test.YtilhkgbninbkkaaDoorMgTk2
namespace Go.Proofs.YtilhkgbninbkkaaDoor
open Go Go.RowKit
/-- A pointer to a block. -/
def Pk (b : Nat) : Value := .pointer (some ⟨b, 0, none⟩)
theorem undTks : Tryd.prog.underlying 61 = some (.slice 55) := by kernel_rfl
theorem zerTp : (Tryd.prog.info? 55).map (fun i => (i.zero, i.size, i.bytes)) = some (some (.pointer none), 1, 8) := by kernel_rfl
theorem oneTp : OneCell Tryd.prog 55 := oneCell_of zerTp (by omega) rfl
/-- The ends are exchanged as far as i. -/
def swpB (F : Nat → Nat) (n i : Nat) : Nat → Nat := fun j => if j < i ∨ n ≤ j + i then F (n - 1 - j) else F j
theorem swpB_step (F : Nat → Nat) (n i : Nat) (h : 2 * i + 1 < n) (j : Nat) (hj : j < n) :
    upd (upd (fun j => Pk (swpB F n i j)) i (Pk (swpB F n i (n - 1 - i)))) (n - 1 - i) (Pk (swpB F n i i)) j = Pk (swpB F n (i + 1) j) := by
  unfold upd swpB
  by_cases h1 : j = n - 1 - i
  · subst h1
    rw [if_pos rfl, if_neg (by omega), if_pos (by omega), show n - 1 - (n - 1 - i) = i by omega]
  · rw [if_neg h1]
    by_cases h2 : j = i
    · subst h2
      rw [if_pos rfl, if_neg (by omega), if_pos (by omega)]
    · rw [if_neg h2]
      dsimp only
      by_cases h3 : j < i ∨ n ≤ j + i
      · rw [if_pos h3, if_pos (by omega)]
      · rw [if_neg h3, if_neg (by omega)]
theorem swpB_end (F : Nat → Nat) (n i : Nat) (h : ¬ 2 * i + 1 < n) (j : Nat) (hj : j < n) : swpB F n i j = F (n - 1 - j) := by
  unfold swpB
  by_cases h3 : j < i ∨ n ≤ j + i
  · rw [if_pos h3]
  · rw [if_neg h3]
    congr 1
    omega
set_option maxRecDepth 100000 in
theorem Reverse_tks (g n cap : Nat) (F : Nat → Nat) (hn : n ≤ 1000) (w : World) (hO : Own w 55 (some ⟨g, 0, none⟩) n cap (fun j => Pk (F j))) :
    Calls Tryd.prog 56 #[.slice (some ⟨g, 0, none⟩) n cap] w fun e w' => e = .returned (.tuple #[]) ∧ Turn (fun k => k = g) w w' ∧ Own w' 55 (some ⟨g, 0, none⟩) n cap (fun j => Pk (F (n - 1 - j))) := by
  go_enter Tryd.func56, Tryd.ntmps56
  go_wp2
  go_loopg [2, 3] (n + 1) (fun k u v wr => ∃ i : Nat, k = n + 1 - i ∧ i ≤ n ∧ u = .int .i64 i ∧ v = .int .i64 ((n : Int) - 1 - i) ∧ Own wr 55 (some ⟨g, 0, none⟩) n cap (fun j => Pk (swpB F n i j)) ∧ Turn (fun k => k = g) w wr)
  case atStart => exact ⟨0, by omega, by omega, rfl, by simp, hO.congr (fun j hj => by unfold swpB; rw [if_neg (by omega)]), Turn.refl _ _⟩
  case round =>
    clear hO
    obtain ⟨i, rfl, hin, rfl, rfl, hO, hT⟩ := hrel
    have n0 : (n : Int) ≤ 1000 := by omega
    have i0 : (0 : Int) ≤ (i : Int) := by omega
    by_cases hlt : 2 * i + 1 < n
    · obtain ⟨jn, hjn⟩ : ∃ jn : Nat, jn = n - 1 - i := ⟨_, rfl⟩
      have ej : (n : Int) - 1 - i = (jn : Int) := by omega
      rw [ej]
      have hij : i < jn := by omega
      have hji : jn < n := by omega
      have t1 : (i : Int) < (jn : Int) := by omega
      have t2 : (jn : Int) < (n : Int) := by omega
      have t3 : (i : Int) < (n : Int) := by omega
      obtain ⟨ci0, fi⟩ := hO.at i (by omega)
      obtain ⟨cj0, fj⟩ := hO.at jn (by omega)
      have ci : wr.cell? ⟨g, i, none⟩ = some (Pk (swpB F n i i)) := ci0
      have cj : wr.cell? ⟨g, jn, none⟩ = some (Pk (swpB F n i jn)) := cj0
      clear ci0 cj0
      have HS := hid (swpB_step F n i hlt)
      have Hj := hid hjn
      have He := hid ej
      clear hjn ej
      obtain ⟨za, hza⟩ : ∃ za, za = swpB F n i i := ⟨_, rfl⟩
      obtain ⟨zb, hzb⟩ : ∃ zb, zb = swpB F n i jn := ⟨_, rfl⟩
      have Hza := hid hza
      have Hzb := hid hzb
      rw [← hza] at ci
      rw [← hzb] at cj
      unfold Pk at ci cj
      clear hza hzb
      go_wp2_with fail
      go_region
      go_wp2
      go_roundg (n + 1 - (i + 1))
      case measure => omega
      case rel =>
        refine ⟨i + 1, rfl, by omega, by go_num, ?_, ?_, ?_⟩
        · have := He.out; congr 1; push_cast; omega
        · have A := (((hO.set i (Pk zb)).set jn (Pk za)).drew).congr (f' := fun j => Pk (swpB F n (i + 1) j)) (fun j hj => by
            have := HS.out j hj
            rw [← Hj.out, ← Hza.out, ← Hzb.out] at this
            exact this)
          exact A
        · have B := (hT.trans (touch_setCell wr ⟨g, i, none⟩ (Pk zb)).turn (fun j h _ => h)).trans (touch_setCell _ ⟨g, jn, none⟩ (Pk za)).turn (fun j h _ => h)
          exact turn_alike B
    · have t1 : ¬ ((i : Int) < (n : Int) - 1 - i) := by omega
      have HE := hid (swpB_end F n i hlt)
      go_wp2
      go_end0
      exact ⟨rfl, hT, hO.congr (fun j hj => by show Pk _ = Pk _; rw [HE.out j hj])⟩
/-- The block of the i-th of a chain, from the token on. -/
def blkAt (ts : List Tk) (i : Nat) : Nat := (ts.map (·.b)).getD i 0
theorem blkAt_drop {ts : List Tk} {i : Nat} {t : Tk} {us : List Tk} (h : ts.drop i = t :: us) : blkAt ts i = t.b := by
  unfold blkAt
  have : ts[i]? = some t := by rw [← List.head?_drop, h]; rfl
  simp [this]
set_option maxRecDepth 100000 in
theorem Chain_any (ts : List Tk) (h0 : 0 < ts.length) (hl : ts.length ≤ 1000) (w : World) (N : Nat) (hN : Sz w N) (hT : Tks w ts) :
    Calls Tryd.prog 31 #[ptrOf ts] w fun e w' => ∃ g cap, e = .returned (.slice (some ⟨g, 0, none⟩) ts.length cap) ∧ N ≤ g ∧ Own w' 55 (some ⟨g, 0, none⟩) ts.length cap (fun j => Pk (blkAt ts (ts.length - 1 - j))) ∧ Below N w w' := by
  have HR := rooted_any ts hl w hT
  obtain ⟨V0, hV0⟩ : ∃ V0, V0 = ptrOf ts := ⟨_, rfl⟩
  rw [← hV0] at HR ⊢
  have H0 := hid hV0
  clear hV0
  go_enter Tryd.func31, Tryd.ntmps31
  go_wp2_with (first
    | (go_at_call 55; refine HR.mono ?_; rintro e w1 ⟨rfl, nq, rfl⟩)
    | fail)
  have b1 : Below N w (w.drewN nq) := below_drewN (Below.refl N w) nq
  clear HR
  go_loopg [0, 3] (ts.length + 1) (fun k x p wr => ∃ (i cap : Nat) (q : Option Addr), k = ts.length + 1 - i ∧ i ≤ ts.length ∧ x = ptrOf (ts.drop i) ∧ p = .slice q i cap ∧ (∀ j, blk q = some j → N ≤ j) ∧
    Own wr 55 q i cap (fun j => Pk (blkAt ts j)) ∧ Below N w wr)
  case atStart => exact ⟨0, 0, none, by omega, by omega, H0.out, rfl, fun j hj => by simp [blk] at hj, .inl ⟨rfl, rfl, rfl⟩, b1⟩
  case round =>
    clear b1
    obtain ⟨i, cap, q, rfl, hi, rfl, rfl, hg, hO, hb⟩ := hrel
    have hbl := below_le hb hN
    by_cases hlt : i < ts.length
    · obtain ⟨t, et⟩ := ptr_drop hlt
      have hB := hid (blkAt_drop et)
      have Ht := hT.drop i
      rw [et] at Ht ⊢
      have hu := Ht.1
      have ctl := hu.ltN hN
      have cu := Ht.up
      obtain ⟨V, hV⟩ : ∃ V, V = ptrOf (ts.drop (i + 1)) := ⟨_, rfl⟩
      rw [← hV] at cu
      have HV := hid hV
      simp only [ptrOf]
      obtain ⟨M, hM⟩ := sz_some wr
      have hNM := below_sz hb hN hM
      have ew : wr.heap.size = M := hM
      have cu2 : ∀ w', Below N w w' → w'.cell? ⟨t.b, 7, none⟩ = some V := fun w' h => by rw [h.cell (p := ⟨t.b, 7, none⟩) ctl]; exact cu
      clear hV et Ht cu hu
      have n7 : i + 1 ≤ 10000 := by omega
      have n8 := hid hi
      have n9 := hid hlt
      clear hi hlt
      go_wp2_with (first
        | (refine wpl_app rfl (.tmp 13) (.tmp 15) 61 rfl 55 undTks oneTp q i cap rfl (fun j => Pk (blkAt ts j)) (hO.alloc _) (some ⟨M, 0, none⟩) 1 1 (by rw [← ew]; rfl) (fun _ => Pk t.b) (cells_new_one wr _ _ M hM) (fun _ _ => rfl) (by omega) ?_
           intro p1 cap1 w4 o4 g4 k4 n4
           have s4 := hb.trans ((below_new wr (.cells #[.pointer (some ⟨t.b, 0, none⟩)] 55) M hM).mono hNM)
           have z4 : (wr.alloc (.cells #[.pointer (some ⟨t.b, 0, none⟩)] 55)).heap.size = M + 1 := sz_alloc hM _
           have b4 : Below N w w4 := g4.below s4 (by omega) hg
           have c7 := cu2 w4 b4)
        | fail)
      obtain ⟨g', e'⟩ : ∃ g', p1 = some ⟨g', 0, none⟩ := by
        rcases o4 with ⟨h, h2, _⟩ | ⟨g', C, h, _⟩
        · omega
        · exact ⟨g', h⟩
      subst e'
      have hg' := ge_step (a := blk q) (N := N) hg (by rw [z4] at k4; exact k4) (by omega) g' rfl
      go_roundg (ts.length + 1 - (i + 1))
      case measure => have := n9.out; omega
      case rel => exact ⟨i + 1, cap1, some ⟨g', 0, none⟩, rfl, n9.out, HV.out, rfl, fun j hj => by simp [blk] at hj; omega, o4.congr (fun j hj => by
        unfold cat
        by_cases e : j < i
        · rw [if_pos e]
        · obtain rfl : j = i := by omega
          rw [if_neg e, hB.out]), b4⟩
    · have hi' : i = ts.length := by omega
      subst hi'
      rw [List.drop_length]
      simp only [ptrOf]
      obtain ⟨g, rfl⟩ : ∃ g, q = some ⟨g, 0, none⟩ := by
        rcases hO with ⟨h, h2, _⟩ | ⟨g', C, h, _⟩
        · omega
        · exact ⟨g', h⟩
      have hg := hg g rfl
      go_wp2_with (first
        | (go_at_call 56; refine (Reverse_tks g ts.length cap (fun j => blkAt ts j) hl _ hO).mono ?_; rintro e w3 ⟨rfl, ht, hO3⟩)
        | fail)
      go_ret
      exact ⟨g, cap, rfl, hg, hO3, ht.below hb (fun j h => by omega) hbl⟩
end Go.Proofs.YtilhkgbninbkkaaDoor
