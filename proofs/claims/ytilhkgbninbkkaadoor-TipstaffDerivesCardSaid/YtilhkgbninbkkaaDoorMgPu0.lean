/- TokenDerives: laws of its last loop. Rights as words: what internal/strconv.ParseUint tells of a text at base 16 and 16 bits. -/
import Derived.Test.YtilhkgbninbkkaaDoorTk16
import Derived.Test.YtilhkgbninbkkaaDoorRi1
import Derived.Lib.ConvBytes
import Derived.Lib.Strings
import Derived.Lib.Walk
import Derived.Lib.Hide
import Derived.Lib.AtoiErrMem
import Derived.Laws.Strings3
import Derived.Laws.Closers25
import Derived.Laws.Closers25b
import Derived.WalkKit
import Derived.BigCall
import Derived.BigGuard
namespace Go.Proofs.YtilhkgbninbkkaaDoor
open Go Go.RowKit
section
variable {P : Program} {a : Act} {o : Oper} {T ty : TypeId} {x y : Operand}
end
end Go.Proofs.YtilhkgbninbkkaaDoor
namespace Go.Proofs.YtilhkgbninbkkaaDoor
open Go Go.RowKit
/-- A letter, small. -/
def lwI (c : Nat) : Int := bits BinOp.or IntKind.u8 (c : Int) 32
/-- A digit's worth. -/
def hxd (c : Nat) : Option Nat := if 48 ≤ c ∧ c ≤ 57 then some (c - 48) else if 97 ≤ lwI c ∧ lwI c ≤ 102 then some (lwI c - 87).toNat else none
/-- The number, and what ails it: 0 nothing, 1 it is too great, 2 it is none. -/
def puF : Nat → List UInt8 → Nat × Nat
  | n, [] => (n, 0)
  | n, c :: cs => match hxd c.toNat with
    | none => (0, 2)
    | some d => if 65535 < n * 16 + d then (65535, 1) else puF (n * 16 + d) cs
def puS (t : ByteArray) : Nat × Nat := if t.size = 0 then (0, 2) else puF 0 t.data.toList
def erV (k : Nat) : Value := if k = 0 then .nilIface else .iface 154 (.int .i64 (k : Int))
theorem lw_any (c : Nat) (w : World) : Calls Tryd.prog 101 #[.int .u8 (c : Int)] w fun e w' => e = .returned (.int .u8 (lwI c)) ∧ w' = w := by
  unfold lwI
  go_enter Tryd.func101, Tryd.ntmps101
  go_wp2
  go_ret
  exact ⟨rfl, rfl⟩
theorem bytesW_below (w : World) (e : TypeId) (s : ByteArray) (N : Nat) (hN : Sz w N) : Below N w (Lib.bytesWorld w e s) := by
  have h := Lib.bytesWorld_below w e s
  rwa [show w.heap.size = N from hN] at h
set_option maxRecDepth 100000 in
set_option maxHeartbeats 32000000 in
theorem Pu_any (t : ByteArray) (hmax : t.size ≤ 9223372036854775806) (w : World) (N : Nat) (hN : Sz w N) : Calls Tryd.prog 90 #[.string t, .int .i64 16, .int .i64 16] w fun e w' => e = .returned (.tuple #[.int .u64 ((puS t).1 : Int), erV (puS t).2]) ∧ Below N w w' := by
  by_cases h0 : t.size = 0
  · obtain rfl : t = ⟨#[]⟩ := by
      cases t with
      | mk d => congr 1; exact Array.eq_empty_of_size_eq_zero h0
    have e : puS ⟨#[]⟩ = (0, 2) := rfl
    rw [e]
    go_enter Tryd.func90, Tryd.ntmps90
    go_wp2
    go_ret2
    exact ⟨rfl, Below.refl N w⟩
  · obtain ⟨V, hV⟩ : ∃ V, puF 0 t.data.toList = V := ⟨_, rfl⟩
    have e : puS t = V := by unfold puS; rw [if_neg h0, hV]
    rw [e]
    have hemp : t.toList.isEmpty = false := by
      rw [← decide_eq_emptyBytes]
      exact decide_eq_false (fun h => h0 (by rw [h]; rfl))
    have hcv := Lib.run_convert_string_bytes (P := Tryd.prog) w 9 105 5 t (u := .string) (by kernel_rfl) (by kernel_rfl) (by kernel_rfl)
    have hB : ∀ j, j < t.size → (Lib.bytesWorld w 5 t).cell? ⟨w.heap.size, j, none⟩ = some (.int .u8 (t.data.toList.getD j 0).toNat) := fun j hj => Lib.bytesWorld_cell w 5 t j hj
    have hb := bytesW_below w 5 t N hN
    obtain ⟨W1, hW1⟩ : ∃ W1, W1 = Lib.bytesWorld w 5 t := ⟨_, rfl⟩
    rw [← hW1] at hcv hB hb
    clear hW1 e
    obtain ⟨bs, hL⟩ : ∃ bs, bs = t.data.toList := ⟨_, rfl⟩
    have hLn : bs.length = t.size := by rw [hL, Lib.size_eq]
    rw [← hL] at hB hV
    clear hL
    have HV := hid hV
    clear hV
    go_enter Tryd.func90, Tryd.ntmps90
    go_wp2
    go_loop [12, 13, 101] (fun vu vn vi => ∃ (k n : Nat) (a : Int), vu = .bool false ∧ vn = .int .u64 a ∧ vi = .int .i64 (k : Int) ∧ k ≤ t.size ∧ 0 ≤ a ∧ a ≤ 65535 ∧ Hid (a = (n : Int) ∧ puF n (bs.drop k) = V)) (fun _ _ vi => t.size - (intOf vi).toNat)
    case atStart => exact ⟨0, 0, 0, rfl, rfl, rfl, by omega, by omega, by omega, hid ⟨rfl, HV.out⟩⟩
    case round =>
      clear HV
      obtain ⟨k, n, a, rfl, rfl, rfl, hk, n0, n1, HH⟩ := hrel
      obtain ⟨ha, hV⟩ := HH.out
      clear HH
      by_cases hkn : k < t.size
      · have hc := hB k hkn
        have hdrop : bs.drop k = bs[k]'(by omega) :: bs.drop (k + 1) := List.drop_eq_getElem_cons (by omega)
        have hget : bs.getD k 0 = bs[k]'(by omega) := by simp [List.getD, List.getElem?_eq_getElem (show k < bs.length by omega)]
        rw [hdrop] at hV
        rw [hget] at hc
        generalize bs[k]'(by omega) = c at hc hV
        have hc256 : c.toNat < 256 := c.toNat_lt
        clear hB hdrop hget
        obtain ⟨x, hx⟩ : ∃ x, lwI c.toNat = x := ⟨_, rfl⟩
        have x0 : 0 ≤ x := by rw [← hx]; exact bits_lo_u8 .or (c.toNat : Int) 32
        have x1 : x ≤ 255 := by rw [← hx]; have := bits_hi_u8 .or (c.toNat : Int) 32; unfold lwI; omega
        have HC := fun w => lw_any c.toNat w
        rw [hx] at HC
        by_cases hdig : 48 ≤ c.toNat ∧ c.toNat ≤ 57
        · obtain ⟨hd0, hd1⟩ := hdig
          have hF : hxd c.toNat = some (c.toNat - 48) := by unfold hxd; rw [if_pos ⟨hd0, hd1⟩]
          rw [puF, hF] at hV
          obtain ⟨d, ed⟩ : ∃ d, c.toNat - 48 = d := ⟨_, rfl⟩
          rw [ed] at hV
          replace hV : (if 65535 < n * 16 + d then (65535, 1) else puF (n * 16 + d) (bs.drop (k + 1))) = V := hV
          obtain ⟨y, hy⟩ : ∃ y : Int, (c.toNat : Int) = y := ⟨_, rfl⟩
          rw [hy] at hc
          have y0 : 48 ≤ y := by omega
          have y1 : y ≤ 57 := by omega
          have HY := hid (show y - 48 = (d : Int) by omega)
          clear hx hF hd0 hd1 hc256 HC x0 x1
          by_cases hov : 65535 < n * 16 + d
          · rw [if_pos hov] at hV
            subst hV
            have iov : 65535 < a * 16 + (y - 48) := by have := HY.out; omega
            clear hov ed hy ha HY
            go_wp2
            go_ret2
            exact ⟨rfl, hb⟩
          · rw [if_neg hov] at hV
            have iov : a * 16 + (y - 48) ≤ 65535 := by have := HY.out; omega
            have HV := hid (And.intro (show a * 16 + (y - 48) = ((n * 16 + d : Nat) : Int) by have := HY.out; omega) hV)
            clear hov hV ed hy ha HY
            go_wp2
            refine ⟨⟨k + 1, n * 16 + d, a * 16 + (y - 48), rfl, (by first | rfl | (congr 1; omega)), (by first | rfl | (congr 1; omega)), by omega, by omega, by omega, HV⟩, by simp [intOf]; omega⟩
        · have hnd : hxd c.toNat = if 97 ≤ x ∧ x ≤ 102 then some (x - 87).toNat else none := by unfold hxd; rw [if_neg hdig, hx]
          rw [puF, hnd] at hV
          obtain ⟨y, hy⟩ : ∃ y : Int, (c.toNat : Int) = y := ⟨_, rfl⟩
          rw [hy] at hc HC
          have hy2 : y < 48 ∨ (48 ≤ y ∧ 57 < y) := by omega
          have y0 : 0 ≤ y := by omega
          have y9 : y ≤ 255 := by omega
          have h95 : y = 95 → x = 127 := fun h => by
            have e5 : c.toNat = 95 := by omega
            rw [← hx, e5]; decide
          clear hx hnd hdig hy hc256
          by_cases hl : 97 ≤ x ∧ x ≤ 102
          · rw [if_pos hl] at hV
            obtain ⟨d, ed⟩ : ∃ d, (x - 87).toNat = d := ⟨_, rfl⟩
            rw [ed] at hV
            replace hV : (if 65535 < n * 16 + d then (65535, 1) else puF (n * 16 + d) (bs.drop (k + 1))) = V := hV
            obtain ⟨x2, x3⟩ := hl
            have x4 : x ≤ 122 := by omega
            have ne : (y == 95) = false := beq_eq_false_iff_ne.2 (fun h => by have := h95 h; omega)
            clear h95
            have HY := hid (show x - 97 + 10 = (d : Int) by omega)
            by_cases hov : 65535 < n * 16 + d
            · rw [if_pos hov] at hV
              subst hV
              have iov : 65535 < a * 16 + (x - 97 + 10) := by have := HY.out; omega
              clear hov ed ha HY
              rcases hy2 with hy2 | ⟨hy2, hy3⟩ <;>
              · go_wp2_with (go_at_call 101; refine (HC _).mono ?_; rintro e w' ⟨rfl, rfl⟩)
                all_goals (go_ret2; exact ⟨rfl, hb⟩)
            · rw [if_neg hov] at hV
              have iov : a * 16 + (x - 97 + 10) ≤ 65535 := by have := HY.out; omega
              have HV := hid (And.intro (show a * 16 + (x - 97 + 10) = ((n * 16 + d : Nat) : Int) by have := HY.out; omega) hV)
              clear hov hV ed ha HY
              rcases hy2 with hy2 | ⟨hy2, hy3⟩ <;>
              · go_wp2_with (go_at_call 101; refine (HC _).mono ?_; rintro e w' ⟨rfl, rfl⟩)
                all_goals refine ⟨⟨k + 1, n * 16 + d, a * 16 + (x - 97 + 10), rfl, (by first | rfl | (congr 1; omega)), (by first | rfl | (congr 1; omega)), by omega, by omega, by omega, HV⟩, by simp [intOf]; omega⟩
          · rw [if_neg hl] at hV
            have e3 : V = (0, 2) := hV.symm
            subst e3
            have hx2 : x < 97 ∨ (97 ≤ x ∧ 122 < x) ∨ (97 ≤ x ∧ x ≤ 122 ∧ 16 ≤ x - 97 + 10) := by omega
            clear hV ha hl
            by_cases h5 : y = 95
            · subst h5
              obtain rfl : x = 127 := h95 rfl
              clear hy2 hx2 h95
              go_wp2_with (go_at_call 101; refine (HC _).mono ?_; rintro e w' ⟨rfl, rfl⟩)
              all_goals (go_ret2; exact ⟨rfl, hb⟩)
            have ne : (y == 95) = false := beq_eq_false_iff_ne.2 h5
            clear h95
            rcases hy2 with hy2 | ⟨hy2, hy3⟩ <;> rcases hx2 with hx2 | ⟨hx2, hx3⟩ | ⟨hx2, hx3, hx4⟩ <;>
            · go_wp2_with (go_at_call 101; refine (HC _).mono ?_; rintro e w' ⟨rfl, rfl⟩)
              all_goals (go_ret2; exact ⟨rfl, hb⟩)
      · have hkk : k = t.size := by omega
        subst hkk
        rw [List.drop_eq_nil_of_le (by omega)] at hV
        have e2 : V = (n, 0) := hV.symm
        subst e2
        subst ha
        clear hV
        go_wp2
        go_ret2
        exact ⟨rfl, hb⟩
end Go.Proofs.YtilhkgbninbkkaaDoor
