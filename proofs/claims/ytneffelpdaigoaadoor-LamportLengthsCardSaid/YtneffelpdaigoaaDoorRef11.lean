/- Hex of the document's answer for layer 1. -/
import Derived.Test.YtneffelpdaigoaaDoorRef10
import Derived.Test.YtneffelpdaigoaaDoorLater
import Derived.Laws.Concat
namespace Go.Proofs.YtneffelpdaigoaaDoor
open Go Go.RowKit Sha
/-- The first signs of a sum. -/
def hexP (s : Nat → BitVec 8) (m : Nat) : ByteArray := ⟨((List.range m).map (fun j => UInt8.ofNat (hexB s j))).toArray⟩
theorem hexP_two (s : Nat → BitVec 8) (k : Nat) : hexP s (2 * k) ++ ⟨#[UInt8.ofNat (hexD ((s k).toNat / 16))]⟩ ++ ⟨#[UInt8.ofNat (hexD ((s k).toNat % 16))]⟩ = hexP s (2 * (k + 1)) := by
  have e0 : hexB s (2 * k) = hexD ((s k).toNat / 16) := by unfold hexB; rw [if_pos (by omega), show 2 * k / 2 = k from by omega]
  have e1 : hexB s (2 * k + 1) = hexD ((s k).toNat % 16) := by unfold hexB; rw [if_neg (by omega), show (2 * k + 1) / 2 = k from by omega]
  rw [show 2 * (k + 1) = 2 * k + 1 + 1 from by omega]
  apply ByteArray.ext
  simp only [ByteArray.data_append, hexP]
  rw [List.range_succ, List.range_succ]
  simp [e0, e1]
theorem sign_cut (n : Nat) (h : n < 16) (w : World) : (Instr.sliceAt 9 (.string signsS) (some (.int .u8 (n : Int))) (some (.int .u8 ((n : Int) + 1))) none).run Tryd.prog w = .ok (.string ⟨#[UInt8.ofNat (hexD n)]⟩) w := by
  have hc : ∀ n : Nat, n < 16 → (signsS.extract n (n + 1)).data.toList = [UInt8.ofNat (hexD n)] := by decide +kernel
  have hlen : signsS.size = 16 := rfl
  have e : signsS.extract n (n + 1) = ⟨#[UInt8.ofNat (hexD n)]⟩ := by
    apply ByteArray.ext
    rw [← Array.toList_inj, hc n h]
  simp [Instr.sliceAt, Instr.slice, Sem.run_bind, run_underlying und9 w, Instr.sliceBounds, Instr.sliceBound, asIntOf, e]
  intro hh
  exact absurd (hh (by omega)) (by rw [hlen]; omega)
set_option maxRecDepth 100000 in
theorem RefHex_any (b cap : Nat) (s : Nat → BitVec 8) (w : World) (T : TypeId) (h : Has w b T 32 (fun j => By (s j))) :
    Calls Tryd.prog 21 #[.slice (some ⟨b, 0, none⟩) 32 cap] w fun e w' => e = .returned (.string (hexS s)) ∧ ∃ k, w' = w.drewN k := by
  go_enter Tryd.func21, Tryd.ntmps21
  go_wp2_with fail
  go_loopw [4, 5] (fun t i wr => ∃ k q : Nat, k ≤ 32 ∧ i = .int .i64 k ∧ t = .string (hexP s (2 * k)) ∧ wr = w.drewN q)
    (fun _ i _ => 32 - (intOf i).toNat)
  case atStart => exact ⟨0, 0, by omega, rfl, rfl, rfl⟩
  case round =>
    obtain ⟨k, q, hk, rfl, rfl, rfl⟩ := hrel
    by_cases hlt : k < 32
    · have d1 : w.cell? ⟨b, k, none⟩ = some (.int .u8 (v8 (s k))) := h.cell hlt
      have b0 := v8_lo (s k)
      have b1 := v8_hi (s k)
      obtain ⟨x, ex⟩ : ∃ x, x = (s k).toNat / 16 := ⟨_, rfl⟩
      obtain ⟨y, ey⟩ : ∃ y, y = (s k).toNat % 16 := ⟨_, rfl⟩
      have hx : x < 16 := by have := (s k).isLt; omega
      have hy : y < 16 := by omega
      have hs1 := sign_cut x hx
      have hs2 := sign_cut y hy
      unfold signsS at hs1 hs2
      have e0 : v8 (s k) = ((s k).toNat : Int) := rfl
      have e1 : IntKind.u8.wrap ((v8 (s k)).tdiv 16) = (x : Int) := by
        rw [Int.tdiv_eq_ediv_of_nonneg b0]
        exact (IntWalk.u8_in _ (by omega)).trans (by omega)
      have e2 : (v8 (s k)).tmod 16 = (y : Int) := by rw [Int.tmod_eq_emod_of_nonneg b0]; omega
      have e3 : IntKind.u8.wrap ((x : Int) + 1) = (x : Int) + 1 := IntWalk.u8_in _ (by omega)
      have e4 : IntKind.u8.wrap ((y : Int) + 1) = (y : Int) + 1 := IntWalk.u8_in _ (by omega)
      have e5 : IntKind.u8.wrap (y : Int) = (y : Int) := IntWalk.u8_in _ (by omega)
      have hstep := hexP_two s k
      rw [← ex, ← ey] at hstep
      have z1 : (hexP s (2 * k)).size = 2 * k := by simp [hexP, ByteArray.size]
      obtain ⟨S1, eS⟩ : ∃ S1, S1 = hexP s (2 * k) ++ ⟨#[UInt8.ofNat (hexD x)]⟩ := ⟨_, rfl⟩
      have z2 : S1.size = 2 * k + 1 := by rw [eS, ByteArray.size_append, z1]; rfl
      have a1 : ∀ w, (Op.stringOp .add (hexP s (2 * k)) ⟨#[UInt8.ofNat (hexD x)]⟩).run Tryd.prog w = .ok (.string S1) w := fun w => by
        rw [eS]; exact run_string_add_sum w _ _ (by have h2 : ByteArray.size ⟨#[UInt8.ofNat (hexD x)]⟩ = 1 := rfl; omega)
      have a2 : ∀ w, (Op.stringOp .add S1 ⟨#[UInt8.ofNat (hexD y)]⟩).run Tryd.prog w = .ok (.string (hexP s (2 * (k + 1)))) w := fun w => by
        rw [← hstep, ← eS]; exact run_string_add_sum w _ _ (by have h2 : ByteArray.size ⟨#[UInt8.ofNat (hexD y)]⟩ = 1 := rfl; omega)
      clear e0 ex ey b0 b1 z1 z2 eS hstep
      go_wp2_with fail
      go_quiet (fail)
      go_wp2_with fail
      exact ⟨⟨k + 1, q + nq, by omega, by go_num, rfl, rfl⟩, by simp [intOf]; omega⟩
    · obtain rfl : k = 32 := by omega
      go_wp2_with fail
      go_ret
      exact ⟨rfl, q, rfl⟩
end Go.Proofs.YtneffelpdaigoaaDoor
