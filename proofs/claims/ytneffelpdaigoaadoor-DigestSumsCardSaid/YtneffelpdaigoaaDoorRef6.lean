/- primes of the document's answer for layer 1. -/
import Derived.Test.YtneffelpdaigoaaDoorRef5
namespace Go.Proofs.YtneffelpdaigoaaDoor
open Go Go.RowKit Sha
/-- The first sixty-four. -/
def PL : List Nat := [2, 3, 5, 7, 11, 13, 17, 19, 23, 29, 31, 37, 41, 43, 47, 53, 59, 61, 67, 71, 73, 79, 83, 89, 97, 101, 103, 107, 109, 113, 127, 131, 137, 139, 149, 151, 157, 163, 167, 173, 179, 181, 191, 193, 197, 199, 211, 223, 227, 229, 233, 239, 241, 251, 257, 263, 269, 271, 277, 281, 283, 293, 307, 311]
def pm (j : Nat) : Nat := PL.getD j 1
/-- How many are below. -/
def cnt (p : Nat) : Nat := (PL.filter (· < p)).length
/-- Does none of the first k divide it? -/
def nod (p : Nat) : Nat → Bool
  | 0 => true
  | k + 1 => nod p k && p % pm k != 0
theorem cnt_facts : ∀ p : Nat, p < 312 → 2 ≤ p → cnt p < 64 ∧ (nod p (cnt p) = true → cnt (p + 1) = cnt p + 1 ∧ pm (cnt p) = p) ∧ (nod p (cnt p) = false → cnt (p + 1) = cnt p) := by decide +kernel
theorem cnt_end : cnt 312 = 64 ∧ cnt 2 = 0 := by decide +kernel
theorem pm_pos : ∀ j : Nat, j < 64 → 2 ≤ pm j ∧ pm j < 312 := by decide +kernel
theorem rem_said (p m : Nat) (b : Bool) (h : ((p : Int) % (m : Int) == 0) = b) : (p % m != 0) = !b := by
  rw [← h, ← Int.natCast_emod]
  generalize p % m = r
  cases r <;> simp <;> omega
set_option maxRecDepth 100000 in
set_option maxHeartbeats 1000000 in
theorem primes_any (w : World) (N : Nat) (hN : Sz w N) :
    Calls Tryd.prog 51 #[.int .i64 64] w fun e w' => ∃ pt ct, e = .returned (.slice pt 64 ct) ∧ Below N w w' ∧ Own w' 31 pt 64 ct (fun j => U64 (pm j)) ∧ (∀ g, blk pt = some g → N ≤ g) := by
  go_enter Tryd.func51, Tryd.ntmps51
  go_wp2_with fail
  go_loopw [3, 4] (fun s i wr => ∃ (p : Nat) (pt : Option Addr) (ct : Nat), 2 ≤ p ∧ p ≤ 312 ∧ i = U64 p ∧ s = .slice pt (cnt p) ct ∧ Own wr 31 pt (cnt p) ct (fun j => U64 (pm j)) ∧ Below N w wr ∧ (∀ g, blk pt = some g → N ≤ g))
    (fun _ i _ => 312 - (intOf i).toNat)
  case atStart => exact ⟨2, none, 0, by omega, by omega, rfl, by rw [cnt_end.2], by rw [cnt_end.2]; exact Own.nil _ _ _, Below.refl N w, fun g hg => by simp [blk] at hg⟩
  case round =>
    obtain ⟨p, pt, ct, hp2, hp3, rfl, rfl, ho, qb, hpt⟩ := hrel
    by_cases hlt : p < 312
    · obtain ⟨c1, c2, c3⟩ := cnt_facts p hlt hp2
      have C2 := hid c2
      have C3 := hid c3
      clear c2 c3
      obtain ⟨n, en⟩ : ∃ n, n = cnt p := ⟨_, rfl⟩
      rw [← en] at c1 ho ⊢
      have EN := hid en
      clear en
      rw [show U64 p = .int .u64 (p : Int) from rfl]
      have hn : (n : Int) < 64 := by omega
      go_wp2_with fail
      go_loopw [5, 6] (fun f i wx => ∃ k : Nat, k ≤ n ∧ i = .int .i64 k ∧ f = .bool (nod p k) ∧ Own wx 31 pt n ct (fun j => U64 (pm j)) ∧ Below N w wx)
        (fun _ i _ => n - (intOf i).toNat)
      case atStart => exact ⟨0, by omega, rfl, rfl, ho, qb⟩
      case round =>
        clear ho qb
        obtain ⟨k, hk, rfl, rfl, ho, qb⟩ := hrel
        by_cases hlk : k < n
        · obtain ⟨g, rfl, hc⟩ := ho.cell (by omega)
          have ck := hc k hlk
          rw [Nat.zero_add] at ck
          obtain ⟨m1, m2⟩ := pm_pos k (by omega)
          have hstep := hid (show nod p (k + 1) = (nod p k && p % pm k != 0) from rfl)
          obtain ⟨m, em⟩ : ∃ m, m = pm k := ⟨_, rfl⟩
          rw [← em] at ck m1 m2 hstep
          clear em hc
          unfold U64 at ck
          have hk0 : (0 : Int) ≤ (k : Int) := by omega
          have hkn : (k : Int) < (n : Int) := by omega
          have hm0 : ¬ ((m : Int) = 0) := by omega
          have hm1 : (0 : Int) < (m : Int) := by omega
          have hp0 : (0 : Int) ≤ (p : Int) := by omega
          go_wp2_with fail
          all_goals
            rename_i hz
            have hr := rem_said p m _ hz
            exact ⟨⟨k + 1, by omega, by push_cast; rfl, by rw [hstep.out, hr]; simp, ho, qb⟩, by simp [intOf]; omega⟩
        · obtain rfl : k = n := by omega
          obtain ⟨q, eq⟩ : ∃ q, q = nod p k := ⟨_, rfl⟩
          rw [← eq]
          have EQ := hid eq
          clear eq
          cases q
          · have hc := hid (show cnt (p + 1) = k by rw [EN.out]; exact C3.out (by rw [← EN.out]; exact EQ.out.symm))
            have hw : IntKind.u64.wrap ((p : Int) + 1) = (p : Int) + 1 := IntWalk.u64_in _ (by omega)
            go_wp2_with fail
            exact ⟨⟨p + 1, pt, ct, by omega, by omega, rfl, by rw [hc.out], by rw [hc.out]; exact ho, qb, hpt⟩, by simp [intOf]; omega⟩
          · obtain ⟨d1, d2⟩ := C2.out (by rw [← EN.out]; exact EQ.out.symm)
            rw [← EN.out] at d1 d2
            have hc := hid d1
            have hd := hid d2
            clear d1 d2
            have hw : IntKind.u64.wrap ((p : Int) + 1) = (p : Int) + 1 := IntWalk.u64_in _ (by omega)
            go_wp2_with (first
              | (refine wpl_app rfl (.tmp 27) (.tmp 29) 87 rfl 31 und87 one31 pt k ct rfl _ (ho.alloc _) _ 1 1 rfl (fun _ => U64 p) (has_new rfl 31 1 (fun _ => U64 p)).cells (fun _ _ => rfl) (by omega) ?_; intro p7 c7 w7 o7 g7 k7 n7)
              | fail)
            have hN7 : N ≤ wr.heap.size := below_le qb hN
            have b7 := g7.below (qb.alloc hN7 _) (by show N ≤ (wr.heap.push _).size; simp; omega) (fun g hg => hpt g hg)
            have hp7 := ge_step hpt k7 (by show N ≤ (wr.heap.push _).size; simp; omega)
            refine ⟨⟨p + 1, p7, c7, by omega, by omega, rfl, by rw [hc.out], ?_, b7, hp7⟩, by simp [intOf]; omega⟩
            rw [hc.out]
            exact o7.congr fun j hj => by
              simp only [cat]
              split
              · rfl
              · rw [show j = k from by omega, hd.out]
    · obtain rfl : p = 312 := by omega
      rw [cnt_end.1] at ho ⊢
      go_wp2_with fail
      go_ret
      exact ⟨pt, ct, rfl, qb, ho, hpt⟩
end Go.Proofs.YtneffelpdaigoaaDoor
