/- States: all of an Id are cells, or nought. -/
import Derived.Test.YtaeggclcjpcnoaaAcm
namespace Go.Proofs.Ytaeggclcjpcnoaa
open Go Go.RowKit
/-- One of an array of structs. -/
theorem run_index_rows {P : Program} (xT e len s : Nat) (f : Nat → Value) (n k : Nat) (d : TypeDesc) (hu : P.underlying xT = some (.array len e)) (he : P.underlying e = some d) (hd : (match d with | .struct _ | .array _ _ => true | _ => false) = true)
    (hs : (P.info? e).map (·.size) = some s) (hk : k < len) (hn : k * s + s ≤ n) (w : World) :
    (Instr.index xT (.agg (cellsOf f n)) (.int .i64 (k : Int))).run P w = .ok (.agg (cellsOf (fun j => f (k * s + j)) s)) w := by
  cases hq : P.info? e with
  | none => simp [hq] at hs
  | some i =>
    have hi : i.size = s := by simpa [hq] using hs
    have hagg : (isAgg e).run P w = .ok true w := by
      unfold isAgg
      rw [Sem.run_bind, run_underlying he w]
      cases d <;> simp_all
    have hx : (cellsOf f n).extract (k * s) (k * s + s) = cellsOf (fun j => f (k * s + j)) s := by
      apply Array.ext
      · simp only [Array.size_extract, size_cellsOf]; omega
      · intro j h1 h2
        simp [cellsOf]
    simp [Instr.index, asIntOf, Sem.run_bind, run_underlying hu w, sizeOf, typeInfo, hq, hi, part, hagg, hx]
    intro hle; omega
theorem und11 : ∃ d, Try.prog.underlying 72 = some d ∧ d.isRow = true := row_ofN (by kernel_rfl)
theorem und8 : ∃ d, Try.prog.underlying 74 = some d ∧ d.isRow = true := row_ofN (by kernel_rfl)
theorem sz11 : (Try.prog.info? 72).map (·.size) = some 121 := by kernel_rfl
theorem sz8 : (Try.prog.info? 74).map (·.size) = some 88 := by kernel_rfl
theorem undRs : ∃ fs, Try.prog.underlying 71 = some (.struct fs) := by
  have h : ((Try.prog.underlying 71).map (fun d => match d with | .struct _ => true | _ => false)) = some true := by kernel_rfl
  cases e : Try.prog.underlying 71 with
  | none => rw [e] at h; cases h
  | some d =>
    rw [e] at h
    cases d with
    | struct fs => exact ⟨fs, rfl⟩
    | _ => simp at h
theorem idx_R (s : St) (q : Nat) (hq : q < 11) (w : World) : (Instr.index 72 (.agg (cellsOf (fun j => stC s (0 + j)) 121)) (.int .i64 ((q : Nat) : Int))).run Try.prog w = .ok (.agg (cellsOf (arC (s.R q)) 11)) w := by
  obtain ⟨fs, hfs⟩ := undRs
  rw [run_index_rows (P := Try.prog) 72 71 11 11 (fun j => stC s (0 + j)) 121 q (.struct fs) undR11 hfs rfl szAr hq (by omega) w]
  rw [cellsOf_congr (g := arC (s.R q)) (fun j hj => by rw [Nat.zero_add, Nat.mul_comm q 11]; exact stC_R s hq hj)]
theorem idx_K (s : St) (q : Nat) (hq : q < 8) (w : World) : (Instr.index 74 (.agg (cellsOf (fun j => stC s (185 + j)) 88)) (.int .i64 ((q : Nat) : Int))).run Try.prog w = .ok (.agg (cellsOf (arC (s.K q)) 11)) w := by
  obtain ⟨fs, hfs⟩ := undRs
  rw [run_index_rows (P := Try.prog) 74 71 8 11 (fun j => stC s (185 + j)) 88 q (.struct fs) undK8 hfs rfl szAr hq (by omega) w]
  rw [cellsOf_congr (g := arC (s.K q)) (fun j hj => by rw [Nat.mul_comm q 11]; exact stC_K s q hj)]
/-- The first registers settled; the first words, too. -/
def stl1 (s : St) (x : Int) (c : Bool) (n : Nat) : St := ⟨fun i => if i < n ∧ isMayb (s.R i) x = true then settlA (s.R i) c else s.R i, s.W, s.K⟩
def stl2 (s : St) (x : Int) (c : Bool) (n : Nat) : St := ⟨s.R, fun j => if j / 8 < n ∧ isMayb (s.K (j / 8)) x = true ∧ c = false then true else s.W j, fun i => if i < n ∧ isMayb (s.K i) x = true then settlA (s.K i) c else s.K i⟩
theorem stl1_zero (s : St) (x : Int) (c : Bool) : stl1 s x c 0 = s := by
  unfold stl1
  have : (fun i => if i < 0 ∧ isMayb (s.R i) x = true then settlA (s.R i) c else s.R i) = s.R := funext fun i => if_neg (by omega)
  rw [this]
theorem stl1_no (s : St) (x : Int) (c : Bool) (n : Nat) (h : isMayb (s.R n) x = false) : stl1 s x c (n + 1) = stl1 s x c n := by
  unfold stl1
  congr 1
  funext i
  by_cases e : i = n
  · subst e; rw [if_neg (by rw [h]; simp), if_neg (by omega)]
  · by_cases e2 : i < n ∧ isMayb (s.R i) x = true
    · rw [if_pos e2, if_pos ⟨by omega, e2.2⟩]
    · rw [if_neg e2, if_neg (fun y => e2 ⟨by omega, y.2⟩)]
theorem stl1_yes (s : St) (x : Int) (c : Bool) (n : Nat) (h : isMayb (s.R n) x = true) : (stl1 s x c n).setR n (settlA (s.R n) c) = stl1 s x c (n + 1) := by
  unfold stl1 St.setR
  congr 1
  funext i
  by_cases e : i = n
  · subst e; rw [if_pos rfl, if_pos ⟨by omega, h⟩]
  · rw [if_neg e]
    by_cases e2 : i < n ∧ isMayb (s.R i) x = true
    · simp only; rw [if_pos e2, if_pos ⟨by omega, e2.2⟩]
    · simp only; rw [if_neg e2, if_neg (fun y => e2 ⟨by omega, y.2⟩)]
theorem stl2_zero (s : St) (x : Int) (c : Bool) : stl2 s x c 0 = s := by
  unfold stl2
  have h1 : (fun i => if i < 0 ∧ isMayb (s.K i) x = true then settlA (s.K i) c else s.K i) = s.K := funext fun i => if_neg (by omega)
  have h2 : (fun j => if j / 8 < 0 ∧ isMayb (s.K (j / 8)) x = true ∧ c = false then true else s.W j) = s.W := funext fun i => if_neg (by omega)
  rw [h1, h2]
theorem stl2_no (s : St) (x : Int) (c : Bool) (n : Nat) (h : isMayb (s.K n) x = false) : stl2 s x c (n + 1) = stl2 s x c n := by
  unfold stl2
  congr 1
  · funext j
    by_cases e : j / 8 = n
    · rw [e, if_neg (by rw [h]; simp), if_neg (by omega)]
    · by_cases e2 : j / 8 < n ∧ isMayb (s.K (j / 8)) x = true ∧ c = false
      · rw [if_pos e2, if_pos ⟨by omega, e2.2⟩]
      · rw [if_neg e2, if_neg (fun y => e2 ⟨by omega, y.2⟩)]
  · funext i
    by_cases e : i = n
    · subst e; rw [if_neg (by rw [h]; simp), if_neg (by omega)]
    · by_cases e2 : i < n ∧ isMayb (s.K i) x = true
      · rw [if_pos e2, if_pos ⟨by omega, e2.2⟩]
      · rw [if_neg e2, if_neg (fun y => e2 ⟨by omega, y.2⟩)]
theorem stl2_t (s : St) (x : Int) (n : Nat) (h : isMayb (s.K n) x = true) : (stl2 s x true n).setK n (settlA (s.K n) true) = stl2 s x true (n + 1) := by
  unfold stl2 St.setK
  congr 1
  · funext j; simp
  · funext i
    by_cases e : i = n
    · subst e; rw [if_pos rfl, if_pos ⟨by omega, h⟩]
    · rw [if_neg e]
      by_cases e2 : i < n ∧ isMayb (s.K i) x = true
      · simp only; rw [if_pos e2, if_pos ⟨by omega, e2.2⟩]
      · simp only; rw [if_neg e2, if_neg (fun y => e2 ⟨by omega, y.2⟩)]
theorem stl2_f (s : St) (x : Int) (n : Nat) (h : isMayb (s.K n) x = true) : ((stl2 s x false n).setK n (settlA (s.K n) false)).setN n 8 true = stl2 s x false (n + 1) := by
  unfold stl2 St.setK St.setN
  congr 1
  · funext j
    simp only
    by_cases e : 8 * n ≤ j ∧ j < 8 * n + 8
    · rw [if_pos e, if_pos ⟨by omega, by rw [show j / 8 = n by omega]; exact h, trivial⟩]
    · rw [if_neg e]
      by_cases e2 : j / 8 < n ∧ isMayb (s.K (j / 8)) x = true
      · rw [if_pos ⟨e2.1, e2.2, trivial⟩, if_pos ⟨by omega, e2.2, trivial⟩]
      · rw [if_neg (fun y => e2 ⟨y.1, y.2.1⟩), if_neg (fun y => e2 ⟨by omega, y.2.1⟩)]
  · funext i
    show (if i = n then settlA (s.K n) false else if i < n ∧ isMayb (s.K i) x = true then settlA (s.K i) false else s.K i) = _
    by_cases e : i = n
    · subst e; rw [if_pos rfl, if_pos ⟨by omega, h⟩]
    · rw [if_neg e]
      by_cases e2 : i < n ∧ isMayb (s.K i) x = true
      · rw [if_pos e2, if_pos ⟨by omega, e2.2⟩]
      · rw [if_neg e2, if_neg (fun y => e2 ⟨by omega, y.2⟩)]
def setlS (s : St) (x : Int) (c : Bool) : St := stl2 (stl1 s x c 11) x c 8
end Go.Proofs.Ytaeggclcjpcnoaa
