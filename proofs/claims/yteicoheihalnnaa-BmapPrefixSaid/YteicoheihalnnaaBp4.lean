/- BmapPrefix: the Prefix of the law, and what Update and Lookup do to it. -/
import Derived.Test.YteicoheihalnnaaBp3
import Derived.Test.YteicoheihalnnaaBk
import Derived.Test.YteicoheihalnnaaBa2
namespace Go.Proofs.Yteicoheihalnnaa
open Go Go.RowKit
theorem msk8 (a : BitVec 8) : msk 8 a = a := by
  have : ∀ x : Fin 256, msk 8 (BitVec.ofFin x) = BitVec.ofFin x := by decide +kernel
  exact this a.toFin
theorem key5_inj {c d : Nat} {x y : BitVec 8} (hc : c < 256) (hd : d < 256) (h : key5 c x = key5 d y) : c = d ∧ x = y := by
  have e0 := strOf_inj h 0 (by omega)
  have e4 := strOf_inj h 4 (by omega)
  refine ⟨?_, e4⟩
  have e0 : b8 c = b8 d := e0
  unfold b8 at e0
  have := congrArg BitVec.toNat e0
  rw [BitVec.toNat_ofNat, BitVec.toNat_ofNat, Nat.mod_eq_of_lt (by omega), Nat.mod_eq_of_lt (by omega)] at this
  exact this
section
variable {ops : Array Oper} {rest : List Oper} {o : Oper} {a : Act} {w : World} {Q : Exit → Act → World → Prop}
theorem wpl_bs5 (hgd : o.guard = none) (x y : Operand) (ho : o.op = .buildSlice 22 5 #[(0, x), (1, .const (.int .u8 0)), (2, .const (.int .u8 0)), (3, .const (.int .u8 0)), (4, y)]) (c : Nat) (d : BitVec 8) (hx : a.eval x = By (b8 c)) (hy : a.eval y = By d) (N : Nat) (hN : Sz w N)
    (h : ∀ w1, Sz w1 (N + 1) → Below N w w1 → Has w1 N 5 5 (fun j => By (k5 c d j)) → wpList Try.prog ops Q rest (a.put o.dst (.slice (some ⟨N, 0, none⟩) 5 5)) w1) : wpList Try.prog ops Q (o :: rest) a w := by
  have e : w.heap.size = N := hN
  subst e
  refine wpl_run hgd (.slice (some ⟨w.heap.size, 0, none⟩) 5 5) (w.alloc (.cells #[By (b8 c), By 0#8, By 0#8, By 0#8, By d] 5)) ?_ (h _ (sz_alloc rfl _) (below_new _ _ _ rfl) ?_)
  · have h0 : ∀ v, a.eval (.const v) = v := fun _ => rfl
    have z0 : Value.int .u8 0 = By 0#8 := rfl
    clear h hN
    generalize a.eval = ev at *
    unfold execOp
    simp only [ho]
    unfold By at *
    generalize v8 (b8 c) = z1 at *
    generalize v8 d = z2 at *
    go_simp
  · exact has_new rfl 5 5 (fun j => By (k5 c d j))
end
set_option maxRecDepth 100000 in
theorem Cell_p (m : Mp) (h5 : m.ty = 5) (hk5 : m.key = 5) (n k : Nat) (hn8 : n ≤ 8) (a : BitVec 8) (hk : KAt m (key5 n (msk n a)) k) (hl : ∀ b, n < b → b ≤ 8 → KNo m (key5 b (msk b a))) (hn : m.n ≤ 1000) (q : Option Addr) (cq : Nat) (w : World) (N : Nat) (hN : Sz w N) (hA : MpAt w m) (hq : Ats w q 5 (fun j => By (k5 8 a j))) :
    Calls Try.prog 11 #[.pointer (some ⟨m.b, 0, none⟩), .slice q 5 cq] w fun e w' => e = .returned (.tuple #[.pointer (some ⟨(m.E k).c, 0, none⟩), .int .i64 0]) ∧ Below N w w' := by
  have kn : ((k : Int) == -1) = false := by rw [beq_eq_false_iff_ne]; omega
  have hkn := hk.1
  have hq' : Ats w q m.key (fun j => By (k5 8 a j)) := by rw [hk5]; exact hq
  have HK := keyText_p m (k5 8 a) (key5 8 a) ⟨h5, hk5, 8, a, by omega, rfl, by rw [msk8]⟩ q cq w N hN hA hq'
  rw [hk5] at HK
  have HK := hid HK
  have Hk := hid hk
  have Hl := hid hl
  have H5 := hid h5
  clear hk hl h5 hk5 hq'
  go_enter Try.func11, Try.ntmps11
  go_wp2_with (first
    | (go_at_call 23; refine HK.out.mono ?_; rintro e w1 ⟨rfl, hb1⟩; obtain ⟨M1, hM1⟩ := sz_some w1; have L1 := below_sz hb1 hN hM1; have A1 := hA.below hN hb1)
    | (go_at_call 28; refine (nearest_p m H5.out 8 n k (by omega) hn8 a Hk.out Hl.out hn _ M1 hM1 A1).mono ?_; rintro e w2 ⟨rfl, hb2⟩; have A2 := A1.below hM1 hb2; obtain ⟨M2, hM2⟩ := sz_some w2; have L2 := below_sz hb2 hM1 hM2)
    | (go_at_call 27; refine (use_plain m k hkn hn (by have := H5.out; omega) _ M2 hM2 A2).mono ?_; rintro e w3 ⟨rfl, hb3⟩)
    | fail)
  go_ret2
  exact ⟨rfl, (hb1.trans (hb2.mono L1)).trans (hb3.mono (by omega))⟩
set_option maxRecDepth 100000 in
theorem Cell_pno (m : Mp) (h5 : m.ty = 5) (hk5 : m.key = 5) (a : BitVec 8) (hl : ∀ b, b ≤ 8 → KNo m (key5 b (msk b a))) (hn : m.n ≤ 1000) (q : Option Addr) (cq : Nat) (w : World) (N : Nat) (hN : Sz w N) (hA : MpAt w m) (hq : Ats w q 5 (fun j => By (k5 8 a j))) :
    Calls Try.prog 11 #[.pointer (some ⟨m.b, 0, none⟩), .slice q 5 cq] w fun e w' => e = .returned (.tuple #[.pointer none, .int .i64 2]) ∧ Below N w w' := by
  have hq' : Ats w q m.key (fun j => By (k5 8 a j)) := by rw [hk5]; exact hq
  have HK := keyText_p m (k5 8 a) (key5 8 a) ⟨h5, hk5, 8, a, by omega, rfl, by rw [msk8]⟩ q cq w N hN hA hq'
  rw [hk5] at HK
  have HK := hid HK
  have Hl := hid hl
  have H5 := hid h5
  clear hl h5 hk5 hq'
  go_enter Try.func11, Try.ntmps11
  go_wp2_with (first
    | (go_at_call 23; refine HK.out.mono ?_; rintro e w1 ⟨rfl, hb1⟩; obtain ⟨M1, hM1⟩ := sz_some w1; have L1 := below_sz hb1 hN hM1; have A1 := hA.below hN hb1)
    | (go_at_call 28; refine (nearest_pno m H5.out 8 (by omega) a Hl.out hn _ M1 hM1 A1).mono ?_; rintro e w2 ⟨rfl, hb2⟩)
    | fail)
  go_ret2
  exact ⟨rfl, hb1.trans (hb2.mono L1)⟩
set_option maxRecDepth 100000 in
theorem Look_pbad (m : Mp) (h5 : m.ty = 5) (hk5 : m.key = 5) (a : BitVec 8) (q : Option Addr) (cq : Nat) (w : World) (hA : MpAt w m) (hq : Ats w q 5 (fun j => By (k5 9 a j))) :
    Calls Try.prog 12 #[.pointer (some ⟨m.b, 0, none⟩), .slice q 5 cq] w fun e w' => e = .returned (.tuple #[.slice none 0 0, .int .i64 22]) ∧ w' = w := by
  have HC : Calls Try.prog 11 #[.pointer (some ⟨m.b, 0, none⟩), .slice q 5 cq] w fun e w' => e = .returned (.tuple #[.pointer none, .int .i64 22]) ∧ w' = w := by
    go_enter Try.func11, Try.ntmps11
    go_wp2_with (first
      | (go_at_call 23; refine (keyText_bad m h5 hk5 9 a (by omega) (by omega) q cq _ hA hq).mono ?_; rintro e w1 ⟨rfl, e1⟩; have e2 := e1.symm; subst e2)
      | fail)
    go_ret2
    exact ⟨rfl, rfl⟩
  go_enter Try.func12, Try.ntmps12
  go_wp2_with (first
    | (go_at_call 11; refine HC.mono ?_; rintro e w1 ⟨rfl, e1⟩; have e2 := e1.symm; subst e2)
    | fail)
  go_ret2
  exact ⟨rfl, rfl⟩
set_option maxRecDepth 100000 in
theorem Look_p (m : Mp) (h5 : m.ty = 5) (hk5 : m.key = 5) (hv : m.val = 1) (n k : Nat) (hn8 : n ≤ 8) (a : BitVec 8) (hk : KAt m (key5 n (msk n a)) k) (hl : ∀ b, n < b → b ≤ 8 → KNo m (key5 b (msk b a))) (hn : m.n ≤ 1000) (q : Option Addr) (cq : Nat) (w : World) (N : Nat) (hN : Sz w N) (hA : MpAt w m) (hq : Ats w q 5 (fun j => By (k5 8 a j))) :
    Calls Try.prog 12 #[.pointer (some ⟨m.b, 0, none⟩), .slice q 5 cq] w fun e w' => Val N 1 (m.E k).v e w' ∧ Below N w w' := by
  have hkn := hk.1
  have HC := hid (Cell_p m h5 hk5 n k hn8 a hk hl hn q cq w N hN hA hq)
  have HV := hid hv
  clear hk hl h5 hk5 hv
  go_enter Try.func12, Try.ntmps12
  go_wp2_with (first
    | (go_at_call 11; refine HC.out.mono ?_; rintro e w1 ⟨rfl, hb1⟩; obtain ⟨M1, hM1⟩ := sz_some w1; have L1 := below_sz hb1 hN hM1; have A1 := hA.below hN hb1)
    | (go_at_call 29; refine (value_any m (m.E k).c (m.E k).b (m.E k).v (by have := HV.out; omega) (by have := HV.out; omega) _ M1 hM1 A1 (A1.c k hkn) (A1.v k hkn)).mono ?_; rintro e w2 ⟨rfl, hb2, hN2, hv2⟩)
    | fail)
  go_ret2
  rw [HV.out] at hv2 ⊢
  exact ⟨⟨M1, L1, rfl, hv2⟩, hb1.trans (hb2.mono L1)⟩
set_option maxRecDepth 100000 in
theorem Look_pno (m : Mp) (h5 : m.ty = 5) (hk5 : m.key = 5) (a : BitVec 8) (hl : ∀ b, b ≤ 8 → KNo m (key5 b (msk b a))) (hn : m.n ≤ 1000) (q : Option Addr) (cq : Nat) (w : World) (N : Nat) (hN : Sz w N) (hA : MpAt w m) (hq : Ats w q 5 (fun j => By (k5 8 a j))) :
    Calls Try.prog 12 #[.pointer (some ⟨m.b, 0, none⟩), .slice q 5 cq] w fun e w' => e = .returned (.tuple #[.slice none 0 0, .int .i64 2]) ∧ Below N w w' := by
  have HC := hid (Cell_pno m h5 hk5 a hl hn q cq w N hN hA hq)
  clear hl h5 hk5
  go_enter Try.func12, Try.ntmps12
  go_wp2_with (first
    | (go_at_call 11; refine HC.out.mono ?_; rintro e w1 ⟨rfl, hb1⟩)
    | fail)
  go_ret2
  exact ⟨rfl, hb1⟩
end Go.Proofs.Yteicoheihalnnaa
