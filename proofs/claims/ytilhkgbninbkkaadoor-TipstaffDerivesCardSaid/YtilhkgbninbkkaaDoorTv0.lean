/- TipstaffDerives: words: namespaces within each other, a chain of tokens and the rights that it was made of. -/
import Derived.Test.YtilhkgbninbkkaaDoorMgPu0
import Derived.Test.YtilhkgbninbkkaaDoorRq1
import Derived.Test.YtilhkgbninbkkaaDoorPu4
import Derived.Test.YtilhkgbninbkkaaDoorMgOpn
import Derived.Test.YtilhkgbninbkkaaDoorMgLtl
namespace Go.Proofs.YtilhkgbninbkkaaDoor
open Go Go.RowKit
/-- Each within the one ahead of it, as far as m. -/
def lin (m : Nat) : Nat → Nat := fun j => if j ≤ m then j - 1 else 0
theorem lin_len : ∀ m, m < 5 → ∀ j, j < 5 → j ≤ m → (ups (lin m) j).length = j + 1 := by decide
theorem lin_add (m j : Nat) : addU (lin m) (m + 1) m j = lin (m + 1) j := by
  unfold addU lin
  by_cases e : j = m + 1
  · rw [if_pos e, if_pos (by omega)]; omega
  · rw [if_neg e]
    by_cases h2 : j ≤ m
    · rw [if_pos h2, if_pos (by omega)]
    · rw [if_neg h2, if_neg (by omega)]
theorem Tr.congr {w : World} {b c : Nat} {f g : Nat → Nat} (h : Tr w b c f) (e : ∀ j, j < 8 → f j = g j) : Tr w b c g :=
  ⟨h.h.congr (fun j _ => by unfold trC; by_cases h8 : j < 8; (rw [if_pos h8, if_pos h8, e j h8]); (rw [if_neg h8, if_neg h8])), h.c1, h.c8, by rw [← e 0 (by omega)]; exact h.z, fun j h1 h2 => by rw [← e j (by have := h.c8; omega)]; exact h.dec j h1 h2⟩
theorem ins_in : ∀ d, d < 5 → ∀ i, i < 3 → 1 ≤ d → insI (lin d) (d + 1) ((min (i + 1) d : Nat) : Int) ((min i d : Nat) : Int) = true := by decide
theorem ins_back : ∀ d, d < 5 → ∀ i, i < 3 → 1 ≤ d → insI (lin d) (d + 1) ((min (i + 1) d - 1 : Nat) : Int) ((min (i + 1) d : Nat) : Int) = false := by decide
theorem prE_or (s : ByteArray) : prE s = 0 ∨ prE s = 22 := by unfold prE; split <;> simp
/-- A chain of tokens, the rights that it was made of, and what stands beside them. -/
structure Ks (w : World) (N d : Nat) (q : Option Addr) (n : Nat) (T : Nat → ByteArray) (j : Nat) (t : Tk) (us : List Tk) (R : Nat → Rg) (p : Option Addr) (cap : Nat) (wr : World) : Prop where
  lo : Below N w wr
  tr : Tr wr N (d + 1) (lin d)
  tk : Tks wr (t :: us)
  ln : us.length = j
  mt : Mt (t :: us) (fun i => ((min i d : Nat) : Int)) R
  sd : sndT (lin d) (d + 1) (t :: us) = true
  own : OwnK wr 26 6 p (j + 1) cap (fun k => rgC (R (k / 6)) (k % 6))
  tx : Ats wr q n (fun k => .string (T k))
  pN : ∀ g, blk p = some g → N < g
section
variable {w wr w2 w3 : World} {N d n j cap M : Nat} {q p : Option Addr} {T : Nat → ByteArray} {t : Tk} {us : List Tk} {R : Nat → Rg}
theorem Ks.below (F : Ks w N d q n T j t us R p cap wr) (hM : Sz wr M) (b : Below M wr w2) : Ks w N d q n T j t us R p cap w2 := by
  have hl : wr.heap.size ≤ M := by have : wr.heap.size = M := hM; omega
  exact ⟨F.lo.trans (b.mono (by have := F.tr.h.ltN hM; omega)), F.tr.below hM b, F.tk.below hM b, F.ln, F.mt, F.sd, F.own.below b hl, F.tx.below hM b, F.pN⟩
theorem der_ok (F : Ks w N d q n T j t us R p cap wr) (d1 : 1 ≤ d) (d5 : d < 5) (j3 : j < 3) (r : Rg) : derErr (lin d) (d + 1) t us ((min (j + 1) d : Nat) : Int) (rCommon r t.r) = 0 := by
  unfold derErr derE
  rw [isIn_nat (show min (j + 1) d < d + 1 by omega), if_pos rfl, F.mt.1, F.ln, ins_in d d5 j j3 d1, within_common_r, Bool.true_and, if_pos rfl]
  rw [if_neg (by simp only [List.length_cons, F.ln]; omega)]
theorem der_back (d1 : 1 ≤ d) (d5 : d < 5) (j3 : j < 3) (k : Nat) (r r2 : Rg) : derErr (lin d) (d + 1) ⟨k, ((min (j + 1) d : Nat) : Int), r⟩ us ((min (j + 1) d - 1 : Nat) : Int) r2 = 1 := by
  unfold derErr derE
  rw [isIn_nat (show min (j + 1) d - 1 < d + 1 by omega), if_pos rfl, ins_back d d5 j j3 d1]
  simp
theorem snd_next (F : Ks w N d q n T j t us R p cap wr) (d1 : 1 ≤ d) (d5 : d < 5) (j3 : j < 3) (k : Nat) (r : Rg) : sndT (lin d) (d + 1) (⟨k, ((min (j + 1) d : Nat) : Int), rCommon r t.r⟩ :: t :: us) = true := by
  show (sndT (lin d) (d + 1) (t :: us) && (insI (lin d) (d + 1) ((min (j + 1) d : Nat) : Int) t.at_ && rWithin (rCommon r t.r) t.r)) = true
  rw [F.sd, F.mt.1, F.ln, ins_in d d5 j j3 d1, within_common_r]; rfl
theorem mt_next (F : Ks w N d q n T j t us R p cap wr) (k : Nat) (r : Rg) : Mt (⟨k, ((min (j + 1) d : Nat) : Int), r⟩ :: t :: us) (fun i => ((min i d : Nat) : Int)) (addR R (j + 1) r) := by
  refine ⟨?_, ?_, F.mt.congr (fun i hi => ⟨rfl, ?_⟩)⟩
  · show _ = ((min (t :: us).length d : Nat) : Int)
    simp only [List.length_cons, F.ln]
  · show r = addR R (j + 1) r (t :: us).length
    unfold addR; simp only [List.length_cons, F.ln, if_pos]
  · unfold addR; simp only [List.length_cons, F.ln] at hi; rw [if_neg (by omega)]
theorem rg_app (R : Nat → Rg) (m : Nat) (r : Rg) (k : Nat) (hk : k < (m + 1) * 6) : cat (fun k => rgC (R (k / 6)) (k % 6)) (m * 6) (rgC r) k = rgC (addR R m r (k / 6)) (k % 6) := by
  unfold cat addR
  by_cases h : k < m * 6
  · rw [if_pos h, if_neg (by omega)]
  · rw [if_neg h, if_pos (by omega), show k - m * 6 = k % 6 by omega]
/-- A step is taken. -/
theorem Ks.next {p2 : Option Addr} {cap2 k : Nat} {r : Rg} (F : Ks w N d q n T j t us R p cap wr) (hM : Sz wr M) (b : Below M wr w2) (hk : M ≤ k) (hU : Tks w2 (⟨k, ((min (j + 1) d : Nat) : Int), rCommon r t.r⟩ :: t :: us)) (d1 : 1 ≤ d) (d5 : d < 5) (j3 : j < 3)
    (o3 : OwnK w3 26 6 p2 (j + 1 + 1) cap2 (cat (fun k => rgC (R (k / 6)) (k % 6)) ((j + 1) * 6) (rgC (rCommon r t.r)))) (g3 : Grew (blk p) w2 w3) (e3 : blk p2 = blk p ∨ blk p2 = some w2.heap.size)
    (hT : ∀ u ∈ (t :: us), some u.b ≠ blk p) (hq : ∀ g, 0 < n → blk q = some g → some g ≠ blk p) :
    Ks w N d q n T (j + 1) ⟨k, ((min (j + 1) d : Nat) : Int), rCommon r t.r⟩ (t :: us) (addR R (j + 1) (rCommon r t.r)) p2 cap2 w3 := by
  have F2 := F.below hM b
  have hNM := F.tr.h.ltN hM
  have hsz : M ≤ w2.heap.size := by have := b.size; have e : wr.heap.size = M := hM; omega
  have keep : ∀ x, x < w2.heap.size → some x ≠ blk p → w3.heap[x]? = w2.heap[x]? := fun x hx hne => g3.block x hx hne
  have hkp : some k ≠ blk p := fun e => by
    have := F.own.lt k e.symm
    have e2 : wr.heap.size = M := hM
    omega
  refine ⟨g3.below F2.lo (by omega) (fun g hg => by have := F.pN g hg; omega), ⟨F2.tr.h.same (keep N F2.tr.h.lt (fun e => by have := F.pN N e.symm; omega)), F2.tr.c1, F2.tr.c8, F2.tr.z, F2.tr.dec⟩, ?_, by simp [F.ln], mt_next F k _, snd_next F d1 d5 j3 k r, ?_, ?_, ?_⟩
  · refine hU.same (fun u hu => keep u.b (hU.lt u hu) ?_)
    rcases List.mem_cons.1 hu with rfl | hu
    · exact hkp
    · exact hT u hu
  · exact o3.congr (fun i hi => rg_app R (j + 1) _ i hi)
  · intro h0
    obtain ⟨bb, off, eq, hc⟩ := F2.tx h0
    refine ⟨bb, off, eq, fun i hi => ?_⟩
    have h1 := hc i hi
    have hlt := World.block_lt_of_cell? w2 _ h1
    have hb := keep bb hlt (hq bb h0 (by rw [eq]; rfl))
    rw [← h1]
    unfold World.cell?
    rw [hb]
  · intro g hg
    rcases e3 with e | e
    · exact F.pN g (by rw [← e]; exact hg)
    · rw [e] at hg; injection hg with hg; omega
end
theorem kRg : KCell Tryd.prog 26 6 := kCell_of (v := .agg (cellsOf (rgC rgNone) 6)) (k := 10) (by kernel_rfl) (by omega) rfl
theorem undRgs : Tryd.prog.underlying 85 = some (.slice 26) := by kernel_rfl
/-- A list of one's rights. -/
theorem wpl_bsR {ops : Array Oper} {rest : List Oper} {o : Oper} {a : Act} {w : World} {Q : Exit → Act → World → Prop} (hgd : o.guard = none) (x : Operand) (ho : o.op = .buildSlice 85 1 #[(0, x)]) (r : Rg) (hx : a.eval x = .agg (cellsOf (rgC r) 6)) (N : Nat) (hN : Sz w N)
    (h : ∀ w1, Sz w1 (N + 1) → Below N w w1 → Has w1 N 26 6 (rgC r) → wpList Tryd.prog ops Q rest (a.put o.dst (.slice (some ⟨N, 0, none⟩) 1 1)) w1) : wpList Tryd.prog ops Q (o :: rest) a w := by
  have e : w.heap.size = N := hN
  subst e
  refine wpl_run hgd (.slice (some ⟨w.heap.size, 0, none⟩) 1 1) (w.alloc (.cells (cellsOf (rgC r) 6) 26)) ?_ (h _ (sz_alloc rfl _) (below_new _ _ _ rfl) ?_)
  · clear h hN
    generalize a.eval = ev at *
    unfold execOp
    simp only [ho]
    go_simp
    kernel_rfl
  · exact has_new rfl 26 6 (rgC r)
theorem run_iaT {P : Program} {a : Act} {o : Oper} {x y : Operand} {t e : TypeId} {g off n c i : Nat} {b : Option Addr} (ho : o.op = .indexAddr t x y) (hx : a.eval x = .slice b n c) (hb : b = some ⟨g, off, none⟩) (hy : a.eval y = .int .i64 (i : Int)) (hu : P.underlying t = some (.slice e)) (hs : (P.info? e).map (·.size) = some 1) (hi : i < n) (w : World) : (execOp a.eval o).run P w = .ok (.value (.pointer (some ⟨g, off + i, none⟩))) w := by
  subst hb
  cases hq : P.info? e with
  | none => rw [hq] at hs; cases hs
  | some u =>
    rw [hq] at hs
    have h1 : u.size = 1 := by simpa using hs
    have h2 : ¬ (n ≤ i) := by omega
    unfold execOp
    simp only [ho, hx, hy]
    simp [Instr.indexAt, Instr.sureAddr, asIntOf, Sem.run_bind, run_underlying hu, sizeOf, typeInfo, hq, h1, Addr.add, h2, hi]
theorem run_iaK6 {P : Program} {a : Act} {o : Oper} {x y : Operand} {t e : TypeId} {g n c i s : Nat} {b : Option Addr} (ho : o.op = .indexAddr t x y) (hx : a.eval x = .slice b n c) (hb : b = some ⟨g, 0, none⟩) (hy : a.eval y = .int .i64 (i : Int)) (hu : P.underlying t = some (.slice e)) (hs : (P.info? e).map (·.size) = some s) (hi : i < n) (w : World) : (execOp a.eval o).run P w = .ok (.value (.pointer (some ⟨g, i * s, none⟩))) w := by
  subst hb
  cases hq : P.info? e with
  | none => rw [hq] at hs; cases hs
  | some u =>
    rw [hq] at hs
    have h1 : u.size = s := by simpa using hs
    have h2 : ¬ (n ≤ i) := by omega
    unfold execOp
    simp only [ho, hx, hy]
    simp [Instr.indexAt, Instr.sureAddr, asIntOf, Sem.run_bind, run_underlying hu, sizeOf, typeInfo, hq, h1, Addr.add, h2, hi]
    exact fun h => h.symm
theorem run_subI {P : Program} {a : Act} {o : Oper} {x y : Operand} {T ty : TypeId} {p q m : Nat} {z : Int} (ho : o.op = .binOp .sub T x y ty) (hx : a.eval x = .int .i64 z) (hz : z = (p : Int)) (hy : a.eval y = .int .i64 (q : Int)) (hm : p - q = m) (h : q ≤ p) (hp : p < 1000000000000) (w : World) : (execOp a.eval o).run P w = .ok (.value (.int .i64 (m : Int))) w := by
  subst hz
  have e : IntKind.i64.wrap ((p : Int) - (q : Int)) = (m : Int) := by rw [IntKind.wrap_i64]; omega
  unfold execOp; simp only [ho, hx, hy]; go_simp; first | done | exact e | simp [e]
theorem run_sub1 {P : Program} {a : Act} {o : Oper} {x y : Operand} {T ty : TypeId} {p m : Nat} (ho : o.op = .binOp .sub T x y ty) (hx : a.eval x = .int .i64 (p : Int)) (hy : a.eval y = .int .i64 1) (hm : p - 1 = m) (h : 1 ≤ p) (hp : p < 1000000000000) (w : World) : (execOp a.eval o).run P w = .ok (.value (.int .i64 (m : Int))) w := by
  have e : IntKind.i64.wrap ((p : Int) - 1) = (m : Int) := by rw [IntKind.wrap_i64]; omega
  unfold execOp; simp only [ho, hx, hy]; go_simp; first | done | exact e | simp [e]
theorem run_cvI16 {P : Program} {a : Act} {o : Oper} {x : Operand} {src dst : TypeId} {c : Nat} (ho : o.op = .convert src dst x) (hs : P.underlying src = some (.int .i64)) (hd : P.underlying dst = some (.int .u16)) (hx : a.eval x = .int .i64 (c : Int)) (hc : c < 65536) (w : World) : (execOp a.eval o).run P w = .ok (.value (Wd (BitVec.ofNat 16 c))) w := by
  rw [← Wd_ofNat hc]
  have e : IntKind.u16.wrap (c : Int) = (c : Int) := by
    simp [IntKind.wrap, IntKind.signed, IntKind.bits]; omega
  unfold execOp
  simp only [ho, hx]
  simp [convert, Sem.run_bind, run_underlying hs, run_underlying hd, Conv.intToInt, e]
theorem run_notB {P : Program} {a : Act} {o : Oper} {x : Operand} {ty : TypeId} {p r : Bool} (ho : o.op = .unOp .not ty x) (hx : a.eval x = .bool p) (h : (!p) = r) (w : World) : (execOp a.eval o).run P w = .ok (.value (.bool r)) w := by
  subst h; unfold execOp; simp only [ho, hx]; go_simp
/-- The last one's rights are within those of each ahead. -/
theorem lastW {f : Nat → Nat} {c : Nat} {ts : List Tk} {A : Nat → Int} {R : Nat → Rg} (hm : Mt ts A R) (hs : sndT f c ts = true) (k : Nat) (hk : k < ts.length) : rWithin (R (ts.length - 1)) (R k) = true := by
  have key : ∀ m, k + m < ts.length → rWithin (R (k + m)) (R k) = true := by
    intro m
    induction m with
    | zero => intro _; exact (within_iff' _ _).2 (common_self _)
    | succ m ih =>
      intro h
      have h1 := snd_within hm hs (k + (m + 1)) (by omega) h
      rw [show k + (m + 1) - 1 = k + m by omega] at h1
      exact within_trans h1 (ih (by omega))
  have := key (ts.length - 1 - k) (by omega)
  rwa [show k + (ts.length - 1 - k) = ts.length - 1 by omega] at this
theorem undTxs : Tryd.prog.underlying 84 = some (.slice 9) := by kernel_rfl
theorem szTxs : (Tryd.prog.info? 9).map (·.size) = some 1 := by kernel_rfl
theorem undStr : Tryd.prog.underlying 9 = some .string := by kernel_rfl
theorem undI64 : Tryd.prog.underlying 3 = some (.int .i64) := by kernel_rfl
theorem und16x : Tryd.prog.underlying 22 = some (.int .u16) := by kernel_rfl
theorem szTp : (Tryd.prog.info? 55).map (·.size) = some 1 := by kernel_rfl
end Go.Proofs.YtilhkgbninbkkaaDoor
