/- Rights as words: the document's Parse tells just the texts that rights have (written by mk_rq3.py). -/
import Derived.Test.YtilhkgbninbkkaaDoorRq2
namespace Go.Proofs.YtilhkgbninbkkaaDoor
open Go Go.RowKit
/-- What it tells. -/
def PP (s : ByteArray) (w : World) (N : Nat) (e : Ending) (w' : World) : Prop := ∃ (R : Rg) (b : Bool), e = .returned (.tuple #[rgV R, .bool b]) ∧ (b = true → textOf R = s) ∧ (b = false → R = rgNone ∧ ∀ r, textOf r ≠ s) ∧ Below N w w'
theorem byte_eq {a b : ByteArray} (h : (a == b) = true) : a = b := by
  have h2 : (a.data == b.data) = true := h
  have h3 : a.data = b.data := by simpa using h2
  cases a; cases b; simp only at h3; rw [h3]
set_option maxRecDepth 100000 in
set_option maxHeartbeats 16000000 in
theorem RParse_any (s : ByteArray) (hs : s.size ≤ 60) (w : World) (N : Nat) (hN : Sz w N) : Calls Tryd.prog 24 #[.string s] w (PP s w N) := by
  obtain ⟨n, hn⟩ : ∃ n, s.size = n := ⟨_, rfl⟩
  have Hn := hid hn
  obtain ⟨l, hl⟩ : ∃ l, s.data.toList = l := ⟨_, rfl⟩
  have hln : l.length = n := by rw [← hl, ← hn, Lib.size_eq]
  have Hl := hid hl
  have Hln := hid hln
  rw [hn] at hs
  obtain ⟨dR, u1, u2⟩ := undRF
  clear hn hl hln
  go_enter Tryd.func24, Tryd.ntmps24
  go_wp2_with (first
    | (refine wpl_alloc rfl 24 rfl 6 (rgC rgNone) zeRF N hN ?_; intro w1 hN1 b1 h1)
    | fail)
  have P1 : Ps w N 0 [] none 0 w1 := ⟨Own.nil _ _ _, b1, (fun g h => by cases h), h1⟩
  clear hN1 b1 h1
  go_loopw [4, 5, 6] (fun x4 x5 x6 wr => ∃ (i m : Nat) (W : List (List UInt8)) (v : List UInt8) (t : ByteArray) (p : Option Addr) (cap : Nat), x4 = .slice p m cap ∧ x5 = .string t ∧ x6 = .int .i64 (i : Int) ∧ i ≤ n + 1 ∧ Hid (m = W.length ∧ t = tx v ∧ (W, v) = stA l i) ∧ Ps w N m W p cap wr) (fun _ _ x6 _ => n + 1 - (intOf x6).toNat)
  case atStart => exact ⟨0, 0, [], [], ⟨#[]⟩, none, 0, rfl, rfl, rfl, by omega, hid ⟨rfl, rfl, (stA_zero l).symm⟩, P1⟩
  case round =>
    clear P1
    obtain ⟨i, m, W, v, t, p, cap, rfl, rfl, rfl, hi, HH, F⟩ := hrel
    have hW : m ≤ n + 1 := by
      have h := (stA_le l i).1
      rw [Hln.out] at h
      obtain ⟨e1, _, e3⟩ := HH.out
      rw [e1, show W = (stA l i).1 from (congrArg Prod.fst e3)]; omega
    have ht : t.size ≤ n := by
      have h := (stA_le l i).2
      rw [Hln.out] at h
      obtain ⟨_, e2, e3⟩ := HH.out
      rw [e2, tx_size, show v = (stA l i).2 from (congrArg Prod.snd e3)]; omega
    obtain ⟨M, hM⟩ := sz_some wr
    by_cases h1 : i < n
    · obtain ⟨c, hc⟩ : ∃ c, l[i]? = some c := ⟨_, List.getElem?_eq_getElem (by rw [Hln.out]; exact h1)⟩
      have HC := hid hc
      have E17 := hid (show decide ((i : Int) ≤ (n : Int)) = true from decide_eq_true (by omega))
      have E23 := hid (show ((i : Int) == (n : Int)) = false from beq_eq_false_iff_ne.2 (by omega))
      clear hc
      by_cases h32 : c = 32
      · subst h32
        have E28 := hid (show ((((32 : UInt8).toNat : Nat) : Int) == 32) = true from rfl)
        go_wp2_with (first
          | ((with_reducible show wpList _ _ _ (_ :: _) _ _); first
            | (refine wpl_run rfl (.int .i64 (n : Int)) _ (run_lenS rfl undTx rfl Hn.out _) ?_; try simp only [pA])
            | (refine wpl_run rfl (.bool true) _ (run_leqK rfl rfl rfl E17.out _) ?_; try simp only [pA])
            | (refine wpl_run rfl (.bool false) _ (run_eqK (x := .tmp 20) rfl rfl rfl E23.out _) ?_; try simp only [pA])
            | (refine wpl_want (by rfl) ?_; refine wpl_run rfl (.int .u8 (((32 : UInt8).toNat : Nat) : Int)) _ (run_ixS rfl undTx rfl rfl (by rw [Hl.out]; exact HC.out) _) ?_; try simp only [pA])
            | (refine wpl_want (by rfl) ?_; refine wpl_run rfl (.bool true) _ (run_eqK (x := .tmp 27) rfl rfl rfl E28.out _) ?_; try simp only [pA])
            | (refine wpl_bsT rfl (.tmp 31) rfl t rfl M hM ?_; intro w2 hM2 b2 k2; have F2 := F.below hM b2; try simp only [pA])
            | (refine wpl_app rfl (.tmp 30) (.tmp 32) 84 rfl 9 undTs oneT p m cap rfl (wsC W) F2.own (some ⟨M, 0, none⟩) 1 1 rfl (fun _ => .string t) k2.cells (fun _ _ => rfl) (by omega) ?_; intro p2 cap2 w3 o3 g3 e3 n3; try simp only [pA])
            | (refine wpl_run rfl (.int .i64 ((i + 1 : Nat) : Int)) _ (run_inc rfl rfl rfl rfl (by omega) _) ?_; try simp only [pA]))
          | fail)
        refine ⟨⟨i + 1, m + 1, W ++ [v], [], ⟨#[]⟩, p2, cap2, rfl, rfl, rfl, by omega, hid ⟨?_, rfl, ?_⟩, ?_⟩, ?_⟩
        · rw [HH.out.1]; simp
        · rw [stA_step HC.out, ← HH.out.2.2]; unfold stp; rw [if_pos rfl]
        · exact F2.push HH.out.1 (by rw [← HH.out.2.1]; exact o3) g3 e3
        · simp [intOf]; omega
      · have E28 := hid (show (((c.toNat : Nat) : Int) == 32) = false from beq_eq_false_iff_ne.2 (fun h => h32 (UInt8.toNat_inj.1 (by show c.toNat = 32; omega))))
        have HS := hid (show t.size + (⟨#[c]⟩ : ByteArray).size ≤ 1000 by show t.size + 1 ≤ 1000; omega)
        go_wp2_with (first
          | ((with_reducible show wpList _ _ _ (_ :: _) _ _); first
            | (refine wpl_run rfl (.int .i64 (n : Int)) _ (run_lenS rfl undTx rfl Hn.out _) ?_; try simp only [pA])
            | (refine wpl_run rfl (.bool true) _ (run_leqK rfl rfl rfl E17.out _) ?_; try simp only [pA])
            | (refine wpl_run rfl (.bool false) _ (run_eqK (x := .tmp 20) rfl rfl rfl E23.out _) ?_; try simp only [pA])
            | (refine wpl_want (by rfl) ?_; refine wpl_run rfl (.int .u8 ((c.toNat : Nat) : Int)) _ (run_ixS rfl undTx rfl rfl (by rw [Hl.out]; exact HC.out) _) ?_; try simp only [pA])
            | (refine wpl_want (by rfl) ?_; refine wpl_run rfl (.bool false) _ (run_eqK (x := .tmp 27) rfl rfl rfl E28.out _) ?_; try simp only [pA])
            | (refine wpl_run rfl (.string ⟨#[c]⟩) _ (run_cut1 rfl undTx rfl rfl rfl rfl (by rw [Hl.out]; exact HC.out) _) ?_; try simp only [pA])
            | (refine wpl_run rfl (.string (t ++ ⟨#[c]⟩)) _ (run_cat 9 (.tmp 34) (.tmp 39) rfl t ⟨#[c]⟩ rfl rfl HS.out) ?_; try simp only [pA])
            | (refine wpl_run rfl (.int .i64 ((i + 1 : Nat) : Int)) _ (run_inc rfl rfl rfl rfl (by omega) _) ?_; try simp only [pA]))
          | fail)
        refine ⟨⟨i + 1, m, W, v ++ [c], _, p, cap, rfl, rfl, rfl, by omega, hid ⟨HH.out.1, ?_, ?_⟩, F⟩, ?_⟩
        · rw [HH.out.2.1, tx_snoc]
        · rw [stA_step HC.out, ← HH.out.2.2]; unfold stp; rw [if_neg h32]
        · simp [intOf]; omega
    · by_cases h2 : i = n
      · have E17 := hid (show decide ((i : Int) ≤ (n : Int)) = true from decide_eq_true (by omega))
        have E23 := hid (show ((i : Int) == (n : Int)) = true from by rw [h2]; exact beq_self_eq_true _)
        have H2 := hid h2
        have hle : i ≤ n := by omega
        clear h2
        go_wp2_with (first
          | ((with_reducible show wpList _ _ _ (_ :: _) _ _); first
            | go_guarded
            | (refine wpl_run rfl (.int .i64 (n : Int)) _ (run_lenS rfl undTx rfl Hn.out _) ?_; try simp only [pA])
            | (refine wpl_run rfl (.bool true) _ (run_leqK rfl rfl rfl E17.out _) ?_; try simp only [pA])
            | (refine wpl_run rfl (.bool true) _ (run_eqK (x := .tmp 20) rfl rfl rfl E23.out _) ?_; try simp only [pA])
            | (refine wpl_bsT rfl (.tmp 31) rfl t rfl M hM ?_; intro w2 hM2 b2 k2; have F2 := F.below hM b2; try simp only [pA])
            | (refine wpl_app rfl (.tmp 30) (.tmp 32) 84 rfl 9 undTs oneT p m cap rfl (wsC W) F2.own (some ⟨M, 0, none⟩) 1 1 rfl (fun _ => .string t) k2.cells (fun _ _ => rfl) (by omega) ?_; intro p2 cap2 w3 o3 g3 e3 n3; try simp only [pA])
            | (refine wpl_run rfl (.int .i64 ((i + 1 : Nat) : Int)) _ (run_inc rfl rfl rfl rfl (by omega) _) ?_; try simp only [pA]))
          | fail)
        refine ⟨⟨i + 1, m + 1, W ++ [v], [], ⟨#[]⟩, p2, cap2, rfl, rfl, rfl, by omega, hid ⟨?_, rfl, ?_⟩, ?_⟩, ?_⟩
        · rw [HH.out.1]; simp
        · have e := stA_end l
          rw [Hln.out, ← H2.out, ← HH.out.2.2] at e
          exact e.symm
        · exact F2.push HH.out.1 (by rw [← HH.out.2.1]; exact o3) g3 e3
        · simp [intOf]; omega
      · have h3 : i = n + 1 := by omega
        have eW := hid (show W = wds s.data.toList by
          have e := stA_wds l
          rw [Hln.out, ← h3, ← HH.out.2.2] at e
          rw [Hl.out]; exact e)
        have E17 := hid (show decide ((i : Int) ≤ (n : Int)) = false from decide_eq_false (by omega))
        have Hm := hid HH.out.1
        clear HH h1 h2 h3 hi ht
        by_cases m4 : m < 4
        · have E43 := hid (show decide ((m : Int) < 4) = true from decide_eq_true (by omega))
          go_wp2_with (first
            | ((with_reducible show wpList _ _ _ (_ :: _) _ _); first
              | go_guarded
              | (refine wpl_run rfl (.int .i64 (n : Int)) _ (run_lenS rfl undTx rfl Hn.out _) ?_; try simp only [pA])
              | (refine wpl_run rfl (.bool false) _ (run_leqK rfl rfl rfl E17.out _) ?_; try simp only [pA])
              | (refine wpl_alloc rfl 24 rfl 6 (rgC rgNone) zeRF M hM ?_; intro w2 hM2 b2 k7; have F2 := F.below hM b2; try simp only [pA])
              | (refine wpl_run rfl (.int .i64 (m : Int)) _ (run_lenL rfl undTs rfl _) ?_; try simp only [pA])
              | (refine wpl_run rfl (.bool true) _ (run_lssK (x := .tmp 42) rfl rfl rfl E43.out _) ?_; try simp only [pA])
              | (refine wpl_load rfl 24 (.tmp 7) rfl M rfl 24 6 _ k7 _ u1 u2 szRF ?_; try simp only [pA])
              | (refine wpl_store rfl 24 (.tmp 2) (.tmp 49) rfl N 6 (rgC rgNone) rfl rfl 24 _ F2.res szRF (fun j _ => rgC_one _ j) ?_; intro w3 t3 k3; try simp only [pA]))
            | fail)
          exact post_cb rfl N rfl k3 undRF szRF rfl rfl ⟨rgNone, false, rfl, (fun h => by cases h), fun _ => ⟨rfl, no_len (.inl (by rw [← eW.out, ← Hm.out]; exact m4))⟩, t3.below F2.lo (Nat.le_refl N)⟩
        · have E43 := hid (show decide ((m : Int) < 4) = false from decide_eq_false (by omega))
          by_cases m6 : 6 < m
          · have E47 := hid (show decide ((6 : Int) < (m : Int)) = true from decide_eq_true (by omega))
            go_wp2_with (first
              | ((with_reducible show wpList _ _ _ (_ :: _) _ _); first
                | (refine wpl_run rfl (.int .i64 (n : Int)) _ (run_lenS rfl undTx rfl Hn.out _) ?_; try simp only [pA])
                | (refine wpl_run rfl (.bool false) _ (run_leqK rfl rfl rfl E17.out _) ?_; try simp only [pA])
                | (refine wpl_alloc rfl 24 rfl 6 (rgC rgNone) zeRF M hM ?_; intro w2 hM2 b2 k7; have F2 := F.below hM b2; try simp only [pA])
                | (refine wpl_run rfl (.int .i64 (m : Int)) _ (run_lenL rfl undTs rfl _) ?_; try simp only [pA])
                | (refine wpl_want (by rfl) ?_; refine wpl_run rfl (.int .i64 (m : Int)) _ (run_lenL rfl undTs rfl _) ?_; try simp only [pA])
                | (refine wpl_run rfl (.bool false) _ (run_lssK (x := .tmp 42) rfl rfl rfl E43.out _) ?_; try simp only [pA])
                | (refine wpl_want (by rfl) ?_; refine wpl_run rfl (.bool true) _ (run_gtrK (x := .tmp 46) rfl rfl rfl E47.out _) ?_; try simp only [pA])
                | (refine wpl_load rfl 24 (.tmp 7) rfl M rfl 24 6 _ k7 _ u1 u2 szRF ?_; try simp only [pA])
                | (refine wpl_store rfl 24 (.tmp 2) (.tmp 49) rfl N 6 (rgC rgNone) rfl rfl 24 _ F2.res szRF (fun j _ => rgC_one _ j) ?_; intro w3 t3 k3; try simp only [pA]))
              | fail)
            exact post_cb rfl N rfl k3 undRF szRF rfl rfl ⟨rgNone, false, rfl, (fun h => by cases h), fun _ => ⟨rfl, no_len (.inr (by rw [← eW.out, ← Hm.out]; exact m6))⟩, t3.below F2.lo (Nat.le_refl N)⟩
          · have E47 := hid (show decide ((6 : Int) < (m : Int)) = false from decide_eq_false (by omega))
            obtain ⟨g0, hp, _⟩ := F.own.cell (by omega)
            have Hp := hid hp
            clear hp
            go_wp2_with (first
              | ((with_reducible show wpList _ _ _ (_ :: _) _ _); first
                | (refine wpl_run rfl (.int .i64 (n : Int)) _ (run_lenS rfl undTx rfl Hn.out _) ?_; try simp only [pA])
                | (refine wpl_run rfl (.bool false) _ (run_leqK rfl rfl rfl E17.out _) ?_; try simp only [pA])
                | (refine wpl_alloc rfl 24 rfl 6 (rgC rgNone) zeRF M hM ?_; intro w2 hM2 b2 k7; have F2 := F.below hM b2; try simp only [pA])
                | (refine wpl_run rfl (.int .i64 (m : Int)) _ (run_lenL rfl undTs rfl _) ?_; try simp only [pA])
                | (refine wpl_want (by rfl) ?_; refine wpl_run rfl (.int .i64 (m : Int)) _ (run_lenL rfl undTs rfl _) ?_; try simp only [pA])
                | (refine wpl_run rfl (.bool false) _ (run_lssK (x := .tmp 42) rfl rfl rfl E43.out _) ?_; try simp only [pA])
                | (refine wpl_want (by rfl) ?_; refine wpl_run rfl (.bool false) _ (run_gtrK (x := .tmp 46) rfl rfl rfl E47.out _) ?_; try simp only [pA])
                | (refine wpl_alloc rfl 89 rfl 4 _ zeAr (M + 1) hM2 ?_; intro w3 hM3 b3 k8; try simp only [pA]))
              | fail)
            have Q0 : Qs w N m W p cap M rgNone (fun _ => 0) w3 := ⟨F2.below hM2 b3, F.res.ltN hM, fun g hg => by have := F.own.lt g hg; have e : wr.heap.size = M := hM; omega, k7.below b3 (by omega), k8⟩
            clear F F2 hM hM2 hM3 b2 b3 k7 k8 E17 E43 E47
            have m4' : 4 ≤ m := by omega
            have m6' : m ≤ 6 := by omega
            clear m4 m6 hW
            go_loopw [9] (fun x9 wr => ∃ (k : Nat) (f : Nat → Nat), x9 = .int .i64 (k : Int) ∧ k ≤ 4 ∧ Hid (∀ j, j < k → f j = numN ((wd W j).drop 1) ∧ f j < 65536) ∧ Hid (∀ j, k ≤ j → f j = 0) ∧ Qs w N m W p cap M rgNone f wr) (fun x9 _ => 4 - (intOf x9).toNat)
            case atStart => exact ⟨0, fun _ => 0, rfl, by omega, hid (fun j hj => by omega), hid (fun _ _ => rfl), Q0⟩
            case round =>
              clear Q0
              obtain ⟨k, f, rfl, hk, HF, HZ, G⟩ := hrel
              by_cases k4 : k < 4
              · have E51 := hid (show decide ((k : Int) < 4) = true from decide_eq_true (by omega))
                obtain ⟨x, ex⟩ : ∃ x, wd W k = x := ⟨_, rfl⟩
                have EX := hid ex
                have CK : wr.cell? ⟨g0, k, none⟩ = some (.string (tx x)) := by
                  obtain ⟨g, e, hc⟩ := G.ps.own.cell (by omega)
                  rw [Hp.out] at e
                  obtain rfl : g0 = g := by injection e with e; injection e
                  have := hc k (by omega)
                  rw [Nat.zero_add] at this
                  rw [this, ← ex]; rfl
                have HCK := hid CK
                obtain ⟨z, ez⟩ : ∃ z, x.length = z := ⟨_, rfl⟩
                have EZ := hid (show (tx x).size = z by rw [tx_size]; exact ez)
                have EZ2 := hid ez
                have hkm := hid (show k < m by omega)
                clear ex CK ez
                by_cases z2 : z < 2
                · have E60 := hid (show decide ((z : Int) < 2) = true from decide_eq_true (by omega))
                  go_wp2_with (first
                    | ((with_reducible show wpList _ _ _ (_ :: _) _ _); first
                      | go_guarded
                      | (refine wpl_run rfl (.bool true) _ (run_lssK (x := .tmp 50) rfl rfl rfl E51.out _) ?_; try simp only [pA])
                      | (refine wpl_run rfl (.pointer (some ⟨g0, k, none⟩)) _ (run_iaL rfl rfl Hp.out rfl undTs szTs hkm.out _) ?_; try simp only [pA])
                      | (refine wpl_run rfl (.string (tx x)) _ (run_cell1 9 rfl rfl undTx rfl HCK.out) ?_; try simp only [pA])
                      | (refine wpl_run rfl (.int .i64 (z : Int)) _ (run_lenS rfl undTx rfl EZ.out _) ?_; try simp only [pA])
                      | (refine wpl_run rfl (.bool true) _ (run_lssK (x := .tmp 59) rfl rfl rfl E60.out _) ?_; try simp only [pA])
                      | (refine wpl_build rfl 24 _ rfl (cellsOf (rgC rgNone) 6) (by kernel_rfl) ?_; try simp only [pA])
                      | (refine wpl_store rfl 24 (.tmp 2) (.tmp 66) rfl N 6 (rgC rgNone) rfl rfl 24 _ G.ps.res szRF (fun j _ => rgC_one _ j) ?_; intro w3 t3 k3; try simp only [pA]))
                    | fail)
                  exact post_cb rfl N rfl k3 undRF szRF rfl rfl ⟨rgNone, false, rfl, (fun h => by cases h), fun _ => ⟨rfl, no_word k4 (.inl (by rw [← eW.out, EX.out, EZ2.out]; exact z2))⟩, t3.below G.ps.lo (Nat.le_refl N)⟩
                · have E60 := hid (show decide ((z : Int) < 2) = false from decide_eq_false (by omega))
                  by_cases z5 : 5 < z
                  · have E64 := hid (show decide ((5 : Int) < (z : Int)) = true from decide_eq_true (by omega))
                    go_wp2_with (first
                      | ((with_reducible show wpList _ _ _ (_ :: _) _ _); first
                        | (refine wpl_run rfl (.bool true) _ (run_lssK (x := .tmp 50) rfl rfl rfl E51.out _) ?_; try simp only [pA])
                        | (refine wpl_run rfl (.pointer (some ⟨g0, k, none⟩)) _ (run_iaL rfl rfl Hp.out rfl undTs szTs hkm.out _) ?_; try simp only [pA])
                        | (refine wpl_run rfl (.string (tx x)) _ (run_cell1 9 rfl rfl undTx rfl HCK.out) ?_; try simp only [pA])
                        | (refine wpl_run rfl (.int .i64 (z : Int)) _ (run_lenS rfl undTx rfl EZ.out _) ?_; try simp only [pA])
                        | (refine wpl_want (by rfl) ?_; refine wpl_run rfl (.int .i64 (z : Int)) _ (run_lenS rfl undTx rfl EZ.out _) ?_; try simp only [pA])
                        | (refine wpl_run rfl (.bool false) _ (run_lssK (x := .tmp 59) rfl rfl rfl E60.out _) ?_; try simp only [pA])
                        | (refine wpl_want (by rfl) ?_; refine wpl_run rfl (.bool true) _ (run_gtrK (x := .tmp 63) rfl rfl rfl E64.out _) ?_; try simp only [pA])
                        | (refine wpl_build rfl 24 _ rfl (cellsOf (rgC rgNone) 6) (by kernel_rfl) ?_; try simp only [pA])
                        | (refine wpl_store rfl 24 (.tmp 2) (.tmp 66) rfl N 6 (rgC rgNone) rfl rfl 24 _ G.ps.res szRF (fun j _ => rgC_one _ j) ?_; intro w3 t3 k3; try simp only [pA]))
                      | fail)
                    exact post_cb rfl N rfl k3 undRF szRF rfl rfl ⟨rgNone, false, rfl, (fun h => by cases h), fun _ => ⟨rfl, no_word k4 (.inr (by rw [← eW.out, EX.out, EZ2.out]; exact z5))⟩, t3.below G.ps.lo (Nat.le_refl N)⟩
                  · have E64 := hid (show decide ((5 : Int) < (z : Int)) = false from decide_eq_false (by omega))
                    go_wp2_with (first
                      | ((with_reducible show wpList _ _ _ (_ :: _) _ _); first
                        | (refine wpl_run rfl (.bool true) _ (run_lssK (x := .tmp 50) rfl rfl rfl E51.out _) ?_; try simp only [pA])
                        | (refine wpl_run rfl (.pointer (some ⟨g0, k, none⟩)) _ (run_iaL rfl rfl Hp.out rfl undTs szTs hkm.out _) ?_; try simp only [pA])
                        | (refine wpl_run rfl (.string (tx x)) _ (run_cell1 9 rfl rfl undTx rfl HCK.out) ?_; try simp only [pA])
                        | (refine wpl_run rfl (.int .i64 (z : Int)) _ (run_lenS rfl undTx rfl EZ.out _) ?_; try simp only [pA])
                        | (refine wpl_want (by rfl) ?_; refine wpl_run rfl (.int .i64 (z : Int)) _ (run_lenS rfl undTx rfl EZ.out _) ?_; try simp only [pA])
                        | (refine wpl_run rfl (.bool false) _ (run_lssK (x := .tmp 59) rfl rfl rfl E60.out _) ?_; try simp only [pA])
                        | (refine wpl_want (by rfl) ?_; refine wpl_run rfl (.bool false) _ (run_gtrK (x := .tmp 63) rfl rfl rfl E64.out _) ?_; try simp only [pA]))
                      | fail)
                    have z2' : 2 ≤ z := by omega
                    have z5' : z ≤ 5 := by omega
                    clear z2 z5 E60 E64 E51 HCK
                    go_loopw [11] (fun x11 wr => ∃ (i q : Nat), x11 = .int .i64 (i : Int) ∧ 1 ≤ i ∧ i ≤ z ∧ Hid (q = numN ((x.take i).drop 1)) ∧ Qs w N m W p cap M rgNone (fun j => if j = k then q else f j) wr) (fun x11 _ => z - (intOf x11).toNat)
                    case atStart => exact ⟨1, 0, rfl, by omega, by omega, hid (by rw [List.drop_eq_nil_of_le (by rw [List.length_take]; omega)]; rfl), by
                      have e : (fun j => if j = k then 0 else f j) = f := by
                        funext j; split
                        · rename_i h; rw [h, HZ.out k (Nat.le_refl k)]
                        · rfl
                      rw [e]; exact G⟩
                    case round =>
                      clear G
                      obtain ⟨i, q, rfl, i1, i2, HQ, G⟩ := hrel
                      by_cases iz : i < z
                      · have E70 := hid (show decide ((i : Int) < (z : Int)) = true from decide_eq_true (by omega))
                        obtain ⟨c, hc⟩ : ∃ c, x[i]? = some c := ⟨_, List.getElem?_eq_getElem (by rw [EZ2.out]; exact iz)⟩
                        have HC := hid (show (tx x).data.toList[i]? = some c by rw [tx_data]; exact hc)
                        have HC2 := hid hc
                        have c256 : c.toNat < 256 := c.toNat_lt
                        have q4 : q < 4096 := by
                          rw [HQ.out]
                          refine Nat.lt_of_lt_of_le (numN_take_lt x i i1 (by rw [EZ2.out]; exact i2)) ?_
                          exact Nat.le_trans (Nat.pow_le_pow_right (n := 16) (by decide) (show i - 1 ≤ 3 by omega)) (by decide)
                        obtain ⟨y, ey⟩ : ∃ y, c.toNat = y := ⟨_, rfl⟩
                        have EY := hid ey
                        rw [ey] at c256
                        have HNX := hid (show numN ((x.take (i + 1)).drop 1) = q * 16 + (dgt c).getD 0 by rw [take_one hc i1, numN_snoc, ← HQ.out])
                        have CE := hid (show wr.cell? ⟨M + 1, k, none⟩ = some (.int .u16 (q : Int)) by
                          have h := G.nn.cell k4
                          rw [h]; simp)
                        clear hc ey
                        by_cases y48 : 48 ≤ y
                        · have E79 := hid (show decide ((48 : Int) ≤ (y : Int)) = true from decide_eq_true (by omega))
                          by_cases y57 : y ≤ 57
                          · have E82 := hid (show decide ((y : Int) ≤ (57 : Int)) = true from decide_eq_true (by omega))
                            obtain ⟨d, ed⟩ : ∃ d, y - 48 = d := ⟨_, rfl⟩
                            obtain ⟨u, eu⟩ : ∃ u, q * 16 = u := ⟨_, rfl⟩
                            obtain ⟨v1, ev1⟩ : ∃ v1, u + d = v1 := ⟨_, rfl⟩
                            have d16 : d < 10 := by omega
                            have u16 : u < 65530 := by omega
                            have v16 : v1 < 65550 - 16 := by omega
                            have ED := hid ed
                            have EU := hid eu
                            have EV1 := hid ev1
                            clear ed eu ev1
                            go_wp2_with (first
                              | ((with_reducible show wpList _ _ _ (_ :: _) _ _); first
                                | (refine wpl_run rfl (.bool true) _ (run_lssK (x := .tmp 67) rfl rfl rfl E70.out _) ?_; try simp only [pA])
                                | (refine wpl_run rfl (.int .i64 (z : Int)) _ (run_lenS rfl undTx rfl EZ.out _) ?_; try simp only [pA])
                                | (refine wpl_run rfl (.int .u8 (y : Int)) _ (by rw [← EY.out]; exact run_ixS rfl undTx rfl rfl HC.out _) ?_; try simp only [pA])
                                | (refine wpl_run rfl (.bool true) _ (run_geqK (x := .tmp 78) rfl rfl rfl E79.out _) ?_; try simp only [pA])
                                | (refine wpl_want (by rfl) ?_; refine wpl_run rfl (.bool true) _ (run_leqK (x := .tmp 81) rfl rfl rfl E82.out _) ?_; try simp only [pA])
                                | (refine wpl_run rfl (.pointer (some ⟨M + 1, k, none⟩)) _ (run_iaP rfl rfl rfl undAr szU16 k4 _) ?_; try simp only [pA])
                                | (refine wpl_run rfl (.int .u16 (q : Int)) _ (run_cell1 22 rfl rfl und16q rfl CE.out) ?_; try simp only [pA])
                                | (refine wpl_run rfl (.int .u16 (u : Int)) _ (run_mul16 rfl rfl rfl EU.out.symm (by omega) _) ?_; try simp only [pA])
                                | (refine wpl_run rfl (.int .u8 (d : Int)) _ (run_sub8 (d := 48) rfl rfl rfl rfl (by omega) (by omega) ED.out.symm _) ?_; try simp only [pA])
                                | (refine wpl_run rfl (.int .u16 (d : Int)) _ (run_cv816 rfl und8q und16q rfl (by omega) _) ?_; try simp only [pA])
                                | (refine wpl_run rfl (.int .u16 (v1 : Int)) _ (run_add16 (x := .tmp 88) rfl rfl rfl rfl EV1.out.symm (by omega) _) ?_; try simp only [pA])
                                | (refine wpl_set rfl 22 (.tmp 93) (.tmp 92) rfl (M + 1) k rfl (.int .u16 ((v1 : Nat) : Int)) rfl szU16 rfl rfl 89 4 _ G.nn k4 ?_; intro w3 t3 k3; try simp only [pA])
                                | (refine wpl_run rfl (.int .i64 ((i + 1 : Nat) : Int)) _ (run_inc rfl rfl rfl rfl (by omega) _) ?_; try simp only [pA]))
                              | fail)
                            refine ⟨⟨i + 1, v1, rfl, by omega, by omega, hid ?_, ?_⟩, ?_⟩
                            · rw [HNX.out, (show dgt c = some (y - 48) by unfold dgt; rw [EY.out, if_pos (by omega)])]
                              have h1 := ED.out
                              have h2 := EU.out
                              have h3 := EV1.out
                              show _ = q * 16 + (y - 48)
                              omega
                            · refine G.touchN t3 (k3.congr (fun j _ => ?_))
                              by_cases e : j = k
                              · unfold upd; rw [if_pos e]; simp only [if_pos e]
                              · unfold upd; rw [if_neg e]; simp only [if_neg e]
                            · simp [intOf]; omega
                          · have E82 := hid (show decide ((y : Int) ≤ (57 : Int)) = false from decide_eq_false (by omega))
                            by_cases y97 : 97 ≤ y
                            · have E96 := hid (show decide ((97 : Int) ≤ (y : Int)) = true from decide_eq_true (by omega))
                              by_cases y102 : y ≤ 102
                              · have E99 := hid (show decide ((y : Int) ≤ (102 : Int)) = true from decide_eq_true (by omega))
                                obtain ⟨d, ed⟩ : ∃ d, y - 97 = d := ⟨_, rfl⟩
                                obtain ⟨u, eu⟩ : ∃ u, q * 16 = u := ⟨_, rfl⟩
                                obtain ⟨v1, ev1⟩ : ∃ v1, u + d = v1 := ⟨_, rfl⟩
                                obtain ⟨v2, ev2⟩ : ∃ v2, v1 + 10 = v2 := ⟨_, rfl⟩
                                have v26 : v2 < 65536 := by omega
                                have EV2 := hid ev2
                                clear ev2
                                have d16 : d < 10 := by omega
                                have u16 : u < 65530 := by omega
                                have v16 : v1 < 65550 - 16 := by omega
                                have ED := hid ed
                                have EU := hid eu
                                have EV1 := hid ev1
                                clear ed eu ev1
                                go_wp2_with (first
                                  | ((with_reducible show wpList _ _ _ (_ :: _) _ _); first
                                    | (refine wpl_run rfl (.bool true) _ (run_lssK (x := .tmp 67) rfl rfl rfl E70.out _) ?_; try simp only [pA])
                                    | (refine wpl_run rfl (.int .i64 (z : Int)) _ (run_lenS rfl undTx rfl EZ.out _) ?_; try simp only [pA])
                                    | (refine wpl_run rfl (.int .u8 (y : Int)) _ (by rw [← EY.out]; exact run_ixS rfl undTx rfl rfl HC.out _) ?_; try simp only [pA])
                                    | (refine wpl_run rfl (.bool true) _ (run_geqK (x := .tmp 78) rfl rfl rfl E79.out _) ?_; try simp only [pA])
                                    | (refine wpl_want (by rfl) ?_; refine wpl_run rfl (.bool false) _ (run_leqK (x := .tmp 81) rfl rfl rfl E82.out _) ?_; try simp only [pA])
                                    | (refine wpl_run rfl (.bool true) _ (run_geqK (x := .tmp 95) rfl rfl rfl E96.out _) ?_; try simp only [pA])
                                    | (refine wpl_want (by rfl) ?_; refine wpl_run rfl (.bool true) _ (run_leqK (x := .tmp 98) rfl rfl rfl E99.out _) ?_; try simp only [pA])
                                    | (refine wpl_run rfl (.pointer (some ⟨M + 1, k, none⟩)) _ (run_iaP rfl rfl rfl undAr szU16 k4 _) ?_; try simp only [pA])
                                    | (refine wpl_run rfl (.int .u16 (q : Int)) _ (run_cell1 22 rfl rfl und16q rfl CE.out) ?_; try simp only [pA])
                                    | (refine wpl_run rfl (.int .u16 (u : Int)) _ (run_mul16 rfl rfl rfl EU.out.symm (by omega) _) ?_; try simp only [pA])
                                    | (refine wpl_run rfl (.int .u8 (d : Int)) _ (run_sub8 (d := 97) rfl rfl rfl rfl (by omega) (by omega) ED.out.symm _) ?_; try simp only [pA])
                                    | (refine wpl_run rfl (.int .u16 (d : Int)) _ (run_cv816 rfl und8q und16q rfl (by omega) _) ?_; try simp only [pA])
                                    | (refine wpl_run rfl (.int .u16 (v1 : Int)) _ (run_add16 (x := .tmp 105) rfl rfl rfl rfl EV1.out.symm (by omega) _) ?_; try simp only [pA])
                                    | (refine wpl_run rfl (.int .u16 (v2 : Int)) _ (run_add16 (x := .tmp 109) (d := 10) rfl rfl rfl rfl EV2.out.symm (by omega) _) ?_; try simp only [pA])
                                    | (refine wpl_set rfl 22 (.tmp 111) (.tmp 110) rfl (M + 1) k rfl (.int .u16 ((v2 : Nat) : Int)) rfl szU16 rfl rfl 89 4 _ G.nn k4 ?_; intro w3 t3 k3; try simp only [pA])
                                    | (refine wpl_run rfl (.int .i64 ((i + 1 : Nat) : Int)) _ (run_inc rfl rfl rfl rfl (by omega) _) ?_; try simp only [pA]))
                                  | fail)
                                refine ⟨⟨i + 1, v2, rfl, by omega, by omega, hid ?_, ?_⟩, ?_⟩
                                · rw [HNX.out, (show dgt c = some (y - 87) by unfold dgt; rw [EY.out, if_neg (by omega), if_pos (by omega)])]
                                  have h1 := ED.out
                                  have h2 := EU.out
                                  have h3 := EV1.out
                                  have h4 := EV2.out
                                  show _ = q * 16 + (y - 87)
                                  omega
                                · refine G.touchN t3 (k3.congr (fun j _ => ?_))
                                  by_cases e : j = k
                                  · unfold upd; rw [if_pos e]; simp only [if_pos e]
                                  · unfold upd; rw [if_neg e]; simp only [if_neg e]
                                · simp [intOf]; omega
                              · have E99 := hid (show decide ((y : Int) ≤ (102 : Int)) = false from decide_eq_false (by omega))
                                go_wp2_with (first
                                  | ((with_reducible show wpList _ _ _ (_ :: _) _ _); first
                                    | (refine wpl_run rfl (.bool true) _ (run_lssK (x := .tmp 67) rfl rfl rfl E70.out _) ?_; try simp only [pA])
                                    | (refine wpl_run rfl (.int .i64 (z : Int)) _ (run_lenS rfl undTx rfl EZ.out _) ?_; try simp only [pA])
                                    | (refine wpl_run rfl (.int .u8 (y : Int)) _ (by rw [← EY.out]; exact run_ixS rfl undTx rfl rfl HC.out _) ?_; try simp only [pA])
                                    | (refine wpl_run rfl (.bool true) _ (run_geqK (x := .tmp 78) rfl rfl rfl E79.out _) ?_; try simp only [pA])
                                    | (refine wpl_want (by rfl) ?_; refine wpl_run rfl (.bool false) _ (run_leqK (x := .tmp 81) rfl rfl rfl E82.out _) ?_; try simp only [pA])
                                    | (refine wpl_run rfl (.bool true) _ (run_geqK (x := .tmp 95) rfl rfl rfl E96.out _) ?_; try simp only [pA])
                                    | (refine wpl_want (by rfl) ?_; refine wpl_run rfl (.bool false) _ (run_leqK (x := .tmp 98) rfl rfl rfl E99.out _) ?_; try simp only [pA])
                                    | (refine wpl_build rfl 24 _ rfl (cellsOf (rgC rgNone) 6) (by kernel_rfl) ?_; try simp only [pA])
                                    | (refine wpl_store rfl 24 (.tmp 2) (.tmp 76) rfl N 6 (rgC rgNone) rfl rfl 24 _ G.ps.res szRF (fun j _ => rgC_one _ j) ?_; intro w3 t3 k3; try simp only [pA]))
                                  | fail)
                                exact post_cb rfl N rfl k3 undRF szRF rfl rfl ⟨rgNone, false, rfl, (fun h => by cases h), fun _ => ⟨rfl, no_digit k4 i1 (by rw [← eW.out, EX.out, EZ2.out]; exact iz) (by rw [← eW.out, EX.out, List.getD_eq_getElem?_getD, HC2.out]; exact (by show dgt c = none; unfold dgt; rw [EY.out, if_neg (by omega), if_neg (by omega)]))⟩, t3.below G.ps.lo (Nat.le_refl N)⟩
                            · have E96 := hid (show decide ((97 : Int) ≤ (y : Int)) = false from decide_eq_false (by omega))
                              go_wp2_with (first
                                | ((with_reducible show wpList _ _ _ (_ :: _) _ _); first
                                  | go_guarded
                                  | (refine wpl_run rfl (.bool true) _ (run_lssK (x := .tmp 67) rfl rfl rfl E70.out _) ?_; try simp only [pA])
                                  | (refine wpl_run rfl (.int .i64 (z : Int)) _ (run_lenS rfl undTx rfl EZ.out _) ?_; try simp only [pA])
                                  | (refine wpl_run rfl (.int .u8 (y : Int)) _ (by rw [← EY.out]; exact run_ixS rfl undTx rfl rfl HC.out _) ?_; try simp only [pA])
                                  | (refine wpl_run rfl (.bool true) _ (run_geqK (x := .tmp 78) rfl rfl rfl E79.out _) ?_; try simp only [pA])
                                  | (refine wpl_want (by rfl) ?_; refine wpl_run rfl (.bool false) _ (run_leqK (x := .tmp 81) rfl rfl rfl E82.out _) ?_; try simp only [pA])
                                  | (refine wpl_run rfl (.bool false) _ (run_geqK (x := .tmp 95) rfl rfl rfl E96.out _) ?_; try simp only [pA])
                                  | (refine wpl_build rfl 24 _ rfl (cellsOf (rgC rgNone) 6) (by kernel_rfl) ?_; try simp only [pA])
                                  | (refine wpl_store rfl 24 (.tmp 2) (.tmp 76) rfl N 6 (rgC rgNone) rfl rfl 24 _ G.ps.res szRF (fun j _ => rgC_one _ j) ?_; intro w3 t3 k3; try simp only [pA]))
                                | fail)
                              exact post_cb rfl N rfl k3 undRF szRF rfl rfl ⟨rgNone, false, rfl, (fun h => by cases h), fun _ => ⟨rfl, no_digit k4 i1 (by rw [← eW.out, EX.out, EZ2.out]; exact iz) (by rw [← eW.out, EX.out, List.getD_eq_getElem?_getD, HC2.out]; exact (by show dgt c = none; unfold dgt; rw [EY.out, if_neg (by omega), if_neg (by omega)]))⟩, t3.below G.ps.lo (Nat.le_refl N)⟩
                        · have E79 := hid (show decide ((48 : Int) ≤ (y : Int)) = false from decide_eq_false (by omega))
                          have E96 := hid (show decide ((97 : Int) ≤ (y : Int)) = false from decide_eq_false (by omega))
                          go_wp2_with (first
                            | ((with_reducible show wpList _ _ _ (_ :: _) _ _); first
                              | go_guarded
                              | (refine wpl_run rfl (.bool true) _ (run_lssK (x := .tmp 67) rfl rfl rfl E70.out _) ?_; try simp only [pA])
                              | (refine wpl_run rfl (.int .i64 (z : Int)) _ (run_lenS rfl undTx rfl EZ.out _) ?_; try simp only [pA])
                              | (refine wpl_run rfl (.int .u8 (y : Int)) _ (by rw [← EY.out]; exact run_ixS rfl undTx rfl rfl HC.out _) ?_; try simp only [pA])
                              | (refine wpl_run rfl (.bool false) _ (run_geqK (x := .tmp 78) rfl rfl rfl E79.out _) ?_; try simp only [pA])
                              | (refine wpl_run rfl (.bool false) _ (run_geqK (x := .tmp 95) rfl rfl rfl E96.out _) ?_; try simp only [pA])
                              | (refine wpl_build rfl 24 _ rfl (cellsOf (rgC rgNone) 6) (by kernel_rfl) ?_; try simp only [pA])
                              | (refine wpl_store rfl 24 (.tmp 2) (.tmp 76) rfl N 6 (rgC rgNone) rfl rfl 24 _ G.ps.res szRF (fun j _ => rgC_one _ j) ?_; intro w3 t3 k3; try simp only [pA]))
                            | fail)
                          exact post_cb rfl N rfl k3 undRF szRF rfl rfl ⟨rgNone, false, rfl, (fun h => by cases h), fun _ => ⟨rfl, no_digit k4 i1 (by rw [← eW.out, EX.out, EZ2.out]; exact iz) (by rw [← eW.out, EX.out, List.getD_eq_getElem?_getD, HC2.out]; exact (by show dgt c = none; unfold dgt; rw [EY.out, if_neg (by omega), if_neg (by omega)]))⟩, t3.below G.ps.lo (Nat.le_refl N)⟩
                      · have hiz : i = z := by omega
                        have E70 := hid (show decide ((i : Int) < (z : Int)) = false from decide_eq_false (by omega))
                        have HQ2 := hid (show q = numN (x.drop 1) by rw [HQ.out, List.take_of_length_le (by rw [EZ2.out]; omega)])
                        have q5 : q < 65536 := by
                          rw [HQ.out]
                          refine Nat.lt_of_lt_of_le (numN_take_lt x i i1 (by rw [EZ2.out]; exact i2)) ?_
                          exact Nat.le_trans (Nat.pow_le_pow_right (n := 16) (by decide) (show i - 1 ≤ 4 by omega)) (by decide)
                        clear hiz
                        go_wp2_with (first
                          | ((with_reducible show wpList _ _ _ (_ :: _) _ _); first
                            | (refine wpl_run rfl (.bool false) _ (run_lssK (x := .tmp 67) rfl rfl rfl E70.out _) ?_; try simp only [pA])
                            | (refine wpl_run rfl (.int .i64 (z : Int)) _ (run_lenS rfl undTx rfl EZ.out _) ?_; try simp only [pA])
                            | (refine wpl_run rfl (.int .i64 ((k + 1 : Nat) : Int)) _ (run_inc rfl rfl rfl rfl (by omega) _) ?_; try simp only [pA]))
                          | fail)
                        refine ⟨⟨k + 1, (fun j => if j = k then q else f j), rfl, by omega, hid (fun j hj => ?_), hid (fun j hj => ?_), G⟩, ?_⟩
                        · show (if j = k then q else f j) = _ ∧ (if j = k then q else f j) < _
                          by_cases e : j = k
                          · rw [if_pos e, e, EX.out]; exact ⟨HQ2.out, q5⟩
                          · rw [if_neg e]; exact HF.out j (by omega)
                        · show (if j = k then q else f j) = 0
                          rw [if_neg (by omega)]; exact HZ.out j (by omega)
                        · simp [intOf]; omega
              · have hk4 : k = 4 := by omega
                have E51 := hid (show decide ((k : Int) < 4) = false from decide_eq_false (by omega))
                obtain ⟨R0, eR0⟩ : ∃ R0 : Rg, R0 = ⟨BitVec.ofNat 16 (f 0), BitVec.ofNat 16 (f 1), BitVec.ofNat 16 (f 2), BitVec.ofNat 16 (f 3), false, false⟩ := ⟨_, rfl⟩
                have cw : ∀ j, j < 4 → ∀ z : BitVec 16, z = BitVec.ofNat 16 (f j) → wr.cell? ⟨M + 1, j, none⟩ = some (Wd z) := fun j hj z hz => by
                  rw [hz, ← Wd_ofNat (HF.out j (by omega)).2]
                  exact G.nn.cell hj
                have c0 := hid (cw 0 (by omega) R0.c (by rw [eR0]))
                have c1 := hid (cw 1 (by omega) R0.p (by rw [eR0]))
                have c2 := hid (cw 2 (by omega) R0.m (by rw [eR0]))
                have c3 := hid (cw 3 (by omega) R0.h (by rw [eR0]))
                have ev : R0.v = false := by rw [eR0]
                have es : R0.s = false := by rw [eR0]
                have eN : docR W = ⟨R0.c, R0.p, R0.m, R0.h, (W.drop 4).any (· == lP), (W.drop 4).any (· == lS)⟩ := by
                  have h0 := (HF.out 0 (by omega)).1
                  have h1 := (HF.out 1 (by omega)).1
                  have h2 := (HF.out 2 (by omega)).1
                  have h3 := (HF.out 3 (by omega)).1
                  unfold docR
                  rw [eR0, h0, h1, h2, h3]
                have EN := hid eN
                have eB : #[Wd R0.c, Wd R0.p, Wd R0.m, Wd R0.h, .bool false, .bool false] = cellsOf (rgC R0) 6 := by
                  show _ = #[Wd R0.c, Wd R0.p, Wd R0.m, Wd R0.h, .bool R0.v, .bool R0.s]
                  rw [ev, es]
                have EB := hid eB
                have HV := hid (And.intro ev es)
                clear cw eR0 ev es eN eB HF HZ k4 hk4
                go_wp2_with (first
                  | ((with_reducible show wpList _ _ _ (_ :: _) _ _); first
                    | (refine wpl_run rfl (.bool false) _ (run_lssK (x := .tmp 50) rfl rfl rfl E51.out _) ?_; try simp only [pA])
                    | (refine wpl_run rfl (.pointer (some ⟨M + 1, 0, none⟩)) _ (run_iaP (i := 0) rfl rfl rfl undAr szU16 (by decide) _) ?_; try simp only [pA])
                    | (refine wpl_run rfl (.pointer (some ⟨M + 1, 1, none⟩)) _ (run_iaP (i := 1) rfl rfl rfl undAr szU16 (by decide) _) ?_; try simp only [pA])
                    | (refine wpl_run rfl (.pointer (some ⟨M + 1, 2, none⟩)) _ (run_iaP (i := 2) rfl rfl rfl undAr szU16 (by decide) _) ?_; try simp only [pA])
                    | (refine wpl_run rfl (.pointer (some ⟨M + 1, 3, none⟩)) _ (run_iaP (i := 3) rfl rfl rfl undAr szU16 (by decide) _) ?_; try simp only [pA])
                    | (refine wpl_run rfl (Wd R0.c) _ (run_cell1 (b := M + 1) (j := 0) 22 rfl rfl und16q rfl c0.out) ?_; try simp only [pA])
                    | (refine wpl_run rfl (Wd R0.p) _ (run_cell1 (b := M + 1) (j := 1) 22 rfl rfl und16q rfl c1.out) ?_; try simp only [pA])
                    | (refine wpl_run rfl (Wd R0.m) _ (run_cell1 (b := M + 1) (j := 2) 22 rfl rfl und16q rfl c2.out) ?_; try simp only [pA])
                    | (refine wpl_run rfl (Wd R0.h) _ (run_cell1 (b := M + 1) (j := 3) 22 rfl rfl und16q rfl c3.out) ?_; try simp only [pA])
                    | (refine wpl_build rfl 24 _ rfl (cellsOf (rgC R0) 6) (by rw [← EB.out]; kernel_rfl) ?_; try simp only [pA])
                    | (refine wpl_store rfl 24 (.tmp 7) (.tmp 120) rfl M 6 (rgC R0) rfl rfl 24 _ G.rr szRF (fun j _ => rgC_one _ j) ?_; intro w3 t3 k3; have G3 := G.touchR t3 k3; try simp only [pA]))
                  | fail)
                clear E51 c0 c1 c2 c3 EB t3 k3 G
                go_loopw [13] (fun x13 wr => ∃ (k : Nat) (R : Rg), x13 = .int .i64 (k : Int) ∧ 4 ≤ k ∧ k ≤ m ∧ Hid (R = ⟨R0.c, R0.p, R0.m, R0.h, ((W.take k).drop 4).any (· == lP), ((W.take k).drop 4).any (· == lS)⟩) ∧ Qs w N m W p cap M R f wr) (fun x13 _ => m - (intOf x13).toNat)
                case atStart => exact ⟨4, R0, rfl, by omega, by omega, hid (by
                  rw [any_four, any_four]
                  obtain ⟨h1, h2⟩ := HV.out
                  cases R0; simp only at h1 h2; rw [h1, h2]), G3⟩
                case round =>
                  clear G3
                  obtain ⟨k, R, rfl, k4, km, HR, G⟩ := hrel
                  by_cases kl : k < m
                  · have E124 := hid (show decide ((k : Int) < (m : Int)) = true from decide_eq_true (by omega))
                    obtain ⟨x, ex⟩ : ∃ x, wd W k = x := ⟨_, rfl⟩
                    have EX := hid ex
                    have cellx : ∀ wy f2 R2, Qs w N m W p cap M R2 f2 wy → wy.cell? ⟨g0, k, none⟩ = some (.string (tx x)) := fun wy f2 R2 G2 => by
                      obtain ⟨g, e, hc⟩ := G2.ps.own.cell (by omega)
                      rw [Hp.out] at e
                      obtain rfl : g0 = g := by injection e with e; injection e
                      have := hc k (by omega)
                      rw [Nat.zero_add] at this
                      rw [this, ← ex]; rfl
                    obtain ⟨bp, hbp⟩ : ∃ bp, (x == lP) = bp := ⟨_, rfl⟩
                    obtain ⟨bs, hbs⟩ : ∃ bs, (x == lS) = bs := ⟨_, rfl⟩
                    have EP := hid (show ((tx x).toList == (⟨#[112, 114, 105, 118, 105, 108, 101, 103, 101, 100]⟩ : ByteArray).toList) = bp by rw [tx_beq, ← hbp]; rfl)
                    have ES := hid (show ((tx x).toList == (⟨#[115, 105, 103, 110, 101, 100]⟩ : ByteArray).toList) = bs by rw [tx_beq, ← hbs]; rfl)
                    have eV := any_take W k lP k4 (by rw [← Hm.out]; exact kl)
                    have eS := any_take W k lS k4 (by rw [← Hm.out]; exact kl)
                    rw [ex, hbp] at eV
                    rw [ex, hbs] at eS
                    have EV := hid eV
                    have ESS := hid eS
                    have CX := hid cellx
                    clear ex hbp hbs eV eS cellx
                    obtain ⟨rc, rp, rm, rh, rv, rs⟩ := R
                    have CV := hid (show wr.cell? ⟨M, 4, none⟩ = some (.bool rv) from G.rr.cell (by omega))
                    have CXX := hid (CX.out wr _ _ G)
                    have hkm := hid kl
                    cases rv
                    · skip
                      go_upto_region 34 with (first
                        | ((with_reducible show wpList _ _ _ (_ :: _) _ _); first
                          | (refine wpl_run rfl (.bool true) _ (run_lssK (x := .tmp 121) rfl rfl rfl E124.out _) ?_; try simp only [pA])
                          | (refine wpl_run rfl (.int .i64 (m : Int)) _ (run_lenL rfl undTs rfl _) ?_; try simp only [pA])
                          | (refine wpl_run rfl (.bool false) _ (run_cell1 (b := M) (j := 4) (x := .tmp 127) 4 rfl rfl undBq rfl CV.out) ?_; try simp only [pA])
                          | (refine wpl_want (by rfl) ?_; refine wpl_run rfl (.pointer (some ⟨g0, k, none⟩)) _ (run_iaL rfl rfl Hp.out rfl undTs szTs hkm.out _) ?_; try simp only [pA])
                          | (refine wpl_want (by rfl) ?_; refine wpl_run rfl (.string (tx x)) _ (run_cell1 (x := .tmp 132) 9 rfl rfl undTx rfl CXX.out) ?_; try simp only [pA])
                          | (refine wpl_want (by rfl) ?_; refine wpl_run rfl (.bool bp) _ (run_eqT (x := .tmp 133) rfl rfl rfl EP.out _) ?_; try simp only [pA])
                          | (refine wpl_set rfl 4 (.tmp 136) (.tmp 135) rfl M 4 rfl (.bool bp) rfl szBo1 rfl rfl 24 6 _ G.rr (by omega) ?_; intro w3 t3 kk3; try simp only [pA]))
                        | fail)
                      have G3 : Qs w N m W p cap M ⟨rc, rp, rm, rh, bp, rs⟩ f w3 := G.touchR t3 (kk3.congr (fun j hj => by
                        rcases (show j = 0 ∨ j = 1 ∨ j = 2 ∨ j = 3 ∨ j = 4 ∨ j = 5 by omega) with rfl | rfl | rfl | rfl | rfl | rfl <;> rfl))
                      have CS := hid (show w3.cell? ⟨M, 5, none⟩ = some (.bool rs) from G3.rr.cell (by omega))
                      have CXY := hid (CX.out w3 _ _ G3)
                      clear t3 kk3 G CV CXX
                      cases rs
                      · skip
                        go_wp2_with (first
                          | ((with_reducible show wpList _ _ _ (_ :: _) _ _); first
                            | (refine wpl_run rfl (.bool false) _ (run_cell1 (b := M) (j := 5) (x := .tmp 137) 4 rfl rfl undBq rfl CS.out) ?_; try simp only [pA])
                            | (refine wpl_want (by rfl) ?_; refine wpl_run rfl (.pointer (some ⟨g0, k, none⟩)) _ (run_iaL rfl rfl Hp.out rfl undTs szTs hkm.out _) ?_; try simp only [pA])
                            | (refine wpl_want (by rfl) ?_; refine wpl_run rfl (.string (tx x)) _ (run_cell1 (x := .tmp 142) 9 rfl rfl undTx rfl CXY.out) ?_; try simp only [pA])
                            | (refine wpl_want (by rfl) ?_; refine wpl_run rfl (.bool bs) _ (run_eqT (x := .tmp 143) rfl rfl rfl ES.out _) ?_; try simp only [pA])
                            | (refine wpl_set rfl 4 (.tmp 146) (.tmp 145) rfl M 5 rfl (.bool bs) rfl szBo1 rfl rfl 24 6 _ G3.rr (by omega) ?_; intro w4 t4 kk4; try simp only [pA])
                            | (refine wpl_run rfl (.int .i64 ((k + 1 : Nat) : Int)) _ (run_inc rfl rfl rfl rfl (by omega) _) ?_; try simp only [pA]))
                          | fail)
                        refine ⟨⟨k + 1, ⟨rc, rp, rm, rh, bp, bs⟩, rfl, by omega, by omega, hid ?_, ?_⟩, ?_⟩
                        · have h := HR.out
                          rw [Rg.mk.injEq] at h
                          obtain ⟨h1, h2, h3, h4, h5, h6⟩ := h
                          rw [EV.out, ESS.out, ← h5, ← h6, ← h1, ← h2, ← h3, ← h4]
                          simp
                        · exact G3.touchR t4 (kk4.congr (fun j hj => by
                            rcases (show j = 0 ∨ j = 1 ∨ j = 2 ∨ j = 3 ∨ j = 4 ∨ j = 5 by omega) with rfl | rfl | rfl | rfl | rfl | rfl <;> rfl))
                        · simp [intOf]; omega
                      · skip
                        go_wp2_with (first
                          | ((with_reducible show wpList _ _ _ (_ :: _) _ _); first
                            | (refine wpl_run rfl (.bool true) _ (run_cell1 (b := M) (j := 5) (x := .tmp 137) 4 rfl rfl undBq rfl CS.out) ?_; try simp only [pA])
                            | go_guarded
                            | (refine wpl_set rfl 4 (.tmp 146) (.tmp 145) rfl M 5 rfl (.bool true) rfl szBo1 rfl rfl 24 6 _ G3.rr (by omega) ?_; intro w4 t4 kk4; try simp only [pA])
                            | (refine wpl_run rfl (.int .i64 ((k + 1 : Nat) : Int)) _ (run_inc rfl rfl rfl rfl (by omega) _) ?_; try simp only [pA]))
                          | fail)
                        refine ⟨⟨k + 1, ⟨rc, rp, rm, rh, bp, true⟩, rfl, by omega, by omega, hid ?_, ?_⟩, ?_⟩
                        · have h := HR.out
                          rw [Rg.mk.injEq] at h
                          obtain ⟨h1, h2, h3, h4, h5, h6⟩ := h
                          rw [EV.out, ESS.out, ← h5, ← h6, ← h1, ← h2, ← h3, ← h4]
                          simp
                        · exact G3.touchR t4 (kk4.congr (fun j hj => by
                            rcases (show j = 0 ∨ j = 1 ∨ j = 2 ∨ j = 3 ∨ j = 4 ∨ j = 5 by omega) with rfl | rfl | rfl | rfl | rfl | rfl <;> rfl))
                        · simp [intOf]; omega
                    · skip
                      go_upto_region 34 with (first
                        | ((with_reducible show wpList _ _ _ (_ :: _) _ _); first
                          | (refine wpl_run rfl (.bool true) _ (run_lssK (x := .tmp 121) rfl rfl rfl E124.out _) ?_; try simp only [pA])
                          | (refine wpl_run rfl (.int .i64 (m : Int)) _ (run_lenL rfl undTs rfl _) ?_; try simp only [pA])
                          | (refine wpl_run rfl (.bool true) _ (run_cell1 (b := M) (j := 4) (x := .tmp 127) 4 rfl rfl undBq rfl CV.out) ?_; try simp only [pA])
                          | go_guarded
                          | (refine wpl_set rfl 4 (.tmp 136) (.tmp 135) rfl M 4 rfl (.bool true) rfl szBo1 rfl rfl 24 6 _ G.rr (by omega) ?_; intro w3 t3 kk3; try simp only [pA]))
                        | fail)
                      have G3 : Qs w N m W p cap M ⟨rc, rp, rm, rh, true, rs⟩ f w3 := G.touchR t3 (kk3.congr (fun j hj => by
                        rcases (show j = 0 ∨ j = 1 ∨ j = 2 ∨ j = 3 ∨ j = 4 ∨ j = 5 by omega) with rfl | rfl | rfl | rfl | rfl | rfl <;> rfl))
                      have CS := hid (show w3.cell? ⟨M, 5, none⟩ = some (.bool rs) from G3.rr.cell (by omega))
                      have CXY := hid (CX.out w3 _ _ G3)
                      clear t3 kk3 G CV CXX
                      cases rs
                      · skip
                        go_wp2_with (first
                          | ((with_reducible show wpList _ _ _ (_ :: _) _ _); first
                            | (refine wpl_run rfl (.bool false) _ (run_cell1 (b := M) (j := 5) (x := .tmp 137) 4 rfl rfl undBq rfl CS.out) ?_; try simp only [pA])
                            | (refine wpl_want (by rfl) ?_; refine wpl_run rfl (.pointer (some ⟨g0, k, none⟩)) _ (run_iaL rfl rfl Hp.out rfl undTs szTs hkm.out _) ?_; try simp only [pA])
                            | (refine wpl_want (by rfl) ?_; refine wpl_run rfl (.string (tx x)) _ (run_cell1 (x := .tmp 142) 9 rfl rfl undTx rfl CXY.out) ?_; try simp only [pA])
                            | (refine wpl_want (by rfl) ?_; refine wpl_run rfl (.bool bs) _ (run_eqT (x := .tmp 143) rfl rfl rfl ES.out _) ?_; try simp only [pA])
                            | (refine wpl_set rfl 4 (.tmp 146) (.tmp 145) rfl M 5 rfl (.bool bs) rfl szBo1 rfl rfl 24 6 _ G3.rr (by omega) ?_; intro w4 t4 kk4; try simp only [pA])
                            | (refine wpl_run rfl (.int .i64 ((k + 1 : Nat) : Int)) _ (run_inc rfl rfl rfl rfl (by omega) _) ?_; try simp only [pA]))
                          | fail)
                        refine ⟨⟨k + 1, ⟨rc, rp, rm, rh, true, bs⟩, rfl, by omega, by omega, hid ?_, ?_⟩, ?_⟩
                        · have h := HR.out
                          rw [Rg.mk.injEq] at h
                          obtain ⟨h1, h2, h3, h4, h5, h6⟩ := h
                          rw [EV.out, ESS.out, ← h5, ← h6, ← h1, ← h2, ← h3, ← h4]
                          simp
                        · exact G3.touchR t4 (kk4.congr (fun j hj => by
                            rcases (show j = 0 ∨ j = 1 ∨ j = 2 ∨ j = 3 ∨ j = 4 ∨ j = 5 by omega) with rfl | rfl | rfl | rfl | rfl | rfl <;> rfl))
                        · simp [intOf]; omega
                      · skip
                        go_wp2_with (first
                          | ((with_reducible show wpList _ _ _ (_ :: _) _ _); first
                            | (refine wpl_run rfl (.bool true) _ (run_cell1 (b := M) (j := 5) (x := .tmp 137) 4 rfl rfl undBq rfl CS.out) ?_; try simp only [pA])
                            | go_guarded
                            | (refine wpl_set rfl 4 (.tmp 146) (.tmp 145) rfl M 5 rfl (.bool true) rfl szBo1 rfl rfl 24 6 _ G3.rr (by omega) ?_; intro w4 t4 kk4; try simp only [pA])
                            | (refine wpl_run rfl (.int .i64 ((k + 1 : Nat) : Int)) _ (run_inc rfl rfl rfl rfl (by omega) _) ?_; try simp only [pA]))
                          | fail)
                        refine ⟨⟨k + 1, ⟨rc, rp, rm, rh, true, true⟩, rfl, by omega, by omega, hid ?_, ?_⟩, ?_⟩
                        · have h := HR.out
                          rw [Rg.mk.injEq] at h
                          obtain ⟨h1, h2, h3, h4, h5, h6⟩ := h
                          rw [EV.out, ESS.out, ← h5, ← h6, ← h1, ← h2, ← h3, ← h4]
                          simp
                        · exact G3.touchR t4 (kk4.congr (fun j hj => by
                            rcases (show j = 0 ∨ j = 1 ∨ j = 2 ∨ j = 3 ∨ j = 4 ∨ j = 5 by omega) with rfl | rfl | rfl | rfl | rfl | rfl <;> rfl))
                        · simp [intOf]; omega
                  · have hkm : k = m := by omega
                    have E124 := hid (show decide ((k : Int) < (m : Int)) = false from decide_eq_false (by omega))
                    have hR : R = docR W := by rw [HR.out, EN.out, hkm, List.take_of_length_le (by rw [← Hm.out]; omega)]
                    obtain ⟨b, hb⟩ : ∃ b, (!((textOf R).toList == s.toList)) = b := ⟨_, rfl⟩
                    obtain ⟨T, eT⟩ : ∃ T, textOf R = T := ⟨_, rfl⟩
                    have HT := fun w N hN => RText_any R w N hN
                    rw [eT] at hb HT
                    have ET := hid eT
                    have HB := hid hb
                    have HRR := hid hR
                    obtain ⟨M3, hM3⟩ := sz_some wr
                    have lM : N < M3 := G.ps.res.ltN hM3
                    have lM2 : M < M3 := G.rr.ltN hM3
                    clear hkm hR hb eT
                    cases b
                    · skip
                      go_wp2_with (first
                        | (go_at_call 23; refine (HT _ M3 hM3).mono ?_; rintro e w5 ⟨rfl, b5⟩; have k5 := G.rr.below b5 (by omega); have j5 := G.ps.res.below b5 (by omega); have lo5 := G.ps.lo.trans (b5.mono (by omega)))
                        | ((with_reducible show wpList _ _ _ (_ :: _) _ _); first
                          | (refine wpl_run rfl (.int .i64 (m : Int)) _ (run_lenL rfl undTs rfl _) ?_; try simp only [pA])
                          | (refine wpl_run rfl (.bool false) _ (run_lssK (x := .tmp 121) rfl rfl rfl E124.out _) ?_; try simp only [pA])
                          | (refine wpl_load rfl 24 (.tmp 7) rfl M rfl 24 6 _ G.rr _ u1 u2 szRF ?_; try simp only [pA])
                          | (refine wpl_load rfl 24 (.tmp 7) rfl M rfl 24 6 _ k5 _ u1 u2 szRF ?_; try simp only [pA])
                          | (refine wpl_run rfl (.bool false) _ (run_neqT (x := .tmp 148) (y := .tmp 149) rfl rfl rfl HB.out _) ?_; try simp only [pA])
                          | (refine wpl_store rfl 24 (.tmp 2) (.tmp 152) rfl N 6 (rgC R) rfl rfl 24 _ j5 szRF (fun j _ => rgC_one _ j) ?_; intro w3 t3 k3; try simp only [pA]))
                        | fail)
                      exact post_cb rfl N rfl k3 undRF szRF rfl rfl ⟨R, true, rfl, fun _ => by
                        rw [ET.out]
                        have h := HB.out
                        rw [Bool.not_eq_false', ← beq_toListBytes] at h
                        exact byte_eq h, (fun h => by cases h), t3.below lo5 (Nat.le_refl N)⟩
                    · skip
                      go_wp2_with (first
                        | (go_at_call 23; refine (HT _ M3 hM3).mono ?_; rintro e w5 ⟨rfl, b5⟩; have k5 := G.rr.below b5 (by omega); have j5 := G.ps.res.below b5 (by omega); have lo5 := G.ps.lo.trans (b5.mono (by omega)))
                        | ((with_reducible show wpList _ _ _ (_ :: _) _ _); first
                          | (refine wpl_run rfl (.int .i64 (m : Int)) _ (run_lenL rfl undTs rfl _) ?_; try simp only [pA])
                          | (refine wpl_run rfl (.bool false) _ (run_lssK (x := .tmp 121) rfl rfl rfl E124.out _) ?_; try simp only [pA])
                          | (refine wpl_load rfl 24 (.tmp 7) rfl M rfl 24 6 _ G.rr _ u1 u2 szRF ?_; try simp only [pA])
                          | (refine wpl_load rfl 24 (.tmp 7) rfl M rfl 24 6 _ k5 _ u1 u2 szRF ?_; try simp only [pA])
                          | (refine wpl_run rfl (.bool true) _ (run_neqT (x := .tmp 148) (y := .tmp 149) rfl rfl rfl HB.out _) ?_; try simp only [pA])
                          | (refine wpl_build rfl 24 _ rfl (cellsOf (rgC rgNone) 6) (by kernel_rfl) ?_; try simp only [pA])
                          | (refine wpl_store rfl 24 (.tmp 2) (.tmp 151) rfl N 6 (rgC rgNone) rfl rfl 24 _ j5 szRF (fun j _ => rgC_one _ j) ?_; intro w3 t3 k3; try simp only [pA]))
                        | fail)
                      exact post_cb rfl N rfl k3 undRF szRF rfl rfl ⟨rgNone, false, rfl, (fun h => by cases h), fun _ => ⟨rfl, no_text (by rw [← eW.out, ← HRR.out, ET.out]; intro e; have h := HB.out; rw [e] at h; simp at h)⟩, t3.below lo5 (Nat.le_refl N)⟩
end Go.Proofs.YtilhkgbninbkkaaDoor
