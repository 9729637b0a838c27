/- Laws of space: build: a tree, and the document's own, of rows of ups. -/
import Derived.Test.YtcbcnhkalchpbaaSp6
namespace Go.Proofs.Ytcbcnhkalchpbaa
open Go Go.RowKit
/-- A tree and the document's own one, of the same namespaces. -/
structure Both (w0 w : World) (N b c : Nat) (f : Nat → Nat) (rb : Nat) (p : Option Addr) (cp : Nat) : Prop where
  t : Tr w b c f
  r : RTr w rb c p cp f
  ne : b ≠ rb
  np : blk p ≠ some b
  lb : N ≤ b
  lr : N ≤ rb
  lp : ∀ k, blk p = some k → N ≤ k
  bel : Below N w0 w
section
variable {w0 w w' : World} {N b c rb cp : Nat} {p : Option Addr} {f : Nat → Nat}
theorem Both.below {M : Nat} (h : Both w0 w N b c f rb p cp) (hM : Sz w M) (hNM : N ≤ M) (hb : Below M w w') : Both w0 w' N b c f rb p cp :=
  ⟨h.t.below hM hb, h.r.below hM hb, h.ne, h.np, h.lb, h.lr, h.lp, h.bel.trans (hb.mono hNM)⟩
theorem Both.drewN (h : Both w0 w N b c f rb p cp) (n : Nat) : Both w0 (w.drewN n) N b c f rb p cp :=
  ⟨⟨h.t.h, h.t.c1, h.t.c8, h.t.z, h.t.dec⟩, ⟨h.r.h, h.r.r, h.r.ne, h.r.c1, h.r.c8, h.r.dec⟩, h.ne, h.np, h.lb, h.lr, h.lp, below_drewN h.bel n⟩
theorem Both.drew (h : Both w0 w N b c f rb p cp) : Both w0 w.drew N b c f rb p cp := ⟨h.t.drew, h.r.drew, h.ne, h.np, h.lb, h.lr, h.lp, h.bel.drew⟩
end
theorem makeErr_zero {f : Nat → Nat} {c : Nat} {up : Int} (h : makeErr f c up = 0) : ∃ k : Nat, up = (k : Int) ∧ k < c ∧ (ups f k).length ≤ 4 ∧ c < 8 := by
  unfold makeErr at h
  split at h
  · rename_i hi
    obtain ⟨k, rfl, hk⟩ := isIn_get hi
    rw [depth_nat hk] at h
    split at h
    · cases h
    · split at h
      · cases h
      · exact ⟨k, rfl, hk, by omega, by omega⟩
  · cases h
set_option maxRecDepth 100000 in
theorem build_any (q : Option Addr) (n cap : Nat) (Z : Nat → Int) (w : World) (N : Nat) (hN : Sz w N) (hn : n ≤ 9223372036854775807) (hZ : Ats w q n (fun j => .int .i64 (Z j))) :
    Calls Try.prog 15 #[.slice q n cap] w fun e w' => ∃ b c f rb p cp, e = .returned (.tuple #[.pointer (some ⟨b, 0, none⟩), .pointer (some ⟨rb, 0, none⟩), .bool true]) ∧ Both w w' N b c f rb p cp := by
  obtain ⟨n1, hn1⟩ : ∃ n1, n1 = min n 20 := ⟨_, rfl⟩
  have Hn1 := hid hn1
  have b1 : n1 ≤ 20 := by omega
  have b2 : n1 ≤ n := by omega
  clear hn1
  go_enter Try.func15, Try.ntmps15
  go_wp2_with (first
    | (go_at_call 19; refine (New_any _ N hN).mono ?_; rintro e w1 ⟨rfl, hb1, T1, hN1⟩)
    | (go_at_call 23; refine (RNew_any _ (N + 1) hN1).mono ?_; rintro e w2 ⟨p, cp, rfl, hb2, R2, hp, hN2⟩)
    | fail)
  have S0 : Both w w2 N N 1 (fun _ => 0) (N + 1 + 1) p cp := ⟨T1.below hN1 hb2, R2, by omega, fun e => by have := hp N e; omega, by omega, by omega, fun k hk => by have := hp k hk; omega, hb1.trans (hb2.mono (by omega))⟩
  have H0 := hid S0
  clear S0 T1 R2 hb1 hb2 hp hN1 hN2
  go_loopg [7] n1 (fun g i wr => ∃ (k c : Nat) (f : Nat → Nat) (p : Option Addr) (cp : Nat), k ≤ n1 ∧ g = n1 - k ∧ i = .int .i64 k ∧ Both w wr N N c f (N + 1 + 1) p cp)
  case atStart => exact ⟨0, 1, _, p, cp, by omega, rfl, rfl, H0.out⟩
  case round =>
    clear H0
    obtain ⟨k, c, f, p, cp, hk, rfl, rfl, B⟩ := hrel
    obtain ⟨M, hM⟩ := sz_some wr
    have hNM := below_sz B.bel hN hM
    have k0 : (0 : Int) ≤ (k : Int) := by omega
    have k20 : (k : Int) ≤ 20 := by omega
    by_cases hlt : k < n1
    · have i1 : (k : Int) < (n : Int) := by omega
      have i2 : (k : Int) < 20 := by omega
      obtain ⟨rb, ro, rfl, hrc⟩ := hZ (by omega)
      have hrb : rb < N := by have := World.block_lt_of_cell? w _ (hrc k (by omega)); have e : w.heap.size = N := hN; simp only at this ⊢; omega
      have d1 : wr.cell? ⟨rb, ro + k, none⟩ = some (.int .i64 (Z k)) := (B.bel.cell (p := ⟨rb, ro + k, none⟩) hrb).trans (hrc k (by omega))
      have D1 : Hid (w.cell? ⟨rb, ro + k, none⟩ = some (.int .i64 (Z k))) := hid (hrc k (by omega))
      clear hrc
      obtain ⟨z, hz⟩ : ∃ z, z = Z k := ⟨_, rfl⟩
      rw [← hz] at d1 D1
      clear hz
      by_cases he : makeErr f c z = 0
      · obtain ⟨u, rfl, hu, h4, h8⟩ := makeErr_zero he
        have hu0 : (0 : Int) ≤ (u : Int) := by omega
        clear he
        go_wp2_with (first
          | (go_at_call 8; refine (Make_ok N c f u hu h4 h8 _ M hM B.t).mono ?_; rintro e w3 ⟨rfl, t3, T3⟩; obtain ⟨M3, hM3⟩ := sz_some w3; have l3 := sz_turn t3 hM hM3; have R3 := B.r.turn t3 (fun e => B.ne e.symm) (fun k hk e => B.np (by rw [hk, e])); have b3 : Below N w w3 := t3.below B.bel (fun j h => by omega) (by rw [show wr.heap.size = M from hM]; omega); have d3 : w3.cell? ⟨rb, ro + k, none⟩ = some (.int .i64 (u : Int)) := (b3.cell (p := ⟨rb, ro + k, none⟩) hrb).trans D1.out)
          | (go_at_call 24; refine (DocMake_ok (N + 1 + 1) c cp p f u hu h4 h8 _ M3 hM3 R3).mono ?_; rintro e w4 ⟨rfl, t4, p4, cp4, R4, hp4⟩)
          | fail)
        have T4 := T3.turn t4 (fun h => by
          rcases h with h | h
          · omega
          · exact B.np h)
        have b4 : Below N w w4 := t4.below b3 (fun j h => by
          rcases h with h | h
          · omega
          · exact B.lp j h) (by rw [show w3.heap.size = M3 from hM3]; omega)
        go_roundg (n1 - (k + 1))
        case measure => omega
        case rel => exact ⟨k + 1, c + 1, addU f c u, p4, cp4, by omega, rfl, by go_num, T4, R4, by omega, fun e => by
            rcases hp4 with hp4 | hp4
            · rw [hp4] at e; exact B.np e
            · have := hp4 N e
              have := B.t.h.ltN hM
              omega, by omega, by omega, fun j hj => by
            rcases hp4 with hp4 | hp4
            · rw [hp4] at hj; exact B.lp j hj
            · have := hp4 j hj; omega, b4⟩
      · have hu0 := hid he
        have hq1 : (makeErr f c z == makeErr f c z) = true := by simp
        clear he
        obtain ⟨er, her⟩ : ∃ er, er = makeErr f c z := ⟨_, rfl⟩
        have C1 := fun w hM hT => Make_no N c f z hu0.out w M hM hT
        have C2 := fun w M hM hT => DocMake_no (N + 1 + 1) c cp p f z hu0.out w M hM hT
        rw [← her] at C1 C2 hq1
        clear her hu0
        go_wp2_with (first
          | (go_at_call 8; refine (C1 _ hM B.t).mono ?_; rintro e w3 ⟨rfl, b3⟩; have B3 := B.below hM hNM b3; obtain ⟨M3, hM3⟩ := sz_some w3; have l3 := below_sz b3 hM hM3; have d3 : w3.cell? ⟨rb, ro + k, none⟩ = some (.int .i64 z) := (B3.bel.cell (p := ⟨rb, ro + k, none⟩) hrb).trans D1.out)
          | (go_at_call 24; refine (C2 _ M3 hM3 B3.r).mono ?_; rintro e w4 ⟨rfl, b4⟩; have B4 := B3.below hM3 (by omega) b4)
          | fail)
        go_roundg (n1 - (k + 1))
        case measure => omega
        case rel => exact ⟨k + 1, c, f, p, cp, by omega, rfl, by go_num, B4⟩
    · have hx := Hn1.out
      have i1 : ¬ ((k : Int) < (n : Int)) ∨ ((k : Int) < (n : Int) ∧ ¬ ((k : Int) < 20)) := by omega
      clear hx
      rcases i1 with i1 | ⟨i1, i2⟩
      · go_wp2_with fail
        go_ret3
        exact ⟨N, c, f, N + 1 + 1, rfl, p, cp, B⟩
      · go_wp2_with fail
        go_ret3
        exact ⟨N, c, f, N + 1 + 1, rfl, p, cp, B⟩
end Go.Proofs.Ytcbcnhkalchpbaa
