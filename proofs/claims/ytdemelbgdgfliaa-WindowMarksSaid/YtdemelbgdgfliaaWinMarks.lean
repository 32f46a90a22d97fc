/- WindowMarks's walk: whatever indices come, which are fresh, the highest one, and how many are kept, are the document's. -/
import Derived.Test.YtdemelbgdgfliaaWinLaw
import Derived.Deep.DeepCutAuto
namespace Go.Proofs.Ytdemelbgdgfliaa
open Go.RowKit
set_option linter.unusedVariables false

/-- What is there all along: the window, in which M were there; the reference's, in which L were. -/
structure MEnv (w0 : World) (g : Nat) (L M : List Int) (k : Nat) (w : World) : Prop where
  hw : WinAt w g M
  hr : RW (g + 2) (g + 1) L w
  hp : ∀ y ∈ L, 0 ≤ y ∧ y ≤ 4611686018427387904
  hq : ∀ y ∈ M, 0 ≤ y ∧ y ≤ 4611686018427387904
  hl : L.length ≤ k
  hb : Below w0.heap.size w0 w
  hg : w0.heap.size ≤ g
  hs : g + 2 ≤ w.heap.size
section
variable {w0 : World} {g : Nat} {L M : List Int} {k : Nat} {w w' : World}
theorem MEnv.below (h : MEnv w0 g L M k w) (hb : Below w.heap.size w w') : MEnv w0 g L M k w' :=
  ⟨h.hw.below hb, h.hr.below hb, h.hp, h.hq, h.hl, h.hb.trans (hb.mono h.hb.size), h.hg, Nat.le_trans h.hs hb.size⟩
theorem MEnv.drewN (h : MEnv w0 g L M k w) (m : Nat) : MEnv w0 g L M k (w.drewN m) := h.below ⟨rfl, rfl, rfl, Nat.le_refl _, fun _ _ => rfl⟩
theorem MEnv.top (h : MEnv w0 g L M k w) : hiL L ≤ 4611686018427387904 := hiL_top h.hp (by omega)
theorem MEnv.topM (h : MEnv w0 g L M k w) : hiL M ≤ 4611686018427387904 := hiL_top h.hq (by omega)
theorem RW.only {base r : Nat} (h : RW base r L w) {p : Nat} (ho : Only p w w') (hp : p ≠ r) (hpb : p < base) : RW base r L w' := by
  obtain ⟨A, c, hB, hO⟩ := h
  refine ⟨A, c, hB.only ho (Ne.symm hp), hO.kept ho.grown ?_⟩
  rcases hv : (Value.slice A L.length c).ownBlock with _ | q
  · exact .inl rfl
  · refine .inr fun e => ?_
    have := (hO.lt q hv).1
    injection e with e
    omega
theorem env_fresh (h : MEnv w0 g L L k w) (z : Int) (b : Bool) (hb : frL L z = b) (hz : z ≤ 4611686018427387904) (m : Nat) :
    Calls Try.prog 8 #[.pointer (some ⟨g, 0, none⟩), .int .i64 z] (w.drewN m) fun e w' => e = .returned (.bool b) ∧ w.drewN m = w' := by
  subst hb
  exact fresh_any g L z _ (h.drewN m).hw (by omega) (by have := h.top; omega)
theorem env_rfresh (h : MEnv w0 g L L k w) (hk : k ≤ 1000) (z : Int) (b : Bool) (hb : frL L z = b) (hz : -9223372036854775808 ≤ z ∧ z ≤ 4611686018427387904) (m : Nat) :
    Calls Try.prog 9 #[.pointer (some ⟨g + 1, 0, none⟩), .int .i64 z] (w.drewN m) fun e w' => e = .returned (.bool b) ∧ w.drewN m = w' := by
  subst hb
  exact rfresh_any (g + 2) (g + 1) L z _ (h.drewN m).hr (by have := h.hl; omega) hz h.top
theorem env_mark (h : MEnv w0 g L L k w) (z : Int) (b : Bool) (e : Int) (hb : frL L z = b) (he : (if b = true then (0 : Int) else 5) = e) (hz : z ≤ 4611686018427387904) :
    Calls Try.prog 10 #[.pointer (some ⟨g, 0, none⟩), .int .i64 z] w fun x w' => x = .returned (.int .i64 e) ∧ MEnv w0 g L (mkL L z) k w' := by
  subst hb; subst he
  exact (mark_any g L z w h.hw (by omega) (by have := h.top; omega)).mono fun x w' ⟨hx, hw, ho⟩ =>
    ⟨hx, hw, h.hr.only ho (by omega) (by omega), h.hp, mk_top h.hp hz, h.hl, h.hb.trans (ho.below h.hg), h.hg, by rw [ho.size]; exact h.hs⟩
theorem env_rmark (z : Int) (h : MEnv w0 g L (mkL L z) k w) (hk : k ≤ 1000) (b : Bool) (hb : frL L z = b) (hz : -9223372036854775808 ≤ z ∧ z ≤ 4611686018427387904) :
    Calls Try.prog 11 #[.pointer (some ⟨g + 1, 0, none⟩), .int .i64 z] w fun x w' => x = .returned (.bool b) ∧ MEnv w0 g (mkL L z) (mkL L z) (k + 1) w' := by
  subst hb
  have hl := h.hl
  exact (rmark_any (g + 2) (g + 1) L z w h.hr (by omega) hz h.top (by omega) h.hs).mono fun x w' ⟨hx, hr, hb⟩ =>
    ⟨hx, ⟨by obtain ⟨x, p, hS, hB⟩ := h.hw; exact ⟨x, p, hS, hB.below hb (by omega)⟩, hr, mk_top h.hp hz.2, mk_top h.hp hz.2, by have := mk_len L z; omega, h.hb.trans (hb.mono (by have := h.hg; omega)), h.hg, Nat.le_trans h.hs hb.size⟩⟩
theorem env_high (h : MEnv w0 g L L k w) (H : Int) (hH : hiL L = H) : Calls Try.prog 12 #[.pointer (some ⟨g, 0, none⟩)] w fun e w' => e = .returned (.int .i64 H) ∧ w = w' := by
  subst hH
  exact high_any g L w h.hw
theorem env_rhigh (h : MEnv w0 g L L k w) (hk : k ≤ 1000) (H : Int) (hH : hiL L = H) : Calls Try.prog 13 #[.pointer (some ⟨g + 1, 0, none⟩)] w fun e w' => e = .returned (.int .i64 H) ∧ w = w' := by
  subst hH
  exact rhigh_any _ _ L w h.hr (by have := h.hl; omega)
theorem env_count (h : MEnv w0 g L L k w) (C : Nat) (hC : ctL L = C) : Calls Try.prog 14 #[.pointer (some ⟨g, 0, none⟩)] w fun e w' => e = .returned (.int .i64 (C : Int)) ∧ w = w' := by
  subst hC
  exact count_any g L w h.hw
theorem env_rcount (h : MEnv w0 g L L k w) (hk : k ≤ 1000) (C : Nat) (hC : ctL L = C) : Calls Try.prog 15 #[.pointer (some ⟨g + 1, 0, none⟩)] w fun e w' => e = .returned (.int .i64 (C : Int)) ∧ MEnv w0 g L L k w' := by
  subst hC
  exact (rcount_any _ _ L w h.hr (by have := h.hl; omega) h.hp).mono fun e w' ⟨he, hb⟩ => ⟨he, h.below hb⟩
end
theorem env_new (w0 w1 : World) (hb : Below w0.heap.size w0 w1) :
    MEnv w0 w1.heap.size [] [] 0 ((w1.alloc (.cells #[.int .i64 0, .int .u64 0] 27)).alloc (.cells #[.slice none 0 0] 30)) := by
  refine ⟨?_, ⟨none, 0, BlkV.new_at _ _ _ _ _ (by simp) rfl, World.ownsRow_nil _ _ _ _⟩, by simp, by simp, by simp, (hb.alloc hb.size _).alloc (by have := hb.size; simp; omega) _, hb.size, by simp⟩
  exact (win_new w1).below ((Below.refl _ _).alloc (Nat.le_refl _) _)

set_option maxRecDepth 100000 in
set_option maxHeartbeats 1000000 in
theorem windowMarks_walk (A : Option Addr) (n c : Nat) (zs : List Int) (x : Int) (w : World) (hr : RdI w A n zs) (hx : (Lit.int .i64 x).wf = true) :
    Calls Try.prog 3 #[.slice A n c, .int .i64 x] w fun e w' => e = .returned (.bool true) ∧ Below w.heap.size w w' := by
  have hz : ∀ w, (zeroValue 27).run Try.prog w = .ok (.agg #[.int .i64 0, .int .u64 0]) w := fun w => by kernel_rfl
  have HAL := Lib.hid (alive_any w)
  have hxb := bounds_i64 hx
  have hns := hr.small
  have HR := Lib.hid hr
  clear hr hx
  go_enter Try.func3, Try.ntmps3
  go_wp2_with (first
    | (go_at_call 6; ((with_reducible refine (Hid.out HAL).mono ?_); rintro e w1 ⟨rfl, hb1⟩)))
  have hE0 := env_new w w1 hb1
  clear HAL
  obtain ⟨g, hg⟩ : ∃ g, g = w1.heap.size := ⟨_, rfl⟩
  rw [← hg] at hE0 ⊢
  have HG := Lib.hid hg
  have HE0 := Lib.hid hE0
  clear hg hE0
  go_loopw [7, 8] (fun vi ve wr => ∃ (k : Nat) (L : List Int), k ≤ n ∧ vi = .int .i64 k ∧ Hid (MEnv w g L L k wr)) (fun i _ _ => n - (intOf i).toNat)
  case atStart => exact ⟨0, [], by omega, rfl, HE0⟩
  case round =>
    clear HE0 HG hb1
    obtain ⟨k, L, hk, rfl, HE⟩ := hrel
    by_cases hlt : k < n
    · by_cases h2 : k < 200
      · have hki : (k : Int) < (n : Int) := by omega
        have hk2 : (k : Int) < 200 := by omega
        have hrw := HR.out.below HE.out.hb (Nat.le_refl _)
        obtain ⟨ad, rfl, hcell⟩ := hrw.at_ hlt
        have hzb := hrw.bd hlt
        have hcl : ∀ wx, Below w.heap.size w wx → wx.cell? (ad.add k) = some (.int .i64 (zs.getD k 0)) := fun wx hb => by
          obtain ⟨ad2, h1, h2⟩ := (HR.out.below hb (Nat.le_refl _)).at_ hlt
          injection h1 with h1
          subst h1
          exact h2
        obtain ⟨z, hze⟩ : ∃ z, z = zs.getD k 0 := ⟨_, rfl⟩
        rw [← hze] at hcell hzb
        simp only [← hze] at hcl
        have HCL := Lib.hid hcl
        clear hze hrw hcl
        by_cases hgz : 4611686018427387904 < z
        · have HGZ := Lib.hid (fun wx => great_any z true wx (by simp; omega))
          clear hzb
          go_wp2_with (first
            | (go_at_call 7; ((with_reducible refine (Hid.out HGZ _).mono ?_); rintro e w2 ⟨rfl, rfl⟩)))
          go_ret
          exact ⟨rfl, HE.out.hb⟩
        have HGZ := Lib.hid (fun wx => great_any z false wx (by simp; omega))
        by_cases hgx : 4611686018427387904 < x
        · have HGX := Lib.hid (fun wx => great_any x true wx (by simp; omega))
          clear hzb hgz
          go_wp2_with (first
            | (go_at_call 7; ((with_reducible refine (Hid.out HGZ _).mono ?_); rintro e w2 ⟨rfl, rfl⟩))
            | (go_at_call 7; ((with_reducible refine (Hid.out HGX _).mono ?_); rintro e w2 ⟨rfl, rfl⟩)))
          go_ret
          exact ⟨rfl, HE.out.hb⟩
        have HGX := Lib.hid (fun wx => great_any x false wx (by simp; omega))
        have hzb' : -9223372036854775808 ≤ z ∧ z ≤ 4611686018427387904 := by omega
        have hxb' : -9223372036854775808 ≤ x ∧ x ≤ 4611686018427387904 := by omega
        obtain ⟨b, hb⟩ : ∃ b, frL L z = b := ⟨_, rfl⟩
        obtain ⟨b2, hb2⟩ : ∃ b, frL L x = b := ⟨_, rfl⟩
        obtain ⟨H, hH⟩ : ∃ H, hiL (mkL L z) = H := ⟨_, rfl⟩
        obtain ⟨C, hC⟩ : ∃ C, ctL (mkL L z) = C := ⟨_, rfl⟩
        have F1 := Lib.hid (env_fresh HE.out z b hb hzb'.2)
        have F2 := Lib.hid (env_rfresh HE.out (by omega) z b hb hzb')
        have F3 := Lib.hid (env_fresh HE.out x b2 hb2 hxb'.2)
        have F4 := Lib.hid (env_rfresh HE.out (by omega) x b2 hb2 hxb')
        have HB := Lib.hid hb
        have HH := Lib.hid hH
        have HC := Lib.hid hC
        have HZ := Lib.hid hzb'
        have HED := Lib.hid (fun m => HE.out.drewN m)
        clear hb hb2 hH hC hzb hzb' hxb hxb' hgz hgx
        have hbb : (b != b) = false := by simp
        have hbb2 : (b2 != b2) = false := by simp
        go_wp2_with (first
          | (go_at_call 7; ((with_reducible refine (Hid.out HGZ _).mono ?_); rintro e w2 ⟨rfl, rfl⟩))
          | (go_at_call 7; ((with_reducible refine (Hid.out HGX _).mono ?_); rintro e w2 ⟨rfl, rfl⟩)))
        go_quiet (first
          | (go_at_call 8; with_reducible exact Calls.quiet_of_same ((Hid.out F1 _).mono fun _ _ h => ⟨h.1, h.2.symm⟩))
          | (go_at_call 9; with_reducible exact Calls.quiet_of_same ((Hid.out F2 _).mono fun _ _ h => ⟨h.1, h.2.symm⟩))
          | (go_at_call 8; with_reducible exact Calls.quiet_of_same ((Hid.out F3 _).mono fun _ _ h => ⟨h.1, h.2.symm⟩))
          | (go_at_call 9; with_reducible exact Calls.quiet_of_same ((Hid.out F4 _).mono fun _ _ h => ⟨h.1, h.2.symm⟩)))
        have hc2 : (wr.drewN nq).cell? (ad.add k) = some (.int .i64 z) := hcell
        have HE2 := Lib.hid (HED.out nq)
        have hk1 : k ≤ 1000 := by omega
        have hk3 : k + 1 ≤ 1000 := by omega
        clear hcell F1 F2 F3 F4 HED HE HGZ HGX hbb2 HR
        generalize wr.drewN nq = w2 at *
        cases b
        · have HB2 := HB
          have M1 := Lib.hid (env_mark HE2.out z false 5 HB.out rfl HZ.out.2)
          clear hbb HB
          go_wp2_with (first
            | (go_at_call 10; ((with_reducible refine (Hid.out M1).mono ?_); rintro e w3 ⟨rfl, hE3⟩; have hc3 := HCL.out w3 hE3.hb))
            | (go_at_call 11; ((with_reducible refine (env_rmark z hE3 hk1 false HB2.out HZ.out).mono ?_); rintro e w4 ⟨rfl, hE4⟩))
            | (go_at_call 12; ((with_reducible refine (env_high hE4 H HH.out).mono ?_); rintro e w5 ⟨rfl, rfl⟩))
            | (go_at_call 13; ((with_reducible refine (env_rhigh hE4 hk3 H HH.out).mono ?_); rintro e w5 ⟨rfl, rfl⟩))
            | (go_at_call 14; ((with_reducible refine (env_count hE4 C HC.out).mono ?_); rintro e w5 ⟨rfl, rfl⟩))
            | (go_at_call 15; ((with_reducible refine (env_rcount hE4 hk3 C HC.out).mono ?_); rintro e w5 ⟨rfl, hE5⟩)))
          go_roundw
          case rel => exact ⟨k + 1, mkL L z, by omega, by go_num, Lib.hid hE5⟩
          case measure => simp [intOf]; omega
        · have HB2 := HB
          have M1 := Lib.hid (env_mark HE2.out z true 0 HB.out rfl HZ.out.2)
          clear hbb HB
          go_wp2_with (first
            | (go_at_call 10; ((with_reducible refine (Hid.out M1).mono ?_); rintro e w3 ⟨rfl, hE3⟩; have hc3 := HCL.out w3 hE3.hb))
            | (go_at_call 11; ((with_reducible refine (env_rmark z hE3 hk1 true HB2.out HZ.out).mono ?_); rintro e w4 ⟨rfl, hE4⟩))
            | (go_at_call 12; ((with_reducible refine (env_high hE4 H HH.out).mono ?_); rintro e w5 ⟨rfl, rfl⟩))
            | (go_at_call 13; ((with_reducible refine (env_rhigh hE4 hk3 H HH.out).mono ?_); rintro e w5 ⟨rfl, rfl⟩))
            | (go_at_call 14; ((with_reducible refine (env_count hE4 C HC.out).mono ?_); rintro e w5 ⟨rfl, rfl⟩))
            | (go_at_call 15; ((with_reducible refine (env_rcount hE4 hk3 C HC.out).mono ?_); rintro e w5 ⟨rfl, hE5⟩)))
          go_roundw
          case rel => exact ⟨k + 1, mkL L z, by omega, by go_num, Lib.hid hE5⟩
          case measure => simp [intOf]; omega
      · have hki : (k : Int) < (n : Int) := by omega
        have hk2 : (200 : Int) ≤ (k : Int) := by omega
        go_wp2
        go_ret
        exact ⟨rfl, HE.out.hb⟩
    · obtain rfl : k = n := by omega
      go_wp2
      go_ret
      exact ⟨rfl, HE.out.hb⟩
end Go.Proofs.Ytdemelbgdgfliaa
