/- WindowOnce's walk: no index is marked twice, and none that is far below the highest one. -/
import Derived.Test.YtdemelbgdgfliaaWinLaw
import Derived.Deep.DeepCutAuto
namespace Go.Proofs.Ytdemelbgdgfliaa
open Go.RowKit
set_option linter.unusedVariables false

/-- What is there all along: the window, in which L were; the first k of the indices aren't fresh. -/
structure OEnv (w0 : World) (g : Nat) (zs : List Int) (L : List Int) (k : Nat) (w : World) : Prop where
  hw : WinAt w g L
  hp : ∀ y ∈ L, 0 ≤ y ∧ y ≤ 9223372036854775807
  hf : ∀ j, j < k → frL L (zs.getD j 0) = false
  hb : Below w0.heap.size w0 w
  hg : w0.heap.size ≤ g
section
variable {w0 : World} {g : Nat} {zs L : List Int} {k : Nat} {w w' : World}
theorem OEnv.below (h : OEnv w0 g zs L k w) (hb : Below w.heap.size w w') : OEnv w0 g zs L k w' := ⟨h.hw.below hb, h.hp, h.hf, h.hb.trans (hb.mono h.hb.size), h.hg⟩
theorem OEnv.drewN (h : OEnv w0 g zs L k w) (m : Nat) : OEnv w0 g zs L k (w.drewN m) := h.below ⟨rfl, rfl, rfl, Nat.le_refl _, fun _ _ => rfl⟩
theorem OEnv.top (h : OEnv w0 g zs L k w) : hiL L ≤ 9223372036854775807 := hiL_top h.hp (by omega)
/-- The next index is marked. -/
theorem once_mark (h : OEnv w0 g zs L k w) (z : Int) (hz : z = zs.getD k 0) (hb : z ≤ 9223372036854775807) :
    Calls Try.prog 10 #[.pointer (some ⟨g, 0, none⟩), .int .i64 z] w fun x w' => ∃ e, x = .returned (.int .i64 e) ∧ OEnv w0 g zs (mkL L z) (k + 1) w' :=
  (mark_any g L z w h.hw hb h.top).mono fun x w' ⟨hx, hw, ho⟩ => ⟨_, hx, hw, mk_top h.hp hb, fun j hj => by
    rcases Nat.lt_or_ge j k with h1 | h1
    · exact fr_mk z (h.hf j h1)
    · obtain rfl : j = k := by omega
      rw [← hz]
      exact fr_self L z, h.hb.trans (ho.below h.hg), h.hg⟩
/-- One that was there isn't marked. -/
theorem once_again (h : OEnv w0 g zs L k w) (j : Nat) (hj : j < k) (z : Int) (hz : z = zs.getD j 0) (hb : z ≤ 9223372036854775807) :
    Calls Try.prog 10 #[.pointer (some ⟨g, 0, none⟩), .int .i64 z] w fun x w' => x = .returned (.int .i64 5) ∧ OEnv w0 g zs L k w' := by
  have hf := h.hf j hj
  rw [← hz] at hf
  refine (mark_any g L z w h.hw hb h.top).mono fun x w' ⟨hx, hw, ho⟩ => ?_
  rw [hf] at hx
  rw [mkL_not hf] at hw
  exact ⟨hx, hw, h.hp, h.hf, h.hb.trans (ho.below h.hg), h.hg⟩
theorem once_fresh (h : OEnv w0 g zs L k w) (j : Nat) (hj : j < k) (z : Int) (hz : z = zs.getD j 0) (hb : z ≤ 9223372036854775807) (m : Nat) :
    Calls Try.prog 8 #[.pointer (some ⟨g, 0, none⟩), .int .i64 z] (w.drewN m) fun e w' => e = .returned (.bool false) ∧ w.drewN m = w' := by
  have hf := h.hf j hj
  rw [← hz] at hf
  have := fresh_any g L z _ (h.drewN m).hw hb h.top
  rw [hf] at this
  exact this
end

set_option maxRecDepth 100000 in
set_option maxHeartbeats 1000000 in
theorem windowOnce_walk (A : Option Addr) (n c : Nat) (zs : List Int) (w : World) (hr : RdI w A n zs) :
    Calls Try.prog 4 #[.slice A n c] w fun e w' => e = .returned (.bool true) ∧ Below w.heap.size w w' := by
  have hz : ∀ w, (zeroValue 27).run Try.prog w = .ok (.agg #[.int .i64 0, .int .u64 0]) w := fun w => by kernel_rfl
  have HAL := Lib.hid (alive_any w)
  have hns := hr.small
  have HR := Lib.hid hr
  have hcl : ∀ wx, Below w.heap.size w wx → ∀ k, k < n → ∃ ad, A = some ad ∧ wx.cell? (ad.add k) = some (.int .i64 (zs.getD k 0)) := fun wx hb k hk => (hr.below hb (Nat.le_refl _)).at_ hk
  have HCL := Lib.hid hcl
  clear hr hcl
  go_enter Try.func4, Try.ntmps4
  go_wp2_with (first
    | (go_at_call 6; ((with_reducible refine (Hid.out HAL).mono ?_); rintro e w1 ⟨rfl, hb1⟩)))
  have hE0 : OEnv w w1.heap.size zs [] 0 (w1.alloc (.cells #[.int .i64 0, .int .u64 0] 27)) := ⟨win_new w1, by simp, fun j hj => absurd hj (by omega), hb1.alloc hb1.size _, hb1.size⟩
  clear HAL
  obtain ⟨g, hg⟩ : ∃ g, g = w1.heap.size := ⟨_, rfl⟩
  rw [← hg] at hE0 ⊢
  have HG := Lib.hid hg
  have HE0 := Lib.hid hE0
  clear hg hE0
  go_loopw [4, 5] (fun vi ve wr => ∃ (k : Nat) (L : List Int), k ≤ n ∧ vi = .int .i64 k ∧ Hid (OEnv w g zs L k wr)) (fun i _ _ => n - (intOf i).toNat)
  case atStart => exact ⟨0, [], by omega, rfl, HE0⟩
  case round =>
    clear HE0 HG hb1
    obtain ⟨k, L, hk, rfl, HE⟩ := hrel
    by_cases hlt : k < n
    · by_cases h2 : k < 100
      · have hki : (k : Int) < (n : Int) := by omega
        have hk2 : (k : Int) < 100 := by omega
        obtain ⟨ad, rfl, hcell⟩ := HCL.out wr HE.out.hb k hlt
        have hzb := HR.out.bd hlt
        obtain ⟨z, hze⟩ : ∃ z, z = zs.getD k 0 := ⟨_, rfl⟩
        rw [← hze] at hcell hzb
        have HZ := Lib.hid hze
        clear hze
        by_cases hgz : 4611686018427387904 < z
        · have HGZ := Lib.hid (fun wx => great_any z true wx (by simp; omega))
          clear hzb
          go_wp2_with (first
            | (go_at_call 7; ((with_reducible refine (Hid.out HGZ _).mono ?_); rintro e w2 ⟨rfl, rfl⟩)))
          go_ret
          exact ⟨rfl, HE.out.hb⟩
        have HGZ := Lib.hid (fun wx => great_any z false wx (by simp; omega))
        have HM := Lib.hid (once_mark HE.out z HZ.out hzb.2)
        clear hzb hgz
        go_wp2_with (first
          | (go_at_call 7; ((with_reducible refine (Hid.out HGZ _).mono ?_); rintro e w2 ⟨rfl, rfl⟩))
          | (go_at_call 10; ((with_reducible refine (Hid.out HM).mono ?_); rintro e w2 ⟨ev, rfl, hE2⟩)))
        have HE2 := Lib.hid hE2
        clear hE2 HM HGZ hcell HZ HE
        obtain ⟨M, hM⟩ : ∃ M, M = mkL L z := ⟨_, rfl⟩
        rw [← hM] at HE2
        clear hM
        go_loopw [5] (fun vk wr => ∃ (j : Nat), j ≤ k + 1 ∧ vk = .int .i64 j ∧ Hid (OEnv w g zs M (k + 1) wr)) (fun i _ => k + 1 - (intOf i).toNat)
        case atStart => exact ⟨0, by omega, rfl, HE2⟩
        case round =>
          clear HE2
          obtain ⟨j, hj, rfl, HE⟩ := hrel
          by_cases hjl : j < k + 1
          · have hji : (j : Int) ≤ (k : Int) := by omega
            have hjn : (j : Int) < (n : Int) := by omega
            have hjn2 : j < n := by omega
            obtain ⟨ad2, had, hcell⟩ := HCL.out wr HE.out.hb j (by omega)
            injection had with had
            subst had
            have hzb := HR.out.bd hjn2
            obtain ⟨y, hye⟩ : ∃ y, y = zs.getD j 0 := ⟨_, rfl⟩
            rw [← hye] at hcell hzb
            have F := Lib.hid (once_fresh HE.out j hjl y hye hzb.2)
            have HED := Lib.hid (fun m => HE.out.drewN m)
            have HY := Lib.hid (And.intro hye hzb.2)
            clear hye
            go_wp2
            go_quiet (first
              | (go_at_call 8; with_reducible exact Calls.quiet_of_same ((Hid.out F _).mono fun _ _ h => ⟨h.1, h.2.symm⟩)))
            have hc2 : (wr.drewN nq).cell? (ad.add j) = some (.int .i64 y) := hcell
            have HE2 := Lib.hid (HED.out nq)
            clear hcell F HED HE
            generalize wr.drewN nq = w3 at *
            have HA := Lib.hid (once_again HE2.out j hjl y HY.out.1 HY.out.2)
            go_wp2_with (first
              | (go_at_call 10; ((with_reducible refine (Hid.out HA).mono ?_); rintro e w4 ⟨rfl, hE4⟩)))
            go_roundw
            case rel => exact ⟨j + 1, by omega, by go_num, Lib.hid hE4⟩
            case measure => simp [intOf]; omega
          · obtain rfl : j = k + 1 := by omega
            have hji : (k : Int) < ((k + 1 : Nat) : Int) := by omega
            go_wp2
            go_roundw
            case rel => exact ⟨k + 1, M, by omega, by go_num, HE⟩
            case measure => simp [intOf]; omega
      · have hki : (k : Int) < (n : Int) := by omega
        have hk2 : (100 : Int) ≤ (k : Int) := by omega
        go_wp2
        go_ret
        exact ⟨rfl, HE.out.hb⟩
    · obtain rfl : k = n := by omega
      go_wp2
      go_ret
      exact ⟨rfl, HE.out.hb⟩
end Go.Proofs.Ytdemelbgdgfliaa
