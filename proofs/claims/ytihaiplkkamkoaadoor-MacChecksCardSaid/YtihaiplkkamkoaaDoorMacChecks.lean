/- MacChecks's walk: a tag is checked just if it is the first bytes of the document's. -/
import Derived.Test.YtihaiplkkamkoaaDoorMacTags
import Derived.BigQuiet
import Derived.Deep.DeepBigQuietO
namespace Go.Proofs.YtihaiplkkamkoaaDoor
open Go.RowKit
set_option linter.unusedVariables false

theorem xor_one_ne (b : UInt8) : b ^^^ 1 ≠ b := by
  intro h
  have h2 := congrArg (fun x => b ^^^ x) h
  simp only [← UInt8.xor_assoc, UInt8.xor_self, UInt8.zero_xor] at h2
  exact absurd h2 (by decide)
theorem set_ne (bs : List UInt8) (q : Nat) (h : q < bs.length) : bs.set q (bs.getD q 0 ^^^ 1) ≠ bs := by
  intro e
  have := congrArg (fun l => l.getD q 0) e
  simp only [List.getD, List.getElem?_set_self h, Option.getD_some, List.getElem?_eq_getElem h] at this
  exact xor_one_ne _ this

set_option maxRecDepth 100000 in
set_option maxHeartbeats 1000000 in
theorem macChecks_walk (A : Option Addr) (nb c : Nat) (key : List UInt8) (B : Option Addr) (nm cm : Nat) (m : List UInt8) (D : Option Addr) (nt ct : Nat) (tag : List UInt8) (at_ cc : Int) (w : World) (ht : Tab w) (hw : 0 < w.heap.size)
    (hr : RdS w A nb c key) (hrm : RdS w B nm cm m) (hrt : RdS w D nt ct tag) (ha : (Lit.int .u8 at_).wf = true) (hc : (Lit.int .u8 cc).wf = true) :
    Calls Tryd.prog 4 #[.slice A nb c, .slice B nm cm, .slice D nt ct, .int .u8 at_, .int .u8 cc] w fun e w' => e = .returned (.bool true) ∧ Below w.heap.size w w' := by
  have HAL := Lib.hid (alive_any w ht hw)
  have hab := bounds_u8 ha
  have hcb := bounds_u8 hc
  have hs := hr.small
  have hsm := hrm.small
  have hst := hrt.small
  obtain ⟨u, rfl⟩ := Int.eq_ofNat_of_zero_le hab.1
  obtain ⟨v, rfl⟩ := Int.eq_ofNat_of_zero_le hcb.1
  clear ha hc
  by_cases h1 : 300 < nb
  · have hd : decide ((300 : Int) < (nb : Int)) = true := by simp; omega
    go_enter Tryd.func4, Tryd.ntmps4
    go_wp2_with (go_at_call 5; ((with_reducible refine (Hid.out HAL).mono ?_); rintro e w1 ⟨rfl, hb1⟩))
    go_ret
    exact ⟨rfl, hb1⟩
  have hd : decide ((300 : Int) < (nb : Int)) = false := by simp; omega
  by_cases h2 : 600 < nm
  · have hd2 : decide ((600 : Int) < (nm : Int)) = true := by simp; omega
    go_enter Tryd.func4, Tryd.ntmps4
    go_wp2_with (go_at_call 5; ((with_reducible refine (Hid.out HAL).mono ?_); rintro e w1 ⟨rfl, hb1⟩))
    go_ret
    exact ⟨rfl, hb1⟩
  have hd2 : decide ((600 : Int) < (nm : Int)) = false := by simp; omega
  by_cases h3 : 60 < nt
  · have hd3 : decide ((60 : Int) < (nt : Int)) = true := by simp; omega
    go_enter Tryd.func4, Tryd.ntmps4
    go_wp2_with (go_at_call 5; ((with_reducible refine (Hid.out HAL).mono ?_); rintro e w1 ⟨rfl, hb1⟩))
    go_ret
    exact ⟨rfl, hb1⟩
  have hd3 : decide ((60 : Int) < (nt : Int)) = false := by simp; omega
  have hnb3 : nb ≤ 300 := by omega
  have hml := hrm.len
  obtain ⟨F, hF⟩ : ∃ F, F = macFull key m := ⟨_, rfl⟩
  have hFl : F.length = 20 := by rw [hF]; exact macFull_len _ _
  have hck : ∀ wx (g : Nat) (E : Option Addr) (ne ce : Nat) (tg : List UInt8) (t : Bool), PartsRd wx (some ⟨g, 0, none⟩) 1 [m] → TagEnv w A nb c key B nm cm m wx → RdS wx E ne ce tg → t = decide (1 ≤ ne ∧ ne ≤ 20 ∧ tg = F.take ne) →
      Calls Tryd.prog 9 #[.slice A nb c, .slice E ne ce, .slice (some ⟨g, 0, none⟩) 1 1] wx fun e w' => e = .returned (.bool t) ∧ Below wx.heap.size wx w' := by
    intro wx g E ne ce tg t hp h hre htt
    have hf : [m].flatten = m := by simp
    exact check_any A nb c key E ne ce tg _ 1 1 [m] wx h.t h.z h.k (by omega) hre hp (by omega) (by rw [hf]; omega) t (by rw [hf, ← hF]; exact htt)
  have hfu : ∀ w1, Below w.heap.size w w1 → Calls Tryd.prog 8 #[.slice A nb c, .slice B nm cm] w1 fun e w' => ∃ A' c', e = .returned (.slice A' 20 c') ∧ RdS w' A' 20 c' F ∧ Below w1.heap.size w1 w' := by
    intro w1 hb
    rw [hF]
    exact rfull_any A nb c key B nm cm m w1 (hr.below hb) (hrm.below hb) (by omega) (by omega)
  have hE0 : ∀ w1, Below w.heap.size w w1 → TagEnv w A nb c key B nm cm m w1 := fun w1 hb => ⟨hr.below hb, hrm.below hb, tab_below ht hb, Nat.lt_of_lt_of_le hw hb.size, hb⟩
  have hE : TagEnv w A nb c key B nm cm m w := hE0 w (Below.refl _ _)
  have HCK := Lib.hid hck
  have HFU := Lib.hid hfu
  have HFL := Lib.hid hFl
  have htl := hrt.len
  have HTL := Lib.hid htl
  clear hck hfu hE0 hr hrm ht hF hFl hml h1 h2 htl
  go_enter Tryd.func4, Tryd.ntmps4
  go_upto_region 6 with (first
    | (go_at_call 5; ((with_reducible refine (Hid.out HAL).mono ?_); rintro e w1 ⟨rfl, hb1⟩))
    | (go_at_call 8; ((with_reducible refine (Hid.out HFU _ hb1).mono ?_); rintro e w2 ⟨A2, c2, rfl, hrf2, hb2⟩; have hb2w := hb1.trans (hb2.mono hb1.size); have hE2 := (hE.below hb1).below hb2; have hrt2 := (hrt.below hb1).below hb2)))
  have hcl := hrf2.le
  have hcs := hrf2.small
  obtain ⟨t, htt⟩ : ∃ t : Bool, t = decide (1 ≤ nt ∧ nt ≤ 20 ∧ tag = F.take nt) := ⟨_, rfl⟩
  have HTT := Lib.hid htt
  clear htt
  go_cut [12] (fun g wx => g = .bool t ∧ ∃ nq, wx = w2.drewN nq)
  case first =>
    by_cases h0 : nt < 1
    · have e0 : t = false := by rw [HTT.out]; simp; omega
      subst e0
      have hd0 : decide ((1 : Int) ≤ (nt : Int)) = false := by simp; omega
      go_quiet (fail)
      go_wp2_with fail
      go_meet
      exact ⟨rfl, _, rfl⟩
    · have hd0 : decide ((1 : Int) ≤ (nt : Int)) = true := by simp; omega
      by_cases h20 : 20 < nt
      · have e0 : t = false := by rw [HTT.out]; simp; omega
        subst e0
        have hd20 : decide ((nt : Int) ≤ 20) = false := by simp; omega
        go_quiet (fail)
        go_wp2_with fail
        go_meet
        exact ⟨rfl, _, rfl⟩
      · have hd20 : decide ((nt : Int) ≤ 20) = true := by simp; omega
        have hn20 : nt ≤ 20 := by omega
        have hmod : (nt : Int) % 21 = (nt : Int) := by omega
        have hnc : nt ≤ c2 := by omega
        have hcv1 := fun k => conv_rd (w := w2.drewN k) (hrf2.head nt c2 hn20 hnc (Nat.le_refl _))
        have hcv2 := fun k => conv_rd (w := w2.drewN k) hrt2
        have hq : t = ((txt (F.take nt)).toList == (txt tag).toList) := by
          rw [HTT.out, txt_toList, txt_toList]
          by_cases e : tag = F.take nt
          · rw [e]; simp; omega
          · have e' : F.take nt ≠ tag := fun h => e h.symm
            simp [e, e']
        go_quiet (fail)
        go_wp2_with fail
        go_meet
        exact ⟨by rw [hq], _, rfl⟩
  case rest =>
    obtain ⟨rfl, nq, hwc⟩ := hcut
    have hE3 : TagEnv w A nb c key B nm cm m wc := by
      subst hwc
      exact ⟨hE2.k, hE2.m, hE2.t, hE2.z, ⟨hE2.b.os, hE2.b.tape, hE2.b.output, hE2.b.size, hE2.b.block⟩⟩
    have hrf3 : RdS wc A2 20 c2 F := by subst hwc; exact hrf2
    have hrt3 : RdS wc D nt ct tag := by subst hwc; exact hrt2
    clear hwc hE2 hrf2 hrt2 hE hrt hb1 hb2 hb2w HAL HFU hd hd2 hd3 hw
    obtain ⟨N, hN⟩ : ∃ N, N = u % 20 + 1 := ⟨_, rfl⟩
    have hNu : (u : Int) % 20 + 1 = (N : Int) := by omega
    have hN1 : 1 ≤ N := by omega
    have hN20 : N ≤ 20 := by omega
    have hum : 0 ≤ (u : Int) % 20 ∧ (u : Int) % 20 < 20 := by omega
    have HNN := Lib.hid hN
    clear hN
    have hnc2 : N ≤ c2 := by omega
    go_upto_region 11 with (first
      | (go_at_call 9; (with_reducible refine (Hid.out HCK _ wc.heap.size D nt ct tag t ?_ (TagEnv.alloc hE3 _) ?_ HTT.out).mono ?_); (case refine_1 => exact parts_lit1 hE3.m _); (case refine_2 => exact hrt3.below ((Below.refl _ _).alloc (Nat.le_refl _) _)); rintro e w4 ⟨rfl, hb4⟩; have hE4 := (hE3.alloc _).below hb4; have hrf4 := (hrf3.below ((Below.refl _ _).alloc (Nat.le_refl _) _)).below hb4)
      | (at_builtin; refine wpList_append_rd _ rfl (.tmp 63) (.tmp 66) rfl Tryd.underlying22 u8_infoR w4.heap.size (.slice (some ⟨w4.heap.size, 0, none⟩) 0 0) 0 [] rfl (own_empty w4) A2 N c2 (F.take N) rfl ((hrf4.head N c2 hN20 hnc2 (Nat.le_refl _)).below ((Below.refl _ _).alloc (Nat.le_refl _) _)) (by omega) (by simp) ?_; intro v5 w5 hown5 hg5 hat5; obtain ⟨ho5, hb5⟩ := own_first (by rw [List.length_take, HFL.out]; omega) hown5 hg5; have hE5 := hE4.below hb5; have hrf5 := hrf4.below hb5; clear hown5 hat5 hg5))
    obtain ⟨gb, cb, hv5, hgb, hgb5⟩ := ho5.form (by omega)
    subst hv5
    obtain ⟨q, hq⟩ : ∃ q, q = v % N := ⟨_, rfl⟩
    have hqN : q < N := by rw [hq]; exact Nat.mod_lt _ (by omega)
    have hvq : (v : Int) % (N : Int) = (q : Int) := by rw [hq]; simp
    have hN0 : (N : Int) ≠ 0 := by omega
    have hqi : (q : Int) < (N : Int) := by omega
    have hlN : (F.take N).length = N := by rw [List.length_take, HFL.out]; omega
    obtain ⟨y, hy⟩ : ∃ y : UInt8, y = (F.take N).getD q 0 := ⟨_, rfl⟩
    have hcell : w5.drew.cell? ⟨gb, q, none⟩ = some (.int .u8 (y.toNat : Int)) := by
      have h := ho5.cellAt q (by omega)
      rw [cells_at (by omega), ← hy] at h
      exact h
    have hfr : w5.drew.frozen? ⟨gb, q, none⟩ = false := ho5.frozenAt q
    have hx := xr_byte y 1
    have hst := ho5.stored q (.int .u8 ((y ^^^ 1).toNat : Int))
    rw [cells_set, hy] at hst
    have hne := set_ne (F.take N) q (by omega)
    obtain ⟨bad, hbad⟩ : ∃ bad, bad = (F.take N).set q ((F.take N).getD q 0 ^^^ 1) := ⟨_, rfl⟩
    rw [← hbad] at hst hne
    rw [← hy] at hst
    have HX : Hid (bits BinOp.xor IntKind.u8 (y.toNat : Int) 1 = ((y ^^^ 1).toNat : Int)) := Lib.hid hx
    clear hx hbad hq
    obtain ⟨z, hz⟩ : ∃ z : Int, z = (y.toNat : Int) := ⟨_, rfl⟩
    rw [← hz] at hcell
    have HZ := Lib.hid hz
    have HY := Lib.hid hy
    clear hz hy
    have hwv : IntKind.i64.wrap (v : Int) = (v : Int) := IntWalk.i64_in _ (by omega)
    have htm : Int.tmod (v : Int) (N : Int) = (q : Int) := by rw [Int.tmod_eq_emod_of_nonneg (by omega)]; exact hvq
    have hNb : ((N : Int) == 0) = false := by simp; omega
    have hNf : ((N : Int) = 0) = False := by simp; omega
    have hNz : (N = 0) = False := by simp; omega
    have hwq : IntKind.i64.wrap (q : Int) = (q : Int) := IntWalk.i64_in _ (by omega)
    have hqp : 0 ≤ (q : Int) := by omega
    go_still_tail 14, (by kernel_rfl)
    change wpList _ _ _ _ _ w5.drew
    have hst1 : (w5.drew.setCell ⟨gb, q, none⟩ (.int .u8 (bits BinOp.xor IntKind.u8 z 1))).ownsRow w4.heap.size 5 1 (.slice (some ⟨gb, 0, none⟩) N cb) N (cells bad) := by
      rw [HZ.out, HX.out]; exact hst.1
    have hb6 : Below w4.heap.size w5.drew (w5.drew.setCell ⟨gb, q, none⟩ (.int .u8 (bits BinOp.xor IntKind.u8 z 1))) := (Below.refl _ _).setCell hgb _
    have hE6 : TagEnv w A nb c key B nm cm m (w5.drew.setCell ⟨gb, q, none⟩ (.int .u8 (bits BinOp.xor IntKind.u8 z 1))) := hE4.below ((hb5.drew).trans hb6)
    have hrf6 : RdS (w5.drew.setCell ⟨gb, q, none⟩ (.int .u8 (bits BinOp.xor IntKind.u8 z 1))) A2 20 c2 F := hrf4.below ((hb5.drew).trans hb6)
    generalize w5.drew = wd at hst1 hb6 hE6 hrf6 hcell hfr ⊢
    obtain ⟨w6, hw6⟩ : ∃ w6, w6 = wd.setCell ⟨gb, q, none⟩ (.int .u8 (bits BinOp.xor IntKind.u8 z 1)) := ⟨_, rfl⟩
    rw [← hw6] at hst1 hb6 hE6 hrf6
    have htN : true = decide (1 ≤ N ∧ N ≤ 20 ∧ F.take N = F.take N) := by simp; omega
    have htB : false = decide (1 ≤ N ∧ N ≤ 20 ∧ bad = F.take N) := by simp [hne]
    have hck1 : ∀ wx (g : Nat), wx.heap.size = g → TagEnv w A nb c key B nm cm m wx → RdS wx A2 N c2 (F.take N) → Calls Tryd.prog 9 #[.slice A nb c, .slice A2 N c2, .slice (some ⟨g, 0, none⟩) 1 1] (wx.alloc (.cells #[.slice B nm cm] 22)) fun e w' => e = .returned (.bool true) ∧ Below (wx.alloc (.cells #[.slice B nm cm] 22)).heap.size (wx.alloc (.cells #[.slice B nm cm] 22)) w' := by
      rintro wx g rfl h hre
      exact HCK.out _ _ A2 N c2 (F.take N) true (parts_lit1 h.m _) (h.alloc _) (hre.below ((Below.refl _ _).alloc (Nat.le_refl _) _)) htN
    have hck2 : ∀ wx (g : Nat), wx.heap.size = g → TagEnv w A nb c key B nm cm m wx → RdS wx (some ⟨gb, 0, none⟩) N cb bad → Calls Tryd.prog 9 #[.slice A nb c, .slice (some ⟨gb, 0, none⟩) N cb, .slice (some ⟨g, 0, none⟩) 1 1] (wx.alloc (.cells #[.slice B nm cm] 22)) fun e w' => e = .returned (.bool false) ∧ Below (wx.alloc (.cells #[.slice B nm cm] 22)).heap.size (wx.alloc (.cells #[.slice B nm cm] 22)) w' := by
      rintro wx g rfl h hre
      exact HCK.out _ _ _ N cb bad false (parts_lit1 h.m _) (h.alloc _) (hre.below ((Below.refl _ _).alloc (Nat.le_refl _) _)) htB
    have HCK1 := Lib.hid hck1
    have HCK2 := Lib.hid hck2
    have hs6 : w6.heap.size = wd.heap.size := by rw [hw6]; simp [World.setCell]
    have HS6 := Lib.hid hs6
    have hrt6 := hrf6.head N c2 hN20 hnc2 (Nat.le_refl _)
    have hrb6 := RdS.of_own hst1
    clear hst htN htB hck1 hck2 hs6 hne ho5 hE5 hrf5 hE4 hrf4 hE3 hrf3 hrt3
    go_wp2_with (first
      | (go_at_call 9; rw [← hw6]; (with_reducible refine (Hid.out HCK1 w6 _ HS6.out hE6 hrt6).mono ?_); rintro e w7 ⟨rfl, hb7⟩; have hE7 := (hE6.alloc _).below hb7; have hrb7 := (hrb6.below ((Below.refl _ _).alloc (Nat.le_refl _) _)).below hb7)
      | (go_at_call 9; (with_reducible refine (Hid.out HCK2 w7 _ rfl hE7 hrb7).mono ?_); rintro e w8 ⟨rfl, hb8⟩; have hE8 := (hE7.alloc _).below hb8))
    go_ret
    exact ⟨rfl, hE8.b⟩
end Go.Proofs.YtihaiplkkamkoaaDoor
