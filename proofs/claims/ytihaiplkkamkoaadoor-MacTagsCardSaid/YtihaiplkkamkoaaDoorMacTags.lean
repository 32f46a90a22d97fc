/- MacTags's walk: the tag of any message, by any key, of any length, is the document's, however it is cut. -/
import Derived.Test.YtihaiplkkamkoaaDoorMacLaw
import Derived.Deep.RegionHeld3
import Derived.Deep.DeepCutAuto
namespace Go.Proofs.YtihaiplkkamkoaaDoor
open Go.RowKit
set_option linter.unusedVariables false

/-- What Tag answers for parts that are the message's, as a text. -/
theorem tag_txt (A : Option Addr) (nb c : Nat) (key : List UInt8) (n : Int) (m T : List UInt8) (hle : nb ≤ 300) (hn : -9223372036854775808 ≤ n ∧ n ≤ 9223372036854775807) (hml : m.length ≤ 600) (hT : T = tagB n (macFull key m)) :
    ∀ (w : World) (ad : Addr) (k cp : Nat) (ps : List (List UInt8)), Tab w → 0 < w.heap.size → RdS w A nb c key → PartsRd w (some ad) k ps → k ≤ 2 → ps.flatten = m →
      Calls Tryd.prog 7 #[.slice A nb c, .int .i64 n, .slice (some ad) k cp] w fun e w' => ∃ A' d, e = .returned (.slice A' d d) ∧ (convert 22 9 (.slice A' d d)).run Tryd.prog w' = .ok (.string (txt T)) w' ∧ Below w.heap.size w w' := by
  intro w ad k cp ps ht hw hr hp hk hf
  have := tag_any A nb c key n ad k cp ps w ht hw hr (by omega) hn hp (by omega) (by rw [hf]; omega)
  rw [hf, ← hT] at this
  exact this.mono fun e w' ⟨A', he, hrd, hb⟩ => ⟨A', _, he, conv_rd hrd, hb⟩

theorem PartsRd.drew {w : World} {A : Option Addr} {k : Nat} {ps : List (List UInt8)} (h : PartsRd w A k ps) : PartsRd w.drew A k ps := h
theorem RdS.cut_ne {w : World} {A : Option Addr} {n c : Nat} {bs : List UInt8} (h : RdS w A n c bs) (k : Nat) (hk : k ≤ n) (hc : c ≠ k) : RdS w (A.map fun x => x.add k) (n - k) (c - k) (bs.drop k) := by
  have := h.cut k hk
  rw [if_neg hc, Nat.mul_one] at this
  exact this
theorem RdS.cut_eq {w : World} {A : Option Addr} {n k : Nat} {bs : List UInt8} (h : RdS w A n k bs) (hk : k ≤ n) (hn : n ≤ k) : RdS w A 0 0 (bs.drop k) := by
  have := h.cut k hk
  rw [if_pos rfl, Nat.sub_self, show n - k = 0 by omega] at this
  exact this
/-- What is there all along: the key, the message, the first words. -/
structure TagEnv (w0 : World) (A : Option Addr) (nb c : Nat) (key : List UInt8) (B : Option Addr) (nm cm : Nat) (m : List UInt8) (w : World) : Prop where
  k : RdS w A nb c key
  m : RdS w B nm cm m
  t : Tab w
  z : 0 < w.heap.size
  b : Below w0.heap.size w0 w
section
variable {w0 : World} {A : Option Addr} {nb c : Nat} {key : List UInt8} {B : Option Addr} {nm cm : Nat} {m : List UInt8} {w w' : World}
theorem TagEnv.below (h : TagEnv w0 A nb c key B nm cm m w) (hb : Below w.heap.size w w') : TagEnv w0 A nb c key B nm cm m w' :=
  ⟨h.k.below hb, h.m.below hb, tab_below h.t hb, Nat.lt_of_lt_of_le h.z hb.size, h.b.trans (hb.mono h.b.size)⟩
theorem TagEnv.alloc (h : TagEnv w0 A nb c key B nm cm m w) (o : Obj) : TagEnv w0 A nb c key B nm cm m (w.alloc o) := h.below ((Below.refl _ _).alloc (Nat.le_refl _) _)
theorem TagEnv.drew (h : TagEnv w0 A nb c key B nm cm m w) : TagEnv w0 A nb c key B nm cm m w.drew := ⟨h.k, h.m, h.t, h.z, h.b.drew⟩
end

set_option maxRecDepth 100000 in
set_option maxHeartbeats 400000 in
theorem macTags_walk (A : Option Addr) (nb c : Nat) (key : List UInt8) (B : Option Addr) (nm cm : Nat) (m : List UInt8) (n : Int) (cut : Int) (w : World) (ht : Tab w) (hw : 0 < w.heap.size) (hr : RdS w A nb c key) (hrm : RdS w B nm cm m)
    (hn : (Lit.int .i64 n).wf = true) (hc : (Lit.int .u8 cut).wf = true) :
    Calls Tryd.prog 3 #[.slice A nb c, .slice B nm cm, .int .i64 n, .int .u8 cut] w fun e w' => e = .returned (.bool true) ∧ Below w.heap.size w w' := by
  have HAL := Lib.hid (alive_any w ht hw)
  have hnb := bounds_i64 hn
  have hcb := bounds_u8 hc
  have hs := hr.small
  have hsm := hrm.small
  obtain ⟨u, rfl⟩ := Int.eq_ofNat_of_zero_le hcb.1
  clear hn hc
  by_cases h1 : 300 < nb
  · have hd : decide ((300 : Int) < (nb : Int)) = true := by simp; omega
    go_enter Tryd.func3, Tryd.ntmps3
    go_wp2_with (go_at_call 5; ((with_reducible refine (Hid.out HAL).mono ?_); rintro e w1 ⟨rfl, hb1⟩))
    go_ret
    exact ⟨rfl, hb1⟩
  have hd : decide ((300 : Int) < (nb : Int)) = false := by simp; omega
  by_cases h2 : 600 < nm
  · have hd2 : decide ((600 : Int) < (nm : Int)) = true := by simp; omega
    go_enter Tryd.func3, Tryd.ntmps3
    go_wp2_with (go_at_call 5; ((with_reducible refine (Hid.out HAL).mono ?_); rintro e w1 ⟨rfl, hb1⟩))
    go_ret
    exact ⟨rfl, hb1⟩
  have hd2 : decide ((600 : Int) < (nm : Int)) = false := by simp; omega
  have hnb3 : nb ≤ 300 := by omega
  have hml := hrm.len
  obtain ⟨T, hT⟩ : ∃ T, T = tagB n (macFull key m) := ⟨_, rfl⟩
  have htt := tag_txt A nb c key n m T hnb3 hnb (by omega) hT
  have hpt : ∀ wx (g k : Nat) (ps : List (List UInt8)), PartsRd wx (some ⟨g, 0, none⟩) k ps → k ≤ 2 → ps.flatten = m → TagEnv w A nb c key B nm cm m wx → Calls Tryd.prog 7 #[.slice A nb c, .int .i64 n, .slice (some ⟨g, 0, none⟩) k k] wx fun e w' =>
      ∃ A' d, e = .returned (.slice A' d d) ∧ (convert 22 9 (.slice A' d d)).run Tryd.prog w' = .ok (.string (txt T)) w' ∧ TagEnv w A nb c key B nm cm m w' := by
    intro wx g k ps hp hk hf h
    exact (htt wx _ k k ps h.t h.z h.k hp hk hf).mono fun e w' ⟨A', d, he, hcv, hb⟩ => ⟨A', d, he, hcv, h.below hb⟩
  have hrt : ∀ wx, TagEnv w A nb c key B nm cm m wx → Calls Tryd.prog 6 #[.slice A nb c, .int .i64 n, .slice B nm cm] wx fun e w' =>
      ∃ A' d c', e = .returned (.slice A' d c') ∧ (convert 22 9 (.slice A' d c')).run Tryd.prog w' = .ok (.string (txt T)) w' ∧ TagEnv w A nb c key B nm cm m w' := by
    intro wx h
    rw [hT]
    exact (rtag_any A nb c key n B nm cm m wx h.k h.m (by omega) (by omega) hnb).mono fun e w' ⟨A', c', he, hrd, hb⟩ => ⟨A', _, c', he, conv_rd hrd, h.below hb⟩
  have hE0 : ∀ w1, Below w.heap.size w w1 → TagEnv w A nb c key B nm cm m w1 := fun w1 hb => ⟨hr.below hb, hrm.below hb, tab_below ht hb, Nat.lt_of_lt_of_le hw hb.size, hb⟩
  have hcm := hrm.le
  have HPT := Lib.hid hpt
  have HRT := Lib.hid hrt
  have HE0 := Lib.hid hE0
  clear htt hpt hrt hE0 hr hrm ht hT hml h1
  go_enter Tryd.func3, Tryd.ntmps3
  go_upto_if 23 with (go_at_call 5; ((with_reducible refine (Hid.out HAL).mono ?_); rintro e w1 ⟨rfl, hb1⟩; have hE1 := HE0.out w1 hb1))
  go_cut [9] (fun k wx => ∃ kk : Nat, k = .int .i64 kk ∧ kk ≤ nm ∧ wx = w1)
  case first =>
    by_cases h0 : 0 < nm
    · have hd3 : decide ((0 : Int) < (nm : Int)) = true := by simp; omega
      have hnz : (nm : Int) ≠ 0 := by omega
      have hmod : ((u : Int) % (nm : Int)) = ((u % nm : Nat) : Int) := by simp
      have hle : u % nm ≤ nm := Nat.le_of_lt (Nat.mod_lt _ h0)
      go_wp2_with fail
      go_meet
      exact ⟨u % nm, by rw [← hmod], hle, rfl⟩
    · have hd3 : decide ((0 : Int) < (nm : Int)) = false := by simp; omega
      go_wp2_with fail
      go_meet
      exact ⟨0, rfl, by omega, rfl⟩
  case rest =>
    obtain ⟨kk, rfl, hkk, rfl⟩ := hcut
    go_upto_region 9 with (go_at_call 6; ((with_reducible refine (Hid.out HRT _ hE1).mono ?_); rintro e w2 ⟨A2, d2, c2, rfl, hcv2, hE2⟩))
    have hE2d := hE2.drew
    have hki : (kk : Int) ≤ (nm : Int) := by omega
    have hkc : kk ≤ cm := by omega
    clear HRT HE0 HAL hb1 hE1 hw
    by_cases hck : cm = kk
    · subst hck
      refine wp_region_noPanic ?_
      go_region_held (fun wx => TagEnv w A nb c key B nm cm m wx)
        (first | with_reducible assumption | with_reducible exact hE2d | with_reducible exact (TagEnv.alloc hE2 _).drew | with_reducible exact TagEnv.alloc hE3 _)
        (first
          | (go_at_call 7; (with_reducible refine (Hid.out HPT _ w2.heap.size 1 [m] ?_ ?_ ?_ (TagEnv.alloc hE2 _).drew).mono ?_); (case refine_1 => exact PartsRd.drew (parts_lit1 hE2.m _)); (case refine_2 => omega); (case refine_3 => simp); rintro e w3 ⟨A3, d3, rfl, hcv3, hE3⟩)
          | (go_at_call 7; (with_reducible refine (Hid.out HPT _ w3.heap.size 2 [m.take cm, m.drop cm] ?_ ?_ ?_ (TagEnv.alloc hE3 _)).mono ?_); (case refine_1 => exact parts_lit2 (hE3.m.head cm cm hkk hkc (Nat.le_refl _)) (hE3.m.cut_eq hkk hcm) _); (case refine_2 => omega); (case refine_3 => simp); rintro e w4 ⟨A4, d4, rfl, hcv4, hE4⟩))
      refine NoPanic.normal ?_
      go_wp2_with fail
      go_ret
      exact ⟨rfl, hE4.b⟩
    · have hckb : (cm = kk) = False := by simp [hck]
      refine wp_region_noPanic ?_
      go_region_held (fun wx => TagEnv w A nb c key B nm cm m wx)
        (first | with_reducible assumption | with_reducible exact hE2d | with_reducible exact (TagEnv.alloc hE2 _).drew | with_reducible exact TagEnv.alloc hE3 _)
        (first
          | (go_at_call 7; (with_reducible refine (Hid.out HPT _ w2.heap.size 1 [m] ?_ ?_ ?_ (TagEnv.alloc hE2 _).drew).mono ?_); (case refine_1 => exact PartsRd.drew (parts_lit1 hE2.m _)); (case refine_2 => omega); (case refine_3 => simp); rintro e w3 ⟨A3, d3, rfl, hcv3, hE3⟩)
          | (go_at_call 7; (with_reducible refine (Hid.out HPT _ w3.heap.size 2 [m.take kk, m.drop kk] ?_ ?_ ?_ (TagEnv.alloc hE3 _)).mono ?_); (case refine_1 => exact parts_lit2 (hE3.m.head kk cm hkk hkc (Nat.le_refl _)) (hE3.m.cut_ne kk hkk hck) _); (case refine_2 => omega); (case refine_3 => simp); rintro e w4 ⟨A4, d4, rfl, hcv4, hE4⟩))
      refine NoPanic.normal ?_
      go_wp2_with fail
      go_ret
      exact ⟨rfl, hE4.b⟩
end Go.Proofs.YtihaiplkkamkoaaDoor
