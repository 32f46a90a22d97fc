/- LayersTurns' walk: a chooser turns with whole pictures alone, and to what is wanted alone. -/
import Derived.Test.YtejkballndfmmaaLayL1
import Derived.Test.YtejkballndfmmaaFields
import Derived.Deep.RegionHeld3
import Derived.Deep.DeepCutAuto
namespace Go.Proofs.Ytejkballndfmmaa
open Go.RowKit
set_option linter.unusedVariables false

section
variable {T : World → Value → Chs → (Nat → Prop) → Prop} {w0 wx : World} {K : Nat → Prop} {q : Addr} {s : Chs}
theorem Lay.wanted (hT : Tells23 T) (h : OnK T w0 K (.pointer (some q)) s wx) (ok : OkC s) (z : Int) (hz : s.w = z) :
    Calls Try.prog 13 #[.pointer (some q)] wx fun e w' => e = .returned (.int .i64 z) ∧ ∃ m, w' = wx.drewN m := by
  obtain ⟨F, h1, _⟩ := h.ex
  subst hz
  exact hT.wanted wx q s F h1 ok
theorem Lay.goes (hT : Tells23 T) (h : OnK T w0 K (.pointer (some q)) s wx) (ok : OkC s) (z : Int) (hz : s.g = z) :
    Calls Try.prog 14 #[.pointer (some q)] wx fun e w' => e = .returned (.int .i64 z) ∧ ∃ m, w' = wx.drewN m := by
  obtain ⟨F, h1, _⟩ := h.ex
  subst hz
  exact hT.goes wx q s F h1 ok
end
/-- A chooser of the call's own. -/
def Trn23 (T : World → Value → Chs → (Nat → Prop) → Prop) (w0 : World) (q : Addr) (s : Chs) (wx : World) : Prop := OnK T w0 (fun _ => False) (.pointer (some q)) s wx ∧ OkC s
theorem Trn23.dr {T : World → Value → Chs → (Nat → Prop) → Prop} (hL : Lone T) {w0 wx : World} {q : Addr} {s : Chs} (h : Trn23 T w0 q s wx) (m : Nat) : Trn23 T w0 q s (wx.drewN m) := ⟨(h.1.on hL (drewN_bel _ m)).1, h.2⟩

set_option maxRecDepth 100000 in
set_option maxHeartbeats 2000000 in
theorem layersTurns_walk {T : World → Value → Chs → (Nat → Prop) → Prop} (hT : Tells23 T) (m : Int) (A : Option Addr) (n cap : Nat) (z : Nat → Nat → Value) (w : World) (hm : 0 ≤ m ∧ m ≤ 255) (hr : RdF [.bool, .int .i64, .bool] w A n z) :
    Calls Try.prog 4 #[.int .u8 m, .slice A n cap] w fun e w' => e = .returned (.bool true) ∧ Below w.heap.size w w' := by
  have H := Lib.hid hT
  have HAL := Lib.hid (alive_any23 hT w)
  have hn := hr.small
  have HR := Lib.hid hr
  have e1 : m.tmod 4 = m % 4 := Int.tmod_eq_emod_of_nonneg hm.1
  have e2 : (m % 4) % 256 = m % 4 := by omega
  have HN := Lib.hid (fun wx => hT.new_ok (m % 4 + 1) wx (by omega))
  have O1 := Lib.hid (newC_ok (m := m % 4 + 1) (by omega))
  clear hT hr
  go_enter Try.func4, Try.ntmps4
  go_wp2_with (first
    | (go_at_call 6; ((with_reducible refine (Hid.out HAL).mono ?_); rintro e w1 ⟨rfl, hb1⟩; have HB1 := Lib.hid hb1; clear hb1))
    | (go_at_call 7; ((with_reducible refine (Hid.out HN _).mono ?_); rintro e w2 ⟨q, F, rfl, HK⟩; have HO : Hid (Trn23 T w q (newC (m % 4 + 1)) w2) := Lib.hid ⟨OnK.new HB1.out HK.out, O1.out⟩; clear HK)))
  go_loopw [6] (fun vi wr => ∃ (k : Nat) (s : Chs), k ≤ n ∧ k ≤ 100 ∧ vi = .int .i64 k ∧ Hid (Trn23 T w q s wr)) (fun i _ => n - (intOf i).toNat)
  case atStart => exact ⟨0, _, by omega, by omega, rfl, HO⟩
  case round =>
    clear HO HN HAL HB1 O1
    obtain ⟨k, s, hk, hk80, rfl, HS⟩ := hrel
    by_cases hlt : k < n
    · by_cases hk8 : k < 100
      · have hki : (k : Int) < (n : Int) := by omega
        have hk8i : (k : Int) < 100 := by omega
        obtain ⟨b, off, rfl, hcs⟩ := HR.out.at_ (by omega)
        obtain ⟨tv, htv⟩ := HR.out.2.1 k hlt 0 _ rfl
        obtain ⟨lv, hlv, wlv⟩ := HR.out.2.1 k hlt 1 _ rfl
        obtain ⟨kv, hkv⟩ := HR.out.2.1 k hlt 2 _ rfl
        have HCell : Hid (∀ wx, Below w.heap.size w wx → wx.cell? ⟨b, off + k * 3, none⟩ = some (.bool tv) ∧ wx.cell? ⟨b, off + k * 3 + 1, none⟩ = some (.int .i64 lv) ∧ wx.cell? ⟨b, off + k * 3 + 2, none⟩ = some (.bool kv)) := Lib.hid fun wx hb => ⟨by rw [← htv]; exact hcs wx hb k hlt 0 (by decide), by rw [← hlv]; exact hcs wx hb k hlt 1 (by decide), by rw [← hkv]; exact hcs wx hb k hlt 2 (by decide)⟩
        have wl := bounds_i64 wlv
        clear hcs htv hlv hkv wlv
        obtain ⟨c0, c1, c2⟩ := HCell.out wr HS.out.1.below
        have G1 := Lib.hid (Lay.goes H.out HS.out.1 HS.out.2 s.g rfl)
        cases tv with
        | false =>
          have Q1 : Hid (∀ m2, Calls Try.prog 11 #[.pointer (some q), .int .i64 lv] (wr.drewN m2) fun e w' => e = .returned (.int .i64 (wantE s lv)) ∧ Hid (OnK T w (fun _ => False) (.pointer (some q)) (wantS s lv) w' ∧ SamK (fun _ => False) (wr.drewN m2) w')) := Lib.hid (fun m2 => Lay.want H.out (HS.out.dr H.out.lone m2).1 HS.out.2 lv wl _ rfl)
          have HC2 := Lib.hid (fun m2 => HCell.out _ (HS.out.dr H.out.lone m2).1.below)
          have HW := Lib.hid (And.intro (wantS_ok HS.out.2 lv) (wantS_g s lv))
          go_upto_region 12 with (first
            | (go_at_call 14; ((with_reducible refine (Hid.out G1).mono ?_); rintro e w2 ⟨rfl, m2, rfl⟩; obtain ⟨d0, d1, d2⟩ := HC2.out m2))
            | (go_at_call 11; ((with_reducible refine (Hid.out Q1 _).mono ?_); rintro e w3 ⟨rfl, HK3⟩)))
          have HEND : Hid (Trn23 T w q (wantS s lv) w3) := Lib.hid ⟨HK3.out.1, HW.out.1⟩
          have G2 := Lay.goes H.out HEND.out.1 HW.out.1 _ rfl
          have G3 := fun m3 => Lay.goes H.out (HEND.out.dr H.out.lone m3).1 HW.out.1 _ rfl
          obtain ⟨g2, hg2⟩ : ∃ g2, g2 = (wantS s lv).g := ⟨_, rfl⟩
          have hw2 := HW.out.2
          rw [← hg2] at G2 hw2
          simp only [← hg2] at G3
          have G2 := Lib.hid G2
          have G3 := Lib.hid G3
          clear Q1 HC2 HW HK3 d0 d1 d2 c0 c1 c2 hg2 HS G1
          obtain ⟨sg, hsg⟩ : ∃ sg, sg = s.g := ⟨_, rfl⟩
          rw [← hsg] at hw2 ⊢
          clear hsg
          by_cases h1 : g2 = sg
          · subst h1
            go_wp2_with (go_at_call 14; ((with_reducible refine (Hid.out G2).mono ?_); rintro e w4 ⟨rfl, m4, rfl⟩))
            go_roundw
            case rel => exact ⟨k + 1, _, by omega, by omega, by go_num, Lib.hid (HEND.out.dr H.out.lone m4)⟩
            case measure => (simp [intOf]; try omega)
          · obtain rfl : g2 = -1 := by omega
            have h1b : ((-1 : Int) == sg) = false := by simpa using h1
            go_wp2_with (first
              | (go_at_call 14; ((with_reducible refine (Hid.out G2).mono ?_); rintro e w4 ⟨rfl, m4, rfl⟩))
              | (go_at_call 14; ((with_reducible refine (Hid.out G3 _).mono ?_); rintro e w5 ⟨rfl, m5, rfl⟩)))
            go_roundw
            case rel => exact ⟨k + 1, _, by omega, by omega, by go_num, Lib.hid (HEND.out.dr H.out.lone (m4 + m5))⟩
            case measure => (simp [intOf]; try omega)
        | true =>
          have G2 := Lib.hid (fun m2 => Lay.wanted H.out (HS.out.dr H.out.lone m2).1 HS.out.2 s.w rfl)
          have HTK := Lib.hid (fun m2 => Lay.take H.out (HS.out.dr H.out.lone m2).1 HS.out.2 lv kv wl _ _ rfl rfl)
          have HW := Lib.hid (And.intro (takeS_ok HS.out.2 lv kv) (take_ways s lv kv))
          obtain ⟨ws, hws⟩ : ∃ ws, ws = takeS s lv kv := ⟨_, rfl⟩
          obtain ⟨va, hva⟩ : ∃ va, va = takeA s lv kv := ⟨_, rfl⟩
          obtain ⟨vt, hvt⟩ : ∃ vt, vt = takeT s lv kv := ⟨_, rfl⟩
          rw [← hws, ← hva, ← hvt] at HTK HW
          clear hws hva hvt
          go_upto_region 15 with (first
            | (go_at_call 14; ((with_reducible refine (Hid.out G1).mono ?_); rintro e w2 ⟨rfl, m2, rfl⟩))
            | (go_at_call 13; ((with_reducible refine (Hid.out G2 _).mono ?_); rintro e w3 ⟨rfl, m3, rfl⟩)))
          have HS0 : Hid ((wr.drewN (m2 + m3 + 1)).cell? ⟨b, off + k * 3 + 1, none⟩ = some (.int .i64 lv) ∧ (wr.drewN (m2 + m3 + 1)).cell? ⟨b, off + k * 3 + 2, none⟩ = some (.bool kv)) := Lib.hid ⟨c1, c2⟩
          have HS1 : Hid ((wr.drewN (m2 + m3)).drew.cell? ⟨b, off + k * 3 + 1, none⟩ = some (.int .i64 lv) ∧ (wr.drewN (m2 + m3)).drew.cell? ⟨b, off + k * 3 + 2, none⟩ = some (.bool kv)) := Lib.hid ⟨c1, c2⟩
          have HP1 := Lib.hid (HTK.out (m2 + m3 + 1))
          clear c0 c1 c2 HTK G1 G2 HS
          go_region_held3 (fun wx => wx.cell? ⟨b, off + k * 3 + 1, none⟩ = some (.int .i64 lv) ∧ wx.cell? ⟨b, off + k * 3 + 2, none⟩ = some (.bool kv))
            (first | with_reducible exact HS1.out | with_reducible exact HS4.out)
            ((go_at_call 9; (with_reducible refine (Hid.out HP1).mono ?_); rintro e w4 ⟨rfl, HK4⟩; have HS4 := Lib.hid (HCell.out w4 HK4.out.1.below).2))
          obtain ⟨c1, c2⟩ := HS4.out
          have HEND : Hid (Trn23 T w q ws w4) := Lib.hid ⟨HK4.out.1, HW.out.1⟩
          have Q1 := Lib.hid (fun m => Lay.goes H.out (HEND.out.dr H.out.lone m).1 HW.out.1 ws.g rfl)
          have Q2 := Lib.hid (fun m => Lay.wanted H.out (HEND.out.dr H.out.lone m).1 HW.out.1 ws.w rfl)
          have HON := Lib.hid (fun m => HEND.out.dr H.out.lone m)
          have hway := HW.out.2
          clear HS0 HS1 HS4 HP1 HK4 HEND HW
          rcases hway with ⟨rfl, rfl, rfl⟩ | ⟨rfl, rfl, rfl, hg⟩ | ⟨rfl, rfl, rfl, rfl, hw5, hg⟩
          · go_upto_region 16 with (fail)
            go_quiet ((first
              | (go_at_call 14; exact Calls.quiet_of (Q1.out _))
              | (go_at_call 13; exact Calls.quiet_of (Q2.out _))))
            go_wp2
            go_roundw
            case rel => exact ⟨k + 1, _, by omega, by omega, by go_num, Lib.hid (HON.out _)⟩
            case measure => (simp [intOf]; try omega)
          · rw [hg] at Q1
            go_upto_region 16 with (fail)
            go_quiet ((first
              | (go_at_call 14; exact Calls.quiet_of (Q1.out _))
              | (go_at_call 13; exact Calls.quiet_of (Q2.out _))))
            go_wp2
            go_roundw
            case rel => exact ⟨k + 1, _, by omega, by omega, by go_num, Lib.hid (HON.out _)⟩
            case measure => (simp [intOf]; try omega)
          · rw [hw5] at Q2
            have hgb : (lv == s.g) = false := by
              have : lv ≠ s.g := fun h => hg h.symm
              simpa using this
            go_upto_region 16 with (fail)
            go_quiet ((first
              | (go_at_call 14; exact Calls.quiet_of (Q1.out _))
              | (go_at_call 13; exact Calls.quiet_of (Q2.out _))))
            go_wp2
            go_roundw
            case rel => exact ⟨k + 1, _, by omega, by omega, by go_num, Lib.hid (HON.out _)⟩
            case measure => (simp [intOf]; try omega)
      · obtain rfl : k = 100 := by omega
        have hki : (100 : Int) < (n : Int) := by omega
        have HE := Lib.hid HS.out.1.below
        clear HS
        go_wp2
        go_ret
        exact ⟨rfl, HE.out⟩
    · obtain rfl : k = n := by omega
      have HE := Lib.hid HS.out.1.below
      clear HS
      go_wp2
      go_ret
      exact ⟨rfl, HE.out⟩
end Go.Proofs.Ytejkballndfmmaa
