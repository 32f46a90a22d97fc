/- Contracts of package mac: Check. No statement is proved here. -/
import Derived.Test.YtihaiplkkamkoaaDoorMac4
namespace Go.Proofs.YtihaiplkkamkoaaDoor
open Go.RowKit
set_option linter.unusedVariables false

set_option maxHeartbeats 1000000 in
theorem check_any (A : Option Addr) (nb c : Nat) (key : List UInt8) (B : Option Addr) (nt ct : Nat) (tag : List UInt8) (ad : Addr) (k cp : Nat) (ps : List (List UInt8)) (w : World) (ht : Tab w) (hw : 0 < w.heap.size) (hr : RdS w A nb c key) (hle : nb ≤ 100000)
    (hrt : RdS w B nt ct tag) (hp : PartsRd w (some ad) k ps) (hk : k ≤ 1000) (hpl : ps.flatten.length ≤ 100000) (t : Bool) (htt : t = decide (1 ≤ nt ∧ nt ≤ 20 ∧ tag = (macFull key ps.flatten).take nt)) :
    Calls Tryd.prog 9 #[.slice A nb c, .slice B nt ct, .slice (some ad) k cp] w fun e w' => e = .returned (.bool t) ∧ Below w.heap.size w w' := by
  have hs := hrt.small
  by_cases h0 : nt < 1
  · have e0 : t = false := by rw [htt]; simp; omega
    subst e0
    have hd : (nt : Int) < 1 := by omega
    go_enter Tryd.func9, Tryd.ntmps9
    go_wp2
    go_ret
    exact ⟨rfl, Below.refl _ _⟩
  by_cases h1 : 20 < nt
  · have e0 : t = false := by rw [htt]; simp; omega
    subst e0
    have hd : (20 : Int) < (nt : Int) := by omega
    have hd1 : decide ((nt : Int) < 1) = false := by simp; omega
    go_enter Tryd.func9, Tryd.ntmps9
    go_wp2
    go_ret
    exact ⟨rfl, Below.refl _ _⟩
  have hd : decide ((20 : Int) < (nt : Int)) = false := by simp; omega
  have hd1 : decide ((nt : Int) < 1) = false := by simp; omega
  have htg := tag_any A nb c key (nt : Int) ad k cp ps w ht hw hr hle (by omega) hp hk hpl
  have hcm := cutN_mid nt (by omega) (by omega)
  have e : tagB (nt : Int) (macFull key ps.flatten) = (macFull key ps.flatten).take nt := by rw [tagB, hcm]
  rw [hcm, e] at htg
  have htt' : t = decide (tag = (macFull key ps.flatten).take nt) := by
    rw [htt]
    congr 1
    simp only [eq_iff_iff]
    exact ⟨fun h => h.2.2, fun h => ⟨by omega, by omega, h⟩⟩
  obtain ⟨T, hT⟩ : ∃ T, T = (macFull key ps.flatten).take nt := ⟨_, rfl⟩
  rw [← hT] at htg htt'
  have HT := Lib.hid htg
  have HE := Lib.hid htt'
  clear htg htt' htt e hcm hT h0 h1
  go_enter Tryd.func9, Tryd.ntmps9
  go_wp2_with (first
    | (go_at_call 7; ((with_reducible refine (Hid.out HT).mono ?_); rintro e w2 ⟨A', rfl, hrd, hb2⟩; have hrt2 := hrt.below hb2))
    | (go_at_call 12; ((with_reducible refine (same_any B nt ct tag A' nt nt T w2 hrt2 hrd t HE.out).mono ?_); rintro e w' ⟨rfl, rfl⟩)))
  go_ret
  exact ⟨rfl, hb2⟩
end Go.Proofs.YtihaiplkkamkoaaDoor
