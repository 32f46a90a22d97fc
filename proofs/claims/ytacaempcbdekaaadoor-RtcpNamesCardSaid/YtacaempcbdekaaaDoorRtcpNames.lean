/- The walk of the statement RtcpNames, where the program's IsName tells whether a text is a name. No statement is proved here. -/
import Derived.Test.YtacaempcbdekaaaDoorRtcpR1
import Derived.Test.YtacaempcbdekaaaDoorRtcpLosses
namespace Go.Proofs.YtacaempcbdekaaaDoor
open Go.RowKit
set_option linter.unusedVariables false

theorem NameTold.is {s : ByteArray} {e : Ending} {b : Bool} (h : NameTold s e) (hb : b = true ↔ nameP s) : e = .returned (.bool b) := by
  obtain ⟨c, rfl, hc⟩ := h
  have : c = b := by rw [Bool.eq_iff_iff, hc, hb]
  rw [this]

set_option maxRecDepth 100000 in
set_option maxHeartbeats 1000000 in
theorem rtcpNames_core {w : World} (HA : Alive w) (HI : ∀ (s : ByteArray) (w : World), Calls Tryd.prog 12 #[.string s] w fun e w' => NameTold s e ∧ Below w.heap.size w w') (s : ByteArray) :
    Calls Tryd.prog 4 #[.string s] w fun e w' => e = .returned (.bool true) ∧ Below w.heap.size w w' := by
  obtain ⟨b, hb⟩ : ∃ b : Bool, (b = true ↔ nameP s) := by
    by_cases h : nameP s
    · exact ⟨true, by simp [h]⟩
    · exact ⟨false, by simp [h]⟩
  have HA : Hid (Calls Tryd.prog 6 #[] w fun e w' => e = .returned (.bool true) ∧ Below w.heap.size w w') := Lib.hid HA
  have R1 : Hid (∀ wx : World, Calls Tryd.prog 12 #[.string s] wx fun e w' => e = .returned (.bool b) ∧ Below wx.heap.size wx w') := Lib.hid fun wx => (HI s wx).mono fun e w' h => ⟨h.1.is hb, h.2⟩
  have R2 : Hid (∀ wx : World, Calls Tryd.prog 13 #[.string s] wx fun e w' => e = .returned (.bool b) ∧ wx = w') := Lib.hid fun wx => (rname_any s wx).mono fun e w' h => ⟨h.1.is hb, h.2⟩
  clear hb HI
  by_cases hbig : 300 < s.size
  · go_enter Tryd.func4, Tryd.ntmps4
    go_wp2_with (go_at_call 6; ((with_reducible refine (Hid.out HA).mono ?_); rintro e w1 ⟨rfl, hb1⟩))
    go_ret
    exact ⟨rfl, hb1⟩
  · go_enter Tryd.func4, Tryd.ntmps4
    go_wp2_with (first
      | (go_at_call 6; ((with_reducible refine (Hid.out HA).mono ?_); rintro e w1 ⟨rfl, hb1⟩; have f1 := Lib.hid hb1; clear hb1))
      | (go_at_call 12; ((with_reducible refine (Hid.out R1 _).mono ?_); rintro e w2 ⟨rfl, hb2⟩; have f2 := Lib.hid (f1.out.trans (hb2.mono f1.out.size)); clear hb2))
      | (go_at_call 13; ((with_reducible refine (Hid.out R2 _).mono ?_); rintro e w3 ⟨rfl, rfl⟩)))
    go_ret
    exact ⟨rfl, f2.out⟩
end Go.Proofs.YtacaempcbdekaaaDoor
