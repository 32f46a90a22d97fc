/- What the document's answer for layer 11 (tenailleref11) says of names and rates. No statement is proved here. -/
import Derived.Test.YtacaempcbdekaaaDoorRtcpNum
import Derived.Test.YtacaempcbdekaaaDoorOctRef
import Derived.Test.YtacaempcbdekaaaDoorMem2
namespace Go.Proofs.YtacaempcbdekaaaDoor
open Go.RowKit
set_option linter.unusedVariables false

/-- What is told of a text: whether it is a name. -/
def NameTold (s : ByteArray) (e : Ending) : Prop := ∃ b : Bool, e = .returned (.bool b) ∧ (b = true ↔ nameP s)
theorem NameTold.no {s : ByteArray} (h : ¬ nameP s) : NameTold s (.returned (.bool false)) := ⟨false, rfl, by simp [h]⟩
theorem NameTold.yes {s : ByteArray} (h : nameP s) : NameTold s (.returned (.bool true)) := ⟨true, rfl, by simp [h]⟩
/-- Two that tell it tell one. -/
theorem NameTold.same {s : ByteArray} {e e' : Ending} (h : NameTold s e) (h' : NameTold s e') : ∃ b : Bool, e = .returned (.bool b) ∧ e' = .returned (.bool b) := by
  obtain ⟨b, rfl, hb⟩ := h
  obtain ⟨c, rfl, hc⟩ := h'
  have : b = c := by rw [Bool.eq_iff_iff, hb, hc]
  exact ⟨b, rfl, by rw [this]⟩

set_option maxRecDepth 100000 in
set_option maxHeartbeats 1000000 in
theorem rname_any (s : ByteArray) (w : World) : Calls Tryd.prog 13 #[.string s] w fun e w' => NameTold s e ∧ w = w' := by
  obtain ⟨n, hn⟩ : ∃ n, n = s.size := ⟨_, rfl⟩
  by_cases h1 : s.size < 1
  · go_enter Tryd.func13, Tryd.ntmps13
    go_wp2
    go_ret
    exact ⟨NameTold.no (fun hp => by have := hp.1; have := hp.2.1; omega), rfl⟩
  · by_cases h2 : 16 < s.size
    · go_enter Tryd.func13, Tryd.ntmps13
      go_wp2
      go_ret
      exact ⟨NameTold.no (fun hp => by have := hp.1; have := hp.2.1; omega), rfl⟩
    · go_enter Tryd.func13, Tryd.ntmps13
      go_wp2
      go_loopw [3] (fun i wr => wr = w ∧ ∃ k : Nat, k ≤ s.size ∧ i = .int .i64 k ∧ ∀ (j : Nat) (h : j < s.size), j < k → 33 ≤ (s[j]'h).toNat ∧ (s[j]'h).toNat ≤ 126) (fun i _ => s.size - (intOf i).toNat)
      case atStart => exact ⟨rfl, 0, by omega, rfl, fun j h hj => absurd hj (by omega)⟩
      case round =>
        obtain ⟨rfl, k, hk, rfl, hok⟩ := hrel
        have HOK := Lib.hid hok
        clear hok
        by_cases hkn : k < s.size
        · by_cases c1 : (s[k]'hkn).toNat < 33
          · go_wp2
            go_ret
            exact ⟨NameTold.no (fun hp => by have := (hp.2.2 k hkn).1; omega), rfl⟩
          · by_cases c2 : 126 < (s[k]'hkn).toNat
            · go_wp2
              go_ret
              exact ⟨NameTold.no (fun hp => by have := (hp.2.2 k hkn).2; omega), rfl⟩
            · go_wp2
              go_roundw
              case rel =>
                refine ⟨by trivial, k + 1, by omega, by go_num, fun j h hj => ?_⟩
                rcases Nat.lt_or_ge j k with hjk | hjk
                · exact HOK.out j h hjk
                · obtain rfl : j = k := by omega
                  exact ⟨by omega, by omega⟩
              case measure => simp [intOf]; omega
        · have hke : k = s.size := by omega
          go_wp2
          go_ret
          exact ⟨NameTold.yes ⟨by omega, by omega, fun i h => HOK.out i h (by omega)⟩, rfl⟩
end Go.Proofs.YtacaempcbdekaaaDoor
