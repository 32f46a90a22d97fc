/- What the document's answers for layer 2 (tenailleref02) answer: contracts that the proofs of the statements use. No statement is proved here. -/
import Derived.Test.YtojfgckogofkdaaSeqs
namespace Go.Proofs.Ytojfgckogofkdaa
open Go.RowKit
set_option linter.unusedVariables false

theorem rahead_any (a b : Int) (w : World) (ha : 0 ≤ a) (ha' : a ≤ 65535) (hb : 0 ≤ b) (hb' : b ≤ 65535) :
    Calls Try.prog 8 #[.int .u16 a, .int .u16 b] w fun e w' => e = .returned (.int .i64 (aheadZ a b)) ∧ w = w' := by
  by_cases h : 32767 < (b - a + 65536) % 65536
  · have e : (b - a) % 65536 - 65536 = aheadZ a b := by unfold aheadZ; omega
    have HE := Lib.hid e
    clear e
    go_enter Try.func8, Try.ntmps8
    go_wp2
    go_ret
    exact ⟨ret_num HE.out, rfl⟩
  · have e : (b - a) % 65536 = aheadZ a b := by unfold aheadZ; omega
    have HE := Lib.hid e
    clear e
    go_enter Try.func8, Try.ntmps8
    go_wp2
    go_ret
    exact ⟨ret_num HE.out, rfl⟩

theorem rgone_any (a b : Int) (w : World) (ha : 0 ≤ a) (ha' : a ≤ 4294967295) (hb : 0 ≤ b) (hb' : b ≤ 4294967295) :
    Calls Try.prog 11 #[.int .u32 a, .int .u32 b] w fun e w' => e = .returned (.int .i64 (goneZ a b)) ∧ w = w' := by
  by_cases h : 2147483647 < (b - a + 4294967296) % 4294967296
  · have e : (b - a) % 4294967296 - 4294967296 = goneZ a b := by unfold goneZ; omega
    have HE := Lib.hid e
    clear e
    go_enter Try.func11, Try.ntmps11
    go_wp2
    go_ret
    exact ⟨ret_num HE.out, rfl⟩
  · have e : (b - a) % 4294967296 = goneZ a b := by unfold goneZ; omega
    have HE := Lib.hid e
    clear e
    go_enter Try.func11, Try.ntmps11
    go_wp2
    go_ret
    exact ⟨ret_num HE.out, rfl⟩

theorem likely_of (h s z : Int) (hh : 0 ≤ h) (hs : 0 ≤ s) (hs' : s ≤ 65535) (h1 : h - 32767 ≤ z) (h2 : z ≤ h + 32768) (hz : z % 65536 = s) : likely h s = if z < 0 then z + 65536 else z := by
  unfold likely aheadZ
  split
  · omega
  · split <;> split <;> omega

theorem rindex_any (h s : Int) (w : World) (hl : -9223372036854775808 ≤ h) (hh : h ≤ 4611686018427387904) (hs : 0 ≤ s) (hs' : s ≤ 65535) :
    Calls Try.prog 13 #[.int .i64 h, .int .u16 s] w fun e w' => e = .returned (.int .i64 (likely h s)) ∧ w = w' := by
  by_cases h0 : h < 0
  · rw [likely_neg h s h0]
    go_enter Try.func13, Try.ntmps13
    go_wp2
    go_ret
    exact ⟨rfl, rfl⟩
  have h0' : 0 ≤ h := by omega
  clear h0
  go_enter Try.func13, Try.ntmps13
  go_wp2
  go_loop [5] (fun i => ∃ z : Int, i = .int .i64 z ∧ Hid (z % 65536 = s) ∧ z ≤ h + 65535 ∧ h - 65535 ≤ z) (fun i => (intOf i - h + 65536).toNat)
  case atStart => exact ⟨_, rfl, Lib.hid (by omega), by omega, by omega⟩
  case round =>
    obtain ⟨z, rfl, hz, hz1, hz2⟩ := hrel
    by_cases hc : h + 32768 < z
    · go_wp2
      go_round
      case rel => exact ⟨z - 65536, rfl, Lib.hid (by have := hz.out; omega), by omega, by omega⟩
      case measure => simp [intOf]; omega
    · have hc' : z ≤ h + 32768 := by omega
      clear hc
      go_wp2
      go_loop [5] (fun i => ∃ z : Int, i = .int .i64 z ∧ Hid (z % 65536 = s) ∧ z ≤ h + 32768 ∧ h - 65535 ≤ z) (fun i => (h - intOf i + 65536).toNat)
      case atStart => exact ⟨z, rfl, hz, hc', hz2⟩
      case round =>
        clear hz hz1 hz2 hc'
        obtain ⟨z, rfl, hz, hz1, hz2⟩ := hrel
        by_cases hc : z < h - 32767
        · go_wp2
          go_round
          case rel => exact ⟨z + 65536, rfl, Lib.hid (by have := hz.out; omega), by omega, by omega⟩
          case measure => simp [intOf]; omega
        · have HL := Lib.hid (likely_of h s z h0' hs hs' (by omega) hz1 hz.out)
          by_cases hn : z < 0
          · go_wp2
            go_ret
            exact ⟨ret_num (by rw [HL.out, if_pos hn]), rfl⟩
          · have hn' : 0 ≤ z := by omega
            clear hn
            go_wp2
            go_ret
            exact ⟨ret_num (by rw [HL.out, if_neg (by omega)]), rfl⟩

theorem alive_any (w : World) : Calls Try.prog 6 #[] w fun e w' => e = .returned (.bool true) ∧ w = w' := by
  have HA : Hid (∀ w, Calls Try.prog 7 #[.int .u16 65535, .int .u16 1] w fun e w' => e = .returned (.int .i64 2) ∧ w = w') := Lib.hid fun w => ahead_any 65535 1 w (by omega) (by omega) (by omega) (by omega)
  have H1 : Hid (∀ w, Calls Try.prog 12 #[.int .i64 70000, .int .u16 4463] w fun e w' => e = .returned (.int .i64 69999) ∧ w = w') := Lib.hid fun w => index_any 70000 4463 w (by omega) (by omega) (by omega) (by omega)
  have H2 : Hid (∀ w, Calls Try.prog 12 #[.int .i64 10, .int .u16 65535] w fun e w' => e = .returned (.int .i64 65535) ∧ w = w') := Lib.hid fun w => index_any 10 65535 w (by omega) (by omega) (by omega) (by omega)
  have H3 : Hid (∀ w, Calls Try.prog 12 #[.int .i64 65530, .int .u16 3] w fun e w' => e = .returned (.int .i64 65539) ∧ w = w') := Lib.hid fun w => index_any 65530 3 w (by omega) (by omega) (by omega) (by omega)
  go_enter Try.func6, Try.ntmps6
  go_wp2_with (first
    | (go_at_call 7; refine (HA.out _).mono ?_; rintro e w' ⟨rfl, rfl⟩)
    | (go_at_call 12; ((with_reducible refine (H1.out _).mono ?_); rintro e w' ⟨rfl, rfl⟩))
    | (go_at_call 12; ((with_reducible refine (H2.out _).mono ?_); rintro e w' ⟨rfl, rfl⟩))
    | (go_at_call 12; ((with_reducible refine (H3.out _).mono ?_); rintro e w' ⟨rfl, rfl⟩)))
  go_ret
  exact ⟨rfl, rfl⟩
end Go.Proofs.Ytojfgckogofkdaa
