/- The walks of the laws of layer 2: for every input each answers true and leaves memory as it was. Conditions: none beyond those of the statements. -/
import Derived.Test.YtojfgckogofkdaaSeqsRef
namespace Go.Proofs.Ytojfgckogofkdaa
open Go.RowKit
set_option linter.unusedVariables false

theorem seqsAhead_walk (a b c d : Int) (w : World) (ha : (Lit.int .u16 a).wf = true) (hb : (Lit.int .u16 b).wf = true) (hc : (Lit.int .u32 c).wf = true) (hd : (Lit.int .u32 d).wf = true) :
    Calls Try.prog 3 #[.int .u16 a, .int .u16 b, .int .u32 c, .int .u32 d] w fun e w' => e = .returned (.bool true) ∧ w = w' := by
  obtain ⟨a0, a1⟩ := bounds_u16 ha
  obtain ⟨b0, b1⟩ := bounds_u16 hb
  obtain ⟨c0, c1⟩ := bounds_u32 hc
  obtain ⟨d0, d1⟩ := bounds_u32 hd
  clear ha hb hc hd
  go_enter Try.func3, Try.ntmps3
  go_wp2_with (first
    | (go_at_call 6; refine (alive_any _).mono ?_; rintro e w' ⟨rfl, rfl⟩)
    | (go_at_call 7; refine (ahead_any _ _ _ a0 a1 b0 b1).mono ?_; rintro e w' ⟨rfl, rfl⟩)
    | (go_at_call 8; refine (rahead_any _ _ _ a0 a1 b0 b1).mono ?_; rintro e w' ⟨rfl, rfl⟩)
    | (go_at_call 9; refine (later_any _ _ _ a0 a1 b0 b1).mono ?_; rintro e w' ⟨rfl, rfl⟩)
    | (go_at_call 10; refine (gone_any _ _ _ c0 c1 d0 d1).mono ?_; rintro e w' ⟨rfl, rfl⟩)
    | (go_at_call 11; refine (rgone_any _ _ _ c0 c1 d0 d1).mono ?_; rintro e w' ⟨rfl, rfl⟩))
  go_ret
  exact ⟨rfl, rfl⟩

theorem likely_seq (h s : Int) (hs : 0 ≤ s) (hs' : s ≤ 65535) : 0 ≤ likely h s ∧ likely h s % 65536 = s ∧ likely h s ≤ (if h < 0 then 65535 else h + 98304) := by
  unfold likely
  split
  · omega
  · unfold aheadZ; split <;> omega

theorem seqsIndex_walk (h s : Int) (w : World) (hh : (Lit.int .i64 h).wf = true) (hs : (Lit.int .u16 s).wf = true) :
    Calls Try.prog 4 #[.int .i64 h, .int .u16 s] w fun e w' => e = .returned (.bool true) ∧ w = w' := by
  obtain ⟨h0, h1⟩ := bounds_i64 hh
  obtain ⟨s0, s1⟩ := bounds_u16 hs
  clear hh hs
  by_cases hc : 4611686018427387904 < h
  · go_enter Try.func4, Try.ntmps4
    go_wp2_with (go_at_call 6; refine (alive_any _).mono ?_; rintro e w' ⟨rfl, rfl⟩)
    go_ret
    exact ⟨rfl, rfl⟩
  have hc' : h ≤ 4611686018427387904 := by omega
  clear hc
  obtain ⟨i, hi⟩ : ∃ i, i = likely h s := ⟨_, rfl⟩
  have hb := likely_seq h s s0 s1
  rw [← hi] at hb
  obtain ⟨hb0, hb1, hb2⟩ := hb
  have hb3 : i ≤ 9223372036854775807 := by
    by_cases hn : h < 0
    · rw [if_pos hn] at hb2; omega
    · rw [if_neg hn] at hb2; omega
  clear hb2
  have HI : Hid (∀ w, Calls Try.prog 12 #[.int .i64 h, .int .u16 s] w fun e w' => e = .returned (.int .i64 i) ∧ w = w') := Lib.hid fun w => by rw [hi]; exact index_any h s w h0 hc' s0 s1
  have HR : Hid (∀ w, Calls Try.prog 13 #[.int .i64 h, .int .u16 s] w fun e w' => e = .returned (.int .i64 i) ∧ w = w') := Lib.hid fun w => by rw [hi]; exact rindex_any h s w h0 hc' s0 s1
  have HS : Hid (∀ w, Calls Try.prog 14 #[.int .i64 i] w fun e w' => e = .returned (.int .u16 s) ∧ w = w') := Lib.hid fun w => by have := seq_any i w; rw [hb1] at this; exact this
  clear hi
  go_enter Try.func4, Try.ntmps4
  go_wp2_with (first
    | (go_at_call 6; refine (alive_any _).mono ?_; rintro e w' ⟨rfl, rfl⟩)
    | (go_at_call 12; refine (HI.out _).mono ?_; rintro e w' ⟨rfl, rfl⟩)
    | (go_at_call 13; refine (HR.out _).mono ?_; rintro e w' ⟨rfl, rfl⟩)
    | (go_at_call 14; refine (HS.out _).mono ?_; rintro e w' ⟨rfl, rfl⟩))
  go_ret
  exact ⟨rfl, rfl⟩

theorem likely_back (h i : Int) (hh : 0 ≤ h) (hi : 0 ≤ i) (h1 : i ≤ h + 32767) (h2 : h - 32767 ≤ i) : likely h (i % 65536) = i := by
  unfold likely aheadZ
  split
  · omega
  · split <;> omega

theorem seqsBack_walk (h i : Int) (w : World) (hh : (Lit.int .i64 h).wf = true) (hi : (Lit.int .i64 i).wf = true) :
    Calls Try.prog 5 #[.int .i64 h, .int .i64 i] w fun e w' => e = .returned (.bool true) ∧ w = w' := by
  obtain ⟨h0, h1⟩ := bounds_i64 hh
  obtain ⟨i0, i1⟩ := bounds_i64 hi
  clear hh hi
  by_cases hc : h < 0
  · go_enter Try.func5, Try.ntmps5
    go_wp2_with (go_at_call 6; refine (alive_any _).mono ?_; rintro e w' ⟨rfl, rfl⟩)
    go_ret
    exact ⟨rfl, rfl⟩
  have hc' : 0 ≤ h := by omega
  clear hc h0
  by_cases hc : i < 0
  · go_enter Try.func5, Try.ntmps5
    go_wp2_with (go_at_call 6; refine (alive_any _).mono ?_; rintro e w' ⟨rfl, rfl⟩)
    go_ret
    exact ⟨rfl, rfl⟩
  have hd' : 0 ≤ i := by omega
  clear hc i0
  by_cases hc : 4611686018427387904 < h
  · go_enter Try.func5, Try.ntmps5
    go_wp2_with (go_at_call 6; refine (alive_any _).mono ?_; rintro e w' ⟨rfl, rfl⟩)
    go_ret
    exact ⟨rfl, rfl⟩
  have he' : h ≤ 4611686018427387904 := by omega
  clear hc
  by_cases hc : h + 32767 < i
  · go_enter Try.func5, Try.ntmps5
    go_wp2_with (go_at_call 6; refine (alive_any _).mono ?_; rintro e w' ⟨rfl, rfl⟩)
    go_ret
    exact ⟨rfl, rfl⟩
  have hf' : i ≤ h + 32767 := by omega
  clear hc
  by_cases hc : i < h - 32767
  · go_enter Try.func5, Try.ntmps5
    go_wp2_with (go_at_call 6; refine (alive_any _).mono ?_; rintro e w' ⟨rfl, rfl⟩)
    go_ret
    exact ⟨rfl, rfl⟩
  have hg' : h - 32767 ≤ i := by omega
  clear hc
  have HI : Hid (∀ w, Calls Try.prog 12 #[.int .i64 h, .int .u16 (i % 65536)] w fun e w' => e = .returned (.int .i64 i) ∧ w = w') := Lib.hid fun w => by
    have := index_any h (i % 65536) w (by omega) he' (by omega) (by omega)
    rw [likely_back h i hc' hd' hf' hg'] at this
    exact this
  go_enter Try.func5, Try.ntmps5
  go_wp2_with (first
    | (go_at_call 6; refine (alive_any _).mono ?_; rintro e w' ⟨rfl, rfl⟩)
    | (go_at_call 14; refine (seq_any _ _).mono ?_; rintro e w' ⟨rfl, rfl⟩)
    | (go_at_call 12; refine (HI.out _).mono ?_; rintro e w' ⟨rfl, rfl⟩))
  go_ret
  exact ⟨rfl, rfl⟩
end Go.Proofs.Ytojfgckogofkdaa
