/- What package seqs answers, and what the document's answers for layer 2 (tenailleref02) answer: contracts that the proofs of the statements use. No statement is proved here. -/
import Derived.Test.YtojfgckogofkdaaProg
import Derived.WalkKit
import Derived.KernelRfl
import Derived.IntWalk
import Derived.LoopTactic
import Derived.Lib.Hide
import Derived.OpenShut
namespace Go.Proofs.Ytojfgckogofkdaa
open Go.RowKit
set_option linter.unusedVariables false

/-- How far the number b is ahead of a. -/
def aheadZ (a b : Int) : Int := (b - a + 32768) % 65536 - 32768
/-- How far the stamp b is ahead of a. -/
def goneZ (a b : Int) : Int := (b - a + 2147483648) % 4294967296 - 2147483648
/-- The likely index. -/
def likely (h s : Int) : Int := if h < 0 then s else if h < aheadZ s h then h - aheadZ s h + 65536 else h - aheadZ s h

theorem aheadZ_bd (a b : Int) : -32768 ≤ aheadZ a b ∧ aheadZ a b ≤ 32767 := by unfold aheadZ; omega
theorem goneZ_bd (a b : Int) : -2147483648 ≤ goneZ a b ∧ goneZ a b ≤ 2147483647 := by unfold goneZ; omega
theorem ret_num {k : IntKind} {a b : Int} (h : a = b) : Ending.returned (.int k a) = .returned (.int k b) := by rw [h]
theorem ret_bool {a b : Bool} (h : a = b) : Ending.returned (.bool a) = .returned (.bool b) := by rw [h]

theorem wrap_u16_ (n : Int) : IntKind.u16.wrap n = n % 65536 := by simp [IntKind.wrap, IntKind.bits, IntKind.signed]
theorem wrap_i16_ (n : Int) : IntKind.i16.wrap n = (n + 32768) % 65536 - 32768 := by simp [IntKind.wrap, IntKind.bits, IntKind.signed]; omega

theorem ahead_eq (a b : Int) : wrap64 (IntKind.i16.wrap (IntKind.u16.wrap (b - a))) = aheadZ a b := by
  rw [wrap_u16_, wrap_i16_]; unfold wrap64 aheadZ; omega
theorem gone_eq (a b : Int) : wrap64 (wrap32 ((b - a) % 4294967296)) = goneZ a b := by
  unfold wrap64 wrap32 goneZ; omega
theorem ahead_mod (s h : Int) : aheadZ s (h % 65536) = aheadZ s h := by unfold aheadZ; omega

theorem seq_any (i : Int) (w : World) :
    Calls Try.prog 14 #[.int .i64 i] w fun e w' => e = .returned (.int .u16 (i % 65536)) ∧ w = w' := by
  go_enter Try.func14, Try.ntmps14
  go_wp2
  go_ret
  exact ⟨ret_num (wrap_u16_ i), rfl⟩

theorem ahead_any (a b : Int) (w : World) (ha : 0 ≤ a) (ha' : a ≤ 65535) (hb : 0 ≤ b) (hb' : b ≤ 65535) :
    Calls Try.prog 7 #[.int .u16 a, .int .u16 b] w fun e w' => e = .returned (.int .i64 (aheadZ a b)) ∧ w = w' := by
  go_enter Try.func7, Try.ntmps7
  go_wp2
  go_ret
  exact ⟨ret_num (ahead_eq a b), rfl⟩

theorem later_any (a b : Int) (w : World) (ha : 0 ≤ a) (ha' : a ≤ 65535) (hb : 0 ≤ b) (hb' : b ≤ 65535) :
    Calls Try.prog 9 #[.int .u16 a, .int .u16 b] w fun e w' => e = .returned (.bool (decide (0 < aheadZ a b))) ∧ w = w' := by
  have hd := aheadZ_bd a b
  go_enter Try.func9, Try.ntmps9
  go_wp2_with (go_at_call 7; refine (ahead_any _ _ _ (by omega) (by omega) (by omega) (by omega)).mono ?_; rintro e w' ⟨rfl, rfl⟩)
  go_ret
  exact ⟨rfl, rfl⟩

theorem gone_any (a b : Int) (w : World) (ha : 0 ≤ a) (ha' : a ≤ 4294967295) (hb : 0 ≤ b) (hb' : b ≤ 4294967295) :
    Calls Try.prog 10 #[.int .u32 a, .int .u32 b] w fun e w' => e = .returned (.int .i64 (goneZ a b)) ∧ w = w' := by
  go_enter Try.func10, Try.ntmps10
  go_wp2
  go_ret
  exact ⟨ret_num (gone_eq a b), rfl⟩

theorem likely_neg (h s : Int) (hh : h < 0) : likely h s = s := by simp [likely, hh]
theorem likely_hi (h s : Int) (hh : 0 ≤ h) (hd : h < aheadZ s h) : likely h s = h - aheadZ s h + 65536 := by
  simp only [likely, show ¬ h < 0 by omega, if_false, hd, if_true]
theorem likely_in (h s : Int) (hh : 0 ≤ h) (hd : aheadZ s h ≤ h) : likely h s = h - aheadZ s h := by
  simp only [likely, show ¬ h < 0 by omega, show ¬ h < aheadZ s h by omega, if_false]

theorem index_any (h s : Int) (w : World) (hl : -9223372036854775808 ≤ h) (hh : h ≤ 4611686018427387904) (hs : 0 ≤ s) (hs' : s ≤ 65535) :
    Calls Try.prog 12 #[.int .i64 h, .int .u16 s] w fun e w' => e = .returned (.int .i64 (likely h s)) ∧ w = w' := by
  by_cases h0 : h < 0
  · rw [likely_neg h s h0]
    go_enter Try.func12, Try.ntmps12
    go_wp2
    go_ret
    exact ⟨rfl, rfl⟩
  have h0' : 0 ≤ h := by omega
  clear h0
  obtain ⟨d, hd⟩ : ∃ d, d = aheadZ s h := ⟨_, rfl⟩
  have hb := aheadZ_bd s h
  have hm := ahead_mod s h
  have HI := likely_hi h s h0'
  have HN := likely_in h s h0'
  rw [← hd] at hb hm HI HN
  clear hd
  have HM := Lib.hid hm
  clear hm
  have HA : ∀ w, Calls Try.prog 7 #[.int .u16 s, .int .u16 (h % 65536)] w fun e w' => e = .returned (.int .i64 d) ∧ w = w' := fun w => by
    have := ahead_any s (h % 65536) w hs hs' (by omega) (by omega)
    rw [HM.out] at this
    exact this
  have HA' := Lib.hid HA
  clear HA HM
  by_cases hc : h < d
  · rw [HI hc]
    clear HI HN
    go_enter Try.func12, Try.ntmps12
    go_wp2_with (first
      | (go_at_call 14; refine (seq_any _ _).mono ?_; rintro e w' ⟨rfl, rfl⟩)
      | (go_at_call 7; refine (Hid.out HA' _).mono ?_; rintro e w' ⟨rfl, rfl⟩))
    go_ret
    exact ⟨rfl, rfl⟩
  · have hc' : d ≤ h := by omega
    rw [HN hc']
    clear HI HN hc
    have hq : h - 9223372036854775807 ≤ d := by omega
    go_enter Try.func12, Try.ntmps12
    go_wp2_with (first
      | (go_at_call 14; refine (seq_any _ _).mono ?_; rintro e w' ⟨rfl, rfl⟩)
      | (go_at_call 7; refine (Hid.out HA' _).mono ?_; rintro e w' ⟨rfl, rfl⟩))
    go_ret
    exact ⟨rfl, rfl⟩
end Go.Proofs.Ytojfgckogofkdaa
