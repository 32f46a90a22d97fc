/- What package seqs answers, and what the document's answers for layer 2 (tenailleref02) answer: contracts that the proofs of the statements use. No statement is proved here. -/
import Derived.Test.YtmajgnnljlkjhaaProg
import Derived.WalkKit
import Derived.KernelRfl
import Derived.IntWalk
import Derived.LoopTactic
import Derived.Lib.Hide
import Derived.OpenShut
namespace Go.Proofs.Ytmajgnnljlkjhaa
open Go.RowKit
set_option linter.unusedVariables false

/-- How far the number b is ahead of a. -/
def aheadZ (a b : Int) : Int := (b - a + 32768) % 65536 - 32768
/-- How far the stamp b is ahead of a. -/
def goneZ (a b : Int) : Int := (b - a + 2147483648) % 4294967296 - 2147483648
/-- The likely index. -/
def likely (h s : Int) : Int := if h < 0 then s else if h < aheadZ s h then h - aheadZ s h + 65536 else h - aheadZ s h

theorem aheadZ_bd (a b : Int) : -32768 ≤ aheadZ a b ∧ aheadZ a b ≤ 32767 := by unfold aheadZ; omega
theorem goneZ_bd (a b : Int) : -2147483648 ≤ goneZ a b ∧ goneZ a b ≤ 2147483647 := by unfold goneZ; omega
theorem ret_num {k : IntKind} {a b : Int} (h : a = b) : Ending.returned (.int k a) = .returned (.int k b) := by rw [h]
theorem ret_bool {a b : Bool} (h : a = b) : Ending.returned (.bool a) = .returned (.bool b) := by rw [h]

theorem wrap_u16_ (n : Int) : IntKind.u16.wrap n = n % 65536 := by simp [IntKind.wrap, IntKind.bits, IntKind.signed]
theorem wrap_i16_ (n : Int) : IntKind.i16.wrap n = (n + 32768) % 65536 - 32768 := by simp [IntKind.wrap, IntKind.bits, IntKind.signed]; omega

theorem ahead_eq (a b : Int) : wrap64 (IntKind.i16.wrap (IntKind.u16.wrap (b - a))) = aheadZ a b := by
  rw [wrap_u16_, wrap_i16_]; unfold wrap64 aheadZ; omega
theorem gone_eq (a b : Int) : wrap64 (wrap32 ((b - a) % 4294967296)) = goneZ a b := by
  unfold wrap64 wrap32 goneZ; omega
theorem ahead_mod (s h : Int) : aheadZ s (h % 65536) = aheadZ s h := by unfold aheadZ; omega

theorem gone_any (a b : Int) (w : World) (ha : 0 ≤ a) (ha' : a ≤ 4294967295) (hb : 0 ≤ b) (hb' : b ≤ 4294967295) :
    Calls Try.prog 15 #[.int .u32 a, .int .u32 b] w fun e w' => e = .returned (.int .i64 (goneZ a b)) ∧ w = w' := by
  go_enter Try.func15, Try.ntmps15
  go_wp2
  go_ret
  exact ⟨ret_num (gone_eq a b), rfl⟩

theorem likely_neg (h s : Int) (hh : h < 0) : likely h s = s := by simp [likely, hh]
theorem likely_hi (h s : Int) (hh : 0 ≤ h) (hd : h < aheadZ s h) : likely h s = h - aheadZ s h + 65536 := by
  simp only [likely, show ¬ h < 0 by omega, if_false, hd, if_true]
theorem likely_in (h s : Int) (hh : 0 ≤ h) (hd : aheadZ s h ≤ h) : likely h s = h - aheadZ s h := by
  simp only [likely, show ¬ h < 0 by omega, show ¬ h < aheadZ s h by omega, if_false]

end Go.Proofs.Ytmajgnnljlkjhaa
