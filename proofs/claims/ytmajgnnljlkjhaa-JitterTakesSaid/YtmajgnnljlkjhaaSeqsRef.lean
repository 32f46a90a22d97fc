/- What the document's answers for layer 2 (tenailleref02) answer: contracts that the proofs of the statements use. No statement is proved here. -/
import Derived.Test.YtmajgnnljlkjhaaSeqs
namespace Go.Proofs.Ytmajgnnljlkjhaa
open Go.RowKit
set_option linter.unusedVariables false

theorem rgone_any (a b : Int) (w : World) (ha : 0 ≤ a) (ha' : a ≤ 4294967295) (hb : 0 ≤ b) (hb' : b ≤ 4294967295) :
    Calls Try.prog 14 #[.int .u32 a, .int .u32 b] w fun e w' => e = .returned (.int .i64 (goneZ a b)) ∧ w = w' := by
  by_cases h : 2147483647 < (b - a + 4294967296) % 4294967296
  · have e : (b - a) % 4294967296 - 4294967296 = goneZ a b := by unfold goneZ; omega
    have HE := Lib.hid e
    clear e
    go_enter Try.func14, Try.ntmps14
    go_wp2
    go_ret
    exact ⟨ret_num HE.out, rfl⟩
  · have e : (b - a) % 4294967296 = goneZ a b := by unfold goneZ; omega
    have HE := Lib.hid e
    clear e
    go_enter Try.func14, Try.ntmps14
    go_wp2
    go_ret
    exact ⟨ret_num HE.out, rfl⟩

theorem likely_of (h s z : Int) (hh : 0 ≤ h) (hs : 0 ≤ s) (hs' : s ≤ 65535) (h1 : h - 32767 ≤ z) (h2 : z ≤ h + 32768) (hz : z % 65536 = s) : likely h s = if z < 0 then z + 65536 else z := by
  unfold likely aheadZ
  split
  · omega
  · split <;> split <;> omega

end Go.Proofs.Ytmajgnnljlkjhaa
