/- What the document's answers for layer 20 (tenailleref20) answer: a new keeper, a report. No statement is proved here. -/
import Derived.Test.YtkmacpmdgbhhkaaLosR5
namespace Go.Proofs.Ytkmacpmdgbhhkaa
open Go.RowKit
set_option linter.unusedVariables false

theorem zeroKpR (w : World) : (zeroValue 41).run Try.prog w = .ok (.agg #[.int .i64 0, .int .i64 0, .slice none 0 0, .slice none 0 0, .slice none 0 0]) w := by kernel_rfl
def newK (p : Int) : Kpr := ⟨if p < 1 then 1 else p, -1, []⟩
theorem newK_ok (p : Int) : KOk (newK p) := ⟨by unfold newK; simp only; split <;> omega, by simp [newK], by simp [newK], by simp [newK], by simp [newK], by simp [newK]⟩
theorem rnew_any20 (p : Int) (w : World) :
    Calls Try.prog 9 #[.int .i64 p] w fun e w' => ∃ g, e = .returned (.pointer (some ⟨g, 0, none⟩)) ∧ Hid (w.heap.size ≤ g ∧ RKp w.heap.size g (newK p) (.slice none 0 0) (.slice none 0 0) (.slice none 0 0) w' ∧ Below w.heap.size w w') := by
  have hz := zeroKpR
  have HB : Hid (∀ q : Int, (newK p).p = q → w.heap.size ≤ w.heap.size ∧ RKp w.heap.size w.heap.size (newK p) (.slice none 0 0) (.slice none 0 0) (.slice none 0 0) (w.alloc (.cells #[.int .i64 q, .int .i64 (-1), .slice none 0 0, .slice none 0 0, .slice none 0 0] 41)) ∧ Below w.heap.size w (w.alloc (.cells #[.int .i64 q, .int .i64 (-1), .slice none 0 0, .slice none 0 0, .slice none 0 0] 41))) := Lib.hid fun q hq => by
    subst hq
    exact ⟨Nat.le_refl _, ⟨BlkV.new w _ _, by simpa [icells, newK] using World.ownsRow_nil _ _ _ _, by simpa [icells, newK] using World.ownsRow_nil _ _ _ _, by simpa [icells, newK] using World.ownsRow_nil _ _ _ _, fun k hk => by simp [Value.ownBlock] at hk⟩, (Below.refl _ _).alloc (Nat.le_refl _) _⟩
  by_cases hp : p < 1
  · have HP : Hid ((newK p).p = 1) := Lib.hid (by unfold newK; rw [if_pos hp])
    go_enter Try.func9, Try.ntmps9
    go_wp2
    go_ret
    exact ⟨w.heap.size, rfl, Lib.hid (HB.out 1 HP.out)⟩
  · have HP : Hid ((newK p).p = p) := Lib.hid (by unfold newK; rw [if_neg hp])
    go_enter Try.func9, Try.ntmps9
    go_wp2
    go_ret
    exact ⟨w.heap.size, rfl, Lib.hid (HB.out p HP.out)⟩
end Go.Proofs.Ytkmacpmdgbhhkaa
