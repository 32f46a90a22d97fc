/- What the document's answer for layer 14 (tenailleref14) tells: does a whole picture begin (Key). No statement is proved here. -/
import Derived.Test.YtbifgglhhhcacaaAvcR2
namespace Go.Proofs.Ytbifgglhhhcacaa
open Go.RowKit
set_option linter.unusedVariables false

theorem nI_getD (L : List Nat) (k : Nat) : (nI L).getD k 0 = ((L.getD k 0 : Nat) : Int) := by
  unfold nI
  simp only [List.getD, List.getElem?_map]
  cases L[k]? <;> rfl
theorem un_ok {bs : List UInt8} (h : (unitsA bs).2 = 0) : 1 ≤ bs.length ∧ (bV bs 0 % 32 = 28 → 3 ≤ bs.length) := by
  by_cases h1 : bs.length < 1
  · rw [un_none h1] at h; simp at h
  refine ⟨by omega, fun h28 => ?_⟩
  by_cases h3 : bs.length < 3
  · rw [un_short h1 h28 h3] at h; simp at h
  · omega
end Go.Proofs.Ytbifgglhhhcacaa
