/- The ops of layer 19's law that come in, opened. No statement is proved here. -/
import Derived.Test.YtjbeheegciacpaaRngPl
import Derived.Test.YtjbeheegciacpaaOpen
namespace Go.Proofs.Ytjbeheegciacpaa
open Go.RowKit Go.ChangeShapes Go.WideShapes Go.Deep
set_option linter.unusedVariables false

theorem list3g {r : List Value} (h : r.length = 3) : ∃ a b c, r = [a, b, c] := by
  match r, h with
  | [a, b, c], _ => exact ⟨a, b, c, rfl⟩
section
variable {H : Type} {enc : TypeId × Value → H} {w : World} {n : Nat}
theorem opened_opgs {v : Value} (h : ∃ y, DataW.trod enc Try.prog w 0 (fun _ => true) true n 22 [v] = some y) : ∃ (A : Option Addr) (c : Nat) (l : List Opg), v = .slice A l.length c ∧ l.length ≤ 9223372036854775807 ∧ RdG 3 w A (l.map Opg.row) ∧ ∀ o ∈ l, OpgRd w o := by
  obtain ⟨A, c, rows, rfl, hmx, hr, hok⟩ := opened_rows 3 rfl Try.underlying22 Try.underlying33 (by kernel_rfl) (by kernel_rfl) (by omega) h
  obtain ⟨L, rfl, hL⟩ := choose_rows (f := Opg.row) (P := OpgRd w) rows (fun r hr => by
    obtain ⟨hl, m, hf⟩ := hok r hr
    obtain ⟨c0, c1, c2, rfl⟩ := list3g hl
    obtain ⟨a, rfl, h0⟩ := opened_n8 Try.underlying5 (hf 0 _ _ rfl rfl)
    obtain ⟨z, rfl, h1⟩ := opened_in Try.underlying2 (hf 1 _ _ rfl rfl)
    obtain ⟨D, d, bs, rfl, h2⟩ := opened_bs Try.underlying31 Try.underlying5 (by kernel_rfl) (hf 2 _ _ rfl rfl)
    exact ⟨⟨a, z, D, d, bs⟩, rfl, h0, bounds_i64 h1, h2⟩)
  rw [List.length_map] at hmx
  exact ⟨A, c, L, by rw [List.length_map], hmx, hr, hL⟩
end
end Go.Proofs.Ytjbeheegciacpaa
