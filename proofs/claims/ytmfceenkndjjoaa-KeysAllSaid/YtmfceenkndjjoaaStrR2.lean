/- Contracts of the document's answer of layer 6: the first counter. No statement is proved here. -/
import Derived.Test.YtmfceenkndjjoaaStrR1
namespace Go.Proofs.Ytmfceenkndjjoaa
open Go.RowKit
set_option linter.unusedVariables false

/-- A row of the call's own, in block g1, which is not block G. -/
theorem own_rows {w : World} {base n : Nat} {e : TypeId} {v : Value} {bs : List UInt8} (h : w.ownsRow base e 1 v n (cells bs)) (hn : 0 < n) : ∃ g cap, v = .slice (some ⟨g, 0, none⟩) n cap ∧ base ≤ g ∧ g < w.heap.size ∧ ∀ j, j < n → w.cell? ⟨g, j, none⟩ = some (.int .u8 ((bs.getD j 0).toNat : Int)) := by
  have hl : bs.length = n := by simpa [length_cells] using h.1
  obtain ⟨g, cap, hv, hb, hg⟩ := h.form hn
  subst hv
  exact ⟨g, cap, rfl, hb, hg, fun j hj => (h.cellAt j (by omega)).trans (cells_at (by omega))⟩
theorem cells_only {w w' : World} {g k n : Nat} {f : Nat → Value} (h : ∀ j, j < n → w.cell? ⟨g, j, none⟩ = some (f j)) (ho : Only k w w') (hk : g ≠ k) : ∀ j, j < n → w'.cell? ⟨g, j, none⟩ = some (f j) :=
  fun j hj => (World.cell?_of_block (w := w) (a := ⟨g, j, none⟩) (ho.block g hk)).trans (h j hj)
theorem salt_fill (salt : List UInt8) (h : salt.length = 14) : fillAt (fun i => salt.getD i 0) Z16 14 = saltZ salt := by
  have e : (List.range 14).map (fun i => salt.getD i 0) = salt := list_tab salt h
  rw [fillAt, e]
  rfl

end Go.Proofs.Ytmfceenkndjjoaa
