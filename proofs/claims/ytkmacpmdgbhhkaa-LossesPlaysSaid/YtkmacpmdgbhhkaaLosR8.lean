/- What the document's answers for layer 20 (tenailleref20) answer: a tick's asking. No statement is proved here. -/
import Derived.Test.YtkmacpmdgbhhkaaLosR7
namespace Go.Proofs.Ytkmacpmdgbhhkaa
open Go.RowKit
set_option linter.unusedVariables false

theorem RdH.of_ownK {w : World} {base n c : Nat} {A : Option Addr} {e : TypeId} {L : List Nat} (h : w.ownsRow base e 1 (.slice A n c) n (hcells L)) (hn : n ≤ 9223372036854775807) (hL : ∀ x ∈ L, x < 65536) : RdH w A n L := by
  have hl : L.length = n := by simpa [hcells_len] using h.1
  refine ⟨hl, hn, hL, fun h0 => ?_⟩
  obtain ⟨g, c', hv, hb, hlt⟩ := h.form h0
  injection hv with hv _ _
  exact ⟨g, 0, hv, hlt, fun j hj => by
    have h2 := h
    rw [hv] at h2
    rw [Nat.zero_add, show w.cell? ⟨g, j, none⟩ = _ from (by
      obtain ⟨g3, c3, hv3, _, _⟩ := h2.form h0
      injection hv3 with e3 _ _
      exact h2.cellAt j (by omega)), hcells_at (by omega)]⟩

/-- A tick's asking under way: the keeper, and what is asked so far. -/
def Ask20 (w : World) (g : Nat) (F : Nat → Prop) (p hh tk : Int) (D : List Mis) (k : Nat) (vl : Value) (m : Nat) (wr : World) : Prop :=
  ∃ M l vI vT vN, Way20 w g F ⟨p, hh, M⟩ vI vT vN wr ∧ AskW p tk D k M l ∧ wr.ownsRow w.heap.size 33 1 vl m (hcells l) ∧ (∀ x ∈ l, x < 65536) ∧ (m = 0 → vl = .slice none 0 0)
/-- It is asked: what is left out stands there still. -/
def Asked20 (w : World) (g : Nat) (F : Nat → Prop) (p hh tk : Int) (D : List Mis) (vl : Value) (m : Nat) (wr : World) : Prop :=
  ∃ M l vI vT vN, Way20 w g F ⟨p, hh, M⟩ vI vT vN wr ∧ askM p tk D [] = (M, l) ∧ M.length = D.length ∧ wr.ownsRow w.heap.size 33 1 vl m (hcells l) ∧ (∀ x ∈ l, x < 65536)

end Go.Proofs.Ytkmacpmdgbhhkaa
