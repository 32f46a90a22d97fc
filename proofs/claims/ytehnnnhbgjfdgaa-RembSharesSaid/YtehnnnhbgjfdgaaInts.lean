/- Plain words, for any program: rows of int64, as lists; a slice of them that reads; a row of the call's own. No statement is proved here. -/
import Derived.Test.YtehnnnhbgjfdgaaMem2
namespace Go.Proofs.Ytehnnnhbgjfdgaa
open Go.RowKit
set_option linter.unusedVariables false

/-- The cells of a row of int64. -/
def icells (L : List Int) : List Value := L.map fun z => .int .i64 z
theorem icells_len (L : List Int) : (icells L).length = L.length := by simp [icells]
theorem icells_at {L : List Int} {j : Nat} (h : j < L.length) : (icells L)[j]? = some (.int .i64 (L.getD j 0)) := by simp [icells, List.getD, h]
theorem icells_snoc (L : List Int) (x : Int) : icells (L ++ [x]) = icells L ++ [.int .i64 x] := by simp [icells]

/-- The slice reads as these int64. -/
def RdI (w : World) (A : Option Addr) (n : Nat) (zs : List Int) : Prop :=
  zs.length = n ∧ n ≤ 9223372036854775807 ∧ (∀ z ∈ zs, -9223372036854775808 ≤ z ∧ z ≤ 9223372036854775807) ∧
  (0 < n → ∃ b off, A = some ⟨b, off, none⟩ ∧ b < w.heap.size ∧ ∀ j, j < n → w.cell? ⟨b, off + j, none⟩ = some (.int .i64 (zs.getD j 0)))
theorem RdI.len {w : World} {A : Option Addr} {n : Nat} {zs : List Int} (h : RdI w A n zs) : zs.length = n := h.1
theorem RdI.small {w : World} {A : Option Addr} {n : Nat} {zs : List Int} (h : RdI w A n zs) : n ≤ 9223372036854775807 := h.2.1
theorem RdI.bd {w : World} {A : Option Addr} {n : Nat} {zs : List Int} (h : RdI w A n zs) {j : Nat} (hj : j < n) : -9223372036854775808 ≤ zs.getD j 0 ∧ zs.getD j 0 ≤ 9223372036854775807 := by
  have hl := h.len
  have : j < zs.length := by omega
  rw [List.getD_eq_getElem?_getD, List.getElem?_eq_getElem this, Option.getD_some]
  exact h.2.2.1 _ (List.getElem_mem this)
theorem RdI.below {w w' : World} {A : Option Addr} {n : Nat} {zs : List Int} (h : RdI w A n zs) {B : Nat} (hb : Below B w w') (hB : w.heap.size ≤ B) : RdI w' A n zs := by
  refine ⟨h.1, h.2.1, h.2.2.1, fun hn => ?_⟩
  obtain ⟨b, off, hA, hlt, hc⟩ := h.2.2.2 hn
  exact ⟨b, off, hA, Nat.lt_of_lt_of_le hlt hb.size, fun j hj => (hb.cell (p := ⟨b, off + j, none⟩) (by simp only; omega)).trans (hc j hj)⟩
theorem RdI.drew {w : World} {A : Option Addr} {n : Nat} {zs : List Int} (h : RdI w A n zs) : RdI w.drew A n zs := h
/-- One of its values, at its place. -/
theorem RdI.at_ {w : World} {A : Option Addr} {n : Nat} {zs : List Int} (h : RdI w A n zs) {j : Nat} (hj : j < n) : ∃ ad, A = some ad ∧ w.cell? (ad.add j) = some (.int .i64 (zs.getD j 0)) := by
  obtain ⟨b, off, hA, _, hc⟩ := h.2.2.2 (by omega)
  exact ⟨_, hA, by rw [add_lit]; exact hc j hj⟩
/-- Where a slice came in as a row of int64. -/
theorem RdI.of_row {w : World} {a : Option Addr} {len cap : Nat} {zs : List Int}
    (h : (a = none ∧ len = 0 ∧ cap = 0 ∧ zs = []) ∨
      ∃ x, a = some x ∧ len ≤ cap ∧ cap ≤ maxLen ∧ zs.length = cap ∧ (∀ i, i < zs.length → w.cell? (x.add i) = some (.int .i64 (zs.getD i 0))) ∧ ∀ n ∈ zs, (Lit.int .i64 n).wf = true) :
    RdI w a len (zs.take len) := by
  rcases h with ⟨rfl, rfl, rfl, rfl⟩ | ⟨x, rfl, hl, hm, hz, hc, hw⟩
  · exact ⟨rfl, by omega, by simp, fun h => absurd h (by omega)⟩
  · simp only [maxLen] at hm
    refine ⟨by simp; omega, by omega, fun z hz' => bounds_i64 (hw z (List.mem_of_mem_take hz')), fun hn => ?_⟩
    obtain ⟨b, off, spot⟩ := x
    have h0 := hc 0 (by omega)
    have hs : spot = none := by simpa [Addr.add] using World.cell?_spot h0
    subst hs
    refine ⟨b, off, rfl, ?_, fun j hj => ?_⟩
    · have := World.block_lt_of_cell? w _ h0
      rw [add_lit] at this
      exact this
    · have hcj := hc j (by omega)
      rw [add_lit] at hcj
      rw [hcj]
      simp [List.getD, hj]
/-- A row of the call's own that isn't empty. -/
theorem own_ints {w : World} {base n : Nat} {e : TypeId} {v : Value} {L : List Int} (h : w.ownsRow base e 1 v n (icells L)) (hn : 0 < n) :
    ∃ g c, v = .slice (some ⟨g, 0, none⟩) n c ∧ base ≤ g ∧ g < w.heap.size ∧ ∀ j, j < n → w.cell? ⟨g, j, none⟩ = some (.int .i64 (L.getD j 0)) := by
  have hl : L.length = n := by simpa [icells_len] using h.1
  obtain ⟨g, c, rfl, hb, hlt⟩ := h.form hn
  exact ⟨g, c, rfl, hb, hlt, fun j hj => by rw [h.cellAt j (by omega), icells_at (by omega)]⟩
theorem own_keep {w w' : World} {base n : Nat} {e : TypeId} {v : Value} {xs : List Value} (h : w.ownsRow base e 1 v n xs) (hb : Below w.heap.size w w') : w'.ownsRow base e 1 v n xs :=
  h.kept (grown_of_below hb none) (by cases v.ownBlock <;> simp)
end Go.Proofs.Ytehnnnhbgjfdgaa
