/- Plain words, for any program: a slice of integers of any kind that comes in. No statement is proved here. -/
import Derived.Test.YtmajgnnljlkjhaaMem
namespace Go.Proofs.Ytmajgnnljlkjhaa
open Go.RowKit
set_option linter.unusedVariables false

/-- The slice reads as these integers of the kind k. -/
def RdK (k : IntKind) (w : World) (A : Option Addr) (n : Nat) (zs : List Int) : Prop :=
  zs.length = n ∧ n ≤ 9223372036854775807 ∧ (∀ z ∈ zs, (Lit.int k z).wf = true) ∧
  (0 < n → ∃ b off, A = some ⟨b, off, none⟩ ∧ b < w.heap.size ∧ ∀ j, j < n → w.cell? ⟨b, off + j, none⟩ = some (.int k (zs.getD j 0)))
section
variable {k : IntKind} {w w' : World} {A : Option Addr} {n : Nat} {zs : List Int}
theorem RdK.len (h : RdK k w A n zs) : zs.length = n := h.1
theorem RdK.small (h : RdK k w A n zs) : n ≤ 9223372036854775807 := h.2.1
theorem RdK.wf (h : RdK k w A n zs) {j : Nat} (hj : j < n) : (Lit.int k (zs.getD j 0)).wf = true := by
  have hl := h.len
  have : j < zs.length := by omega
  rw [List.getD_eq_getElem?_getD, List.getElem?_eq_getElem this, Option.getD_some]
  exact h.2.2.1 _ (List.getElem_mem this)
theorem RdK.below (h : RdK k w A n zs) {B : Nat} (hb : Below B w w') (hB : w.heap.size ≤ B) : RdK k w' A n zs := by
  refine ⟨h.1, h.2.1, h.2.2.1, fun hn => ?_⟩
  obtain ⟨b, off, hA, hlt, hc⟩ := h.2.2.2 hn
  exact ⟨b, off, hA, Nat.lt_of_lt_of_le hlt hb.size, fun j hj => (hb.cell (p := ⟨b, off + j, none⟩) (by simp only; omega)).trans (hc j hj)⟩
theorem RdK.drew (h : RdK k w A n zs) : RdK k w.drew A n zs := h
/-- Where it lies, in every world in which what was there stays. -/
theorem RdK.at_ (h : RdK k w A n zs) (hn : 0 < n) : ∃ b off, A = some ⟨b, off, none⟩ ∧ ∀ wx, Below w.heap.size w wx → ∀ j, j < n → wx.cell? ⟨b, off + j, none⟩ = some (.int k (zs.getD j 0)) := by
  obtain ⟨b, off, hA, hlt, hc⟩ := h.2.2.2 hn
  exact ⟨b, off, hA, fun wx hb j hj => (hb.cell (p := ⟨b, off + j, none⟩) hlt).trans (hc j hj)⟩
/-- Where a slice came in as a row of integers. -/
theorem RdK.of_row {a : Option Addr} {len cap : Nat}
    (h : (a = none ∧ len = 0 ∧ cap = 0 ∧ zs = []) ∨
      ∃ x, a = some x ∧ len ≤ cap ∧ cap ≤ maxLen ∧ zs.length = cap ∧ (∀ i, i < zs.length → w.cell? (x.add i) = some (.int k (zs.getD i 0))) ∧ ∀ n ∈ zs, (Lit.int k n).wf = true) :
    RdK k w a len (zs.take len) := by
  rcases h with ⟨rfl, rfl, rfl, rfl⟩ | ⟨x, rfl, hl, hm, hz, hc, hw⟩
  · exact ⟨rfl, by omega, by simp, fun h => absurd h (by omega)⟩
  · simp only [maxLen] at hm
    refine ⟨by simp; omega, by omega, fun z hz' => hw z (List.mem_of_mem_take hz'), fun hn => ?_⟩
    obtain ⟨b, off, spot⟩ := x
    have h0 := hc 0 (by omega)
    have hs : spot = none := by simpa [Addr.add] using World.cell?_spot h0
    subst hs
    refine ⟨b, off, rfl, ?_, fun j hj => ?_⟩
    · have := World.block_lt_of_cell? w _ h0
      rw [add_lit] at this
      exact this
    · have hcj := hc j (by omega)
      rw [add_lit] at hcj
      rw [hcj]
      simp [List.getD, hj]
end
end Go.Proofs.Ytmajgnnljlkjhaa
