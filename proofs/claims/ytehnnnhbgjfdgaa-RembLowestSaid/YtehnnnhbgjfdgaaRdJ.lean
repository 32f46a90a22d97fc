/- A slice of indices that reads, for any program. No statement is proved here. -/
import Derived.Test.YtehnnnhbgjfdgaaInts
namespace Go.Proofs.Ytehnnnhbgjfdgaa
open Go.RowKit
set_option linter.unusedVariables false

/-- A slice of indices that reads. -/
def RdJ (w : World) (A : Option Addr) (n : Nat) (xs : List Int) : Prop := xs.length = n ∧ (0 < n → ∃ b off, A = some ⟨b, off, none⟩ ∧ b < w.heap.size ∧ ∀ j, j < n → w.cell? ⟨b, off + j, none⟩ = some (.int .i64 (xs.getD j 0)))
theorem RdJ.below {w w' : World} {A : Option Addr} {n : Nat} {xs : List Int} (h : RdJ w A n xs) (hb : Below w.heap.size w w') : RdJ w' A n xs := by
  refine ⟨h.1, fun hn => ?_⟩
  obtain ⟨b, off, hA, hlt, hc⟩ := h.2 hn
  exact ⟨b, off, hA, Nat.lt_of_lt_of_le hlt hb.size, fun j hj => (hb.cell (p := ⟨b, off + j, none⟩) hlt).trans (hc j hj)⟩
theorem RdJ.of_own {w : World} {base n c : Nat} {e : TypeId} {A : Option Addr} {xs : List Int} (h : w.ownsRow base e 1 (.slice A n c) n (icells xs)) : RdJ w A n xs := by
  have hl : xs.length = n := by simpa [icells_len] using h.1
  refine ⟨hl, fun hn => ?_⟩
  obtain ⟨g, c', hv, hb, hlt, hc⟩ := own_ints h hn
  injection hv with e1 e2 e3
  exact ⟨g, 0, e1, hlt, fun j hj => by rw [Nat.zero_add]; exact hc j hj⟩
theorem RdJ.sam {w w' : World} {A : Option Addr} {n : Nat} {xs : List Int} (h : RdJ w A n xs) (hz : w.heap.size ≤ w'.heap.size) (hk : 0 < n → ∀ ad, A = some ad → w'.heap[ad.block]? = w.heap[ad.block]?) : RdJ w' A n xs := by
  refine ⟨h.1, fun hn => ?_⟩
  obtain ⟨b, off, hA, hlt, hc⟩ := h.2 hn
  exact ⟨b, off, hA, Nat.lt_of_lt_of_le hlt hz, fun j hj => (World.cell?_of_block (a := ⟨b, off + j, none⟩) (hk hn ⟨b, off, none⟩ hA)).trans (hc j hj)⟩
end Go.Proofs.Ytehnnnhbgjfdgaa
