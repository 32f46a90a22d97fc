/- Plain words, for any program: a slice of bools that comes in. No statement is proved here. -/
import Derived.Test.YthgenpokpoiakaaBytes
import Derived.Deep.Grids
import Derived.OpenShut
namespace Go.Proofs.Ythgenpokpoiakaa
open Go.RowKit Go.ChangeShapes Go.WideShapes Go.Deep
set_option linter.unusedVariables false

/-- The slice reads as these bools. -/
def RdB (w : World) (A : Option Addr) (n : Nat) (B : Nat → Bool) : Prop :=
  n ≤ 9223372036854775807 ∧ (0 < n → ∃ b off, A = some ⟨b, off, none⟩ ∧ b < w.heap.size ∧ ∀ j, j < n → w.cell? ⟨b, off + j, none⟩ = some (.bool (B j)))
section
variable {w w' : World} {A : Option Addr} {n : Nat} {B : Nat → Bool}
theorem RdB.small (h : RdB w A n B) : n ≤ 9223372036854775807 := h.1
theorem RdB.below (h : RdB w A n B) {b0 : Nat} (hb : Below b0 w w') (hB : w.heap.size ≤ b0) : RdB w' A n B := by
  refine ⟨h.1, fun hn => ?_⟩
  obtain ⟨b, off, hA, hlt, hc⟩ := h.2 hn
  exact ⟨b, off, hA, Nat.lt_of_lt_of_le hlt hb.size, fun j hj => (hb.cell (p := ⟨b, off + j, none⟩) (by simp only; omega)).trans (hc j hj)⟩
/-- Where it lies, in every world in which what was there stays. -/
theorem RdB.at_ (h : RdB w A n B) (hn : 0 < n) : ∃ b off, A = some ⟨b, off, none⟩ ∧ ∀ wx, Below w.heap.size w wx → ∀ j, j < n → wx.cell? ⟨b, off + j, none⟩ = some (.bool (B j)) := by
  obtain ⟨b, off, hA, _, _⟩ := h.2 hn
  refine ⟨b, off, hA, fun wx hb j hj => ?_⟩
  obtain ⟨b2, off2, hA2, _, hc2⟩ := (h.below hb (Nat.le_refl _)).2 hn
  rw [hA] at hA2
  injection hA2 with e
  injection e with e1 e2
  subst e1; subst e2
  exact hc2 j hj
end
theorem addr_at (b o k : Nat) : (⟨b, o, none⟩ : Addr).add k = ⟨b, o + k, none⟩ := by unfold Addr.add; split <;> simp_all
/-- Where a slice of bools came in. -/
theorem open_boolrow {H : Type} {enc : TypeId × Value → H} {P : Program} {w : World} {t e : TypeId} (ht : P.underlying t = some (.slice e)) (he : P.underlying e = some .bool) (hc : P.cellsOf e = 1)
    {a : Option Addr} {len cap : Nat} {d : DataW H} {ps : List MemPlace} (hd : DataW.Trod enc P w 0 (fun _ => true) true t (.slice a len cap) d ps) : ∃ B, RdB w a len B := by
  obtain ⟨fuel, hf⟩ := hd
  rcases open_bools ht he hc hf with ⟨h0, _⟩ | ⟨x, l, c, B, hcs, _, hle, hcap, _, hel⟩
  · simp [Value.cells] at h0
    obtain ⟨rfl, rfl, rfl⟩ := h0
    exact ⟨fun _ => false, by omega, fun hn => absurd hn (by omega)⟩
  · simp [Value.cells] at hcs
    obtain ⟨rfl, rfl, rfl⟩ := hcs
    simp only [maxLen] at hcap
    refine ⟨B, by omega, fun hn => ?_⟩
    have h0 := hel 0 (by omega)
    obtain ⟨b, off, spot⟩ := x
    have hs : spot = none := by
      have := World.cell?_spot h0
      simpa [Addr.add] using this
    subst hs
    refine ⟨b, off, rfl, ?_, fun j hj => ?_⟩
    · have := World.block_lt_of_cell? w _ h0
      rw [addr_at] at this
      exact this
    · have := hel j (by omega)
      rwa [addr_at] at this
end Go.Proofs.Ythgenpokpoiakaa
