/- What the document's answer for layer 11 (tenailleref11) tells of losses. No statement is proved here. -/
import Derived.Test.YtkmacpmdgbhhkaaRtcpNum
import Derived.Test.YtkmacpmdgbhhkaaOctRef
import Derived.Test.YtkmacpmdgbhhkaaMem2
namespace Go.Proofs.Ytkmacpmdgbhhkaa
open Go.RowKit
set_option linter.unusedVariables false

def hcells (L : List Nat) : List Value := L.map fun x : Nat => .int .u16 (x : Int)
theorem hcells_len (L : List Nat) : (hcells L).length = L.length := by simp [hcells]
theorem hcells_snoc (L : List Nat) (x : Nat) : hcells (L ++ [x]) = hcells L ++ [.int .u16 (x : Int)] := by simp [hcells]
theorem hcells_at {L : List Nat} {j : Nat} (h : j < L.length) : (hcells L)[j]? = some (.int .u16 ((L.getD j 0 : Nat) : Int)) := by simp [hcells, List.getD, h]
theorem u16_inf : (Try.prog.info? 33).map (fun i => (i.zero, i.size, i.bytes)) = some (some (.int .u16 0), 1, 2) := by kernel_rfl

/-- A slice of losses reads as these. -/
def RdL (w : World) (A : Option Addr) (n : Nat) (L : List (Nat × Nat)) : Prop :=
  L.length = n ∧ n ≤ 9223372036854775807 ∧ (∀ a ∈ L, a.1 < 65536 ∧ a.2 < 65536) ∧ (0 < n → ∃ b off, A = some ⟨b, off, none⟩ ∧ b < w.heap.size ∧ ∀ j, j < n → w.cell? ⟨b, off + j * 2, none⟩ = some (.int .u16 (((L.getD j (0, 0)).1 : Nat) : Int)) ∧ w.cell? ⟨b, off + j * 2 + 1, none⟩ = some (.int .u16 (((L.getD j (0, 0)).2 : Nat) : Int)))
theorem RdL.below {w w' : World} {A : Option Addr} {n : Nat} {L : List (Nat × Nat)} (h : RdL w A n L) (hb : Below w.heap.size w w') : RdL w' A n L := by
  refine ⟨h.1, h.2.1, h.2.2.1, fun hn => ?_⟩
  obtain ⟨b, off, hA, hlt, hc⟩ := h.2.2.2 hn
  exact ⟨b, off, hA, Nat.lt_of_lt_of_le hlt hb.size, fun j hj => ⟨(hb.cell (p := ⟨b, off + j * 2, none⟩) hlt).trans (hc j hj).1, (hb.cell (p := ⟨b, off + j * 2 + 1, none⟩) hlt).trans (hc j hj).2⟩⟩

theorem bit_of (b j x : Nat) (h : x = b / 2 ^ j) : b.testBit j = decide (x % 2 = 1) := by rw [h, Nat.testBit_eq_decide_div_mod_eq]
theorem half_of (b j x : Nat) (h : x = b / 2 ^ j) : x / 2 = b / 2 ^ (j + 1) := by rw [h, Nat.div_div_eq_div_mul, Nat.pow_succ]

end Go.Proofs.Ytkmacpmdgbhhkaa
