/- Plain mathematics on payloads of H.264: the units' types. No program is named; no statement is proved here. -/
import Derived.Test.YtbifgglhhhcacaaVpNum
namespace Go.Proofs.Ytbifgglhhhcacaa
set_option linter.unusedVariables false

/-- The units of several, from a place on; those before; why there are none (0: there are). -/
def avGo (bs : List UInt8) : Nat → List Nat → Nat → List Nat × Nat
  | 0, _, _ => ([], 2)
  | k + 1, acc, a =>
    if bs.length < a + 2 then ([], 2)
    else if 256 * bV bs a + bV bs (a + 1) = 0 then ([], 3)
    else if bs.length < a + 2 + (256 * bV bs a + bV bs (a + 1)) then ([], 2)
    else if bV bs (a + 2) % 32 = 0 then ([], 3)
    else if a + 2 + (256 * bV bs a + bV bs (a + 1)) = bs.length then (acc ++ [bV bs (a + 2) % 32], 0)
    else avGo bs k (acc ++ [bV bs (a + 2) % 32]) (a + 2 + (256 * bV bs a + bV bs (a + 1)))
def unitsA (bs : List UInt8) : List Nat × Nat :=
  if bs.length < 1 then ([], 2)
  else if 1 ≤ bV bs 0 % 32 ∧ bV bs 0 % 32 ≤ 23 then ([bV bs 0 % 32], 0)
  else if bV bs 0 % 32 = 28 then
    (if bs.length < 3 then ([], 2)
    else if bV bs 1 / 32 % 2 = 1 ∨ 192 ≤ bV bs 1 ∨ bV bs 1 % 32 < 1 ∨ 23 < bV bs 1 % 32 then ([], 3)
    else ([bV bs 1 % 32], 0))
  else if bV bs 0 % 32 ≠ 24 then ([], 3)
  else avGo bs bs.length [] 1
def keyA (bs : List UInt8) : Bool := decide ((unitsA bs).2 = 0 ∧ ¬ (bV bs 0 % 32 = 28 ∧ bV bs 1 < 128) ∧ ∃ u ∈ (unitsA bs).1, u = 5 ∨ u = 7 ∨ u = 8)
theorem un_none {bs : List UInt8} (h : bs.length < 1) : unitsA bs = ([], 2) := by unfold unitsA; rw [if_pos h]
theorem un_one {bs : List UInt8} (h : ¬ bs.length < 1) (h1 : 1 ≤ bV bs 0 % 32 ∧ bV bs 0 % 32 ≤ 23) : unitsA bs = ([bV bs 0 % 32], 0) := by unfold unitsA; rw [if_neg h, if_pos h1]
theorem un_short {bs : List UInt8} (h : ¬ bs.length < 1) (h1 : bV bs 0 % 32 = 28) (h2 : bs.length < 3) : unitsA bs = ([], 2) := by unfold unitsA; rw [if_neg h, if_neg (by omega), if_pos h1, if_pos h2]
theorem un_bad {bs : List UInt8} (h : ¬ bs.length < 1) (h1 : bV bs 0 % 32 = 28) (h2 : ¬ bs.length < 3) (h3 : bV bs 1 / 32 % 2 = 1 ∨ 192 ≤ bV bs 1 ∨ bV bs 1 % 32 < 1 ∨ 23 < bV bs 1 % 32) : unitsA bs = ([], 3) := by unfold unitsA; rw [if_neg h, if_neg (by omega), if_pos h1, if_neg h2, if_pos h3]
theorem un_piece {bs : List UInt8} (h : ¬ bs.length < 1) (h1 : bV bs 0 % 32 = 28) (h2 : ¬ bs.length < 3) (h3 : ¬ (bV bs 1 / 32 % 2 = 1 ∨ 192 ≤ bV bs 1 ∨ bV bs 1 % 32 < 1 ∨ 23 < bV bs 1 % 32)) : unitsA bs = ([bV bs 1 % 32], 0) := by unfold unitsA; rw [if_neg h, if_neg (by omega), if_pos h1, if_neg h2, if_neg h3]
theorem un_other {bs : List UInt8} (h : ¬ bs.length < 1) (h1 : ¬ (1 ≤ bV bs 0 % 32 ∧ bV bs 0 % 32 ≤ 23)) (h2 : ¬ bV bs 0 % 32 = 28) (h3 : bV bs 0 % 32 ≠ 24) : unitsA bs = ([], 3) := by unfold unitsA; rw [if_neg h, if_neg h1, if_neg h2, if_pos h3]
theorem un_many {bs : List UInt8} (h : ¬ bs.length < 1) (h1 : bV bs 0 % 32 = 24) : unitsA bs = avGo bs bs.length [] 1 := by unfold unitsA; rw [if_neg h, if_neg (by omega), if_neg (by omega), if_neg (by omega)]
end Go.Proofs.Ytbifgglhhhcacaa
