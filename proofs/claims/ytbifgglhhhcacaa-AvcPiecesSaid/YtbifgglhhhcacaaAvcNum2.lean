/- Plain mathematics: pieces of a unit of H.264, and the whole one. No program is named; no statement is proved here. -/
import Derived.Test.YtbifgglhhhcacaaAvcNum
namespace Go.Proofs.Ytbifgglhhhcacaa
set_option linter.unusedVariables false

def isK (t : Nat) : Bool := decide (t = 5 ∨ t = 7 ∨ t = 8)
theorem keyA_whole (t : Nat) (ht : 1 ≤ t ∧ t ≤ 23) (xs : List UInt8) : keyA (UInt8.ofNat t :: xs) = isK t := by
  have h0 : bV (UInt8.ofNat t :: xs) 0 = t := by
    show (UInt8.ofNat t).toNat = t
    rw [UInt8.toNat_ofNat']; omega
  have hu := un_one (bs := UInt8.ofNat t :: xs) (by simp) (by rw [h0]; omega)
  rw [h0, Nat.mod_eq_of_lt (by omega)] at hu
  unfold keyA isK
  rw [hu, h0]
  apply decide_eq_decide.2
  simp
  omega
theorem keyA_piece (g t : Nat) (hg : g = 128 ∨ g = 64) (ht : 1 ≤ t ∧ t ≤ 23) (x : UInt8) (xs : List UInt8) : keyA (28 :: UInt8.ofNat (g + t) :: x :: xs) = (decide (g = 128) && isK t) := by
  have h0 : bV (28 :: UInt8.ofNat (g + t) :: x :: xs) 0 = 28 := rfl
  have h1 : bV (28 :: UInt8.ofNat (g + t) :: x :: xs) 1 = g + t := by
    show (UInt8.ofNat (g + t)).toNat = g + t
    rw [UInt8.toNat_ofNat']; omega
  have hu := un_piece (bs := 28 :: UInt8.ofNat (g + t) :: x :: xs) (by simp) (by rw [h0]) (by simp) (by rw [h1]; omega)
  rw [h1, show (g + t) % 32 = t by omega] at hu
  unfold keyA isK
  rw [hu, h0, h1, ← Bool.decide_and]
  apply decide_eq_decide.2
  simp
  omega
end Go.Proofs.Ytbifgglhhhcacaa
