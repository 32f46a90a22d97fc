/- Plain mathematics on a reader that goes along bytes by one function (package vp8's way). No program is named; no statement is proved here. -/
import Derived.Test.YtpflgkepgoicjaaVpNum
import Derived.Laws.BitsAllLaws
namespace Go.Proofs.Ytpflgkepgoicjaa
open Go.RowKit
set_option linter.unusedVariables false

/-- The next byte, if it is there and none of the bits z is set: what is told, what is left, the error behind it. -/
def nxX (z : Nat) : List UInt8 → Nat
  | [] => 0
  | x :: _ => if x.toNat &&& z = 0 then x.toNat else 0
def nxR (z : Nat) : List UInt8 → List UInt8
  | [] => []
  | x :: t => if x.toNat &&& z = 0 then t else x :: t
def nxC (z : Nat) (q : Nat) : List UInt8 → Nat
  | [] => 2
  | x :: _ => if x.toNat &&& z = 0 then q else 3
theorem nxX_lt (z : Nat) (rs : List UInt8) : nxX z rs < 256 := by
  cases rs with
  | nil => simp [nxX]
  | cons x t =>
    have := UInt8.toNat_lt x
    show (if x.toNat &&& z = 0 then x.toNat else 0) < 256
    split <;> omega
theorem nxC_lt (z q : Nat) (rs : List UInt8) (h : q < 256) : nxC z q rs < 256 := by
  cases rs with
  | nil => simp [nxC]
  | cons x t =>
    show (if x.toNat &&& z = 0 then q else 3) < 256
    split <;> omega
theorem nxR_len (z : Nat) (rs : List UInt8) : (nxR z rs).length ≤ rs.length := by
  cases rs with
  | nil => simp [nxR]
  | cons x t =>
    show (if x.toNat &&& z = 0 then t else x :: t).length ≤ (x :: t).length
    split <;> simp
/-- A number of a picture. -/
def numX (rs : List UInt8) : Nat := if 128 ≤ nxX 0 rs then (nxX 0 rs - 128) * 256 + nxX 0 (nxR 0 rs) else nxX 0 rs
def numW (rs : List UInt8) : Bool := decide (128 ≤ nxX 0 rs)
def numR (rs : List UInt8) : List UInt8 := if 128 ≤ nxX 0 rs then nxR 0 (nxR 0 rs) else nxR 0 rs
def numC (q : Nat) (rs : List UInt8) : Nat := if 128 ≤ nxX 0 rs then nxC 0 (nxC 0 q rs) (nxR 0 rs) else nxC 0 q rs
theorem and128 (x : Nat) (h : x < 256) : bits .and .u8 (x : Int) 128 = if 128 ≤ x then 128 else 0 := by
  have e : ∀ x : Fin 256, x.val &&& 128 = if 128 ≤ x.val then 128 else 0 := by decide +kernel
  rw [show (128 : Int) = ((128 : Nat) : Int) from rfl, u8_and_nat _ _ h (by omega), e ⟨x, h⟩]
  split <;> rfl
theorem and128_0 {x : Nat} (h : x < 256) (h2 : ¬ 128 ≤ x) : bits .and .u8 (x : Int) 128 = 0 := by rw [and128 x h, if_neg h2]
theorem and128_1 {x : Nat} (h : x < 256) (h2 : 128 ≤ x) : bits .and .u8 (x : Int) 128 = 128 := by rw [and128 x h, if_pos h2]
theorem and16 (x : Nat) (h : x < 256) : bits .and .u8 (x : Int) 16 = if x / 16 % 2 = 1 then 16 else 0 := by
  have e : ∀ x : Fin 256, x.val &&& 16 = if x.val / 16 % 2 = 1 then 16 else 0 := by decide +kernel
  rw [show (16 : Int) = ((16 : Nat) : Int) from rfl, u8_and_nat _ _ h (by omega), e ⟨x, h⟩]
  split <;> rfl
theorem and7 (x : Nat) (h : x < 256) : bits .and .u8 (x : Int) 7 = ((x % 8 : Nat) : Int) := by
  have e : ∀ x : Fin 256, x.val &&& 7 = x.val % 8 := by decide +kernel
  rw [show (7 : Int) = ((7 : Nat) : Int) from rfl, u8_and_nat _ _ h (by omega), e ⟨x, h⟩]
theorem not128 (x : Nat) (h : x < 256) : bits .andNot .u8 (x : Int) 128 = ((x % 128 : Nat) : Int) := by
  have e : ∀ x : Fin 256, x.val &&& 127 = x.val % 128 := by decide +kernel
  rw [show (128 : Int) = ((128 : Nat) : Int) from rfl, u8_andNot_nat _ _ h (by omega), e ⟨x, h⟩]
theorem or_low (a b : Nat) (ha : a < 256) (hb : b < 256) : bits .or .u16 ((a * 256 : Nat) : Int) (b : Int) = ((a * 256 + b : Nat) : Int) := by
  rw [u16_or_nat _ _ (by omega) (by omega)]
  congr 1
  have := Nat.two_pow_add_eq_or_of_lt (i := 8) (b := b) (by omega) a
  rw [show a * 256 = 2 ^ 8 * a by omega, this]
end Go.Proofs.Ytpflgkepgoicjaa
