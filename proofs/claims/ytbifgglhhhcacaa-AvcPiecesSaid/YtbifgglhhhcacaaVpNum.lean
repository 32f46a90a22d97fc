/- Plain mathematics on what payloads of VP8 begin with. No program is named; no statement is proved here. -/
import Derived.Test.YtbifgglhhhcacaaBytes
namespace Go.Proofs.Ytbifgglhhhcacaa
set_option linter.unusedVariables false

/-- What a payload begins with. -/
structure Vp where
  st : Bool
  part : Nat
  has : Bool
  wide : Bool
  pic : Nat
  key : Bool
  head : Nat
def vC (v : Vp) : List Value := [.bool v.st, .int .u8 (v.part : Int), .bool v.has, .bool v.wide, .int .u16 (v.pic : Int), .bool v.key, .int .i64 (v.head : Int)]
def noV : Vp := ⟨false, 0, false, false, 0, false, 0⟩
def bV (bs : List UInt8) (i : Nat) : Nat := (bs.getD i 0).toNat
theorem bV_lt (bs : List UInt8) (i : Nat) : bV bs i < 256 := UInt8.toNat_lt _
/-- The second byte; how many bytes these two are; whether a number is there, of 15 bits; the number. -/
def secV (bs : List UInt8) : Nat := if 128 ≤ bV bs 0 then bV bs 1 else 0
def fstV (bs : List UInt8) : Nat := if 128 ≤ bV bs 0 then 2 else 1
def hasV (bs : List UInt8) : Bool := decide (128 ≤ secV bs)
def wideV (bs : List UInt8) : Bool := hasV bs && decide (128 ≤ bV bs 2)
def picV (bs : List UInt8) : Nat := if wideV bs then (bV bs 2 - 128) * 256 + bV bs 3 else if hasV bs then bV bs 2 else 0
def at1V (bs : List UInt8) : Nat := fstV bs + (if hasV bs then (if wideV bs then 2 else 1) else 0)
def at2V (bs : List UInt8) : Nat := at1V bs + (if secV bs / 64 % 2 = 1 then 1 else 0)
def at3V (bs : List UInt8) : Nat := at2V bs + (if secV bs / 32 % 2 = 1 ∨ secV bs / 16 % 2 = 1 then 1 else 0)
def keyV (bs : List UInt8) : Bool := decide ((bV bs 0 / 16 % 2 = 1 ∧ bV bs 0 % 8 = 0) ∧ at3V bs < bs.length ∧ bV bs (at3V bs) % 2 = 0)
/-- Why it isn't read; 0: it is. -/
def whyV (bs : List UInt8) : Nat :=
  if bs.length < 1 then 2
  else if bV bs 0 / 64 % 2 = 1 ∨ bV bs 0 / 8 % 2 = 1 then 3
  else if 128 ≤ bV bs 0 ∧ bs.length < 2 then 2
  else if 0 < secV bs % 16 then 3
  else if hasV bs = true ∧ bs.length ≤ 2 then 2
  else if wideV bs = true ∧ bs.length ≤ 3 then 2
  else if bs.length < at3V bs then 2
  else 0
def vpV (bs : List UInt8) : Vp := if whyV bs = 0 then ⟨decide (bV bs 0 / 16 % 2 = 1), bV bs 0 % 8, hasV bs, wideV bs, picV bs, keyV bs, at3V bs⟩ else noV
/-- Where the number stands. -/
def plcV (bs : List UInt8) : Nat := if whyV bs = 0 ∧ hasV bs = true then 2 else 0
theorem why_none {bs : List UInt8} (h : bs.length < 1) : whyV bs = 2 := by unfold whyV; rw [if_pos h]
theorem why_bits {bs : List UInt8} (h : ¬ bs.length < 1) (h2 : bV bs 0 / 64 % 2 = 1 ∨ bV bs 0 / 8 % 2 = 1) : whyV bs = 3 := by unfold whyV; rw [if_neg h, if_pos h2]
/-- The first byte is whole. -/
def G1 (bs : List UInt8) : Prop := ¬ bs.length < 1 ∧ ¬ (bV bs 0 / 64 % 2 = 1 ∨ bV bs 0 / 8 % 2 = 1)
theorem why_second {bs : List UInt8} (g : G1 bs) (h : 128 ≤ bV bs 0) (h2 : bs.length < 2) : whyV bs = 2 := by unfold whyV; rw [if_neg g.1, if_neg g.2, if_pos ⟨h, h2⟩]
theorem why_low {bs : List UInt8} (g : G1 bs) (h2 : ¬ (128 ≤ bV bs 0 ∧ bs.length < 2)) (h : 0 < secV bs % 16) : whyV bs = 3 := by unfold whyV; rw [if_neg g.1, if_neg g.2, if_neg h2, if_pos h]
/-- The second one is. -/
def G2 (bs : List UInt8) : Prop := G1 bs ∧ ¬ (128 ≤ bV bs 0 ∧ bs.length < 2) ∧ ¬ 0 < secV bs % 16
theorem why_num {bs : List UInt8} (g : G2 bs) (h : hasV bs = true) (h2 : bs.length ≤ 2) : whyV bs = 2 := by unfold whyV; rw [if_neg g.1.1, if_neg g.1.2, if_neg g.2.1, if_neg g.2.2, if_pos ⟨h, h2⟩]
theorem why_wide {bs : List UInt8} (g : G2 bs) (h0 : ¬ (hasV bs = true ∧ bs.length ≤ 2)) (h : wideV bs = true) (h2 : bs.length ≤ 3) : whyV bs = 2 := by unfold whyV; rw [if_neg g.1.1, if_neg g.1.2, if_neg g.2.1, if_neg g.2.2, if_neg h0, if_pos ⟨h, h2⟩]
/-- The number is. -/
def G3 (bs : List UInt8) : Prop := G2 bs ∧ ¬ (hasV bs = true ∧ bs.length ≤ 2) ∧ ¬ (wideV bs = true ∧ bs.length ≤ 3)
theorem why_end {bs : List UInt8} (g : G3 bs) (h : bs.length < at3V bs) : whyV bs = 2 := by unfold whyV; rw [if_neg g.1.1.1, if_neg g.1.1.2, if_neg g.1.2.1, if_neg g.1.2.2, if_neg g.2.1, if_neg g.2.2, if_pos h]
theorem why_ok {bs : List UInt8} (g : G3 bs) (h : ¬ bs.length < at3V bs) : whyV bs = 0 := by unfold whyV; rw [if_neg g.1.1.1, if_neg g.1.1.2, if_neg g.1.2.1, if_neg g.1.2.2, if_neg g.2.1, if_neg g.2.2, if_neg h]
theorem why_zero {bs : List UInt8} (h : whyV bs = 0) : G3 bs ∧ ¬ bs.length < at3V bs := by
  unfold whyV at h
  by_cases h1 : bs.length < 1
  · rw [if_pos h1] at h; omega
  rw [if_neg h1] at h
  by_cases h2 : bV bs 0 / 64 % 2 = 1 ∨ bV bs 0 / 8 % 2 = 1
  · rw [if_pos h2] at h; omega
  rw [if_neg h2] at h
  by_cases h3 : 128 ≤ bV bs 0 ∧ bs.length < 2
  · rw [if_pos h3] at h; omega
  rw [if_neg h3] at h
  by_cases h4 : 0 < secV bs % 16
  · rw [if_pos h4] at h; omega
  rw [if_neg h4] at h
  by_cases h5 : hasV bs = true ∧ bs.length ≤ 2
  · rw [if_pos h5] at h; omega
  rw [if_neg h5] at h
  by_cases h6 : wideV bs = true ∧ bs.length ≤ 3
  · rw [if_pos h6] at h; omega
  rw [if_neg h6] at h
  by_cases h7 : bs.length < at3V bs
  · rw [if_pos h7] at h; omega
  exact ⟨⟨⟨⟨h1, h2⟩, h3, h4⟩, h5, h6⟩, h7⟩
/-- The bytes with another number. -/
def trnV (bs : List UInt8) (p : Nat) : List UInt8 := if wideV bs then (bs.set 2 (UInt8.ofNat (p / 256 % 128 + 128))).set 3 (UInt8.ofNat (p % 256)) else bs.set 2 (UInt8.ofNat (p % 128))
theorem trnV_len (bs : List UInt8) (p : Nat) : (trnV bs p).length = bs.length := by unfold trnV; split <;> simp
end Go.Proofs.Ytbifgglhhhcacaa
