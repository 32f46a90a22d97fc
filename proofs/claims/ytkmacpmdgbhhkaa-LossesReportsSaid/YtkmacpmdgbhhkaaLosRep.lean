/- What the document's answers for layer 20 (tenailleref20) answer: a report of standings. No statement is proved here. -/
import Derived.Test.YtkmacpmdgbhhkaaLosR1
namespace Go.Proofs.Ytkmacpmdgbhhkaa
open Go.RowKit
set_option linter.unusedVariables false

theorem BlkV.drewNK {w : World} {g : Nat} {e : TypeId} {cs : List Value} (h : BlkV w g e cs) (n : Nat) : BlkV (w.drewN n) g e cs := h
/-- How many of 256 were lost since, and how many in all, held in 24 bits. -/
def frcK (e r e2 r2 : Int) : Int := if 0 < e2 - e ∧ 0 < (e2 - r2) - (e - r) then (if 255 < ((e2 - r2) - (e - r)) * 256 / (e2 - e) then 255 else ((e2 - r2) - (e - r)) * 256 / (e2 - e)) else 0
def lostK (e2 r2 : Int) : Int := if 8388607 < e2 - r2 then 8388607 else if e2 - r2 < -8388608 then -8388608 else e2 - r2

end Go.Proofs.Ytkmacpmdgbhhkaa
