/- Several texts in one: plain words and walks. No statement is proved here. -/
import Derived.Test.YtmkeioeodlidgaaGreatDoorZM32
import Derived.Test.YtmkeioeodlidgaaGreatDoorZM22
import Derived.StillTailTactics
namespace Go.Proofs.YtmkeioeodlidgaaGreatDoor
open Go.RowKit
set_option linter.unusedVariables false

theorem Ways.swap {R R' : Nat → World → Value → Wy → (Nat → Prop) → Prop} {n : Nat} {w wx wy : World} {p : Nat → Value} {y : Nat → Wy} {F : Nat → Nat → Prop} (hL : ∀ i, Lone (R i)) (h : Ways R n w p y F wx) {i : Nat} (hi : i < n) (hR : ∀ j, j ≠ i → R' j = R j) (hf : Fr (F i) wx wy) (hr : R' i wy (p i) (y i) (F i)) : Ways R' n w p y F wy := by
 refine ⟨fun j hj => ?_, h.dis, h.lo, h.below.trans (hf.below (h.lo i hi) h.below.size)⟩
 by_cases e : j = i
 · subst e; exact hr
 · rw [hR j e]
   exact (hL j).fr (h.ob j hj) hf (fun k hk hk2 => h.dis j i hj hi e k hk hk2)
section
variable {P : Program} {w : World} {ops : Array Oper} {rest : List Oper} {op : Oper} {a : Act} {Q : Exit → Act → World → Prop}
end
def flipB (X : List UInt8) (k f : Nat) : List UInt8 := X.set k (X.getD k 0 ^^^ UInt8.ofNat f)
theorem flip_xor (x : UInt8) (f : Nat) (hf : f < 256) : bits BinOp.xor IntKind.u8 (x.toNat : Int) (f : Int) = ((x ^^^ UInt8.ofNat f).toNat : Int) := by
 have e : f = (UInt8.ofNat f).toNat := by simp; omega
 rw [show (f : Int) = (((UInt8.ofNat f).toNat : Nat) : Int) from congrArg _ e]
 exact xr_byte x (UInt8.ofNat f)
end Go.Proofs.YtmkeioeodlidgaaGreatDoor
