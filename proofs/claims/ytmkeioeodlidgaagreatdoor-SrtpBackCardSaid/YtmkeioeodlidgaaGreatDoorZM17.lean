/- Several texts in one: What the document's answer for layer 10 (tenailleref10) reads: where bytes are no packet. What the document's answer for layer 10 (tenailleref10) reads: a packet. No statement is proved here. -/
import Derived.Test.YtmkeioeodlidgaaGreatDoorZM16
import Derived.Test.YtmkeioeodlidgaaGreatDoorZM4
import Derived.Test.YtmkeioeodlidgaaGreatDoorZM0
import Derived.Deep.RegionLaw
namespace Go.Proofs.YtmkeioeodlidgaaGreatDoor
open Go.RowKit
set_option linter.unusedVariables false

/- ways -/
end Go.Proofs.YtmkeioeodlidgaaGreatDoor

namespace Go.Proofs.YtmkeioeodlidgaaGreatDoor
open Go.RowKit
set_option linter.unusedVariables false

/-- A packet under way: its cells in block p behind r, its slices the call's own. -/
structure Under (w wr : World) (m : Bool) (ty sq st so : Nat) (U : List Nat) (A : Option Addr) (a : Nat) (x : Bool) (pf : Nat) (X : List UInt8) (B : Option Addr) (b : Nat) (Y : List UInt8) (D : Option Addr) (d pd : Nat) : Prop where
  blk : BlkV wr (w.heap.size + 1) 37 (rtpC m ty sq st so (.slice A U.length a) x pf (.slice B X.length b) (.slice D Y.length d) pd)
  res : BlkV wr w.heap.size 37 zeroC
  ou : wr.ownsRow (w.heap.size + 2) 33 1 (.slice A U.length a) U.length (ucells U)
  ox : wr.ownsRow (w.heap.size + 2) 5 1 (.slice B X.length b) X.length (cells X)
  oy : wr.ownsRow (w.heap.size + 2) 5 1 (.slice D Y.length d) Y.length (cells Y)
  bel : Below w.heap.size w wr
  siz : w.heap.size + 2 ≤ wr.heap.size
section
variable {w wr w' : World} {m : Bool} {ty sq st so : Nat} {U : List Nat} {A : Option Addr} {a : Nat} {x : Bool} {pf : Nat} {X : List UInt8} {B : Option Addr} {b : Nat} {Y : List UInt8} {D : Option Addr} {d pd : Nat}
theorem Under.drew (h : Under w wr m ty sq st so U A a x pf X B b Y D d pd) : Under w wr.drew m ty sq st so U A a x pf X B b Y D d pd := ⟨h.blk, h.res, h.ou, h.ox, h.oy, h.bel.drew, h.siz⟩
/-- One cell of the packet is laid that is no slice. -/
theorem Under.put (h : Under w wr m ty sq st so U A a x pf X B b Y D d pd) (j : Nat) (v : Value) {m2 : Bool} {ty2 sq2 st2 so2 : Nat} {x2 : Bool} {pf2 pd2 : Nat}
    (hj : (rtpC m ty sq st so (.slice A U.length a) x pf (.slice B X.length b) (.slice D Y.length d) pd).set j v = rtpC m2 ty2 sq2 st2 so2 (.slice A U.length a) x2 pf2 (.slice B X.length b) (.slice D Y.length d) pd2) :
    Under w (wr.setCell ⟨w.heap.size + 1, j, none⟩ v) m2 ty2 sq2 st2 so2 U A a x2 pf2 X B b Y D d pd2 := by
  have ho := Only.set wr (w.heap.size + 1) j v
  refine ⟨?_, h.res.only ho (by omega), own_only h.ou ho (by omega), own_only h.ox ho (by omega), own_only h.oy ho (by omega), h.bel.setCell (by simp) _, by rw [ho.size]; exact h.siz⟩
  rw [← hj]
  exact h.blk.set_ j v
/-- The payload. -/
theorem Under.putY (h : Under w wr m ty sq st so U A a x pf X B b [] none 0 pd) {Y2 : List UInt8} {D2 : Option Addr} {d2 : Nat} (hg : Below wr.heap.size wr w')
    (hown : w'.ownsRow (w.heap.size + 2) 5 1 (.slice D2 Y2.length d2) Y2.length (cells Y2)) :
    Under w (w'.setCell ⟨w.heap.size + 1, 9, none⟩ (.slice D2 Y2.length d2)) m ty sq st so U A a x pf X B b Y2 D2 d2 pd := by
  have ho := Only.set w' (w.heap.size + 1) 9 (.slice D2 Y2.length d2)
  exact ⟨(h.blk.below hg h.blk.lt).set_ 9 _, (h.res.below hg h.res.lt).only ho (by omega), own_only (own_belowR h.ou hg) ho (by omega), own_only (own_belowR h.ox hg) ho (by omega), own_only hown ho (by omega),
    (h.bel.trans (hg.mono h.bel.size)).setCell (by simp) _, by rw [ho.size]; exact Nat.le_trans h.siz hg.size⟩
end

end Go.Proofs.YtmkeioeodlidgaaGreatDoor
