/- What the document's answer for layer 10 (tenailleref10) reads: a packet. No statement is proved here. -/
import Derived.Test.YticbajagccemoaaRtpR1
import Derived.Deep.RegionLaw
namespace Go.Proofs.Yticbajagccemoaa
open Go.RowKit
set_option linter.unusedVariables false

/-- A packet under way: its cells in block p behind r, its slices the call's own. -/
structure Under (w wr : World) (m : Bool) (ty sq st so : Nat) (U : List Nat) (A : Option Addr) (a : Nat) (x : Bool) (pf : Nat) (X : List UInt8) (B : Option Addr) (b : Nat) (Y : List UInt8) (D : Option Addr) (d pd : Nat) : Prop where
  blk : BlkV wr (w.heap.size + 1) 28 (rtpC m ty sq st so (.slice A U.length a) x pf (.slice B X.length b) (.slice D Y.length d) pd)
  res : BlkV wr w.heap.size 28 zeroC
  ou : wr.ownsRow (w.heap.size + 2) 25 1 (.slice A U.length a) U.length (ucells U)
  ox : wr.ownsRow (w.heap.size + 2) 5 1 (.slice B X.length b) X.length (cells X)
  oy : wr.ownsRow (w.heap.size + 2) 5 1 (.slice D Y.length d) Y.length (cells Y)
  bel : Below w.heap.size w wr
  siz : w.heap.size + 2 ≤ wr.heap.size
section
variable {w wr w' : World} {m : Bool} {ty sq st so : Nat} {U : List Nat} {A : Option Addr} {a : Nat} {x : Bool} {pf : Nat} {X : List UInt8} {B : Option Addr} {b : Nat} {Y : List UInt8} {D : Option Addr} {d pd : Nat}
theorem Under.drew (h : Under w wr m ty sq st so U A a x pf X B b Y D d pd) : Under w wr.drew m ty sq st so U A a x pf X B b Y D d pd := ⟨h.blk, h.res, h.ou, h.ox, h.oy, h.bel.drew, h.siz⟩
theorem under_start (w : World) : Under w (rboxW w) false 0 0 0 0 [] none 0 false 0 [] none 0 [] none 0 0 := by
  obtain ⟨hb, h1, h2⟩ := rbox w
  exact ⟨h2, h1, World.ownsRow_nil _ _ _ _, World.ownsRow_nil _ _ _ _, World.ownsRow_nil _ _ _ _, hb, by simp [rboxW]⟩
/-- One cell of the packet is laid that is no slice. -/
theorem Under.put (h : Under w wr m ty sq st so U A a x pf X B b Y D d pd) (j : Nat) (v : Value) {m2 : Bool} {ty2 sq2 st2 so2 : Nat} {x2 : Bool} {pf2 pd2 : Nat}
    (hj : (rtpC m ty sq st so (.slice A U.length a) x pf (.slice B X.length b) (.slice D Y.length d) pd).set j v = rtpC m2 ty2 sq2 st2 so2 (.slice A U.length a) x2 pf2 (.slice B X.length b) (.slice D Y.length d) pd2) :
    Under w (wr.setCell ⟨w.heap.size + 1, j, none⟩ v) m2 ty2 sq2 st2 so2 U A a x2 pf2 X B b Y D d pd2 := by
  have ho := Only.set wr (w.heap.size + 1) j v
  refine ⟨?_, h.res.only ho (by omega), own_only h.ou ho (by omega), own_only h.ox ho (by omega), own_only h.oy ho (by omega), h.bel.setCell (by simp) _, by rw [ho.size]; exact h.siz⟩
  rw [← hj]
  exact h.blk.set_ j v
/-- One source more. -/
theorem Under.putU (h : Under w wr m ty sq st so U A a x pf X B b Y D d pd) {U2 : List Nat} {A2 : Option Addr} {a2 : Nat} (hg : wr.grownBy w' (Value.slice A U.length a).ownBlock)
    (hown : w'.ownsRow (w.heap.size + 2) 25 1 (.slice A2 U2.length a2) U2.length (ucells U2)) (hX : ∀ q, (Value.slice A U.length a).ownBlock = some q → (Value.slice B X.length b).ownBlock ≠ some q) (hY : ∀ q, (Value.slice A U.length a).ownBlock = some q → (Value.slice D Y.length d).ownBlock ≠ some q) :
    Under w (w'.setCell ⟨w.heap.size + 1, 5, none⟩ (.slice A2 U2.length a2)) m ty sq st so U2 A2 a2 x pf X B b Y D d pd := by
  have ho := Only.set w' (w.heap.size + 1) 5 (.slice A2 U2.length a2)
  have hq : ∀ q, (Value.slice A U.length a).ownBlock = some q → w.heap.size + 2 ≤ q := fun q hq => (h.ou.lt q hq).1
  refine ⟨(h.blk.grown hg (fun e => by have := hq _ e.symm; omega)).set_ 5 _, (h.res.grown hg (fun e => by have := hq _ e.symm; omega)).only ho (by omega), own_only hown ho (by omega), own_only (h.ox.kept hg ?_) ho (by omega), own_only (h.oy.kept hg ?_) ho (by omega), ?_, ?_⟩
  · rcases hv : (Value.slice A U.length a).ownBlock with _ | q
    · rcases hv2 : (Value.slice B X.length b).ownBlock with _ | q2
      · exact .inl rfl
      · exact .inr (by simp)
    · exact .inr (hX q hv)
  · rcases hv : (Value.slice A U.length a).ownBlock with _ | q
    · rcases hv2 : (Value.slice D Y.length d).ownBlock with _ | q2
      · exact .inl rfl
      · exact .inr (by simp)
    · exact .inr (hY q hv)
  · exact (h.bel.trans (below_of_grown hg h.bel.size (fun k hk => by have := hq k hk; omega))).setCell (by simp) _
  · rw [ho.size]; exact Nat.le_trans h.siz hg.size
/-- The extension's bytes. -/
theorem Under.putX (h : Under w wr m ty sq st so U A a x pf [] none 0 Y D d pd) {X2 : List UInt8} {B2 : Option Addr} {b2 : Nat} (hg : Below wr.heap.size wr w')
    (hown : w'.ownsRow (w.heap.size + 2) 5 1 (.slice B2 X2.length b2) X2.length (cells X2)) :
    Under w (w'.setCell ⟨w.heap.size + 1, 8, none⟩ (.slice B2 X2.length b2)) m ty sq st so U A a x pf X2 B2 b2 Y D d pd := by
  have ho := Only.set w' (w.heap.size + 1) 8 (.slice B2 X2.length b2)
  exact ⟨(h.blk.below hg h.blk.lt).set_ 8 _, (h.res.below hg h.res.lt).only ho (by omega), own_only (own_below h.ou hg) ho (by omega), own_only hown ho (by omega), own_only (own_below h.oy hg) ho (by omega),
    (h.bel.trans (hg.mono h.bel.size)).setCell (by simp) _, by rw [ho.size]; exact Nat.le_trans h.siz hg.size⟩
/-- The payload. -/
theorem Under.putY (h : Under w wr m ty sq st so U A a x pf X B b [] none 0 pd) {Y2 : List UInt8} {D2 : Option Addr} {d2 : Nat} (hg : Below wr.heap.size wr w')
    (hown : w'.ownsRow (w.heap.size + 2) 5 1 (.slice D2 Y2.length d2) Y2.length (cells Y2)) :
    Under w (w'.setCell ⟨w.heap.size + 1, 9, none⟩ (.slice D2 Y2.length d2)) m ty sq st so U A a x pf X B b Y2 D2 d2 pd := by
  have ho := Only.set w' (w.heap.size + 1) 9 (.slice D2 Y2.length d2)
  exact ⟨(h.blk.below hg h.blk.lt).set_ 9 _, (h.res.below hg h.res.lt).only ho (by omega), own_only (own_below h.ou hg) ho (by omega), own_only (own_below h.ox hg) ho (by omega), own_only hown ho (by omega),
    (h.bel.trans (hg.mono h.bel.size)).setCell (by simp) _, by rw [ho.size]; exact Nat.le_trans h.siz hg.size⟩
end

/-- A part of a slice that reads, in whatever world. -/
theorem run_sl (w : World) (A : Option Addr) (n c : Nat) (bs : List UInt8) (lo hi : Nat) (li hj : Int) (hli : li = lo) (hhj : hj = hi) (h1 : lo ≤ hi) (h2 : hi ≤ n) (hr : RdS w A n c bs) :
    ∃ A2, (∀ wx, (Instr.sliceAt 22 (.slice A n c) (some (.int .i64 li)) (some (.int .i64 hj)) none).run Try.prog wx = .ok (.slice A2 (hi - lo) (c - lo)) wx) ∧ (∀ wx, (Instr.slice 22 (.slice A n c) (some (.int .i64 li)) (some (.int .i64 hj)) none).run Try.prog wx = .ok (.slice A2 (hi - lo) (c - lo)) wx) ∧ RdS w A2 (hi - lo) (c - lo) ((bs.drop lo).take (hi - lo)) := by
  subst hli; subst hhj
  have hle := hr.le
  have e : ∀ wx, (Instr.slice 22 (.slice A n c) (some (.int .i64 (lo : Int))) (some (.int .i64 (hi : Int))) none).run Try.prog wx = .ok (.slice (if c = lo then A else A.map (·.add (lo * 1))) (hi - lo) (c - lo)) wx := fun wx => by
    rw [run_slice_lh wx 22 A n c undB .i64 .i64 (lo : Int) (hi : Int) (by omega) (by omega) (by omega)]
    simp only [szB, Result.andThen_ok, sliced, Int.toNat_natCast]
  refine ⟨_, fun wx => ?_, e, (hr.cut lo (by omega)).headR (hi - lo) (by omega)⟩
  rw [run_sliceAt_slice _ _ _ _ _ _ undB]
  exact e wx
/-- 'append' of bytes that read, as one step of a region that draws. -/
theorem step_append_rd {P : Program} {w : World} {ops : Array Oper} {o : Oper} {a : Act} {K : Act → World → Prop} {Q : Exit → Act → World → Prop} {E : Prop} (hgd : o.guard = none) (s x : Operand) {t e : TypeId}
    (ho : o.op = .call { callee := .builtin .append, args := #[s, x], argTypes := #[t, t] }) (ht : P.underlying t = some (.slice e)) (hi : (P.info? e).map (fun i => (i.zero, i.size, i.bytes)) = some (some (.int .u8 0), 1, 1))
    (base : Nat) (v : Value) (n : Nat) (xs : List UInt8) (hs : a.eval s = v) (hown : w.ownsRow base e 1 v n (cells xs)) (A : Option Addr) (m c : Nat) (news : List UInt8) (hx : a.eval x = .slice A m c) (hr : RdS w A m c news)
    (h : n + m ≤ 140737488355328) (hbase : base ≤ w.heap.size)
    (hK : ∀ v' w', w'.ownsRow base e 1 v' (n + m) (cells (xs ++ news)) → w.grownBy w' v.ownBlock → (v'.ownBlock = v.ownBlock ∨ v'.ownBlock = some w.heap.size) → K (a.put o.dst v') w') : if Region.wanted o (yielded ops a.tmps) = true then Oper.wp P o a w K Q else E := by
  rw [if_pos (by simp [Region.wanted, hgd])]
  exact wp_append_rd w s x ho ht hi base v n xs hs hown A m c news hx hr h hbase hK
end Go.Proofs.Yticbajagccemoaa
