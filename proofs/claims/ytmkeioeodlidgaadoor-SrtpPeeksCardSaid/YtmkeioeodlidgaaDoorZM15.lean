/- Several texts in one: Plain words, for any program: a region by hand: a whole array loaded, a guarded operation that comes up alone. Contracts of the document's answer of layer 5: a cipher by a key. Contracts of the document's answer of layer 6: a counter further, the first counter. Contracts of the document's answer of layer 6: the first counter. Contracts of the document's answer of layer 6: bytes ciphered. Plain mathematics on what payloads of VP8 begin with. No program is named; no statement is proved here. What the document's answer for layer 13 (tenailleref13) tells of a payload. What the document's answer for layer 13 (tenailleref13) tells of a payload with another number (Turn). Contracts of package keys: what is derived of a master. No statement is proved here. -/
import Derived.Test.YtmkeioeodlidgaaDoorZM0
import Derived.Test.YtmkeioeodlidgaaDoorZM14
import Derived.Test.YtmkeioeodlidgaaDoorZM10
import Derived.Deep.RegionHeld3
import Derived.BigQuiet
import Derived.Test.YtmkeioeodlidgaaDoorZM5
import Derived.Deep.DeepCutAuto
import Derived.Test.YtmkeioeodlidgaaDoorZBytes
import Derived.Test.YtmkeioeodlidgaaDoorZM6
namespace Go.Proofs.YtmkeioeodlidgaaDoor
open Go.RowKit
set_option linter.unusedVariables false

theorem run_ld {P : Program} {op : Oper} {a : Act} {w : World} (ty : TypeId) (x : Operand) (ho : op.op = .load ty x) (b o : Nat) (hx : a.eval x = .pointer (some ⟨b, o, none⟩)) (cs : List Value) (hc : w.rangeAt b o cs) (hT : RowTy P ty cs.length) :
    (execOp a.eval op).run P w = .ok (.value (.agg cs.toArray)) w := by
  obtain ⟨d, h1, h2, h3⟩ := hT
  unfold execOp
  simp only [ho, hx, Instr.loadAt, Instr.sureAddr, Sem.run_bind, Sem.run_pure, Result.andThen_ok, run_loadVar_mid w b o ty cs d hc h1 h2 h3]
theorem wpList_ldg {P : Program} {w : World} {ops : Array Oper} {rest : List Oper} {op : Oper} {a : Act} {Q : Exit → Act → World → Prop} (hw : Region.wanted op (yielded ops a.tmps) = true) (ty : TypeId) (x : Operand) (ho : op.op = .load ty x) (b o : Nat) (hx : a.eval x = .pointer (some ⟨b, o, none⟩)) (cs : List Value) (hc : w.rangeAt b o cs) (hT : RowTy P ty cs.length)
    (h : wpList P ops Q rest (a.put op.dst (.agg cs.toArray)) w) : wpList P ops Q (op :: rest) a w := by
  obtain ⟨d, h1, h2, h3⟩ := hT
  exact wpList_step fun K hK => by rw [if_pos hw]; exact wp_load_mid ty x ho b o hx cs d hc h1 h2 h3 (hK _ _ h)
section
variable {P : Program} {md : Region.Mode} {ops : Array Oper} {Q : Exit → Act → World → Prop} {S : World → Prop}
/-- One operation alone may come up, guarded by what is true, under what is held. -/
theorem anyH_oneG {i : Nat} {op : Oper} {fuel : Nat} {listed : Array Bool} {a : Act} {w : World} (hr : Region.ready md ops listed = [i]) (ho : ops[i]? = some op) (hw : Region.wanted op (yielded ops a.tmps) = true)
    (h : ∀ K : Act → World → Prop, (∀ a w, S w → wpAnyH P md ops Q S fuel (listed.setIfInBounds i true) a w → K a w) → op.wp P a w K Q) : wpAnyH P md ops Q S (fuel + 1) listed a w := by
  refine wpAnyH_all hr (by simp) fun j hj => ?_
  simp only [List.mem_singleton] at hj
  subst hj
  unfold wpOp
  simp only [ho]
  rw [if_pos hw]
  exact Or.inl (h _ fun a w h1 h2 => ⟨h1, h2⟩)
theorem anyH_one {i : Nat} {op : Oper} {fuel : Nat} {listed : Array Bool} {a : Act} {w : World} (hr : Region.ready md ops listed = [i]) (ho : ops[i]? = some op) (hgd : op.guard = none)
    (h : ∀ K : Act → World → Prop, (∀ a w, S w → wpAnyH P md ops Q S fuel (listed.setIfInBounds i true) a w → K a w) → op.wp P a w K Q) : wpAnyH P md ops Q S (fuel + 1) listed a w := by
  refine wpAnyH_all hr (by simp) fun j hj => ?_
  simp only [List.mem_singleton] at hj
  subst hj
  unfold wpOp
  simp only [ho]
  rw [if_pos (by simp [Region.wanted, hgd])]
  exact Or.inl (h _ fun a w h1 h2 => ⟨h1, h2⟩)
theorem anyH_two {i j : Nat} {op op2 : Oper} {fuel : Nat} {listed : Array Bool} {a : Act} {w : World} (hr : Region.ready md ops listed = [i, j]) (ho : ops[i]? = some op) (hgd : op.guard = none) (ho2 : ops[j]? = some op2) (hgd2 : op2.guard = none)
    (h : ∀ K : Act → World → Prop, (∀ a w, S w → wpAnyH P md ops Q S fuel (listed.setIfInBounds i true) a w → K a w) → op.wp P a w K Q)
    (h2 : ∀ K : Act → World → Prop, (∀ a w, S w → wpAnyH P md ops Q S fuel (listed.setIfInBounds j true) a w → K a w) → op2.wp P a w K Q) : wpAnyH P md ops Q S (fuel + 1) listed a w := by
  refine wpAnyH_all hr (by simp) fun k hk => ?_
  simp only [List.mem_cons, List.not_mem_nil, or_false] at hk
  rcases hk with rfl | rfl
  · unfold wpOp
    simp only [ho]
    rw [if_pos (by simp [Region.wanted, hgd])]
    exact Or.inl (h _ fun a w h1 h2 => ⟨h1, h2⟩)
  · unfold wpOp
    simp only [ho2]
    rw [if_pos (by simp [Region.wanted, hgd2])]
    exact Or.inl (h2 _ fun a w h1 h2 => ⟨h1, h2⟩)
theorem anyH_three {i j k : Nat} {op op2 op3 : Oper} {fuel : Nat} {listed : Array Bool} {a : Act} {w : World} (hr : Region.ready md ops listed = [i, j, k]) (ho : ops[i]? = some op) (hgd : op.guard = none) (ho2 : ops[j]? = some op2) (hgd2 : op2.guard = none) (ho3 : ops[k]? = some op3) (hgd3 : op3.guard = none)
    (h : ∀ K : Act → World → Prop, (∀ a w, S w → wpAnyH P md ops Q S fuel (listed.setIfInBounds i true) a w → K a w) → op.wp P a w K Q)
    (h2 : ∀ K : Act → World → Prop, (∀ a w, S w → wpAnyH P md ops Q S fuel (listed.setIfInBounds j true) a w → K a w) → op2.wp P a w K Q)
    (h3 : ∀ K : Act → World → Prop, (∀ a w, S w → wpAnyH P md ops Q S fuel (listed.setIfInBounds k true) a w → K a w) → op3.wp P a w K Q) : wpAnyH P md ops Q S (fuel + 1) listed a w := by
  refine wpAnyH_all hr (by simp) fun q hq => ?_
  simp only [List.mem_cons, List.not_mem_nil, or_false] at hq
  rcases hq with rfl | rfl | rfl
  · unfold wpOp
    simp only [ho]
    rw [if_pos (by simp [Region.wanted, hgd])]
    exact Or.inl (h _ fun a w h1 h2 => ⟨h1, h2⟩)
  · unfold wpOp
    simp only [ho2]
    rw [if_pos (by simp [Region.wanted, hgd2])]
    exact Or.inl (h2 _ fun a w h1 h2 => ⟨h1, h2⟩)
  · unfold wpOp
    simp only [ho3]
    rw [if_pos (by simp [Region.wanted, hgd3])]
    exact Or.inl (h3 _ fun a w h1 h2 => ⟨h1, h2⟩)
end
end Go.Proofs.YtmkeioeodlidgaaDoor

namespace Go.Proofs.YtmkeioeodlidgaaDoor
open Go.RowKit
set_option linter.unusedVariables false

theorem own_below {w w' : World} {base n : Nat} {e : TypeId} {v : Value} {xs : List Value} (h : w.ownsRow base e 1 v n xs) (hb : Below w.heap.size w w') : w'.ownsRow base e 1 v n xs :=
  h.kept (grown_of_below hb none) (by cases hv : v.ownBlock <;> simp)
theorem info_s8 : (Tryd.prog.info? 22).map (fun i => (i.zero, i.size, i.bytes)) = some (some (.slice none 0 0), 1, 24) := by kernel_rfl

section
variable {w0 : World} {key : List UInt8} {p gB i : Nat} {vW : Value} {vs : List Value} {wr w' : World}
end

theorem slot_form {w : World} {base n : Nat} {e : TypeId} {v : Value} {xs : List Value} (h : w.ownsRow base e 1 v n xs) : ∃ A c, v = .slice A n c := own_form h
end Go.Proofs.YtmkeioeodlidgaaDoor

namespace Go.Proofs.YtmkeioeodlidgaaDoor
open Go.RowKit
set_option linter.unusedVariables false

end Go.Proofs.YtmkeioeodlidgaaDoor

namespace Go.Proofs.YtmkeioeodlidgaaDoor
open Go.RowKit
set_option linter.unusedVariables false

/-- A row of the call's own, in block g1, which is not block G. -/
theorem own_rows {w : World} {base n : Nat} {e : TypeId} {v : Value} {bs : List UInt8} (h : w.ownsRow base e 1 v n (cells bs)) (hn : 0 < n) : ∃ g cap, v = .slice (some ⟨g, 0, none⟩) n cap ∧ base ≤ g ∧ g < w.heap.size ∧ ∀ j, j < n → w.cell? ⟨g, j, none⟩ = some (.int .u8 ((bs.getD j 0).toNat : Int)) := by
  have hl : bs.length = n := by simpa [length_cells] using h.1
  obtain ⟨g, cap, hv, hb, hg⟩ := h.form hn
  subst hv
  exact ⟨g, cap, rfl, hb, hg, fun j hj => (h.cellAt j (by omega)).trans (cells_at (by omega))⟩
theorem cells_only {w w' : World} {g k n : Nat} {f : Nat → Value} (h : ∀ j, j < n → w.cell? ⟨g, j, none⟩ = some (f j)) (ho : Only k w w') (hk : g ≠ k) : ∀ j, j < n → w'.cell? ⟨g, j, none⟩ = some (f j) :=
  fun j hj => (World.cell?_of_block (w := w) (a := ⟨g, j, none⟩) (ho.block g hk)).trans (h j hj)
theorem salt_fill (salt : List UInt8) (h : salt.length = 14) : fillAt (fun i => salt.getD i 0) Z16 14 = saltZ salt := by
  have e : (List.range 14).map (fun i => salt.getD i 0) = salt := list_tab salt h
  rw [fillAt, e]
  rfl

end Go.Proofs.YtmkeioeodlidgaaDoor

namespace Go.Proofs.YtmkeioeodlidgaaDoor
open Go.RowKit
set_option linter.unusedVariables false

theorem own_lower {w : World} {base base' : Nat} {e : TypeId} {v : Value} {n : Nat} {xs : List Value} (h : w.ownsRow base e 1 v n xs) (hb : base' ≤ base) : w.ownsRow base' e 1 v n xs :=
  ⟨h.1, h.2.imp id fun ⟨g, cap, cur, h1, h2, h3⟩ => ⟨g, cap, cur, h1, Nat.le_trans hb h2, h3⟩⟩
/-- What is there all along in Cipher's loop: what lay below block G (the block that is ciphered just now) ahead of the loop, that block, the bytes so far. -/
structure REnv (w1 : World) (G : Nat) (N : List UInt8) (v : Value) (i : Nat) (out : List UInt8) (wr : World) : Prop where
  b : Below G w1 wr
  n : Blk wr G 34 N
  o : wr.ownsRow (G + 1) 5 1 v i (cells out)
theorem REnv.below {w1 : World} {G : Nat} {N : List UInt8} {v : Value} {i : Nat} {out : List UInt8} {wr w' : World} (h : REnv w1 G N v i out wr) (hb : Below wr.heap.size wr w') : REnv w1 G N v i out w' :=
  ⟨h.b.trans (hb.mono (Nat.le_of_lt h.n.lt)), h.n.below hb h.n.lt, own_below h.o hb⟩
theorem REnv.put {w1 : World} {G : Nat} {N X : List UInt8} {v : Value} {i : Nat} {out : List UInt8} {wr w' : World} (h : REnv w1 G N v i out wr) (ho : Only G wr w') (hX : Blk w' G 34 X) : REnv w1 G X v i out w' :=
  ⟨h.b.trans (ho.below (Nat.le_refl _)), hX, h.o.kept (row := some G) ho.grown (by
    rcases hv : v.ownBlock with _ | q
    · exact .inl rfl
    · refine .inr fun e => ?_
      have := (h.o.lt q hv).1
      injection e with e
      omega)⟩

end Go.Proofs.YtmkeioeodlidgaaDoor

namespace Go.Proofs.YtmkeioeodlidgaaDoor
set_option linter.unusedVariables false

/-- What a payload begins with. -/
structure Vp where
  st : Bool
  part : Nat
  has : Bool
  wide : Bool
  pic : Nat
  key : Bool
  head : Nat
def vC (v : Vp) : List Value := [.bool v.st, .int .u8 (v.part : Int), .bool v.has, .bool v.wide, .int .u16 (v.pic : Int), .bool v.key, .int .i64 (v.head : Int)]
def noV : Vp := ⟨false, 0, false, false, 0, false, 0⟩
def bV (bs : List UInt8) (i : Nat) : Nat := (bs.getD i 0).toNat
theorem bV_lt (bs : List UInt8) (i : Nat) : bV bs i < 256 := UInt8.toNat_lt _
/-- The second byte; how many bytes these two are; whether a number is there, of 15 bits; the number. -/
def secV (bs : List UInt8) : Nat := if 128 ≤ bV bs 0 then bV bs 1 else 0
def fstV (bs : List UInt8) : Nat := if 128 ≤ bV bs 0 then 2 else 1
def hasV (bs : List UInt8) : Bool := decide (128 ≤ secV bs)
def wideV (bs : List UInt8) : Bool := hasV bs && decide (128 ≤ bV bs 2)
def picV (bs : List UInt8) : Nat := if wideV bs then (bV bs 2 - 128) * 256 + bV bs 3 else if hasV bs then bV bs 2 else 0
def at1V (bs : List UInt8) : Nat := fstV bs + (if hasV bs then (if wideV bs then 2 else 1) else 0)
def at2V (bs : List UInt8) : Nat := at1V bs + (if secV bs / 64 % 2 = 1 then 1 else 0)
def at3V (bs : List UInt8) : Nat := at2V bs + (if secV bs / 32 % 2 = 1 ∨ secV bs / 16 % 2 = 1 then 1 else 0)
def keyV (bs : List UInt8) : Bool := decide ((bV bs 0 / 16 % 2 = 1 ∧ bV bs 0 % 8 = 0) ∧ at3V bs < bs.length ∧ bV bs (at3V bs) % 2 = 0)
/-- Why it isn't read; 0: it is. -/
def whyV (bs : List UInt8) : Nat :=
  if bs.length < 1 then 2
  else if bV bs 0 / 64 % 2 = 1 ∨ bV bs 0 / 8 % 2 = 1 then 3
  else if 128 ≤ bV bs 0 ∧ bs.length < 2 then 2
  else if 0 < secV bs % 16 then 3
  else if hasV bs = true ∧ bs.length ≤ 2 then 2
  else if wideV bs = true ∧ bs.length ≤ 3 then 2
  else if bs.length < at3V bs then 2
  else 0
def vpV (bs : List UInt8) : Vp := if whyV bs = 0 then ⟨decide (bV bs 0 / 16 % 2 = 1), bV bs 0 % 8, hasV bs, wideV bs, picV bs, keyV bs, at3V bs⟩ else noV
/-- Where the number stands. -/
def plcV (bs : List UInt8) : Nat := if whyV bs = 0 ∧ hasV bs = true then 2 else 0
theorem why_none {bs : List UInt8} (h : bs.length < 1) : whyV bs = 2 := by unfold whyV; rw [if_pos h]
theorem why_bits {bs : List UInt8} (h : ¬ bs.length < 1) (h2 : bV bs 0 / 64 % 2 = 1 ∨ bV bs 0 / 8 % 2 = 1) : whyV bs = 3 := by unfold whyV; rw [if_neg h, if_pos h2]
/-- The first byte is whole. -/
def G1 (bs : List UInt8) : Prop := ¬ bs.length < 1 ∧ ¬ (bV bs 0 / 64 % 2 = 1 ∨ bV bs 0 / 8 % 2 = 1)
theorem why_second {bs : List UInt8} (g : G1 bs) (h : 128 ≤ bV bs 0) (h2 : bs.length < 2) : whyV bs = 2 := by unfold whyV; rw [if_neg g.1, if_neg g.2, if_pos ⟨h, h2⟩]
theorem why_low {bs : List UInt8} (g : G1 bs) (h2 : ¬ (128 ≤ bV bs 0 ∧ bs.length < 2)) (h : 0 < secV bs % 16) : whyV bs = 3 := by unfold whyV; rw [if_neg g.1, if_neg g.2, if_neg h2, if_pos h]
/-- The second one is. -/
def G2 (bs : List UInt8) : Prop := G1 bs ∧ ¬ (128 ≤ bV bs 0 ∧ bs.length < 2) ∧ ¬ 0 < secV bs % 16
theorem why_num {bs : List UInt8} (g : G2 bs) (h : hasV bs = true) (h2 : bs.length ≤ 2) : whyV bs = 2 := by unfold whyV; rw [if_neg g.1.1, if_neg g.1.2, if_neg g.2.1, if_neg g.2.2, if_pos ⟨h, h2⟩]
theorem why_wide {bs : List UInt8} (g : G2 bs) (h0 : ¬ (hasV bs = true ∧ bs.length ≤ 2)) (h : wideV bs = true) (h2 : bs.length ≤ 3) : whyV bs = 2 := by unfold whyV; rw [if_neg g.1.1, if_neg g.1.2, if_neg g.2.1, if_neg g.2.2, if_neg h0, if_pos ⟨h, h2⟩]
/-- The number is. -/
def G3 (bs : List UInt8) : Prop := G2 bs ∧ ¬ (hasV bs = true ∧ bs.length ≤ 2) ∧ ¬ (wideV bs = true ∧ bs.length ≤ 3)
theorem why_end {bs : List UInt8} (g : G3 bs) (h : bs.length < at3V bs) : whyV bs = 2 := by unfold whyV; rw [if_neg g.1.1.1, if_neg g.1.1.2, if_neg g.1.2.1, if_neg g.1.2.2, if_neg g.2.1, if_neg g.2.2, if_pos h]
theorem why_ok {bs : List UInt8} (g : G3 bs) (h : ¬ bs.length < at3V bs) : whyV bs = 0 := by unfold whyV; rw [if_neg g.1.1.1, if_neg g.1.1.2, if_neg g.1.2.1, if_neg g.1.2.2, if_neg g.2.1, if_neg g.2.2, if_neg h]
theorem why_zero {bs : List UInt8} (h : whyV bs = 0) : G3 bs ∧ ¬ bs.length < at3V bs := by
  unfold whyV at h
  by_cases h1 : bs.length < 1
  · rw [if_pos h1] at h; omega
  rw [if_neg h1] at h
  by_cases h2 : bV bs 0 / 64 % 2 = 1 ∨ bV bs 0 / 8 % 2 = 1
  · rw [if_pos h2] at h; omega
  rw [if_neg h2] at h
  by_cases h3 : 128 ≤ bV bs 0 ∧ bs.length < 2
  · rw [if_pos h3] at h; omega
  rw [if_neg h3] at h
  by_cases h4 : 0 < secV bs % 16
  · rw [if_pos h4] at h; omega
  rw [if_neg h4] at h
  by_cases h5 : hasV bs = true ∧ bs.length ≤ 2
  · rw [if_pos h5] at h; omega
  rw [if_neg h5] at h
  by_cases h6 : wideV bs = true ∧ bs.length ≤ 3
  · rw [if_pos h6] at h; omega
  rw [if_neg h6] at h
  by_cases h7 : bs.length < at3V bs
  · rw [if_pos h7] at h; omega
  exact ⟨⟨⟨⟨h1, h2⟩, h3, h4⟩, h5, h6⟩, h7⟩
/-- The bytes with another number. -/
def trnV (bs : List UInt8) (p : Nat) : List UInt8 := if wideV bs then (bs.set 2 (UInt8.ofNat (p / 256 % 128 + 128))).set 3 (UInt8.ofNat (p % 256)) else bs.set 2 (UInt8.ofNat (p % 128))
theorem trnV_len (bs : List UInt8) (p : Nat) : (trnV bs p).length = bs.length := by unfold trnV; split <;> simp
end Go.Proofs.YtmkeioeodlidgaaDoor

namespace Go.Proofs.YtmkeioeodlidgaaDoor
open Go.RowKit
set_option linter.unusedVariables false

/-- What the document's Read tells. -/
def R13 (bs : List UInt8) (w : World) (e : Ending) (w' : World) : Prop := e = .returned (.tuple #[.agg (vC (vpV bs)).toArray, .int .i64 (plcV bs : Int), .int .i64 (whyV bs : Int)]) ∧ Below w.heap.size w w'
theorem R13.no {bs : List UInt8} {w w' : World} {q : Nat} (h : whyV bs = q) (h0 : ¬ q = 0) (hb : Below w.heap.size w w') : R13 bs w (.returned (.tuple #[.agg #[.bool false, .int .u8 0, .bool false, .bool false, .int .u16 0, .bool false, .int .i64 0], .int .i64 0, .int .i64 (q : Int)])) w' := by
  refine ⟨?_, hb⟩
  unfold vpV plcV
  rw [h, if_neg h0, if_neg (fun h => h0 h.1)]
  rfl
theorem firstB (w : World) (cs : List Value) (e : TypeId) (o2 o3 : Obj) : BlkV (((w.alloc (.cells cs.toArray e)).alloc o2).alloc o3) w.heap.size e cs := (BlkV.new w e cs).below (twoBelow _ o2 o3) (BlkV.new w e cs).lt
theorem threeBelow (w : World) (o o2 o3 : Obj) : Below w.heap.size w (((w.alloc o).alloc o2).alloc o3) := (twoBelow w o o2).alloc (by show _ ≤ ((w.heap.push o).push o2).size; simp; omega) _
abbrev zerV : Array Value := #[.bool false, .int .u8 0, .bool false, .bool false, .int .u16 0, .bool false, .int .i64 0]
end Go.Proofs.YtmkeioeodlidgaaDoor

namespace Go.Proofs.YtmkeioeodlidgaaDoor
open Go.RowKit
set_option linter.unusedVariables false

/-- A row of the call's own: its cells; one of them written. -/
theorem own_at {w : World} {base : Nat} {e : TypeId} {A : Option Addr} {n c : Nat} {xs : List UInt8} (h : w.ownsRow base e 1 (.slice A n c) n (cells xs)) (hn : 0 < n) :
    ∃ g, A = some ⟨g, 0, none⟩ ∧ base ≤ g ∧ ∀ j, j < n → w.cell? ⟨g, j, none⟩ = some (.int .u8 ((xs.getD j 0).toNat : Int)) ∧ w.frozen? ⟨g, j, none⟩ = false := by
  have hr := RdS.of_own h
  obtain ⟨g, rfl, hb⟩ := own_blockN h hn
  obtain ⟨b, o, he, _, hc⟩ := hr.2.2.2.2 hn
  injection he with he
  injection he with h1 h2 _
  subst h1; subst h2
  refine ⟨g, rfl, hb, fun j hj => ⟨by have := hc j hj; rwa [Nat.zero_add] at this, ?_⟩⟩
  rcases h.2 with ⟨_, h0⟩ | ⟨g2, cap, cur, hv, _, hg, _⟩
  · omega
  · injection hv with h1 _ _
    injection h1 with h1
    injection h1 with h1 _ _
    subst h1
    exact frozen_of_row w g j _ e hg
theorem own_set {w : World} {base : Nat} {e : TypeId} {g n c : Nat} {xs : List UInt8} (h : w.ownsRow base e 1 (.slice (some ⟨g, 0, none⟩) n c) n (cells xs)) (hn : 0 < n) (j : Nat) (b : UInt8) :
    (w.setCell ⟨g, j, none⟩ (.int .u8 (b.toNat : Int))).ownsRow base e 1 (.slice (some ⟨g, 0, none⟩) n c) n (cells (xs.set j b)) := by
  obtain ⟨hl, h2⟩ := h
  refine ⟨by rw [length_cells, List.length_set, ← length_cells]; exact hl, ?_⟩
  rcases h2 with ⟨_, h0⟩ | ⟨g2, cap, cur, hv, hb, hg, h4, h5, h6, h7⟩
  · omega
  · injection hv with h1 _ hc
    injection h1 with h1
    injection h1 with h1 _ _
    subst h1; subst hc
    refine .inr ⟨g, c, cur.setIfInBounds j (.int .u8 (b.toNat : Int)), rfl, hb, heap_setCell_same w g j cur e _ hg, h4, h5, by simpa using h6, ?_⟩
    rw [Array.toList_setIfInBounds, List.take_set, h7, cells_set]
theorem own_empty1 (w : World) (o : Obj) : ((w.alloc o).alloc (.cells #[] 5)).ownsRow (w.heap.size + 1) 5 1 (.slice (some ⟨w.heap.size + 1, 0, none⟩) 0 0) 0 (cells []) := by
  have h := own_empty (w.alloc o)
  rwa [show (w.alloc o).heap.size = w.heap.size + 1 by show (w.heap.push o).size = _; simp] at h
/-- Behind the append onto an empty row that was made behind a block. -/
theorem own_first1 {w w1 : World} {o : Obj} {v1 : Value} {nb : Nat} {bs : List UInt8} (hl : bs.length = nb) (h : w1.ownsRow (w.heap.size + 1) 5 1 v1 (0 + nb) (cells ([] ++ bs)))
    (hg : ((w.alloc o).alloc (.cells #[] 5)).grownBy w1 (Value.ownBlock (.slice (some ⟨w.heap.size + 1, 0, none⟩) 0 0))) :
    w1.ownsRow (w.heap.size + 1) 5 1 v1 nb (cells bs) ∧ Below (w.heap.size + 1) (w.alloc o) w1 := by
  have e : (w.alloc o).heap.size = w.heap.size + 1 := by show (w.heap.push o).size = _; simp
  rw [← e] at h hg ⊢
  exact own_first hl h hg
theorem two_size (w : World) (o o2 : Obj) : w.heap.size + 1 ≤ ((w.alloc o).alloc o2).heap.size := by show _ ≤ ((w.heap.push o).push o2).size; simp
theorem vA_at {w1 w2 : World} {X : Array Value} {t : TypeId} (h : Below (w1.heap.size + 1) (w1.alloc (.cells X t)) w2) (j : Nat) : w2.cell? ⟨w1.heap.size, j, none⟩ = X[j]? := by
  have hB : BlkV (w1.alloc (.cells X t)) w1.heap.size t X.toList := BlkV.new_at w1 _ t X.toList X rfl (by simp)
  have := (hB.below h (by omega)).cell j
  rw [this]; simp
/-- What Turn tells. -/
def T13 (bs : List UInt8) (p : Nat) (w : World) (e : Ending) (w' : World) : Prop :=
  ((whyV bs = 0 ∧ hasV bs = true) → ∃ A' c' N, N = bs.length ∧ e = .returned (.tuple #[.slice A' N c', .bool true]) ∧ RdS w' A' N c' (trnV bs p)) ∧ (¬ (whyV bs = 0 ∧ hasV bs = true) → e = .returned (.tuple #[.slice none 0 0, .bool false])) ∧ Below w.heap.size w w'
abbrev vA (st : Bool) (part : Nat) (has wide : Bool) (pic : Nat) (key : Bool) (head : Nat) : Array Value := #[.bool st, .int .u8 (part : Int), .bool has, .bool wide, .int .u16 (pic : Int), .bool key, .int .i64 (head : Int)]
theorem vA_3 {w1 w2 : World} {st : Bool} {part : Nat} {has wide : Bool} {pic : Nat} {key : Bool} {head : Nat} {t : TypeId} (h : Below (w1.heap.size + 1) (w1.alloc (.cells (vA st part has wide pic key head) t)) w2) : w2.cell? ⟨w1.heap.size, 3, none⟩ = some (.bool wide) := by rw [vA_at h 3]; rfl
end Go.Proofs.YtmkeioeodlidgaaDoor

namespace Go.Proofs.YtmkeioeodlidgaaDoor
open Go.RowKit
set_option linter.unusedVariables false

theorem row30_ : RowTy Tryd.prog 37 30 := ⟨_, Tryd.underlying37, rfl, by kernel_rfl⟩
theorem row30 {n : Nat} (h : n = 30) : RowTy Tryd.prog 37 n := h ▸ row30_
theorem row50_ : RowTy Tryd.prog 58 50 := ⟨_, Tryd.underlying58, rfl, by kernel_rfl⟩
theorem row50 {n : Nat} (h : n = 50) : RowTy Tryd.prog 58 n := h ▸ row50_
theorem zero50 (w : World) : (zeroValue 58).run Tryd.prog w = .ok (.agg (cells Z50).toArray) w := by kernel_rfl
theorem key_boxes (w : World) (m : List UInt8) : Below w.heap.size w ((w.alloc (Obj.cells (cells m).toArray 37)).alloc (Obj.cells (cells Z16).toArray 34)) ∧
    Blk ((w.alloc (Obj.cells (cells m).toArray 37)).alloc (Obj.cells (cells Z16).toArray 34)) w.heap.size 37 m ∧
    Blk ((w.alloc (Obj.cells (cells m).toArray 37)).alloc (Obj.cells (cells Z16).toArray 34)) (w.heap.size + 1) 34 Z16 :=
  ⟨((Below.refl _ _).alloc (Nat.le_refl _) _).alloc (by simp) _, (Blk.new _ _ _).alloc _, Blk.new_at _ _ _ _ _ (by simp) rfl⟩
/-- Bytes of any number that is not above the most: as many as it says, none if it is below one. -/
theorem bytesK_any (key c : List UInt8) (n : Int) (N : Nat) (w : World) (hk : key.length = 16) (hc : c.length = 16) (hn : n ≤ 4096) (hN : N = n.toNat) :
    Calls Tryd.prog 51 #[.agg (cells key).toArray, .agg (cells c).toArray, .int .i64 n] w fun e w' => ∃ A c', e = .returned (.slice A N c') ∧ RdS w' A N c' (strm key c N) ∧ Below w.heap.size w w' := by
  by_cases h : n < 1
  · have h0 : N = 0 := by omega
    subst h0
    exact (bytes_none key c n w h).mono fun e w' ⟨he, hb⟩ => ⟨none, 0, he, RdS.nil w', hb⟩
  · have hn2 : n = (N : Int) := by omega
    subst hn2
    exact (bytes_any key c N w hk hc (by omega) (by omega)).mono fun e w' ⟨g, he, _, hB, hb⟩ => ⟨some ⟨g, 0, none⟩, N, he, hB.rd (strm_len _ _ _) (Nat.le_refl _) (by simp only [maxLen]; omega), hb⟩

set_option maxRecDepth 100000 in
set_option maxHeartbeats 1000000 in
theorem derive_any (key salt : List UInt8) (l : Nat) (n : Int) (N : Nat) (w : World) (hk : key.length = 16) (hs : salt.length = 14) (hl : l < 256) (hn : n ≤ 4096) (hN : N = n.toNat) :
    Calls Tryd.prog 46 #[.agg (cells (mst key salt)).toArray, .int .u8 (l : Int), .int .i64 n] w fun e w' => ∃ A c', e = .returned (.slice A N c') ∧ RdS w' A N c' (drv key salt l N) ∧ Below w.heap.size w w' := by
  have hz := zero16
  obtain ⟨hb0, h0, h1⟩ := key_boxes w (mst key salt)
  have hsp := salt_splice salt hs
  have hmk := mst_key key salt hk
  have hms := mst_salt key salt hk
  have hby := fun wx => bytesK_any key (labC salt l) n N wx hk (labC_len salt l hs) hn hN
  have hll : (UInt8.ofNat l).toNat = l := by rw [UInt8.toNat_ofNat']; omega
  have hxr := xr8 ((saltZ salt).getD 7 0) (UInt8.ofNat l)
  rw [hll] at hxr
  have hlc : (saltZ salt).set 7 ((saltZ salt).getD 7 0 ^^^ UInt8.ofNat l) = labC salt l := rfl
  have hsz : (saltZ salt).length = 16 := saltZ_len _ hs
  obtain ⟨D, hD⟩ : ∃ D, D = drv key salt l N := ⟨_, rfl⟩
  have hD2 : strm key (labC salt l) N = D := by rw [hD]; rfl
  simp only [hD2] at hby
  rw [← hD]
  obtain ⟨C, hC⟩ : ∃ C, C = labC salt l := ⟨_, rfl⟩
  have hCl : (cells C).length = 16 := by rw [length_cells, hC, labC_len _ _ hs]
  simp only [← hC] at hby hlc
  obtain ⟨SZ, hSZ⟩ : ∃ SZ, SZ = saltZ salt := ⟨_, rfl⟩
  rw [← hSZ] at hsp hsz hlc hxr
  obtain ⟨V, hV⟩ : ∃ V, V = SZ.getD 7 0 ^^^ UInt8.ofNat l := ⟨_, rfl⟩
  rw [← hV] at hlc hxr
  obtain ⟨v, hv⟩ : ∃ v : Int, v = (V.toNat : Int) := ⟨_, rfl⟩
  obtain ⟨y, hy⟩ : ∃ y : Int, y = ((SZ.getD 7 0).toNat : Int) := ⟨_, rfl⟩
  rw [← hv, ← hy] at hxr
  obtain ⟨M, hM⟩ : ∃ M, M = mst key salt := ⟨_, rfl⟩
  rw [← hM] at h0 h1 hb0 hmk hms ⊢
  have hZL : (cells Z16).length = 16 := by rw [length_cells, Z16_len]
  have hKL : (cells key).length = 16 := by rw [length_cells, hk]
  have HZL := Lib.hid hZL
  have HKL := Lib.hid hKL
  have HCL := Lib.hid hCl
  have HSP := Lib.hid hsp
  have HMK := Lib.hid hmk
  have HMS := Lib.hid hms
  have HBY := Lib.hid hby
  have HLC := Lib.hid hlc
  have HSZ := Lib.hid hsz
  have HS := Lib.hid hs
  have HV := Lib.hid hv
  have HY := Lib.hid hy
  clear hsp hmk hms hby hll hlc hsz hD hD2 hC hCl hSZ hV hv hy hM hZL hKL hs hk hn hN
  go_enter Tryd.func46, Tryd.ntmps46
  go_wp2
  go_still_tail 3, (by kernel_rfl)
  change wpList _ _ _ _ _ (World.drew _)
  have k0 := h0.drew
  have k1 := h1.drew
  have kb := hb0.drew
  generalize ((w.alloc (Obj.cells (cells M).toArray 37)).alloc (Obj.cells (cells Z16).toArray 34)).drew = w2 at *
  clear h0 h1 hb0
  have ks := k0.rdAt 16 14 14 HS.out (Nat.le_refl 14) (by simp [maxLen]) HMS.out
  go_wp2_with (first
    | ((with_reducible refine wpList_cp rfl (.tmp 8) (.tmp 10) rfl Tryd.underlying22 u8_inf (w.heap.size + 1) 0 16 16 34 (cells Z16) rfl k1.v (some ⟨w.heap.size, 16, none⟩) 14 14 salt rfl ks (by rw [HZL.out]; omega) 14 (by decide) (by omega) ?_); intro w3 hB3 ho3; rw [HSP.out] at hB3; have hB3' : Blk w3 (w.heap.size + 1) 34 SZ := hB3; have j0 := Blk.only k0 ho3 (by omega); have jb := kb.trans (ho3.below (by omega)); have hcell := hB3'.cell (j := 7) (by rw [HSZ.out]; omega); rw [← HY.out] at hcell; have hfr := hB3'.frozen 7; have hst := hB3'.set_ 7 V; rw [HLC.out, ← HV.out] at hst; have j0s := j0.far (p := ⟨w.heap.size + 1, 7, none⟩) (by simp) (.int .u8 v); have jbs := jb.setCell (p := ⟨w.heap.size + 1, 7, none⟩) (by simp) (.int .u8 v))
    | (with_reducible refine wpList_ld rfl 34 (.tmp 17) rfl w.heap.size 0 rfl (cells key) (j0s.v.range 0 _ HMK.out) (row16 HKL.out) ?_)
    | (with_reducible refine wpList_ld rfl 34 (.tmp 7) rfl (w.heap.size + 1) 0 rfl (cells C) (hst.v.range 0 _ (by simp)) (row16 HCL.out) ?_)
    | (go_at_call 51; ((with_reducible refine (HBY.out _).mono ?_); rintro e w4 ⟨A4, c4, rfl, hr4, hb4⟩)))
  go_ret
  exact ⟨A4, c4, rfl, hr4, jbs.trans (hb4.mono jbs.size)⟩
end Go.Proofs.YtmkeioeodlidgaaDoor
