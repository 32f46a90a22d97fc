/- Plain words on packets, and the cells that hold one. No statement is proved here. -/
import Derived.Test.YticbajagccemoaaRtp3
namespace Go.Proofs.Yticbajagccemoaa
open Go.RowKit
set_option linter.unusedVariables false

/-- The cells of a packet. -/
def rtpC (m : Bool) (ty sq st so : Nat) (O : Value) (x : Bool) (pf : Nat) (E L : Value) (pd : Nat) : List Value :=
  [.bool m, .int .u8 (ty : Int), .int .u16 (sq : Int), .int .u32 (st : Int), .int .u32 (so : Int), O, .bool x, .int .u16 (pf : Int), E, L, .int .u8 (pd : Int)]
theorem rtpC_len (m : Bool) (ty sq st so : Nat) (O : Value) (x : Bool) (pf : Nat) (E L : Value) (pd : Nat) : (rtpC m ty sq st so O x pf E L pd).length = 11 := rfl
def zeroC : List Value := rtpC false 0 0 0 0 (.slice none 0 0) false 0 (.slice none 0 0) (.slice none 0 0) 0
theorem zero28 (w : World) : (zeroValue 28).run Try.prog w = .ok (.agg zeroC.toArray) w := by kernel_rfl
theorem row11_ : RowTy Try.prog 28 11 := ⟨_, Try.underlying28, rfl, by kernel_rfl⟩
theorem row11 {n : Nat} (h : n = 11) : RowTy Try.prog 28 n := h ▸ row11_

/-- Byte i. -/
def bt (bs : List UInt8) (i : Nat) : Nat := (bs.getD i 0).toNat
theorem bt_lt (bs : List UInt8) (i : Nat) : bt bs i < 256 := (bs.getD i 0).toNat_lt
theorem numb_one (bs : List UInt8) (i : Nat) (h : i < bs.length) : numb ((bs.drop i).take 1) = bt bs i := by
  rw [List.drop_eq_getElem_cons h, List.take_succ_cons, List.take_zero]
  simp [numb, bt, List.getD, h]
def othN (bs : List UInt8) : Nat := bt bs 0 % 16
def at0 (bs : List UInt8) : Nat := 12 + 4 * othN bs
def sqN (bs : List UInt8) : Nat := numb ((bs.drop 2).take 2)
def stN (bs : List UInt8) : Nat := numb ((bs.drop 4).take 4)
def soN (bs : List UInt8) : Nat := numb ((bs.drop 8).take 4)
theorem sqN_lt (bs : List UInt8) : sqN bs < 65536 := by have := numb_take_lt (bs.drop 2) 2; simpa [sqN] using this
theorem stN_lt (bs : List UInt8) : stN bs < 4294967296 := by have := numb_take_lt (bs.drop 4) 4; simpa [stN] using this
theorem soN_lt (bs : List UInt8) : soN bs < 4294967296 := by have := numb_take_lt (bs.drop 8) 4; simpa [soN] using this

theorem and_u64 (x j : Nat) (hx : x < 18446744073709551616) (hj : j ≤ 32) (m : Int) (hm : m = ((2 ^ j - 1 : Nat) : Int)) : bits BinOp.and IntKind.u64 (x : Int) m = ((x % 2 ^ j : Nat) : Int) := by
  have h2 : 2 ^ j ≤ 2 ^ 32 := Nat.pow_le_pow_right (by omega) hj
  subst hm
  rw [u64_and_nat _ _ hx (by have : (2 : Nat) ^ 32 = 4294967296 := by decide
                             omega), Nat.and_two_pow_sub_one_eq_mod]
theorem rtpC_one (m : Bool) (ty sq st so : Nat) (A : Option Addr) (n a : Nat) (x : Bool) (pf : Nat) (B : Option Addr) (k b : Nat) (D : Option Addr) (l d : Nat) (pd : Nat) : ∀ v ∈ rtpC m ty sq st so (.slice A n a) x pf (.slice B k b) (.slice D l d) pd, v.oneCell' = true := by
  intro v hv
  simp only [rtpC, List.mem_cons, List.not_mem_nil, or_false] at hv
  rcases hv with rfl | rfl | rfl | rfl | rfl | rfl | rfl | rfl | rfl | rfl | rfl <;> rfl

/-- Among the blocks that were there none but g and p may have turned. -/
structure Two (g p : Nat) (w w' : World) : Prop where
  os : w'.os = w.os
  tape : w'.tape = w.tape
  output : w'.output = w.output
  size : w.heap.size ≤ w'.heap.size
  block : ∀ k, k < w.heap.size → k ≠ g → k ≠ p → w'.heap[k]? = w.heap[k]?
section
variable {g p : Nat} {w w' w'' : World}
theorem Two.refl (g p : Nat) (w : World) : Two g p w w := ⟨rfl, rfl, rfl, Nat.le_refl _, fun _ _ _ _ => rfl⟩
theorem Two.trans (h : Two g p w w') (k : Two g p w' w'') : Two g p w w'' := ⟨k.os.trans h.os, k.tape.trans h.tape, k.output.trans h.output, Nat.le_trans h.size k.size, fun i hi h1 h2 => (k.block i (Nat.lt_of_lt_of_le hi h.size) h1 h2).trans (h.block i hi h1 h2)⟩
theorem Two.of_g (h : Only g w w') : Two g p w w' := ⟨h.os, h.tape, h.output, by rw [h.size]; exact Nat.le_refl _, fun k _ h1 _ => h.block k h1⟩
theorem Two.of_p (h : Only p w w') : Two g p w w' := ⟨h.os, h.tape, h.output, by rw [h.size]; exact Nat.le_refl _, fun k _ _ h2 => h.block k h2⟩
theorem Two.of_grown (h : w.grownBy w' (some g)) : Two g p w w' := ⟨h.os, h.tape, h.output, h.size, fun k hk h1 _ => h.block k hk (fun e => h1 (by injection e))⟩
theorem Two.of_below (h : Below w.heap.size w w') : Two g p w w' := ⟨h.os, h.tape, h.output, h.size, fun k hk _ _ => h.block k hk⟩
theorem Two.alloc (w : World) (o : Obj) : Two g p w (w.alloc o) := Two.of_below ((Below.refl _ _).alloc (Nat.le_refl _) o)
theorem Two.set_ (w : World) (j : Nat) (v : Value) : Two g p w (w.setCell ⟨p, j, none⟩ v) := Two.of_p (Only.set w p j v)
theorem Two.grown (h : Two g p w w') (hp : w.heap.size ≤ p) : w.grownBy w' (some g) := ⟨h.os, h.tape, h.output, h.size, fun k hk h1 => h.block k hk (fun e => h1 (by rw [e])) (by omega)⟩
theorem Two.blk {r : Nat} {e : TypeId} {cs : List Value} (h : Two g p w w') (hB : BlkV w r e cs) (h1 : r ≠ g) (h2 : r ≠ p) : BlkV w' r e cs := (h.block r hB.lt h1 h2).trans hB
theorem Two.own {base n : Nat} {e : TypeId} {v : Value} {xs : List Value} (h : Two g p w w') (ho : w.ownsRow base e 1 v n xs) (h1 : g < base) (h2 : ∀ q, v.ownBlock = some q → q ≠ p) : w'.ownsRow base e 1 v n xs := by
  obtain ⟨hl, hr⟩ := ho
  refine ⟨hl, ?_⟩
  rcases hr with hr | ⟨q, cap, cur, hv, hg, hh, hrest⟩
  · exact .inl hr
  · exact .inr ⟨q, cap, cur, hv, hg, (h.block q (Array.getElem?_eq_some_iff.1 hh).1 (by omega) (h2 q (by rw [hv]; rfl))).trans hh, hrest⟩
end

/-- A packet, plain. -/
structure Pkt where
  m : Bool
  ty : Nat
  sq : Nat
  st : Nat
  so : Nat
  ot : List Nat
  x : Bool
  pf : Nat
  xt : List UInt8
  pl : List UInt8
  pd : Nat
/-- The cells are a packet's whose slices are the call's own, above base. -/
def PkOwn (w : World) (base : Nat) (cs : List Value) (p : Pkt) : Prop := ∃ A a B b D d, cs = rtpC p.m p.ty p.sq p.st p.so (.slice A p.ot.length a) p.x p.pf (.slice B p.xt.length b) (.slice D p.pl.length d) p.pd ∧
  w.ownsRow base 25 1 (.slice A p.ot.length a) p.ot.length (ucells p.ot) ∧ w.ownsRow base 5 1 (.slice B p.xt.length b) p.xt.length (cells p.xt) ∧ w.ownsRow base 5 1 (.slice D p.pl.length d) p.pl.length (cells p.pl)

def exB (bs : List UInt8) : Bool := bt bs 0 / 16 % 2 == 1
def pdB (bs : List UInt8) : Bool := bt bs 0 / 32 % 2 == 1
def wordsN (bs : List UInt8) : Nat := numb ((bs.drop (at0 bs + 2)).take 2)
def at1 (bs : List UInt8) : Nat := if exB bs then at0 bs + 4 + 4 * wordsN bs else at0 bs
def padN (bs : List UInt8) : Nat := if pdB bs then bt bs (bs.length - 1) else 0
/-- The packet that bytes are, if they are one. -/
def pktR (bs : List UInt8) : Pkt where
  m := bt bs 1 / 128 == 1
  ty := bt bs 1 % 128
  sq := sqN bs
  st := stN bs
  so := soN bs
  ot := srcs (bs.drop 12) (othN bs)
  x := exB bs
  pf := if exB bs then numb ((bs.drop (at0 bs)).take 2) else 0
  xt := if exB bs then (bs.drop (at0 bs + 4)).take (4 * wordsN bs) else []
  pl := (bs.drop (at1 bs)).take (bs.length - at1 bs - padN bs)
  pd := padN bs
/-- Why bytes are no packet; 0: they are one. -/
def whyR (bs : List UInt8) : Int :=
  if 1200 < bs.length then 3 else if bs.length < 12 then 2 else if bt bs 0 / 64 ≠ 2 then 3 else if bs.length < at0 bs then 2
  else if exB bs = true ∧ bs.length < at0 bs + 4 then 2 else if exB bs = true ∧ bs.length < at1 bs then 2 else if exB bs = true ∧ 255 < wordsN bs then 3
  else if pdB bs = true ∧ (at1 bs = bs.length ∨ bt bs (bs.length - 1) = 0 ∨ bs.length - at1 bs < bt bs (bs.length - 1)) then 3 else 0
end Go.Proofs.Yticbajagccemoaa
