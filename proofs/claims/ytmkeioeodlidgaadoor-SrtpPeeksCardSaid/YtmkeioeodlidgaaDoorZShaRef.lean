/- What the document's answer for layer 3 (tenailleref03.Sum) answers, and what it leaves of memory. No statement is proved here. -/
import Derived.Test.YtmkeioeodlidgaaDoorZM7
import Derived.Test.YtmkeioeodlidgaaDoorZM1
import Derived.Test.YtmkeioeodlidgaaDoorZM5
import Derived.Deep.RegionHeld3
import Derived.IntWalk
namespace Go.Proofs.YtmkeioeodlidgaaDoor
open Go.RowKit
set_option linter.unusedVariables false

theorem u32_info : (Tryd.prog.info? 24).map (fun i => (i.zero, i.size, i.bytes)) = some (some (.int .u32 0), 1, 4) := by kernel_rfl
theorem zeros_on (n k : Nat) (hk : k < zeros n) : (n + 1 + k) % 64 ≠ 56 := by unfold zeros at hk; omega
theorem zeros_end (n : Nat) : (n + 1 + zeros n) % 64 = 56 := by unfold zeros; omega
theorem zeros_lt (n : Nat) : zeros n < 64 := by unfold zeros; omega

theorem c32_snoc (l : List Nat) (x : Nat) : c32 (l ++ [x]) = c32 l ++ [.int .u32 (x : Int)] := by simp [c32]
/-- What the answer has in memory while it reckons: its result's place, the message as it is closed, the five words. -/
structure Env (w : World) (gr gh B : Nat) (v3 : Value) (L : Nat) (bb : List UInt8) (hs : S5) (wx : World) : Prop where
  own : wx.ownsRow (w.heap.size + 1) 5 1 v3 L (cells bb)
  h : BlkV wx gh 24 (c32 hs.l)
  res : BlkV wx gr 56 (cells (List.replicate 20 0))
  below : Below w.heap.size w wx
  ltv : ∀ g, v3.ownBlock = some g → g < B
  lth : gh < B
  ltr : gr < B
  neh : v3.ownBlock ≠ some gh
  nrh : gr ≠ gh
  hi : w.heap.size ≤ gh
  size : B ≤ wx.heap.size
section
variable {w wx wy : World} {gr gh B : Nat} {v3 : Value} {L : Nat} {bb : List UInt8} {hs : S5}
theorem Env.grown {row : Option Nat} (h : Env w gr gh B v3 L bb hs wx) (hg : wx.grownBy wy row) (hr : ∀ g, row = some g → B ≤ g) : Env w gr gh B v3 L bb hs wy := by
  have hB : w.heap.size ≤ B := Nat.le_trans h.hi (Nat.le_of_lt h.lth)
  refine ⟨h.own.kept hg ?_, h.h.grown hg ?_, h.res.grown hg ?_, h.below.grown hg h.below.size (fun g e => Nat.le_trans hB (hr g e)), h.ltv, h.lth, h.ltr, h.neh, h.nrh, h.hi, Nat.le_trans h.size hg.size⟩
  · cases hv : v3.ownBlock with
    | none => exact .inl rfl
    | some g => exact .inr fun e => by have := hr g e.symm; have := h.ltv g hv; omega
  · exact fun e => by have := hr _ e.symm; have := h.lth; omega
  · exact fun e => by have := hr _ e.symm; have := h.ltr; omega
theorem Env.alloc (h : Env w gr gh B v3 L bb hs wx) (o : Obj) : Env w gr gh B v3 L bb hs (wx.alloc o) := h.grown (World.grownBy_alloc wx o none) (by simp)
theorem Env.drewN (h : Env w gr gh B v3 L bb hs wx) (n : Nat) : Env w gr gh B v3 L bb hs (wx.drewN n) := h.grown (row := none) ⟨rfl, rfl, rfl, Nat.le_refl _, fun _ _ _ => rfl⟩ (by simp)
theorem Env.raise (h : Env w gr gh B v3 L bb hs wx) : Env w gr gh wx.heap.size v3 L bb hs wx :=
  ⟨h.own, h.h, h.res, h.below, fun g hg => (h.own.lt g hg).2, h.h.lt, h.res.lt, h.neh, h.nrh, h.hi, Nat.le_refl _⟩
theorem Env.set (h : Env w gr gh B v3 L bb hs wx) (i : Nat) (v : Value) (hs' : S5) (he : (c32 hs.l).set i v = c32 hs'.l) : Env w gr gh B v3 L bb hs' (wx.setCell ⟨gh, i, none⟩ v) := by
  have ho := Only.set wx gh i v
  refine ⟨h.own.kept ho.grown (.inr h.neh), ?_, h.res.only ho h.nrh, h.below.trans (ho.below h.hi), h.ltv, h.lth, h.ltr, h.neh, h.nrh, h.hi, by rw [ho.size]; exact h.size⟩
  have := h.h.set_ i v
  rwa [he] at this
/-- The five words, one block further. -/
theorem Env.next {s r : S5} (h : Env w gr gh B v3 L bb s wx) : Env w gr gh B v3 L bb (s.plus r) (((((wx.setCell ⟨gh, 0, none⟩ (.int .u32 (((s.a : Int) + r.a) % 4294967296))).setCell ⟨gh, 1, none⟩ (.int .u32 (((s.b : Int) + r.b) % 4294967296))).setCell ⟨gh, 2, none⟩ (.int .u32 (((s.c : Int) + r.c) % 4294967296))).setCell ⟨gh, 3, none⟩ (.int .u32 (((s.d : Int) + r.d) % 4294967296))).setCell ⟨gh, 4, none⟩ (.int .u32 (((s.e : Int) + r.e) % 4294967296))) :=
  ((((h.set 0 _ ⟨(s.a + r.a) % 4294967296, s.b, s.c, s.d, s.e⟩ rfl).set 1 _ ⟨(s.a + r.a) % 4294967296, (s.b + r.b) % 4294967296, s.c, s.d, s.e⟩ rfl).set 2 _ ⟨(s.a + r.a) % 4294967296, (s.b + r.b) % 4294967296, (s.c + r.c) % 4294967296, s.d, s.e⟩ rfl).set 3 _ ⟨(s.a + r.a) % 4294967296, (s.b + r.b) % 4294967296, (s.c + r.c) % 4294967296, (s.d + r.d) % 4294967296, s.e⟩ rfl).set 4 _ (s.plus r) rfl
end

theorem own_monoH {w : World} {base base' : Nat} {e : TypeId} {v : Value} {n : Nat} {xs : List Value} (h : w.ownsRow base e 1 v n xs) (hb : base' ≤ base) : w.ownsRow base' e 1 v n xs := by
  refine ⟨h.1, ?_⟩
  rcases h.2 with hn | ⟨g, cap, cur, hv, hg, rest⟩
  · exact .inl hn
  · exact .inr ⟨g, cap, cur, hv, Nat.le_trans hb hg, rest⟩
theorem rd_byte (w : World) (b : UInt8) (x : Int) (hx : x = (b.toNat : Int)) : RdS (w.alloc (.cells #[.int .u8 x] 5)) (some ⟨w.heap.size, 0, none⟩) 1 1 [b] := by
  subst hx
  exact (show Blk (w.alloc (.cells #[.int .u8 (b.toNat : Int)] 5)) w.heap.size 5 [b] from Blk.new w _ [b]).rd rfl (Nat.le_refl _) (by simp [maxLen])

end Go.Proofs.YtmkeioeodlidgaaDoor
