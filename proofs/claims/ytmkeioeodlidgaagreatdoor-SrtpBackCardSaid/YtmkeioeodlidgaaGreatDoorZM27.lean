/- Several texts in one: What the document's answer for layer 10 (tenailleref10) writes, or that it may not be. What the document's way of layer 15 (tenailleref15.Way) tells of a packet to be sealed (Seal). Contracts of package mac: Check. No statement is proved here. -/
import Derived.Test.YtmkeioeodlidgaaGreatDoorZM26
import Derived.Test.YtmkeioeodlidgaaGreatDoorZM25
import Derived.Test.YtmkeioeodlidgaaGreatDoorZM5
import Derived.Test.YtmkeioeodlidgaaGreatDoorZM21
import Derived.Test.YtmkeioeodlidgaaGreatDoorZM20
import Derived.StillTailTactics
import Derived.Test.YtmkeioeodlidgaaGreatDoorZMac4
namespace Go.Proofs.YtmkeioeodlidgaaGreatDoor
open Go.RowKit
set_option linter.unusedVariables false

end Go.Proofs.YtmkeioeodlidgaaGreatDoor

namespace Go.Proofs.YtmkeioeodlidgaaGreatDoor
open Go.RowKit
set_option linter.unusedVariables false

/-- What is sealed of a packet by an index; the way behind it. -/
noncomputable def outSeal (y : Wy) (p : Pkt) (i : Int) : List UInt8 := if whySeal y p i = 0 then sealB y (wrB p) (at1 (wrB p)) p.so i.toNat else []
noncomputable def ySeal (y : Wy) (p : Pkt) (i : Int) : Wy := if whySeal y p i = 0 then y.once else y
/-- What Seal tells, of any kind of ways. -/
def SealR (R : World → Value → Wy → (Nat → Prop) → Prop) (p : Value) (y : Wy) (F : Nat → Prop) (pk : Pkt) (i : Int) (w : World) (e : Ending) (w' : World) : Prop :=
  ∃ A n c F', e = .returned (.tuple #[.slice A n c, .int .i64 (whySeal y pk i)]) ∧ w'.ownsRow w.heap.size 5 1 (.slice A n c) n (cells (outSeal y pk i)) ∧ (∀ k, (Value.slice A n c).ownBlock = some k → ¬ F' k) ∧ R w' p (ySeal y pk i) F' ∧ Fr F w w' ∧ ∀ k, F' k → F k ∨ w.heap.size ≤ k
theorem SealR.no {R : World → Value → Wy → (Nat → Prop) → Prop} {p : Value} {y : Wy} {F : Nat → Prop} {pk : Pkt} {i : Int} {w w' : World} {q : Int} (hR : Lone R) (h : R w p y F) (hw : whySeal y pk i = q) (hq : q ≠ 0) (hb : Below w.heap.size w w') :
    SealR R p y F pk i w (.returned (.tuple #[.slice none 0 0, .int .i64 q])) w' := by
  refine ⟨none, 0, 0, F, by rw [hw], ?_, (fun k hk => nomatch hk), ?_, Fr.of_below hb, (fun k hk => .inl hk)⟩
  · unfold outSeal
    rw [hw, if_neg hq]
    exact World.ownsRow_nil _ _ _ _
  · unfold ySeal
    rw [hw, if_neg hq]
    exact hR.below h hb
theorem why7 {y : Wy} {pk : Pkt} {i : Int} (h : y.limit ≤ y.used) : whySeal y pk i = 7 := by unfold whySeal; rw [if_pos h]
theorem why1 {y : Wy} {pk : Pkt} {i : Int} (h : ¬ y.limit ≤ y.used) (h2 : ¬ mayW pk i) : whySeal y pk i = 1 := by unfold whySeal; rw [if_neg h, if_pos h2]
theorem why0 {y : Wy} {pk : Pkt} {i : Int} (h : ¬ y.limit ≤ y.used) (h2 : mayW pk i) : whySeal y pk i = 0 := by unfold whySeal; rw [if_neg h, if_neg (fun h3 => h3 h2)]
/-- Seal under way: the packet is boxed. -/
structure SE (w : World) (g : Nat) (y : Wy) (nm ww : Value) (r : Nat → Nat) (v : Nat → Value) (cs : List Value) (pk : Pkt) (wx : World) : Prop where
  way : RWay wx g y nm ww r v
  box : BlkV wx w.heap.size 37 cs
  rd : PkRd wx cs pk
  below : Below w.heap.size w wx
  lt : w.heap.size < wx.heap.size
theorem SE.on {w wx wy : World} {g : Nat} {y : Wy} {nm ww : Value} {r : Nat → Nat} {v : Nat → Value} {cs : List Value} {pk : Pkt} (h : SE w g y nm ww r v cs pk wx) (hb : Below wx.heap.size wx wy) : SE w g y nm ww r v cs pk wy :=
  ⟨h.way.below hb, h.box.below hb h.box.lt, h.rd.below hb, h.below.trans (hb.mono h.below.size), Nat.lt_of_lt_of_le h.lt hb.size⟩
theorem SE.start {w : World} {g : Nat} {y : Wy} {nm ww : Value} {r : Nat → Nat} {v : Nat → Value} {cs : List Value} {pk : Pkt} (h : RWay w g y nm ww r v) (hp : PkRd w cs pk) : SE w g y nm ww r v cs pk (w.alloc (.cells cs.toArray 37)) := by
  have hb : Below w.heap.size w (w.alloc (.cells cs.toArray 37)) := (Below.refl _ _).alloc (Nat.le_refl _) _
  exact ⟨h.below hb, BlkV.new _ _ _, hp.below hb, hb, by rw [← size_alloc]; omega⟩
theorem PkRd.sq_so {w : World} {cs : List Value} {p : Pkt} (h : PkRd w cs p) : cs[2]? = some (.int .u16 (p.sq : Int)) ∧ cs[4]? = some (.int .u32 (p.so : Int)) := by
  obtain ⟨A, a, B, b, D, d, e, _⟩ := h
  subst e
  exact ⟨rfl, rfl⟩
end Go.Proofs.YtmkeioeodlidgaaGreatDoor

namespace Go.Proofs.YtmkeioeodlidgaaGreatDoor
open Go.RowKit
set_option linter.unusedVariables false

set_option maxHeartbeats 1000000 in
theorem check_any (A : Option Addr) (nb c : Nat) (key : List UInt8) (B : Option Addr) (nt ct : Nat) (tag : List UInt8) (ad : Addr) (k cp : Nat) (ps : List (List UInt8)) (w : World) (ht : TabH w) (hw : 0 < w.heap.size) (hr : RdS w A nb c key) (hle : nb ≤ 100000)
    (hrt : RdS w B nt ct tag) (hp : PartsRd w (some ad) k ps) (hk : k ≤ 1000) (hpl : ps.flatten.length ≤ 100000) (t : Bool) (htt : t = decide (1 ≤ nt ∧ nt ≤ 20 ∧ tag = (macFull key ps.flatten).take nt)) :
    Calls Tryz.prog 62 #[.slice A nb c, .slice B nt ct, .slice (some ad) k cp] w fun e w' => e = .returned (.bool t) ∧ Below w.heap.size w w' := by
  have hs := hrt.small
  by_cases h0 : nt < 1
  · have e0 : t = false := by rw [htt]; simp; omega
    subst e0
    have hd : (nt : Int) < 1 := by omega
    go_enter Tryz.func62, Tryz.ntmps62
    go_wp2
    go_ret
    exact ⟨rfl, Below.refl _ _⟩
  by_cases h1 : 20 < nt
  · have e0 : t = false := by rw [htt]; simp; omega
    subst e0
    have hd : (20 : Int) < (nt : Int) := by omega
    have hd1 : decide ((nt : Int) < 1) = false := by simp; omega
    go_enter Tryz.func62, Tryz.ntmps62
    go_wp2
    go_ret
    exact ⟨rfl, Below.refl _ _⟩
  have hd : decide ((20 : Int) < (nt : Int)) = false := by simp; omega
  have hd1 : decide ((nt : Int) < 1) = false := by simp; omega
  have htg := tag_any A nb c key (nt : Int) ad k cp ps w ht hw hr hle (by omega) hp hk hpl
  have hcm := cutN_mid nt (by omega) (by omega)
  have e : tagB (nt : Int) (macFull key ps.flatten) = (macFull key ps.flatten).take nt := by rw [tagB, hcm]
  rw [hcm, e] at htg
  have htt' : t = decide (tag = (macFull key ps.flatten).take nt) := by
    rw [htt]
    congr 1
    simp only [eq_iff_iff]
    exact ⟨fun h => h.2.2, fun h => ⟨by omega, by omega, h⟩⟩
  obtain ⟨T, hT⟩ : ∃ T, T = (macFull key ps.flatten).take nt := ⟨_, rfl⟩
  rw [← hT] at htg htt'
  have HT := Lib.hid htg
  have HE := Lib.hid htt'
  clear htg htt' htt e hcm hT h0 h1
  go_enter Tryz.func62, Tryz.ntmps62
  go_wp2_with (first
    | (go_at_call 25; ((with_reducible refine (Hid.out HT).mono ?_); rintro e w2 ⟨A', rfl, hrd, hb2⟩; have hrt2 := hrt.below hb2))
    | (go_at_call 86; ((with_reducible refine (same_any B nt ct tag A' nt nt T w2 hrt2 hrd t HE.out).mono ?_); rintro e w' ⟨rfl, rfl⟩)))
  go_ret
  exact ⟨rfl, hb2⟩
end Go.Proofs.YtmkeioeodlidgaaGreatDoor
