/- Several texts in one: plain words and walks. No statement is proved here. -/
import Derived.Test.YtmkeioeodlidgaaGreatDoorZM33
import Derived.Test.YtmkeioeodlidgaaGreatDoorZSrtpR10
import Derived.StillTailTactics
namespace Go.Proofs.YtmkeioeodlidgaaGreatDoor
open Go.RowKit
set_option linter.unusedVariables false

theorem good_seal {y : Wy} (h : y.good) (pk : Pkt) (i : Int) (hu : y.used + 1 ≤ 900) : (ySeal y pk i).good := by
 unfold ySeal
 by_cases hq : whySeal y pk i = 0
 · rw [if_pos hq]; exact good_once h hu
 · rw [if_neg hq]; exact h
theorem used_seal (y : Wy) (pk : Pkt) (i : Int) : (ySeal y pk i).used ≤ y.used + 1 := by
 unfold ySeal
 by_cases hq : whySeal y pk i = 0
 · rw [if_pos hq]; show y.used + 1 ≤ _; omega
 · rw [if_neg hq]; omega
theorem used_open (y : Wy) (b : List UInt8) : (yO y b).used ≤ y.used + 1 := by
 unfold yO
 by_cases hq : whyOpen y b = 0
 · rw [if_pos hq]; show y.used + 1 ≤ _; omega
 · rw [if_neg hq]; omega
theorem out_small (y : Wy) (pk : Pkt) (i : Int) (hf : fits pk) : (outSeal y pk i).length ≤ 1200 := by
 unfold outSeal
 by_cases hq : whySeal y pk i = 0
 · rw [if_pos hq]
   have h1 : ¬ y.limit ≤ y.used := fun h => absurd ((why7 h).symm.trans hq) (by decide)
   have h2 : mayW pk i := Classical.byContradiction fun h => absurd ((why1 h1 h).symm.trans hq) (by decide)
   have h3 := (sealed_ok y pk i h2 hf).len
   have h4 := (sealed_ok y pk i h2 hf).small
   omega
 · rw [if_neg hq]; simp
abbrev Ob := World → Value → Wy → (Nat → Prop) → Prop
def RCel (cs : List Value) (w : World) (p : Value) (_ : Wy) (F : Nat → Prop) : Prop := ∃ g, p = .pointer (some ⟨g, 0, none⟩) ∧ BlkV w g 39 cs ∧ F = fun k => k = g
theorem rcel_lone (cs : List Value) : Lone (RCel cs) where
 low := by
  rintro w p s F ⟨g, rfl, hB, rfl⟩ k rfl
  exact hB.lt
 stay := by
  rintro w w2 p s F ⟨g, rfl, hB, rfl⟩ _ hs
  exact ⟨g, rfl, (hs g rfl).trans hB, rfl⟩
theorem rcel_open {cs : List Value} {w : World} {g : Nat} {y : Wy} {F : Nat → Prop} (h : RCel cs w (.pointer (some ⟨g, 0, none⟩)) y F) : BlkV w g 39 cs := by
 obtain ⟨g2, e, hB, _⟩ := h
 injection e with e
 injection e with e
 injection e with e _ _
 subst e
 exact hB
def RQ (r4 r5 r6 r7 : Ob) : Nat → Ob
 | 0 => RP
 | 1 => RP
 | 2 => RY
 | 3 => RY
 | 4 => r4
 | 5 => r5
 | 6 => r6
 | _ + 7 => r7
theorem rq_lone {r4 r5 r6 r7 : Ob} (h4 : Lone r4) (h5 : Lone r5) (h6 : Lone r6) (h7 : Lone r7) : ∀ i, Lone (RQ r4 r5 r6 r7 i)
 | 0 => rp_lone
 | 1 => rp_lone
 | 2 => ry_lone
 | 3 => ry_lone
 | 4 => h4
 | 5 => h5
 | 6 => h6
 | _ + 7 => h7
section
variable {r4 r5 r6 r7 s4 s5 s6 s7 : Ob} {n : Nat} {w wx wy : World} {p : Nat → Value} {y : Nat → Wy} {F : Nat → Nat → Prop}
theorem Ways.as4 (h : Ways (RQ r4 r5 r6 r7) n w p y F wx) (hn : 4 ≤ n) : Ways (RQ s4 s5 s6 s7) 4 w p y F wx :=
 (h.less hn).like (fun i hi => match i, hi with | 0, _ => rfl | 1, _ => rfl | 2, _ => rfl | 3, _ => rfl) (fun _ _ => rfl) (fun _ _ => rfl) (fun _ _ => rfl)
theorem Ways.as5 (h : Ways (RQ r4 r5 r6 r7) n w p y F wx) (hn : 5 ≤ n) : Ways (RQ r4 s5 s6 s7) 5 w p y F wx :=
 (h.less hn).like (fun i hi => match i, hi with | 0, _ => rfl | 1, _ => rfl | 2, _ => rfl | 3, _ => rfl | 4, _ => rfl) (fun _ _ => rfl) (fun _ _ => rfl) (fun _ _ => rfl)
theorem Ways.as6 (h : Ways (RQ r4 r5 r6 r7) n w p y F wx) (hn : 6 ≤ n) : Ways (RQ r4 r5 s6 s7) 6 w p y F wx :=
 (h.less hn).like (fun i hi => match i, hi with | 0, _ => rfl | 1, _ => rfl | 2, _ => rfl | 3, _ => rfl | 4, _ => rfl | 5, _ => rfl) (fun _ _ => rfl) (fun _ _ => rfl) (fun _ _ => rfl)
theorem Ways.boxed {cs : List Value} (hL : ∀ i, Lone (RQ (RCel cs) r5 r6 r7 i)) (h : Ways (RQ (RCel cs) r5 r6 r7) 4 w p y F wx) (hb : Below wx.heap.size wx wy) (hB : BlkV wy wx.heap.size 39 cs) (yq : Wy) :
 ∃ G, Ways (RQ (RCel cs) r5 r6 r7) 5 w (fun j => if j = 4 then .pointer (some ⟨wx.heap.size, 0, none⟩) else p j) (fun j => if j = 4 then yq else y j) G wy :=
 ⟨_, h.more hL hb (q := .pointer (some ⟨wx.heap.size, 0, none⟩)) (yq := yq) (G := fun k => k = wx.heap.size) ⟨_, rfl, hB, rfl⟩ (fun k hk => by subst hk; exact Nat.le_refl _)⟩
theorem Ways.rowed {bs : List UInt8} (hL : ∀ i, Lone (RQ r4 (ROwn bs) r6 r7 i)) (h : Ways (RQ r4 (ROwn bs) r6 r7) 5 w p y F wx) (hb : Below wx.heap.size wx wy) {A : Option Addr} {m c : Nat} (ho : wy.ownsRow wx.heap.size 5 1 (.slice A m c) m (cells bs)) (yq : Wy) :
 ∃ G, Ways (RQ r4 (ROwn bs) r6 r7) 6 w (fun j => if j = 5 then .slice A m c else p j) (fun j => if j = 5 then yq else y j) G wy :=
 ⟨_, h.more hL hb (q := .slice A m c) (yq := yq) (G := fun k => (Value.slice A m c).ownBlock = some k) ⟨A, m, c, _, rfl, ho, rfl⟩ (fun k hk => (ho.lt k hk).1)⟩
end
section
variable {W : World} {g : Nat} {y : Wy} {F : Nat → Prop}
theorem rp_at (h : RP W (.pointer (some ⟨g, 0, none⟩)) y F) : ∃ b, PWay W g b y := by
 obtain ⟨g2, b, e, hw, _⟩ := rp_ptr h
 injection e with e
 injection e with e
 injection e with e _ _
 subst e
 exact ⟨b, hw⟩
theorem ry_at (h : RY W (.pointer (some ⟨g, 0, none⟩)) y F) : ∃ nm ww r v, RWay W g y nm ww r v := by
 obtain ⟨g2, nm, ww, r, v, e, hw, _⟩ := ry_ptr h
 injection e with e
 injection e with e
 injection e with e _ _
 subst e
 exact ⟨nm, ww, r, v, hw⟩
theorem used_of (h : RP W (.pointer (some ⟨g, 0, none⟩)) y F) (hg : y.good) : Calls Tryz.prog 11 #[.pointer (some ⟨g, 0, none⟩)] W fun e w' => e = .returned (.int .i64 y.used) ∧ W = w' := by
 obtain ⟨b, hw⟩ := rp_at h
 exact used15_any g b y W hw hg.1
theorem sources_of (h : RP W (.pointer (some ⟨g, 0, none⟩)) y F) (hg : y.good) : Calls Tryz.prog 15 #[.pointer (some ⟨g, 0, none⟩)] W fun e w' => e = .returned (.int .i64 (y.ws.length : Nat)) ∧ W = w' := by
 obtain ⟨b, hw⟩ := rp_at h
 exact sources15_any g b y W hw hg.1
theorem high_of (h : RP W (.pointer (some ⟨g, 0, none⟩)) y F) (hg : y.good) (x : Nat) (hx : x < 4294967296) : Calls Tryz.prog 16 #[.pointer (some ⟨g, 0, none⟩), .int .u32 (x : Int)] W fun e w' => e = .returned (.int .i64 (highW y.ws x)) ∧ Below W.heap.size W w' := by
 obtain ⟨b, hw⟩ := rp_at h
 exact high15_any g b y W hw hg.1 x hg hx
theorem rused_of (h : RY W (.pointer (some ⟨g, 0, none⟩)) y F) (hg : y.good) : W.cell? ⟨g, 51, none⟩ = some (.int .i64 y.used) := by
 obtain ⟨nm, ww, r, v, hw⟩ := ry_at h
 exact (hw.cells_ hg.1).2.1
end
def PInv (pa pb pv pw : Value) (w : World) (k : Nat) (wx : World) : Prop :=
 ∃ p y F, Ways (RQ RP RP RP RP) 4 w p y F wx ∧ p 0 = pa ∧ p 1 = pb ∧ p 2 = pv ∧ p 3 = pw ∧ y 2 = y 0 ∧ y 3 = y 1 ∧ (y 0).good ∧ (y 1).good ∧ (y 0).used ≤ k ∧ (y 1).used ≤ k
theorem pinv_step {r4 r5 r6 r7 : Ob} {m k : Nat} {pa pb pv pw : Value} {w wx : World} {p : Nat → Value} {y : Nat → Wy} {F : Nat → Nat → Prop} {ya yb : Wy} (h : Ways (RQ r4 r5 r6 r7) m w p y F wx) (hm : 4 ≤ m) (h0 : p 0 = pa) (h1 : p 1 = pb) (h2 : p 2 = pv) (h3 : p 3 = pw) (y0 : y 0 = ya) (y1 : y 1 = yb) (y2 : y 2 = ya) (y3 : y 3 = yb) (g0 : ya.good) (g1 : yb.good) (u0 : ya.used ≤ k) (u1 : yb.used ≤ k) : PInv pa pb pv pw w k wx :=
 ⟨p, y, F, h.as4 hm, h0, h1, h2, h3, y2.trans y0.symm, y3.trans y1.symm, by rw [y0]; exact g0, by rw [y1]; exact g1, by rw [y0]; exact u0, by rw [y1]; exact u1⟩
theorem pinv_start {pa pb pv pw : Value} {w wx : World} {p : Nat → Value} {y : Nat → Wy} {F : Nat → Nat → Prop} {k0 s0 k1 s1 : List UInt8} {limit : Int} (h : Ways (RQ RP RP RP RP) 4 w p y F wx) (h0 : p 0 = pa) (h1 : p 1 = pb) (h2 : p 2 = pv) (h3 : p 3 = pw) (y0 : y 0 = newY k0 s0 limit) (y1 : y 1 = newY k1 s1 limit) (y2 : y 2 = newY k0 s0 limit) (y3 : y 3 = newY k1 s1 limit) (g0 : (newY k0 s0 limit).good) (g1 : (newY k1 s1 limit).good) : PInv pa pb pv pw w 0 wx :=
 ⟨p, y, F, h, h0, h1, h2, h3, y2.trans y0.symm, y3.trans y1.symm, by rw [y0]; exact g0, by rw [y1]; exact g1, by rw [y0]; exact Int.le_refl 0, by rw [y1]; exact Int.le_refl 0⟩
theorem row16q_ : RowTy Tryz.prog 39 16 := ⟨_, Tryz.underlying39, rfl, by kernel_rfl⟩
theorem row16o {n : Nat} (h : n = 16) : RowTy Tryz.prog 39 n := h ▸ row16q_
def zeroO : List Value := zeroC ++ opT 0 false 0 0 none 0 0
set_option maxRecDepth 100000 in
theorem zero16o (w : World) : (zeroValue 39).run Tryz.prog w = .ok (.agg zeroO.toArray) w := by kernel_rfl
section
variable {w : World} {o : Opr}
theorem OprRd.below {w' : World} (h : OprRd w o) (hb : Below w.heap.size w w') : OprRd w' o := ⟨h.pk.below hb, h.fit, h.i, h.a, h.f, h.bs.below hb⟩
theorem OprRd.len (h : OprRd w o) : o.row.length = 16 := by
 unfold Opr.row
 rw [List.length_append, h.pk.len]; rfl
theorem OprRd.one (h : OprRd w o) : ∀ v ∈ o.row, v.oneCell' = true := by
 intro v hv
 unfold Opr.row opT at hv
 rcases List.mem_append.1 hv with hv | hv
 · exact h.pk.one v hv
 · simp only [List.mem_cons, List.not_mem_nil, or_false] at hv
   rcases hv with rfl | rfl | rfl | rfl | rfl <;> rfl
theorem OprRd.cell (h : OprRd w o) : o.row[4]? = some (.int .u32 (o.pk.so : Int)) ∧ o.row[11]? = some (.int .i64 o.i) ∧ o.row[12]? = some (.bool o.c) ∧ o.row[13]? = some (.int .u16 (o.a : Int)) ∧ o.row[14]? = some (.int .u8 (o.f : Int)) ∧ o.row[15]? = some (.slice o.R o.bs.length o.rc) ∧ ∀ j, j < 11 → o.row[j]? = o.cs[j]? := by
 have hl := h.pk.len
 obtain ⟨A1, a1, B1, b1, D1, d1, e1, _⟩ := h.pk
 refine ⟨?_, ?_, ?_, ?_, ?_, ?_, fun j hj => List.getElem?_append_left (by omega)⟩ <;> (unfold Opr.row; rw [e1]; rfl)
end
end Go.Proofs.YtmkeioeodlidgaaGreatDoor
