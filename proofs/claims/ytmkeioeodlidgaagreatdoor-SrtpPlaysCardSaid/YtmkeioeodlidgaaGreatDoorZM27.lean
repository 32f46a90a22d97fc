/- Several texts in one: plain words and walks. No statement is proved here. -/
import Derived.Test.YtmkeioeodlidgaaGreatDoorZM26
import Derived.Test.YtmkeioeodlidgaaGreatDoorZM25
import Derived.Test.YtmkeioeodlidgaaGreatDoorZM5
import Derived.Test.YtmkeioeodlidgaaGreatDoorZM21
import Derived.Test.YtmkeioeodlidgaaGreatDoorZM20
import Derived.StillTailTactics
import Derived.Test.YtmkeioeodlidgaaGreatDoorZMac4
namespace Go.Proofs.YtmkeioeodlidgaaGreatDoor
open Go.RowKit
set_option linter.unusedVariables false

set_option maxRecDepth 100000 in
set_option maxHeartbeats 2000000 in
theorem rwrite_bad (cs : List Value) (p : Pkt) (w : World) (h : PkRd w cs p) (c6 : ¬ (p.ty ≤ 127 ∧ p.ot.length ≤ 15 ∧ (p.x = true ∨ (p.xt.length = 0 ∧ p.pf = 0)) ∧ p.xt.length % 4 = 0 ∧ p.xt.length ≤ 1020)) (ho : p.ot.length ≤ 1000000) (hxt : p.xt.length ≤ 1000000) :
 Calls Tryz.prog 27 #[.agg cs.toArray] w fun e w' => e = .returned (.tuple #[.slice none 0 0, .bool false]) ∧ Below w.heap.size w w' := by
 obtain ⟨A1, a1, B1, b1, D1, d1, e1, u1, x1, y1⟩ := h
 obtain ⟨m, ty, sq, st, so, U, x, pf, X, Y, pd⟩ := p
 simp only at c6 ho hxt e1
 have HW : Hid (Below w.heap.size w (w.alloc (.cells cs.toArray 37))) := Lib.hid ((Below.refl _ _).alloc (Nat.le_refl _) _)
 have hB := BlkV.new w 37 cs
 have k1 : (w.alloc (.cells cs.toArray 37)).cell? ⟨w.heap.size, 1, none⟩ = some (.int .u8 (ty : Int)) := by rw [hB.cell, e1]; rfl
 have k5 : (w.alloc (.cells cs.toArray 37)).cell? ⟨w.heap.size, 5, none⟩ = some (.slice A1 U.length a1) := by rw [hB.cell, e1]; rfl
 have k6 : (w.alloc (.cells cs.toArray 37)).cell? ⟨w.heap.size, 6, none⟩ = some (.bool x) := by rw [hB.cell, e1]; rfl
 have k7 : (w.alloc (.cells cs.toArray 37)).cell? ⟨w.heap.size, 7, none⟩ = some (.int .u16 (pf : Int)) := by rw [hB.cell, e1]; rfl
 have k8 : (w.alloc (.cells cs.toArray 37)).cell? ⟨w.heap.size, 8, none⟩ = some (.slice B1 X.length b1) := by rw [hB.cell, e1]; rfl
 obtain ⟨K, hK⟩ : ∃ K, K = U.length := ⟨_, rfl⟩
 obtain ⟨M, hM⟩ : ∃ M, M = X.length := ⟨_, rfl⟩
 rw [← hK] at ho k5 c6
 simp only [← hM] at hxt k8 c6
 clear e1 hB u1 x1 y1 hK hM
 have hway : 127 < ty ∨ (ty ≤ 127 ∧ 15 < K) ∨ (ty ≤ 127 ∧ K ≤ 15 ∧ ((M : Int) % 4 != 0) = true) ∨ (ty ≤ 127 ∧ K ≤ 15 ∧ ((M : Int) % 4 != 0) = false ∧ 1020 < M) ∨
  (ty ≤ 127 ∧ K ≤ 15 ∧ ((M : Int) % 4 != 0) = false ∧ M ≤ 1020 ∧ x = false ∧ 0 < M) ∨ (ty ≤ 127 ∧ K ≤ 15 ∧ x = false ∧ M = 0 ∧ 0 < pf) := by
  by_cases h1 : 127 < ty
  · exact .inl h1
  by_cases h2 : 15 < K
  · exact .inr (.inl ⟨by omega, h2⟩)
  by_cases h4 : M % 4 = 0
  · by_cases h5 : 1020 < M
    · exact .inr (.inr (.inr (.inl ⟨by omega, by omega, by simp; omega, h5⟩)))
    · have hx : x = false := by
       cases hx : x
       · rfl
       · exact absurd ⟨by omega, by omega, .inl hx, h4, by omega⟩ c6
      by_cases h3 : 0 < M
      · exact .inr (.inr (.inr (.inr (.inl ⟨by omega, by omega, by simp; omega, by omega, hx, h3⟩))))
      · refine .inr (.inr (.inr (.inr (.inr ⟨by omega, by omega, hx, by omega, ?_⟩))))
        have hM0 : M = 0 := by omega
        have : pf ≠ 0 := fun h => c6 ⟨by omega, by omega, .inr ⟨hM0, h⟩, by omega, by omega⟩
        omega
  · exact .inr (.inr (.inl ⟨by omega, by omega, by simp; omega⟩))
 clear c6
 rcases hway with g1 | ⟨g1, g2⟩ | ⟨g1, g2, g3⟩ | ⟨g1, g2, g3, g4⟩ | ⟨g1, g2, g3, g4, rfl, g5⟩ | ⟨g1, g2, rfl, rfl, g3⟩
 · go_enter Tryz.func27, Tryz.ntmps27
   go_wp2
   go_ret2
   exact ⟨rfl, HW.out⟩
 · go_enter Tryz.func27, Tryz.ntmps27
   go_wp2
   go_ret2
   exact ⟨rfl, HW.out⟩
 · go_enter Tryz.func27, Tryz.ntmps27
   go_wp2
   go_ret2
   exact ⟨rfl, HW.out⟩
 · go_enter Tryz.func27, Tryz.ntmps27
   go_wp2
   go_ret2
   exact ⟨rfl, HW.out⟩
 · go_enter Tryz.func27, Tryz.ntmps27
   go_wp2
   go_ret2
   exact ⟨rfl, HW.out⟩
 · go_enter Tryz.func27, Tryz.ntmps27
   go_wp2
   go_ret2
   exact ⟨rfl, HW.out⟩

theorem rwrite_anyR (cs : List Value) (p : Pkt) (w : World) (h : PkRd w cs p) (m1 : p.ty ≤ 127) (m2 : p.ot.length ≤ 15) (m3 : p.x = true ∨ (p.xt.length = 0 ∧ p.pf = 0)) (m4 : p.xt.length % 4 = 0) (m5 : p.xt.length ≤ 1020) (hf : fits p) (mp : p.pl.length ≤ 10000) :
 Calls Tryz.prog 27 #[.agg cs.toArray] w fun e w' => (((wrB p).length ≤ 1200 ∧ ∃ A c, e = .returned (.tuple #[.slice A (wrB p).length c, .bool true]) ∧ w'.ownsRow w.heap.size 5 1 (.slice A (wrB p).length c) (wrB p).length (cells (wrB p))) ∨ (1200 < (wrB p).length ∧ e = .returned (.tuple #[.slice none 0 0, .bool false]))) ∧ Below w.heap.size w w' := by
 cases hx : p.x
 · rcases m3 with h3 | ⟨h3, h4⟩
   · rw [hx] at h3; exact absurd h3 (by decide)
   · exact rwrite_n cs p w h hx m1 m2 h3 h4 hf mp
 · exact rwrite_x cs p w h hx m1 m2 m4 m5 hf mp

theorem rwrite_own (cs : List Value) (p : Pkt) (w : World) (h : PkRd w cs p) (hm : mayB p) (hf : fits p) :
 Calls Tryz.prog 27 #[.agg cs.toArray] w fun e w' => ∃ A c, e = .returned (.tuple #[.slice A (wrB p).length c, .bool true]) ∧ w'.ownsRow w.heap.size 5 1 (.slice A (wrB p).length c) (wrB p).length (cells (wrB p)) ∧ Below w.heap.size w w' := by
 obtain ⟨m1, m2, m3, m4, m5, m6⟩ := hm
 have hl := wrB_len p
 refine (rwrite_anyR cs p w h m1 m2 m3 m4 m5 hf (by omega)).mono fun e w' k => ?_
 obtain ⟨k | k, hb⟩ := k
 · obtain ⟨_, A, c, he, hr⟩ := k
   exact ⟨A, c, he, hr, hb⟩
 · exact absurd k.1 (by omega)
theorem rwrite_ok (cs : List Value) (p : Pkt) (w : World) (h : PkRd w cs p) (hm : mayB p) (hf : fits p) :
 Calls Tryz.prog 27 #[.agg cs.toArray] w fun e w' => ∃ A c, e = .returned (.tuple #[.slice A (wrB p).length c, .bool true]) ∧ RdS w' A (wrB p).length c (wrB p) ∧ Below w.heap.size w w' :=
 (rwrite_own cs p w h hm hf).mono fun _ _ ⟨A, c, he, ho, hb⟩ => ⟨A, c, he, RdS.of_own ho, hb⟩
theorem rwrite_no (cs : List Value) (p : Pkt) (w : World) (h : PkRd w cs p) (hm : ¬ mayB p) (hf : fits p) (ho : p.ot.length ≤ 1000000) (hxt : p.xt.length ≤ 1000000) (mp : p.pl.length ≤ 10000) :
 Calls Tryz.prog 27 #[.agg cs.toArray] w fun e w' => e = .returned (.tuple #[.slice none 0 0, .bool false]) ∧ Below w.heap.size w w' := by
 by_cases c6 : p.ty ≤ 127 ∧ p.ot.length ≤ 15 ∧ (p.x = true ∨ (p.xt.length = 0 ∧ p.pf = 0)) ∧ p.xt.length % 4 = 0 ∧ p.xt.length ≤ 1020
 · obtain ⟨m1, m2, m3, m4, m5⟩ := c6
   have hl := wrB_len p
   refine (rwrite_anyR cs p w h m1 m2 m3 m4 m5 hf mp).mono fun e w' k => ?_
   obtain ⟨k | k, hb⟩ := k
   · exact absurd ⟨m1, m2, m3, m4, m5, by omega⟩ hm
   · exact ⟨k.2, hb⟩
 · exact rwrite_bad cs p w h c6 ho hxt
noncomputable def outSeal (y : Wy) (p : Pkt) (i : Int) : List UInt8 := if whySeal y p i = 0 then sealB y (wrB p) (at1 (wrB p)) p.so i.toNat else []
noncomputable def ySeal (y : Wy) (p : Pkt) (i : Int) : Wy := if whySeal y p i = 0 then y.once else y
def SealR (R : World → Value → Wy → (Nat → Prop) → Prop) (p : Value) (y : Wy) (F : Nat → Prop) (pk : Pkt) (i : Int) (w : World) (e : Ending) (w' : World) : Prop :=
 ∃ A n c F', e = .returned (.tuple #[.slice A n c, .int .i64 (whySeal y pk i)]) ∧ w'.ownsRow w.heap.size 5 1 (.slice A n c) n (cells (outSeal y pk i)) ∧ (∀ k, (Value.slice A n c).ownBlock = some k → ¬ F' k) ∧ R w' p (ySeal y pk i) F' ∧ Fr F w w' ∧ ∀ k, F' k → F k ∨ w.heap.size ≤ k
theorem SealR.no {R : World → Value → Wy → (Nat → Prop) → Prop} {p : Value} {y : Wy} {F : Nat → Prop} {pk : Pkt} {i : Int} {w w' : World} {q : Int} (hR : Lone R) (h : R w p y F) (hw : whySeal y pk i = q) (hq : q ≠ 0) (hb : Below w.heap.size w w') :
 SealR R p y F pk i w (.returned (.tuple #[.slice none 0 0, .int .i64 q])) w' := by
 refine ⟨none, 0, 0, F, by rw [hw], ?_, (fun k hk => nomatch hk), ?_, Fr.of_below hb, (fun k hk => .inl hk)⟩
 · unfold outSeal
   rw [hw, if_neg hq]
   exact World.ownsRow_nil _ _ _ _
 · unfold ySeal
   rw [hw, if_neg hq]
   exact hR.below h hb
theorem why7 {y : Wy} {pk : Pkt} {i : Int} (h : y.limit ≤ y.used) : whySeal y pk i = 7 := by unfold whySeal; rw [if_pos h]
theorem why1 {y : Wy} {pk : Pkt} {i : Int} (h : ¬ y.limit ≤ y.used) (h2 : ¬ mayW pk i) : whySeal y pk i = 1 := by unfold whySeal; rw [if_neg h, if_pos h2]
theorem why0 {y : Wy} {pk : Pkt} {i : Int} (h : ¬ y.limit ≤ y.used) (h2 : mayW pk i) : whySeal y pk i = 0 := by unfold whySeal; rw [if_neg h, if_neg (fun h3 => h3 h2)]
set_option maxRecDepth 100000 in
set_option maxHeartbeats 2000000 in
theorem rseal15_no7 (g : Nat) (y : Wy) (F : Nat → Prop) (cs : List Value) (pk : Pkt) (i : Int) (w : World) (h : RY w (.pointer (some ⟨g, 0, none⟩)) y F) (hg : y.good) (hl : y.limit ≤ y.used) :
 Calls Tryz.prog 10 #[.pointer (some ⟨g, 0, none⟩), .agg cs.toArray, .int .i64 i] w (SealR RY (.pointer (some ⟨g, 0, none⟩)) y F pk i w) := by
 have HR := Lib.hid (fun w' hb => SealR.no (w' := w') ry_lone h (why7 (pk := pk) (i := i) hl) (by decide) hb)
 obtain ⟨g', nm, ww, r, v, hp, hw, hFF⟩ := h
 clear hFF
 injection hp with hp
 injection hp with hp
 injection hp with hp _ _
 subst hp
 have hc := hw.cells_ hg.1
 have HB : Hid (Below w.heap.size w (w.alloc (.cells cs.toArray 37))) := Lib.hid ((Below.refl _ _).alloc (Nat.le_refl _) _)
 have c50 : (w.alloc (.cells cs.toArray 37)).cell? ⟨g, 50, none⟩ = some (.int .i64 y.limit) := (HB.out.cell hw.b.lt).trans hc.1
 have c51 : (w.alloc (.cells cs.toArray 37)).cell? ⟨g, 51, none⟩ = some (.int .i64 y.used) := (HB.out.cell hw.b.lt).trans hc.2.1
 generalize y.limit = L at *
 generalize y.used = U at *
 clear hw hc hg
 go_enter Tryz.func10, Tryz.ntmps10
 go_upto_region 1 with (fail)
 go_region
 go_wp2
 go_ret2
 exact HR.out _ HB.out.drew
structure SE (w : World) (g : Nat) (y : Wy) (nm ww : Value) (r : Nat → Nat) (v : Nat → Value) (cs : List Value) (pk : Pkt) (wx : World) : Prop where
 way : RWay wx g y nm ww r v
 box : BlkV wx w.heap.size 37 cs
 rd : PkRd wx cs pk
 below : Below w.heap.size w wx
 lt : w.heap.size < wx.heap.size
theorem SE.on {w wx wy : World} {g : Nat} {y : Wy} {nm ww : Value} {r : Nat → Nat} {v : Nat → Value} {cs : List Value} {pk : Pkt} (h : SE w g y nm ww r v cs pk wx) (hb : Below wx.heap.size wx wy) : SE w g y nm ww r v cs pk wy :=
 ⟨h.way.below hb, h.box.below hb h.box.lt, h.rd.below hb, h.below.trans (hb.mono h.below.size), Nat.lt_of_lt_of_le h.lt hb.size⟩
theorem SE.start {w : World} {g : Nat} {y : Wy} {nm ww : Value} {r : Nat → Nat} {v : Nat → Value} {cs : List Value} {pk : Pkt} (h : RWay w g y nm ww r v) (hp : PkRd w cs pk) : SE w g y nm ww r v cs pk (w.alloc (.cells cs.toArray 37)) := by
 have hb : Below w.heap.size w (w.alloc (.cells cs.toArray 37)) := (Below.refl _ _).alloc (Nat.le_refl _) _
 exact ⟨h.below hb, BlkV.new _ _ _, hp.below hb, hb, by rw [← size_alloc]; omega⟩
theorem PkRd.sq_so {w : World} {cs : List Value} {p : Pkt} (h : PkRd w cs p) : cs[2]? = some (.int .u16 (p.sq : Int)) ∧ cs[4]? = some (.int .u32 (p.so : Int)) := by
 obtain ⟨A, a, B, b, D, d, e, _⟩ := h
 subst e
 exact ⟨rfl, rfl⟩
set_option maxRecDepth 100000 in
set_option maxHeartbeats 2000000 in
theorem rseal15_no1 (g : Nat) (y : Wy) (F : Nat → Prop) (cs : List Value) (pk : Pkt) (i : Int) (w : World) (h : RY w (.pointer (some ⟨g, 0, none⟩)) y F) (hg : y.good) (hl : ¬ y.limit ≤ y.used) (hp : PkRd w cs pk) (hf : fits pk) (ho : pk.ot.length ≤ 1000000) (hxt : pk.xt.length ≤ 1000000) (hpl : pk.pl.length ≤ 10000) (hm : ¬ mayB pk) :
 Calls Tryz.prog 10 #[.pointer (some ⟨g, 0, none⟩), .agg cs.toArray, .int .i64 i] w (SealR RY (.pointer (some ⟨g, 0, none⟩)) y F pk i w) := by
 have HR := Lib.hid (fun w' hb => SealR.no (w' := w') ry_lone h (why1 (pk := pk) (i := i) hl (fun k => hm k.1)) (by decide) hb)
 obtain ⟨g', nm, ww, r, v, hp', hw, hFF⟩ := h
 clear hFF
 injection hp' with hp'
 injection hp' with hp'
 injection hp' with hp' _ _
 subst hp'
 have HS := Lib.hid (SE.start (cs := cs) hw hp)
 have hc := HS.out.way.cells_ hg.1
 have c50 := hc.1
 have c51 := hc.2.1
 have HRT : Hid (RowTy Tryz.prog 37 cs.length) := Lib.hid (row11 hp.len)
 have HWR := Lib.hid (fun W (k : PkRd W cs pk) => rwrite_no cs pk W k hm hf ho hxt hpl)
 obtain ⟨W1, hW1⟩ : ∃ W1, W1 = w.alloc (.cells cs.toArray 37) := ⟨_, rfl⟩
 rw [← hW1] at HS c50 c51
 generalize y.limit = L at *
 generalize y.used = U at *
 have hLU : ¬ L ≤ U := hl
 clear hw hc hg hp hm hf hl ho hxt hpl
 go_enter Tryz.func10, Tryz.ntmps10
 go_upto_region 1 with (fail)
 rw [← hW1]
 clear hW1
 go_region
 obtain ⟨W2, hW2⟩ : ∃ W2, W2 = W1.drew := ⟨_, rfl⟩
 rw [← hW2]
 have HS2 : Hid (SE w g y nm ww r v cs pk W2) := Lib.hid (hW2 ▸ HS.out.on (Below.refl _ _).drew)
 have RG2 := Lib.hid (HS2.out.box.range 0 cs (fun i _ => by rw [Nat.zero_add]))
 clear hW2 HS c50 c51
 go_wp2_with (first
  | (with_reducible refine wpList_ld rfl 37 (.tmp 4) rfl w.heap.size 0 rfl cs RG2.out HRT.out ?_)
  | (go_at_call 27; ((with_reducible refine (HWR.out _ HS2.out.rd).mono ?_); rintro e w3 ⟨rfl, hb3⟩; have HS3 := Lib.hid (HS2.out.on hb3); clear hb3)))
 go_ret2
 exact HR.out _ HS3.out.below
theorem i64_mod (i : Int) (h : 0 ≤ i) : Int.tmod i 65536 = i % 65536 := Int.tmod_eq_emod_of_nonneg h
theorem rsealed15_i (s : Wy) (A : Option Addr) (n c : Nat) (bs : List UInt8) (h so : Nat) (i : Int) (w : World) (hs : s.fit) (hr : RdS w A n c bs) (hn : n ≤ 4000) (hh : h ≤ n) (hso : so < 4294967296) (hi0 : 0 ≤ i) (hi : i < 281474976710656) :
 Calls Tryz.prog 29 #[.agg (cells s.ks).toArray, .slice A n c, .int .i64 (h : Int), .int .u32 (so : Int), .int .i64 i] w fun e w' => ∃ A' c', e = .returned (.slice A' (n + 10) c') ∧ BO w w' A' (n + 10) c' (sealB s bs h so i.toNat) := by
 have := rsealed15_any s A n c bs h so i.toNat w hs hr hn hh hso (by omega)
 rwa [show ((i.toNat : Nat) : Int) = i by omega] at this
set_option maxRecDepth 100000 in
set_option maxHeartbeats 4000000 in
theorem rseal15_may (g : Nat) (y : Wy) (F : Nat → Prop) (cs : List Value) (pk : Pkt) (i : Int) (w : World) (h : RY w (.pointer (some ⟨g, 0, none⟩)) y F) (hg : y.good) (hl : ¬ y.limit ≤ y.used) (hp : PkRd w cs pk) (hf : fits pk) (hm : mayB pk) (hi : -9223372036854775808 ≤ i ∧ i ≤ 9223372036854775807) :
 Calls Tryz.prog 10 #[.pointer (some ⟨g, 0, none⟩), .agg cs.toArray, .int .i64 i] w (SealR RY (.pointer (some ⟨g, 0, none⟩)) y F pk i w) := by
 have HNO := Lib.hid (fun w' (h1 : ¬ mayW pk i) hb => SealR.no (w' := w') ry_lone h (why1 (pk := pk) (i := i) hl h1) (by decide) hb)
 have HRY := Lib.hid h
 obtain ⟨g', nm, ww, r, v, hp', hw, hFF⟩ := h
 injection hp' with hp'
 injection hp' with hp'
 injection hp' with hp' _ _
 subst hp'
 have HFF := Lib.hid hFF
 have HS := Lib.hid (SE.start (cs := cs) hw hp)
 have hc := HS.out.way.cells_ hg.1
 have c50 := hc.1
 have c51 := hc.2.1
 have HRT : Hid (RowTy Tryz.prog 37 cs.length) := Lib.hid (row11 hp.len)
 have HWR := Lib.hid (fun W (k : PkRd W cs pk) => rwrite_own cs pk W k hm hf)
 have HMB := Lib.hid hm
 have HFT := Lib.hid hf
 have HG := Lib.hid hg
 have HCS := Lib.hid hp.sq_so
 obtain ⟨W1, hW1⟩ : ∃ W1, W1 = w.alloc (.cells cs.toArray 37) := ⟨_, rfl⟩
 rw [← hW1] at HS c50 c51
 obtain ⟨L, hL⟩ : ∃ L, L = y.limit := ⟨_, rfl⟩
 obtain ⟨U, hU⟩ : ∃ U, U = y.used := ⟨_, rfl⟩
 rw [← hL] at c50
 rw [← hU] at c51
 have hLU : ¬ L ≤ U := by rw [hL, hU]; exact hl
 have HWHY : Hid (mayW pk i → whySeal y pk i = 0) := Lib.hid (why0 hl)
 have hU9 : 0 ≤ U ∧ U ≤ 900 := by rw [hU]; exact ⟨hg.1.2.2.2.2.1, hg.2.1⟩
 obtain ⟨B, hB⟩ : ∃ B, B = wrB pk := ⟨_, rfl⟩
 obtain ⟨N, hN⟩ : ∃ N, N = B.length := ⟨_, rfl⟩
 rw [← hB, ← hN] at HWR
 obtain ⟨SQ, hSQ⟩ : ∃ x, x = pk.sq := ⟨_, rfl⟩
 have lSQ : SQ < 65536 := by rw [hSQ]; exact hf.1
 have HN := Lib.hid hN
 have HB := Lib.hid hB
 have HSQ := Lib.hid hSQ
 have HUU := Lib.hid hU
 have hN12 : N ≤ 1200 := by rw [hN, hB, wrB_len]; have := hm.2.2.2.2.2; omega
 clear hw hc hg hp hm hf hl hL hU hN hB hSQ hFF
 go_enter Tryz.func10, Tryz.ntmps10
 go_upto_region 1 with (fail)
 rw [← hW1]
 clear hW1
 go_region
 obtain ⟨W2, hW2⟩ : ∃ W2, W2 = W1.drew := ⟨_, rfl⟩
 rw [← hW2]
 have HS2 : Hid (SE w g y nm ww r v cs pk W2) := Lib.hid (hW2 ▸ HS.out.on (Below.refl _ _).drew)
 have RG2 := Lib.hid (HS2.out.box.range 0 cs (fun i _ => by rw [Nat.zero_add]))
 clear hW2 HS c50 c51
 go_upto_region 4 with (first
  | (with_reducible refine wpList_ld rfl 37 (.tmp 4) rfl w.heap.size 0 rfl cs RG2.out HRT.out ?_)
  | (go_at_call 27; ((with_reducible refine (HWR.out _ HS2.out.rd).mono ?_); rintro e w3 ⟨A3, c3, rfl, hr3, hb3⟩; have HS3 := Lib.hid (HS2.out.on hb3); have HO3 := Lib.hid (own_loW hr3 HS2.out.below.size); clear hr3 hb3)))
 clear HS2 RG2
 have c2 : w3.cell? ⟨w.heap.size, 2, none⟩ = some (.int .u16 (SQ : Int)) := (HS3.out.box.cell 2).trans (by rw [HSQ.out]; exact HCS.out.1)
 by_cases k1 : i < 0
 · go_wp2
   go_ret2
   exact HNO.out _ (fun k => by have := k.2.1; omega) HS3.out.below
 by_cases k2 : (281474976710656 : Int) ≤ i
 · go_wp2
   go_ret2
   exact HNO.out _ (fun k => by have := k.2.2.1; omega) HS3.out.below
 have et := i64_mod i (by omega)
 by_cases k3 : i % 65536 = (SQ : Int)
 case neg =>
  go_wp2
  go_ret2
  exact HNO.out _ (fun k => k3 (by rw [HSQ.out]; exact k.2.2.2.1)) HS3.out.below
 by_cases k4 : (1190 : Int) < (N : Int)
 · go_wp2
   go_ret2
   exact HNO.out _ (fun k => by have := k.2.2.2.2; rw [← HB.out, ← HN.out] at this; omega) HS3.out.below
 have HM : Hid (mayW pk i) := Lib.hid ⟨HMB.out, by omega, by omega, by rw [k3, HSQ.out], by rw [← HB.out, ← HN.out]; omega⟩
 have hw0 := HWHY.out HM.out
 have hp12 := why_parts (wrB pk) (read_wr pk HMB.out HFT.out).1
 rw [← HB.out, ← HN.out] at hp12
 obtain ⟨HD, hHD⟩ : ∃ H, H = at1 B := ⟨_, rfl⟩
 rw [← hHD] at hp12
 have hHN : HD ≤ N := hp12.2.2.2.1
 have hN1 : 12 ≤ N := hp12.1
 obtain ⟨SO, hSO⟩ : ∃ x, x = pk.so := ⟨_, rfl⟩
 have lSO : SO < 4294967296 := by rw [hSO]; exact HFT.out.2.2.1
 have HOUT : Hid (outSeal y pk i = sealB y B HD SO i.toNat) := Lib.hid (by unfold outSeal; rw [if_pos hw0, ← HB.out, ← hHD, ← hSO])
 have HYS : Hid (ySeal y pk i = { y with used := U + 1 }) := Lib.hid (by unfold ySeal; rw [if_pos hw0, HUU.out]; rfl)
 have HW0 := Lib.hid hw0
 have c4 : w3.cell? ⟨w.heap.size, 4, none⟩ = some (.int .u32 (SO : Int)) := (HS3.out.box.cell 4).trans (by rw [hSO]; exact HCS.out.2)
 have HHD : Hid (∀ W, RdS W A3 N c3 B → Calls Tryz.prog 28 #[.slice A3 N c3, .int .i64 (N : Int)] W fun e w' => e = .returned (.tuple #[.int .i64 (HD : Int), .bool true]) ∧ W = w') := Lib.hid (fun W hr => (rhead15_any A3 N c3 B N (N : Int) rfl W hr (by omega) (by omega) (Nat.le_refl _)).mono (by
  rintro e w' ⟨⟨h, he, hh⟩, hw⟩
  rw [← hHD] at he hh
  rw [he, hh hHN, decide_eq_true hHN]
  exact ⟨rfl, hw⟩))
 have HSE : Hid (∀ W, RdS W A3 N c3 B → Calls Tryz.prog 29 #[.agg (cells y.ks).toArray, .slice A3 N c3, .int .i64 (HD : Int), .int .u32 (SO : Int), .int .i64 i] W fun e w' => ∃ A' c', e = .returned (.slice A' (N + 10) c') ∧ BO W w' A' (N + 10) c' (sealB y B HD SO i.toNat)) := Lib.hid (fun W hr => rsealed15_i y A3 N c3 B HD SO i W HG.out.1 hr (by omega) hHN lSO (by omega) (by omega))
 have hc3 := HS3.out.way.cells_ HG.out.1
 have d51 := hc3.2.1
 rw [← HUU.out] at d51
 have f51 : w3.frozen? ⟨g, 51, none⟩ = false := HS3.out.way.b.frozen 51
 have HW4 := Lib.hid (HS3.out.way.used HG.out.1 (U + 1))
 have ho4 := Only.set w3 g 51 (.int .i64 (U + 1))
 have hgw : g < w.heap.size := by
  have := HRY.out
  obtain ⟨g', nm', ww', r', v', hp', hw', _⟩ := this
  injection hp' with hp'
  injection hp' with hp'
  injection hp' with hp' _ _
  subst hp'
  exact hw'.b.lt
 have HO4 := Lib.hid ho4
 have HGW := Lib.hid hgw
 have HR4 : Hid (RdS (w3.setCell ⟨g, 51, none⟩ (.int .i64 (U + 1))) A3 N c3 B) := Lib.hid (RdS.of_own (own_at_same HO3.out fun k hk => ho4.block k (fun e => by have := (HO3.out.lt k hk).1; omega)))
 have e4 : (w3.setCell ⟨g, 51, none⟩ (.int .i64 (U + 1))).cell? ⟨w.heap.size, 4, none⟩ = some (.int .u32 (SO : Int)) := (World.cell?_of_block (ho4.block w.heap.size (by omega))).trans c4
 have HKS : Hid ((w3.setCell ⟨g, 51, none⟩ (.int .i64 (U + 1))).rangeAt g 0 (cells y.ks)) := Lib.hid (HW4.out.b.range 0 _ (fun i hi => by rw [Nat.zero_add]; exact List.getElem?_append_left (l₁ := cells y.ks) hi))
 have HRK : Hid (RowTy Tryz.prog 49 (cells y.ks).length) := Lib.hid (row50 (by rw [length_cells, Wy.ks_len HG.out.1]))
 obtain ⟨U1, hU1⟩ : ∃ x, x = U + 1 := ⟨_, rfl⟩
 have eU : IntKind.i64.wrap (U + 1) = U1 := by rw [hU1]; exact IntWalk.i64_in _ (by omega)
 rw [← hU1] at HW4 HO4 HR4 e4 HKS HYS
 obtain ⟨KS, hKS⟩ : ∃ K, K = (cells y.ks) := ⟨_, rfl⟩
 rw [← hKS] at HSE HKS HRK
 obtain ⟨OB, hOB⟩ : ∃ x, x = sealB y B HD SO i.toNat := ⟨_, rfl⟩
 rw [← hOB] at HSE HOUT
 clear hp12 hHD hSO c4 hc3 ho4 hU1 hKS hOB hgw hw0 lSO
 go_upto_region 8 with (first
  | (go_at_call 28; ((with_reducible refine (HHD.out _ HR4.out).mono ?_); rintro e w5 ⟨rfl, rfl⟩)))
 obtain ⟨w4, hw4⟩ : ∃ x, x = w3.setCell ⟨g, 51, none⟩ (.int .i64 U1) := ⟨_, rfl⟩
 rw [← hw4] at HW4 HO4 HR4 e4 HKS ⊢
 have H34 : Hid (w3.heap.size = w4.heap.size) := Lib.hid (by rw [hw4]; simp [World.setCell])
 clear hw4 HHD
 go_still_tail 9, (by kernel_rfl)
 repeat still_step
 refine wpStill_ld rfl 49 (.tmp 65) rfl g 0 rfl KS HKS.out HRK.out ?_
 repeat still_step
 refine wpStill_nil ?_
 change wpList _ _ _ _ _ w4.drew
 obtain ⟨w5, hw5⟩ : ∃ x, x = w4.drew := ⟨_, rfl⟩
 rw [← hw5]
 have HB5 : Hid (Below w4.heap.size w4 w5) := Lib.hid (hw5 ▸ (Below.refl _ _).drew)
 have HR5 : Hid (RdS w5 A3 N c3 B) := Lib.hid (hw5 ▸ HR4.out)
 clear hw5 HKS HRK e4 HR4
 go_wp2_with (go_at_call 29; ((with_reducible refine (HSE.out _ HR5.out).mono ?_); rintro e w6 ⟨A6, c6, rfl, ho6, hb6⟩; have HO6 := Lib.hid ho6; have HB6 := Lib.hid hb6; clear ho6 hb6))
 go_ret2
 have hb46 : Below w4.heap.size w4 w6 := HB5.out.trans (HB6.out.mono HB5.out.size)
 have hs4 : w.heap.size ≤ w5.heap.size := Nat.le_trans HS3.out.below.size (by have := H34.out; have := HB5.out.size; omega)
 have hFl : ∀ k, F k → k < w.heap.size := fun k hk => ry_lone.low _ _ _ _ HRY.out k hk
 have hFg : F g := by rw [HFF.out]; exact .inl rfl
 refine ⟨A6, N + 10, c6, F, by rw [HW0.out]; rfl, ?_, fun k hk hk2 => ?_, ?_, ((Fr.of_below HS3.out.below).trans (Fr.of_only HO4.out hFg) (fun i hi => .inl hi)).then hb46, fun k hk => .inl hk⟩
 · rw [HOUT.out]
   exact own_loW HO6.out hs4
 · have h1 := (HO6.out.lt k hk).1
   have h2 := hFl k hk2
   omega
 · rw [HYS.out]
   exact ⟨g, nm, ww, r, v, rfl, HW4.out.below hb46, HFF.out⟩
theorem rseal15_any (p : Value) (y : Wy) (F : Nat → Prop) (cs : List Value) (pk : Pkt) (i : Int) (w : World) (h : RY w p y F) (hg : y.good) (hp : PkRd w cs pk) (hf : fits pk) (ho : pk.ot.length ≤ 1000000) (hxt : pk.xt.length ≤ 1000000) (hpl : pk.pl.length ≤ 10000) (hi : -9223372036854775808 ≤ i ∧ i ≤ 9223372036854775807) :
 Calls Tryz.prog 10 #[p, .agg cs.toArray, .int .i64 i] w (SealR RY p y F pk i w) := by
 obtain ⟨g, rfl⟩ : ∃ g, p = .pointer (some ⟨g, 0, none⟩) := by
  obtain ⟨g, _, _, _, _, hp, _⟩ := h
  exact ⟨g, hp⟩
 by_cases h1 : y.limit ≤ y.used
 · exact rseal15_no7 g y F cs pk i w h hg h1
 by_cases h2 : mayB pk
 · exact rseal15_may g y F cs pk i w h hg h1 hp hf h2 hi
 · exact rseal15_no1 g y F cs pk i w h hg h1 hp hf ho hxt hpl h2
set_option maxHeartbeats 1000000 in
theorem check_any (A : Option Addr) (nb c : Nat) (key : List UInt8) (B : Option Addr) (nt ct : Nat) (tag : List UInt8) (ad : Addr) (k cp : Nat) (ps : List (List UInt8)) (w : World) (ht : TabH w) (hw : 0 < w.heap.size) (hr : RdS w A nb c key) (hle : nb ≤ 100000)
 (hrt : RdS w B nt ct tag) (hp : PartsRd w (some ad) k ps) (hk : k ≤ 1000) (hpl : ps.flatten.length ≤ 100000) (t : Bool) (htt : t = decide (1 ≤ nt ∧ nt ≤ 20 ∧ tag = (macFull key ps.flatten).take nt)) :
 Calls Tryz.prog 62 #[.slice A nb c, .slice B nt ct, .slice (some ad) k cp] w fun e w' => e = .returned (.bool t) ∧ Below w.heap.size w w' := by
 have hs := hrt.small
 by_cases h0 : nt < 1
 · have e0 : t = false := by rw [htt]; simp; omega
   subst e0
   have hd : (nt : Int) < 1 := by omega
   go_enter Tryz.func62, Tryz.ntmps62
   go_wp2
   go_ret
   exact ⟨rfl, Below.refl _ _⟩
 by_cases h1 : 20 < nt
 · have e0 : t = false := by rw [htt]; simp; omega
   subst e0
   have hd : (20 : Int) < (nt : Int) := by omega
   have hd1 : decide ((nt : Int) < 1) = false := by simp; omega
   go_enter Tryz.func62, Tryz.ntmps62
   go_wp2
   go_ret
   exact ⟨rfl, Below.refl _ _⟩
 have hd : decide ((20 : Int) < (nt : Int)) = false := by simp; omega
 have hd1 : decide ((nt : Int) < 1) = false := by simp; omega
 have htg := tag_any A nb c key (nt : Int) ad k cp ps w ht hw hr hle (by omega) hp hk hpl
 have hcm := cutN_mid nt (by omega) (by omega)
 have e : tagB (nt : Int) (macFull key ps.flatten) = (macFull key ps.flatten).take nt := by rw [tagB, hcm]
 rw [hcm, e] at htg
 have htt' : t = decide (tag = (macFull key ps.flatten).take nt) := by
  rw [htt]
  congr 1
  simp only [eq_iff_iff]
  exact ⟨fun h => h.2.2, fun h => ⟨by omega, by omega, h⟩⟩
 obtain ⟨T, hT⟩ : ∃ T, T = (macFull key ps.flatten).take nt := ⟨_, rfl⟩
 rw [← hT] at htg htt'
 have HT := Lib.hid htg
 have HE := Lib.hid htt'
 clear htg htt' htt e hcm hT h0 h1
 go_enter Tryz.func62, Tryz.ntmps62
 go_wp2_with (first
  | (go_at_call 25; ((with_reducible refine (Hid.out HT).mono ?_); rintro e w2 ⟨A', rfl, hrd, hb2⟩; have hrt2 := hrt.below hb2))
  | (go_at_call 86; ((with_reducible refine (same_any B nt ct tag A' nt nt T w2 hrt2 hrd t HE.out).mono ?_); rintro e w' ⟨rfl, rfl⟩)))
 go_ret
 exact ⟨rfl, hb2⟩
end Go.Proofs.YtmkeioeodlidgaaGreatDoor
