/- Several texts in one: plain words and walks. No statement is proved here. -/
import Derived.Test.YtmkeioeodlidgaaGreatDoorZM28
import Derived.Deep.DeepCutAuto
namespace Go.Proofs.YtmkeioeodlidgaaGreatDoor
open List renaming getElem_toArray → xgT, getElem_cons_succ → xgS, getElem_cons_zero → xgZ, setIfInBounds_toArray → xsT, set_cons_succ → xsS, set_cons_zero → xsZ
open Go.RowKit
set_option linter.unusedVariables false

structure OX (w : World) (F : Nat → Prop) (A : Option Addr) (n c : Nat) (bs : List UInt8) (g : Nat) (yy : Wy) (nm ww : Value) (r : Nat → Nat) (v : Nat → Value) (wx : World) : Prop where
 way : RWay wx g yy nm ww r v
 z1 : BlkV wx w.heap.size 37 zeroC
 z2 : BlkV wx (w.heap.size + 1) 37 zeroC
 rd : RdS wx A n c bs
 fr : Fr F w wx
 new : ∀ j, FW g yy.ws.length nm ww r v j → F j ∨ w.heap.size ≤ j
 lt : w.heap.size + 2 ≤ wx.heap.size
 off : 0 < n → ∀ ad, A = some ad → ¬ F ad.block ∧ ad.block < w.heap.size
section
variable {w wx wy : World} {F G : Nat → Prop} {A : Option Addr} {n c : Nat} {bs : List UInt8} {g : Nat} {yy y2 : Wy} {nm ww nm2 ww2 : Value} {r r2 : Nat → Nat} {v v2 : Nat → Value}
theorem rway_notRtp (h : RWay wx g yy nm ww r v) {b : Nat} {cs : List Value} (hb : BlkV wx b 37 cs) : ¬ FW g yy.ws.length nm ww r v b := by
 rintro (e | e | e | ⟨i, hi, e | e⟩)
 · exact blk_ne h.b hb (by decide) e.symm
 · exact own_ne h.n hb (by decide) e
 · exact own_ne h.p hb (by decide) e
 · exact blk_ne (h.wins i hi).b hb (by decide) e.symm
 · exact own_ne (h.wins i hi).o hb (by decide) e
theorem OX.on (h : OX w F A n c bs g yy nm ww r v wx) (hb : Below wx.heap.size wx wy) : OX w F A n c bs g yy nm ww r v wy :=
 ⟨h.way.below hb, h.z1.below hb h.z1.lt, h.z2.below hb h.z2.lt, h.rd.below hb, h.fr.then hb, h.new, Nat.le_trans h.lt hb.size, h.off⟩
theorem OX.turn (h : OX w F A n c bs g yy nm ww r v wx) (hf : Fr G wx wy) (hG : ∀ j, G j → FW g yy.ws.length nm ww r v j) (hw : RWay wy g y2 nm2 ww2 r2 v2) (hn : ∀ j, FW g y2.ws.length nm2 ww2 r2 v2 j → FW g yy.ws.length nm ww r v j ∨ wx.heap.size ≤ j) : OX w F A n c bs g y2 nm2 ww2 r2 v2 wy where
 way := hw
 z1 := h.z1.fr hf (fun k => rway_notRtp h.way h.z1 (hG _ k))
 z2 := h.z2.fr hf (fun k => rway_notRtp h.way h.z2 (hG _ k))
 rd := h.rd.fr hf (fun h0 ad hA k => by
  have h1 := h.off h0 ad hA
  rcases h.new _ (hG _ k) with h2 | h2
  · exact h1.1 h2
  · omega)
 fr := h.fr.trans hf (fun i hi => h.new i (hG i hi))
 new := fun j hj => by
  rcases hn j hj with h1 | h1
  · exact h.new j h1
  · right
    have := h.fr.size
    omega
 lt := Nat.le_trans h.lt hf.size
 off := h.off
theorem OX.rz (h : OX w F A n c bs g yy nm ww r v wx) : wx.rangeAt (w.heap.size + 1) 0 zeroC := h.z2.range 0 zeroC (fun i _ => by rw [Nat.zero_add])
theorem OX.start {y : Wy} (h : OE w g y nm ww r v A n c bs wx) (hF : F = FW g y.ws.length nm ww r v) (hoff : 0 < n → ∀ ad, A = some ad → ¬ F ad.block ∧ ad.block < w.heap.size) : OX w F A n c bs g y nm ww r v wx :=
 ⟨h.way, h.z1, h.z2, h.rd, Fr.of_below h.below, fun j hj => .inl (hF ▸ hj), h.lt, hoff⟩
end
structure Spot (ws : List (Nat × List Int)) (SO : Nat) (I : Int) (k : Nat) (ws2 : List (Nat × List Int)) : Prop where
 lt : k < ws2.length
 win : (ws2.getD k (0, [])).2 = winW ws SO
 mark : ws2.set k ((ws2.getD k (0, [])).1, mkL (winW ws SO) I) = markW ws SO I
theorem Spot.same {ws : List (Nat × List Int)} {SO k : Nat} (I : Int) (h : atW ws SO = some k) : Spot ws SO I k ws := by
 refine ⟨(atW_some h).1, (winW_some h).symm, ?_⟩
 unfold markW
 rw [putY_some _ h]
theorem Spot.more {ws : List (Nat × List Int)} {SO : Nat} (I : Int) (h : atW ws SO = none) : Spot ws SO I ws.length (ws ++ [(SO, [])]) := by
 have e : (ws ++ [(SO, ([] : List Int))]).getD ws.length (0, []) = (SO, []) := by simp [List.getD]
 refine ⟨by simp, by rw [e, winW_none h], ?_⟩
 unfold markW
 rw [putY_none _ h, e]
 simp
theorem u32_infY : (Tryz.prog.info? 33).map (fun i => (i.zero, i.size, i.bytes)) = some (some (.int .u32 0), 1, 4) := by kernel_rfl
theorem ptr_infY : (Tryz.prog.info? 88).map (fun i => (i.zero, i.size, i.bytes)) = some (some (.pointer none), 1, 8) := by kernel_rfl
section
variable {w4 w5 w6 w9 : World} {g SO : Nat} {y : Wy} {nm ww nm2 ww2 : Value} {r : Nat → Nat} {v : Nat → Value}
def GW (g : Nat) (nm ww : Value) (k : Nat) : Prop := k = g ∨ nm.ownBlock = some k ∨ ww.ownBlock = some k
theorem ks50 (hf : y.fit) : (cells y.ks).length = 50 := by rw [length_cells, Wy.ks_len hf]
theorem grow1 (h : RWay w4 g y nm ww r v) (hf : y.fit) (X1 : Obj) (hg5 : (w4.alloc X1).grownBy w5 nm.ownBlock) (ho5 : w5.ownsRow 0 33 1 nm2 (y.ws.length + 1) (nmC y.ws ++ [.int .u32 (SO : Int)])) :
 BlkV (w5.setCell ⟨g, 52, none⟩ nm2) g 52 (cells y.ks ++ [.int .i64 y.limit, .int .i64 y.used, nm2, ww]) ∧ (w5.setCell ⟨g, 52, none⟩ nm2).ownsRow 0 33 1 nm2 (y.ws.length + 1) (nmC y.ws ++ [.int .u32 (SO : Int)]) ∧
 (w5.setCell ⟨g, 52, none⟩ nm2).ownsRow 0 88 1 ww y.ws.length (ptC r y.ws.length) ∧ Fr (GW g nm ww) w4 (w5.setCell ⟨g, 52, none⟩ nm2) ∧ BlkV w5 g 52 (cells y.ks ++ [.int .i64 y.limit, .int .i64 y.used, nm, ww]) := by
 have hb0 : Below w4.heap.size w4 (w4.alloc X1) := (Below.refl _ _).alloc (Nat.le_refl _) _
 have f5 : Fr (GW g nm ww) w4 w5 := (Fr.of_below hb0).trans (Fr.of_grown (F := fun k => nm.ownBlock = some k) hg5 (fun p hp => hp)) (fun i hi => .inl (.inr (.inl hi)))
 have hB5 : BlkV w5 g 52 (cells y.ks ++ [.int .i64 y.limit, .int .i64 y.used, nm, ww]) := (h.b.alloc X1).grown hg5 (fun e => own_ne h.n h.b (by decide) e.symm)
 have ho := Only.set w5 g 52 nm2
 have hB6 := hB5.set_ 52 nm2
 rw [List.set_append_right _ _ (by rw [ks50 hf]; omega), ks50 hf] at hB6
 have hP5 : w5.ownsRow 0 88 1 ww y.ws.length (ptC r y.ws.length) := own_at_same h.p fun k hk => (hg5.block k (Nat.lt_of_lt_of_le (h.p.lt k hk).2 hb0.size) (fun e => own_ne2 h.n h.p (by decide) k e.symm hk)).trans (hb0.block k (h.p.lt k hk).2)
 refine ⟨hB6, own_at_same ho5 fun k hk => ho.block k (fun e => own_ne ho5 hB5 (by decide) (e ▸ hk)), own_at_same hP5 fun k hk => ho.block k (fun e => own_ne hP5 hB5 (by decide) (e ▸ hk)), f5.trans (Fr.of_only (F := fun k => k = g) ho rfl) (fun i hi => .inl (.inl hi)), hB5⟩
theorem grown1 {m : Nat} {AN A5 : Option Addr} {cN c5 : Nat} (h : RWay w4 g y (.slice AN y.ws.length cN) ww r v) (hf : y.fit) (hm : m = y.ws.length) {X1 : Obj} (hg5 : (w4.alloc X1).grownBy w5 (Value.slice AN m cN).ownBlock) (ho5 : w5.ownsRow 0 33 1 (.slice A5 (m + 1) c5) (m + 1) (nmC y.ws ++ [.int .u32 (SO : Int)])) :
 BlkV (w5.setCell ⟨g, 52, none⟩ (.slice A5 (m + 1) c5)) g 52 (cells y.ks ++ [.int .i64 y.limit, .int .i64 y.used, .slice A5 (m + 1) c5, ww]) ∧ (w5.setCell ⟨g, 52, none⟩ (.slice A5 (m + 1) c5)).ownsRow 0 33 1 (.slice A5 (m + 1) c5) (y.ws.length + 1) (nmC y.ws ++ [.int .u32 (SO : Int)]) ∧
 (w5.setCell ⟨g, 52, none⟩ (.slice A5 (m + 1) c5)).ownsRow 0 88 1 ww y.ws.length (ptC r y.ws.length) ∧ Fr (GW g (.slice AN y.ws.length cN) ww) w4 (w5.setCell ⟨g, 52, none⟩ (.slice A5 (m + 1) c5)) ∧ BlkV w5 g 52 (cells y.ks ++ [.int .i64 y.limit, .int .i64 y.used, .slice AN y.ws.length cN, ww]) ∧
 (∃ u, w5.cell? ⟨g, 52, none⟩ = some u) ∧ w5.cell? ⟨g, 53, none⟩ = some ww := by
 subst hm
 obtain ⟨h1, h2, h3, h4, h5⟩ := grow1 h hf X1 hg5 ho5
 have hl := ks50 hf
 refine ⟨h1, h2, h3, h4, h5, ⟨.slice AN y.ws.length cN, (h5.cell 52).trans ?_⟩, (h5.cell 53).trans ?_⟩ <;>
  (rw [List.getElem?_append_right (by omega), hl]; rfl)
theorem grow2 (hf : y.fit) (B6 : BlkV w6 g 52 (cells y.ks ++ [.int .i64 y.limit, .int .i64 y.used, nm2, ww])) (N6 : w6.ownsRow 0 33 1 nm2 (y.ws.length + 1) (nmC y.ws ++ [.int .u32 (SO : Int)])) (P6 : w6.ownsRow 0 88 1 ww y.ws.length (ptC r y.ws.length))
 (F6 : Fr (GW g nm ww) w4 w6) (X2 : Obj) (hg9 : ((w6.alloc (.cells #[.slice none 0 0] 92)).alloc X2).grownBy w9 ww.ownBlock) (ho9 : w9.ownsRow 0 88 1 ww2 (y.ws.length + 1) (ptC r y.ws.length ++ [.pointer (some ⟨w6.heap.size, 0, none⟩)])) :
 BlkV (w9.setCell ⟨g, 53, none⟩ ww2) g 52 (cells y.ks ++ [.int .i64 y.limit, .int .i64 y.used, nm2, ww2]) ∧ (w9.setCell ⟨g, 53, none⟩ ww2).ownsRow 0 33 1 nm2 (y.ws.length + 1) (nmC y.ws ++ [.int .u32 (SO : Int)]) ∧
 (w9.setCell ⟨g, 53, none⟩ ww2).ownsRow 0 88 1 ww2 (y.ws.length + 1) (ptC r y.ws.length ++ [.pointer (some ⟨w6.heap.size, 0, none⟩)]) ∧ BlkV (w9.setCell ⟨g, 53, none⟩ ww2) w6.heap.size 92 [.slice none 0 0] ∧ Fr (GW g nm ww) w4 (w9.setCell ⟨g, 53, none⟩ ww2) ∧ BlkV w9 g 52 (cells y.ks ++ [.int .i64 y.limit, .int .i64 y.used, nm2, ww]) := by
 have hb0 := twoBelow w6 (.cells #[.slice none 0 0] 92) X2
 have hW : BlkV ((w6.alloc (.cells #[.slice none 0 0] 92)).alloc X2) w6.heap.size 92 [.slice none 0 0] := (BlkV.new w6 _ [.slice none 0 0]).alloc _
 have hW9 : BlkV w9 w6.heap.size 92 [.slice none 0 0] := hW.grown hg9 (fun e => by have := (P6.lt _ e.symm).2; omega)
 have hB9 : BlkV w9 g 52 (cells y.ks ++ [.int .i64 y.limit, .int .i64 y.used, nm2, ww]) := (B6.below hb0 B6.lt).grown hg9 (fun e => own_ne P6 B6 (by decide) e.symm)
 have hN9 : w9.ownsRow 0 33 1 nm2 (y.ws.length + 1) (nmC y.ws ++ [.int .u32 (SO : Int)]) := own_at_same N6 fun k hk => (hg9.block k (Nat.lt_of_lt_of_le (N6.lt k hk).2 hb0.size) (fun e => own_ne2 N6 P6 (by decide) k hk e.symm)).trans (hb0.block k (N6.lt k hk).2)
 have ho := Only.set w9 g 53 ww2
 have hB10 := hB9.set_ 53 ww2
 rw [List.set_append_right _ _ (by rw [ks50 hf]; omega), ks50 hf] at hB10
 have f9 : Fr (GW g nm ww) w4 w9 := (F6.then hb0).trans (Fr.of_grown (F := fun k => ww.ownBlock = some k) hg9 (fun p hp => hp)) (fun i hi => .inl (.inr (.inr hi)))
 exact ⟨hB10, own_at_same hN9 fun k hk => ho.block k (fun e => own_ne hN9 hB9 (by decide) (e ▸ hk)), own_at_same ho9 fun k hk => ho.block k (fun e => own_ne ho9 hB9 (by decide) (e ▸ hk)), hW9.only ho (fun e => blk_ne hW9 hB9 (by decide) e), f9.trans (Fr.of_only (F := fun k => k = g) ho rfl) (fun i hi => .inl (.inl hi)), hB9⟩
end
theorem OX.more {w w4 w10 : World} {F : Nat → Prop} {A : Option Addr} {n c : Nat} {bs : List UInt8} {g SO q : Nat} {y : Wy} {nm ww nm2 ww2 : Value} {r : Nat → Nat} {v : Nat → Value} (h : OX w F A n c bs g y nm ww r v w4)
 (hB : BlkV w10 g 52 (cells y.ks ++ [.int .i64 y.limit, .int .i64 y.used, nm2, ww2])) (hn : w10.ownsRow 0 33 1 nm2 (y.ws.length + 1) (nmC y.ws ++ [.int .u32 (SO : Int)]))
 (hp : w10.ownsRow 0 88 1 ww2 (y.ws.length + 1) (ptC r y.ws.length ++ [.pointer (some ⟨q, 0, none⟩)])) (hW : BlkV w10 q 92 [.slice none 0 0]) (hq : w4.heap.size ≤ q) (hf : Fr (GW g nm ww) w4 w10)
 (hn2 : ∀ k, nm2.ownBlock = some k → nm.ownBlock = some k ∨ w4.heap.size ≤ k) (hp2 : ∀ k, ww2.ownBlock = some k → ww.ownBlock = some k ∨ w4.heap.size ≤ k) :
 OX w F A n c bs g { y with ws := y.ws ++ [(SO, [])] } nm2 ww2 (fun j => if j = y.ws.length then q else r j) (fun j => if j = y.ws.length then .slice none 0 0 else v j) w10 := by
 refine h.turn hf (fun j hj => ?_) (h.way.more hB hn hp hW hq hf) (fun j hj => ?_)
 · rcases hj with e | e | e
   · exact .inl e
   · exact .inr (.inl e)
   · exact .inr (.inr (.inl e))
 · rcases hj with e | e | e | ⟨i, hi, e⟩
   · exact .inl (.inl e)
   · rcases hn2 j e with k | k
     · exact .inl (.inr (.inl k))
     · exact .inr k
   · rcases hp2 j e with k | k
     · exact .inl (.inr (.inr (.inl k)))
     · exact .inr k
   · replace e : j = (if i = y.ws.length then q else r i) ∨ (if i = y.ws.length then Value.slice none 0 0 else v i).ownBlock = some j := e
     by_cases k : i = y.ws.length
     · rw [if_pos k, if_pos k] at e
       rcases e with e | e
       · exact .inr (by omega)
       · exact nomatch e
     · rw [if_neg k, if_neg k] at e
       have hi' : i < y.ws.length + 1 := by simpa using hi
       exact .inl (.inr (.inr (.inr ⟨i, by omega, e⟩)))
theorem row2W : RowTy Tryz.prog 98 2 := ⟨_, Tryz.underlying98, rfl, by kernel_rfl⟩
theorem wp_mapW (w : World) {o : Oper} {a : Act} {K : Act → World → Prop} {Q : Exit → Act → World → Prop} (m x v : Operand) (hop : o.op = Op.mapUpdate 63 m x v) (b : Nat) (ws : List (Nat × List Int))
 (hm : a.eval m = .map (some b)) (h : MapW w b ws) (hlt : ∀ y ∈ ws, y.1 < 4294967296) (X : Nat) (hx : a.eval x = .int .u32 (X : Int)) (hX : X < 4294967296) (hh : Int) (p : Nat) (hv : a.eval v = .agg #[.int .i64 hh, .int .u64 (p : Int)]) (L : List Int) (hW : WinS L hh p)
 (hK : ∀ w', MapW w' b (putY ws X L) → Only b w w' → K (a.put o.dst undef) w') : o.wp Tryz.prog a w K Q := by
 obtain ⟨w', hrun, r1, r2⟩ := h.store hlt hX hW
 unfold Oper.wp
 simp [execOp, hop, hm, hx, hv, hrun, Result.andThen]
 exact hK w' r1 r2
def wx52 (wx : World) (g b q : Nat) (h : Int) (p : Nat) : Prop := wx.cell? ⟨g, 52, none⟩ = some (.map (some b)) ∧ BlkV wx q 98 (winC h p)
set_option maxRecDepth 100000 in
set_option maxHeartbeats 1000000 in
theorem mark15_any (g b : Nat) (y : Wy) (SO : Nat) (I : Int) (w : World) (h : PWay w g b y) (hf : y.fit) (hso : SO < 4294967296) (hI : I ≤ 9223372036854775807) (ht : hiL (winW y.ws SO) ≤ 9223372036854775807) :
 Calls Tryz.prog 31 #[.pointer (some ⟨g, 0, none⟩), .int .u32 (SO : Int), .int .i64 I] w fun e w' => e = .returned (.tuple #[]) ∧ PWay w' g b { y with ws := markW y.ws SO I } ∧ Fr (fun k => k = b) w w' := by
 have c52 := (h.cells_ hf).2.2
 obtain ⟨hh, p, hW, hlk⟩ := h.m.look hf.2.2.2.2.2.2 hso
 have hlk0 := hlk false
 simp only [Bool.false_eq_true, if_false] at hlk0
 have HLT := Lib.hid hf.2.2.2.2.2.2
 have HWA : Hid (WinAt (w.alloc (.cells #[.int .i64 hh, .int .u64 (p : Int)] 98)) w.heap.size (winW y.ws SO)) := Lib.hid ⟨hh, p, hW, BlkV.new w _ [.int .i64 hh, .int .u64 (p : Int)]⟩
 have hb1 := (Below.refl w.heap.size w).alloc (Nat.le_refl _) (.cells #[.int .i64 hh, .int .u64 (p : Int)] 98)
 have HW1 := Lib.hid (h.below hb1)
 have HB1 := Lib.hid hb1
 have HF := Lib.hid hf
 have hgl : g < w.heap.size := h.bk.lt
 have hbl : b < w.heap.size := h.m.lt
 have HMK := Lib.hid ((mark_any w.heap.size (winW y.ws SO) I _ HWA.out hI ht).mono (R' := fun e w' => ∃ c, e = .returned (.int .i64 c) ∧ WinAt w' w.heap.size (mkL (winW y.ws SO) I) ∧ Only w.heap.size (w.alloc (.cells #[.int .i64 hh, .int .u64 (p : Int)] 98)) w') (fun e w' k => ⟨_, k⟩))
 clear h hlk hW hf hb1
 go_enter Tryz.func31, Tryz.ntmps31
 go_upto_region 2 with (go_at_call 63; ((with_reducible refine (Hid.out HMK).mono ?_); rintro e w2 ⟨mc, rfl, ⟨h2, p2, hW2, hB2⟩, ho2⟩; have HS2 := Lib.hid hW2; have HB2 := Lib.hid hB2; have HO2 := Lib.hid ho2; clear hW2 hB2 ho2))
 have HW2 : Hid (PWay w2 g b y) := Lib.hid (HW1.out.stay (HO2.out.block g (by omega)) (HO2.out.block b (by omega)))
 have HFr2 : Hid (Fr (fun k => k = b) w w2) := Lib.hid ((Fr.of_below HB1.out).trans (G := fun k => k = w.heap.size) (Fr.of_only HO2.out rfl) (fun i hi => .inr (by omega)))
 clear HW1 HB1 HWA HMK c52 hlk0 HO2
 refine wp_region_noPanic ?_
 refine wp_region_held (S := fun wx => wx52 wx g b w.heap.size h2 p2) (by kernel_rfl) ?_
 change wpAnyH _ _ _ _ _ _ _ _ (World.drew _)
 obtain ⟨w3, hw3⟩ : ∃ x, x = w2.drew := ⟨_, rfl⟩
 rw [← hw3]
 have HB3 : Hid (BlkV w3 w.heap.size 98 (winC h2 p2)) := Lib.hid (hw3 ▸ HB2.out)
 have HW3 : Hid (PWay w3 g b y) := Lib.hid (hw3 ▸ HW2.out.below (Below.refl _ _).drew)
 have HFr3 : Hid (Fr (fun k => k = b) w w3) := Lib.hid (hw3 ▸ HFr2.out.then (Below.refl _ _).drew)
 have k52 := (HW3.out.cells_ HF.out).2.2
 have hS : wx52 w3 g b w.heap.size h2 p2 := ⟨k52, HB3.out⟩
 have K52 := Lib.hid k52
 clear hw3 HB2 HW2 HFr2 k52
 refine wpAnyH_take (i := 0) (v := ?_) rfl (by kernel_rfl) (by kernel_rfl) (by kernel_rfl) (fun _ _ _ h => h) (Or.inl ⟨by rfl, ?_⟩) hS ?_
 case refine_2 => (intro wz hz; go_simp; with_reducible rfl)
 simp only [Act.put, xgT, xgZ, xsT, xsS, xsZ]
 refine wpAnyH_take (i := 1) (v := ?_) rfl (by kernel_rfl) (by kernel_rfl) (by kernel_rfl) (fun _ _ _ h => h) (Or.inl ⟨by rfl, ?_⟩) hS ?_
 case refine_2 => (intro wz hz; go_simp; with_reducible rfl)
 simp only [Act.put, xgT, xgS, xgZ, xsT, xsS, xsZ]
 refine wpAnyH_take (i := 2) (v := ?_) rfl (by kernel_rfl) (by kernel_rfl) (by kernel_rfl) (fun _ _ _ h => h) (Or.inl ⟨by rfl, ?_⟩) hS ?_
 case refine_2 => (intro wz hz; go_simp; with_reducible rfl)
 simp only [Act.put, xgT, xgS, xgZ, xsT, xsS, xsZ]
 refine wpAnyH_take (i := 3) (v := ?_) rfl (by kernel_rfl) (by kernel_rfl) (by kernel_rfl) (fun _ _ _ h => h) (Or.inl ⟨by rfl, ?_⟩) hS ?_
 case refine_2 => (intro wz hz; have k := hz.1; go_simp; with_reducible rfl)
 simp only [Act.put, xgT, xgS, xgZ, xsT, xsS, xsZ]
 refine wpAnyH_take (i := 4) (v := ?_) rfl (by kernel_rfl) (by kernel_rfl) (by kernel_rfl) (fun _ _ _ h => h) (Or.inl ⟨by rfl, ?_⟩) hS ?_
 case refine_2 => (intro wz hz; go_simp; with_reducible rfl)
 simp only [Act.put, xgT, xgS, xgZ, xsT, xsS, xsZ]
 refine wpAnyH_take (i := 5) (v := .agg (winC h2 p2).toArray) rfl (by kernel_rfl) (by kernel_rfl) (by kernel_rfl) (fun _ _ _ h => h) (Or.inl ⟨by rfl, fun wz hz => ?_⟩) hS ?_
 · (exact run_ld 98 _ rfl w.heap.size 0 (by rfl) (winC h2 p2) (hz.2.range 0 _ (fun i _ => by rw [Nat.zero_add])) row2W)
 simp only [Act.put, xgT, xgS, xgZ, xsT, xsS, xsZ]
 refine anyH_one (i := 6) (by kernel_rfl) rfl rfl (fun HH hH => ?_)
 simp only [xgT, xgS, xgZ]
 refine wp_mapW w3 (.tmp 18) (.tmp 19) (.tmp 20) rfl b y.ws (by rfl) HW3.out.m HLT.out SO (by rfl) hso h2 p2 (by rfl) _ HS2.out ?_
 intro w4 hm4 ho4
 have hW4 := HW3.out.marked hm4 ho4
 have hF4 : Fr (fun k => k = b) w w4 := HFr3.out.trans (Fr.of_only (F := fun k => k = b) ho4 rfl) (fun i hi => .inl hi)
 have hS4 : wx52 w4 g b w.heap.size h2 p2 := ⟨(World.cell?_of_block (ho4.block g HW3.out.ne.symm)).trans K52.out, HB3.out.only ho4 (by omega)⟩
 refine hH _ _ hS4 ?_
 clear hH
 refine wpAnyH_done (by kernel_rfl) ?_ _
 refine NoPanic.normal ?_
 go_wp2
 go_end0
 exact ⟨rfl, hW4, hF4⟩
theorem highW_bd {y : Wy} (h : y.good) (x : Nat) : -1 ≤ highW y.ws x ∧ highW y.ws x < 281474976710656 := by
 rw [highW_win]
 refine ⟨hiL_low _, ?_⟩
 have := hiL_top (L := winW y.ws x) (B := 281474976710655) (fun i hi => ⟨((win_facts h x).2 i hi).1, by have := ((win_facts h x).2 i hi).2; omega⟩) (by omega)
 omega
theorem atI_some {ws : List (Nat × List Int)} {x i : Nat} (h : atW ws x = some i) : atI ws x = (i : Int) := by unfold atI; rw [h]
theorem atI_none {ws : List (Nat × List Int)} {x : Nat} (h : atW ws x = none) : atI ws x = -1 := by unfold atI; rw [h]
set_option maxRecDepth 100000 in
set_option maxHeartbeats 2000000 in
theorem ropen15_3 (p : Value) (y : Wy) (F : Nat → Prop) (A : Option Addr) (n c : Nat) (bs : List UInt8) (w : World) (h : RY w p y F) (hg : y.good) (hr : RdS w A n c bs) (h0 : whyPeek bs = 0) (h1 : ¬ y.limit ≤ y.used) (h3 : ¬ (lookW y.ws (soN bs) = none ∧ 8 ≤ y.ws.length)) (h4 : 281474976710656 ≤ idxW y bs) :
 Calls Tryz.prog 13 #[p, .slice A n c] w (OpenR RY p y F bs w) := by
 have hz := zero28
 have HNO := Lib.hid (fun w' hb => OpenR.no (w' := w') ry_lone h (whyOpen_3 h0 h1 h3 h4) (by decide) hb)
 obtain ⟨g, nm, ww, r, v, rfl, hw, hFF⟩ := h
 clear hFF
 have HE0 := Lib.hid (OE.start (A := A) (n := n) (c := c) (bs := bs) hw hr)
 have HR11 : Hid (RowTy Tryz.prog 37 zeroC.length) := Lib.hid (row11 rfl)
 have HP := Lib.hid (fun W (hr : RdS W A n c bs) => (rpeek15_any A n c bs W hr).mono (R' := fun e w' => e = .returned (.tuple #[.int .u32 (soN bs : Int), .int .u16 (sqN bs : Int), .int .i64 0]) ∧ Below W.heap.size W w') (fun e w' k => ⟨k.1 h0, k.2.2⟩))
 obtain ⟨SO, hSO⟩ : ∃ x, x = soN bs := ⟨_, rfl⟩
 obtain ⟨SQ, hSQ⟩ : ∃ x, x = sqN bs := ⟨_, rfl⟩
 have lSO : SO < 4294967296 := hSO ▸ soN_lt bs
 have lSQ : SQ < 65536 := hSQ ▸ sqN_lt bs
 rw [← hSO, ← hSQ] at HP
 have HG := Lib.hid hg
 obtain ⟨L, hL⟩ : ∃ L, L = y.limit := ⟨_, rfl⟩
 obtain ⟨U, hU⟩ : ∃ U, U = y.used := ⟨_, rfl⟩
 have HLE := Lib.hid hL
 have HUE := Lib.hid hU
 obtain ⟨AN, cN, hnm⟩ := own_formN hw.n
 subst hnm
 obtain ⟨m, hm⟩ : ∃ m, m = y.ws.length := ⟨_, rfl⟩
 have hm8 : m ≤ 8 := hm ▸ hg.1.2.2.2.2.2.1
 have HM := Lib.hid hm
 have HAT : Hid (∀ W, OE w g y (.slice AN y.ws.length cN) ww r v A n c bs W → Calls Tryz.prog 35 #[.pointer (some ⟨g, 0, none⟩), .int .u32 (SO : Int)] W fun e w' => e = .returned (.int .i64 (atI y.ws SO)) ∧ W = w') := Lib.hid (fun W k => rat15_any g y _ ww r v SO W k.way hg.1 lSO)
 have HCN : Hid (∀ W, OE w g y (.slice AN y.ws.length cN) ww r v A n c bs W → W.cell? ⟨g, 52, none⟩ = some (.slice AN m cN)) := Lib.hid (fun W k => hm ▸ (k.way.cells_ hg.1).2.2.1)
 have hLU : ¬ L ≤ U := by rw [hL, hU]; exact h1
 have hcs : (atI y.ws SO = -1 ∧ (m : Int) < 8) ∨ (0 ≤ atI y.ws SO) := by
  match ha : atW y.ws SO with
  | none =>
    refine .inl ⟨atI_none ha, ?_⟩
    have : ¬ 8 ≤ y.ws.length := fun k => h3 ⟨hSO ▸ (atW_none ha).1, k⟩
    omega
  | some i => exact .inr (by rw [atI_some ha]; omega)
 have HCSS := Lib.hid hcs
 obtain ⟨ai, hai⟩ : ∃ x, x = atI y.ws SO := ⟨_, rfl⟩
 rw [← hai] at HCSS HAT
 have hbd := highW_bd hg SO
 have HHI : Hid (∀ W, OE w g y (.slice AN y.ws.length cN) ww r v A n c bs W → Calls Tryz.prog 17 #[.pointer (some ⟨g, 0, none⟩), .int .u32 (SO : Int)] W fun e w' => e = .returned (.int .i64 (highW y.ws SO)) ∧ W = w') := Lib.hid (fun W k => rhigh15_any g y _ ww r v SO W k.way hg lSO)
 have HIX : Hid (∀ W, Calls Tryz.prog 36 #[.int .i64 (highW y.ws SO), .int .u16 (SQ : Int)] W fun e w' => e = .returned (.int .i64 (idxW y bs)) ∧ W = w') := Lib.hid (fun W => by
  have := rindex_any (highW y.ws SO) (SQ : Int) W (by omega) (by omega) (by omega) (by omega)
  unfold idxW
  rw [← hSO, ← hSQ]
  exact this)
 have hI0 : 0 ≤ idxW y bs := idxW_ge y bs
 obtain ⟨I, hI⟩ : ∃ x, x = idxW y bs := ⟨_, rfl⟩
 obtain ⟨H, hH⟩ : ∃ x, x = highW y.ws SO := ⟨_, rfl⟩
 rw [← hI] at HIX hI0
 rw [← hH] at HHI HIX
 rw [← hI] at h4
 clear hw hr hg hSO hSQ h1 h3 hcs hai hm hL hU hI hH
 go_enter Tryz.func13, Tryz.ntmps13
 go_upto_region 5 with (go_at_call 34; ((with_reducible refine (HP.out _ HE0.out.rd).mono ?_); rintro e w1 ⟨rfl, hb1⟩; have HE1 := Lib.hid (HE0.out.on hb1); clear hb1))
 have c50 := (HE1.out.way.cells_ HG.out.1).1
 have c51 := (HE1.out.way.cells_ HG.out.1).2.1
 rw [← HLE.out] at c50
 rw [← HUE.out] at c51
 go_region
 obtain ⟨w2, hw2⟩ : ∃ x, x = w1.drew := ⟨_, rfl⟩
 rw [← hw2]
 have HE2 := Lib.hid (show OE w g y _ _ r v A n c bs w2 from hw2 ▸ HE1.out.on (Below.refl _ _).drew)
 have RZ2 := Lib.hid HE2.out.rz
 clear hw2 HE1 c50 c51
 go_upto_region 8 with (go_at_call 35; ((with_reducible refine (HAT.out _ HE2.out).mono ?_); rintro e w' ⟨rfl, rfl⟩))
 go_cut [52] (fun u wx => u = .bool false ∧ wx = w2)
 case first =>
  have c52 := HCN.out _ HE2.out
  rcases HCSS.out with ⟨ha1, ha2⟩ | ha1
  · first
     | (exfalso; omega)
     | (subst ha1; go_wp2; go_meet; exact ⟨by rw [decide_eq_false (by omega)], rfl⟩)
  · go_wp2
    go_meet
    exact ⟨rfl, rfl⟩
 case rest =>
  obtain ⟨rfl, hwc⟩ := hcut
  rw [hwc]
  clear hwc
  go_wp2_with (first
   | (go_at_call 17; ((with_reducible refine (HHI.out _ HE2.out).mono ?_); rintro e w' ⟨rfl, rfl⟩))
   | (go_at_call 36; ((with_reducible refine (HIX.out _).mono ?_); rintro e w' ⟨rfl, rfl⟩))
   | (with_reducible refine wpList_ld rfl 37 (.tmp 7) rfl (w.heap.size + 1) 0 rfl zeroC RZ2.out HR11.out ?_)
   | ((with_reducible refine wpList_st rfl 37 (.tmp 4) (.tmp 61) rfl w.heap.size 0 zeroC rfl rfl 37 zeroC HE2.out.z1 zfit HR11.out zeroC_one ?_); intro w9 hB9 ho9; rw [splice_all _ _ rfl] at hB9; have HB9 := Lib.hid hB9; have HF9 := Lib.hid (HE2.out.below.trans (ho9.below (Nat.le_refl _))); clear hB9 ho9))
  exact ret_row3 rfl rfl HB9.out (row11 rfl) rfl (HNO.out _ HF9.out)
set_option maxRecDepth 100000 in
set_option maxHeartbeats 2000000 in
theorem ropen15_5 (p : Value) (y : Wy) (F : Nat → Prop) (A : Option Addr) (n c : Nat) (bs : List UInt8) (w : World) (h : RY w p y F) (hg : y.good) (hr : RdS w A n c bs) (h0 : whyPeek bs = 0) (h1 : ¬ y.limit ≤ y.used) (h3 : ¬ (lookW y.ws (soN bs) = none ∧ 8 ≤ y.ws.length)) (h4 : ¬ 281474976710656 ≤ idxW y bs) (h5 : ∃ L, lookW y.ws (soN bs) = some L ∧ frL L (idxW y bs) = false) :
 Calls Tryz.prog 13 #[p, .slice A n c] w (OpenR RY p y F bs w) := by
 have hz := zero28
 have HNO := Lib.hid (fun w' hb => OpenR.no (w' := w') ry_lone h (whyOpen_5 h0 h1 h3 h4 h5) (by decide) hb)
 obtain ⟨g, nm, ww, r, v, rfl, hw, hFF⟩ := h
 clear hFF
 have HE0 := Lib.hid (OE.start (A := A) (n := n) (c := c) (bs := bs) hw hr)
 have HR11 : Hid (RowTy Tryz.prog 37 zeroC.length) := Lib.hid (row11 rfl)
 have HP := Lib.hid (fun W (hr : RdS W A n c bs) => (rpeek15_any A n c bs W hr).mono (R' := fun e w' => e = .returned (.tuple #[.int .u32 (soN bs : Int), .int .u16 (sqN bs : Int), .int .i64 0]) ∧ Below W.heap.size W w') (fun e w' k => ⟨k.1 h0, k.2.2⟩))
 obtain ⟨SO, hSO⟩ : ∃ x, x = soN bs := ⟨_, rfl⟩
 obtain ⟨SQ, hSQ⟩ : ∃ x, x = sqN bs := ⟨_, rfl⟩
 have lSO : SO < 4294967296 := hSO ▸ soN_lt bs
 have lSQ : SQ < 65536 := hSQ ▸ sqN_lt bs
 rw [← hSO, ← hSQ] at HP
 have HG := Lib.hid hg
 obtain ⟨L, hL⟩ : ∃ L, L = y.limit := ⟨_, rfl⟩
 obtain ⟨U, hU⟩ : ∃ U, U = y.used := ⟨_, rfl⟩
 have HLE := Lib.hid hL
 have HUE := Lib.hid hU
 obtain ⟨AN, cN, hnm⟩ := own_formN hw.n
 subst hnm
 obtain ⟨m, hm⟩ : ∃ m, m = y.ws.length := ⟨_, rfl⟩
 have hm8 : m ≤ 8 := hm ▸ hg.1.2.2.2.2.2.1
 have HM := Lib.hid hm
 have HAT : Hid (∀ W, OE w g y (.slice AN y.ws.length cN) ww r v A n c bs W → Calls Tryz.prog 35 #[.pointer (some ⟨g, 0, none⟩), .int .u32 (SO : Int)] W fun e w' => e = .returned (.int .i64 (atI y.ws SO)) ∧ W = w') := Lib.hid (fun W k => rat15_any g y _ ww r v SO W k.way hg.1 lSO)
 have HCN : Hid (∀ W, OE w g y (.slice AN y.ws.length cN) ww r v A n c bs W → W.cell? ⟨g, 52, none⟩ = some (.slice AN m cN)) := Lib.hid (fun W k => hm ▸ (k.way.cells_ hg.1).2.2.1)
 have hLU : ¬ L ≤ U := by rw [hL, hU]; exact h1
 have hcs : (atI y.ws SO = -1 ∧ (m : Int) < 8) ∨ (0 ≤ atI y.ws SO) := by
  match ha : atW y.ws SO with
  | none =>
    refine .inl ⟨atI_none ha, ?_⟩
    have : ¬ 8 ≤ y.ws.length := fun k => h3 ⟨hSO ▸ (atW_none ha).1, k⟩
    omega
  | some i => exact .inr (by rw [atI_some ha]; omega)
 have HCSS := Lib.hid hcs
 obtain ⟨ai, hai⟩ : ∃ x, x = atI y.ws SO := ⟨_, rfl⟩
 rw [← hai] at HCSS HAT
 have hbd := highW_bd hg SO
 have HHI : Hid (∀ W, OE w g y (.slice AN y.ws.length cN) ww r v A n c bs W → Calls Tryz.prog 17 #[.pointer (some ⟨g, 0, none⟩), .int .u32 (SO : Int)] W fun e w' => e = .returned (.int .i64 (highW y.ws SO)) ∧ W = w') := Lib.hid (fun W k => rhigh15_any g y _ ww r v SO W k.way hg lSO)
 have HIX : Hid (∀ W, Calls Tryz.prog 36 #[.int .i64 (highW y.ws SO), .int .u16 (SQ : Int)] W fun e w' => e = .returned (.int .i64 (idxW y bs)) ∧ W = w') := Lib.hid (fun W => by
  have := rindex_any (highW y.ws SO) (SQ : Int) W (by omega) (by omega) (by omega) (by omega)
  unfold idxW
  rw [← hSO, ← hSQ]
  exact this)
 have hI0 : 0 ≤ idxW y bs := idxW_ge y bs
 obtain ⟨I, hI⟩ : ∃ x, x = idxW y bs := ⟨_, rfl⟩
 obtain ⟨H, hH⟩ : ∃ x, x = highW y.ws SO := ⟨_, rfl⟩
 rw [← hI] at HIX hI0
 rw [← hH] at HHI HIX
 obtain ⟨i, hi⟩ : ∃ i, atW y.ws SO = some i := by
  match ha : atW y.ws SO with
  | none => obtain ⟨L, h5, _⟩ := h5; rw [← hSO, (atW_none ha).1] at h5; exact nomatch h5
  | some i => exact ⟨i, rfl⟩
 have hii := atW_some hi
 obtain ⟨bW, cW, hww, hcp⟩ := hw.ptr hii.1
 subst hww
 have hfr : frL (y.ws.getD i (0, [])).2 I = false := by
  obtain ⟨L, h5, h6⟩ := h5
  rw [← hSO, hii.2.2] at h5
  injection h5 with h5
  rw [h5, hI]
  exact h6
 have hgat := hg.at_ hii.1
 have HFS : Hid (∀ W, OE w g y (.slice AN y.ws.length cN) (.slice (some ⟨bW, 0, none⟩) y.ws.length cW) r v A n c bs W → Calls Tryz.prog 37 #[.pointer (some ⟨r i, 0, none⟩), .int .i64 I] W fun e w' => e = .returned (.bool false) ∧ W = w') := Lib.hid (fun W k => by
  have := rfresh_any 0 (r i) _ I W (k.way.wins i hii.1).rw (by omega) (by omega) (by omega)
  rwa [hfr] at this)
 have HCP : Hid (∀ W, OE w g y (.slice AN y.ws.length cN) (.slice (some ⟨bW, 0, none⟩) y.ws.length cW) r v A n c bs W → W.cell? ⟨bW, i, none⟩ = some (.pointer (some ⟨r i, 0, none⟩)) ∧ W.cell? ⟨g, 53, none⟩ = some (.slice (some ⟨bW, 0, none⟩) m cW)) := Lib.hid (fun W k => ⟨by
  obtain ⟨b2, c2, he, hc⟩ := k.way.ptr hii.1
  injection he with he
  injection he with he
  injection he with he
  subst he
  exact hc, hm ▸ (k.way.cells_ hg.1).2.2.2⟩)
 have hai2 : ai = (i : Int) := by rw [hai]; exact atI_some hi
 subst hai2
 have him : (i : Int) < (m : Int) := by have := hii.1; omega
 rw [← hI] at h4
 clear hw hr hg hSO hSQ h1 h3 hcs hai hm hL hU hI hH h5 hi hii hcp hfr hgat
 go_enter Tryz.func13, Tryz.ntmps13
 go_upto_region 5 with (go_at_call 34; ((with_reducible refine (HP.out _ HE0.out.rd).mono ?_); rintro e w1 ⟨rfl, hb1⟩; have HE1 := Lib.hid (HE0.out.on hb1); clear hb1))
 have c50 := (HE1.out.way.cells_ HG.out.1).1
 have c51 := (HE1.out.way.cells_ HG.out.1).2.1
 rw [← HLE.out] at c50
 rw [← HUE.out] at c51
 go_region
 obtain ⟨w2, hw2⟩ : ∃ x, x = w1.drew := ⟨_, rfl⟩
 rw [← hw2]
 have HE2 := Lib.hid (show OE w g y _ _ r v A n c bs w2 from hw2 ▸ HE1.out.on (Below.refl _ _).drew)
 have RZ2 := Lib.hid HE2.out.rz
 clear hw2 HE1 c50 c51
 go_upto_region 8 with (go_at_call 35; ((with_reducible refine (HAT.out _ HE2.out).mono ?_); rintro e w' ⟨rfl, rfl⟩))
 go_cut [52] (fun u wx => u = .bool false ∧ wx = w2)
 case first =>
  have c52 := HCN.out _ HE2.out
  rcases HCSS.out with ⟨ha1, ha2⟩ | ha1
  · first
     | (exfalso; omega)
     | (subst ha1; go_wp2; go_meet; exact ⟨by rw [decide_eq_false (by omega)], rfl⟩)
  · go_wp2
    go_meet
    exact ⟨rfl, rfl⟩
 case rest =>
  obtain ⟨rfl, hwc⟩ := hcut
  rw [hwc]
  clear hwc
  have c53 := (HCP.out _ HE2.out).2
  have cbw := (HCP.out _ HE2.out).1
  go_wp2_with (first
   | (go_at_call 17; ((with_reducible refine (HHI.out _ HE2.out).mono ?_); rintro e w' ⟨rfl, rfl⟩))
   | (go_at_call 36; ((with_reducible refine (HIX.out _).mono ?_); rintro e w' ⟨rfl, rfl⟩))
   | (go_at_call 37; ((with_reducible refine (HFS.out _ HE2.out).mono ?_); rintro e w' ⟨rfl, rfl⟩))
   | (with_reducible refine wpList_ld rfl 37 (.tmp 7) rfl (w.heap.size + 1) 0 rfl zeroC RZ2.out HR11.out ?_)
   | ((with_reducible refine wpList_st rfl 37 (.tmp 4) (.tmp 76) rfl w.heap.size 0 zeroC rfl rfl 37 zeroC HE2.out.z1 zfit HR11.out zeroC_one ?_); intro w9 hB9 ho9; rw [splice_all _ _ rfl] at hB9; have HB9 := Lib.hid hB9; have HF9 := Lib.hid (HE2.out.below.trans (ho9.below (Nat.le_refl _))); clear hB9 ho9))
  exact ret_row3 rfl rfl HB9.out (row11 rfl) rfl (HNO.out _ HF9.out)
end Go.Proofs.YtmkeioeodlidgaaGreatDoor
