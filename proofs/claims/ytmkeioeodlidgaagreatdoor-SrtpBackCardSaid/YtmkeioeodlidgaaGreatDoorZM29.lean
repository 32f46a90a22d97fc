/- Several texts in one: The document's way of layer 15 under way in Open: what its blocks may turn, and what stays. Contracts of package srtp: an index taken for one that was there (mark). What the document's way of layer 15 (tenailleref15.Way) tells of ciphered bytes whose index may not be, or isn't fresh (Open). No statement is proved here. -/
import Derived.Test.YtmkeioeodlidgaaGreatDoorZM28
import Derived.Deep.DeepCutAuto
namespace Go.Proofs.YtmkeioeodlidgaaGreatDoor
open Go.RowKit
set_option linter.unusedVariables false

/-- Open under way, behind the tag: the way's blocks may have turned, and there may be new ones. -/
structure OX (w : World) (F : Nat → Prop) (A : Option Addr) (n c : Nat) (bs : List UInt8) (g : Nat) (yy : Wy) (nm ww : Value) (r : Nat → Nat) (v : Nat → Value) (wx : World) : Prop where
  way : RWay wx g yy nm ww r v
  z1 : BlkV wx w.heap.size 37 zeroC
  z2 : BlkV wx (w.heap.size + 1) 37 zeroC
  rd : RdS wx A n c bs
  fr : Fr F w wx
  new : ∀ j, FW g yy.ws.length nm ww r v j → F j ∨ w.heap.size ≤ j
  lt : w.heap.size + 2 ≤ wx.heap.size
  off : 0 < n → ∀ ad, A = some ad → ¬ F ad.block ∧ ad.block < w.heap.size
section
variable {w wx wy : World} {F G : Nat → Prop} {A : Option Addr} {n c : Nat} {bs : List UInt8} {g : Nat} {yy y2 : Wy} {nm ww nm2 ww2 : Value} {r r2 : Nat → Nat} {v v2 : Nat → Value}
theorem rway_notRtp (h : RWay wx g yy nm ww r v) {b : Nat} {cs : List Value} (hb : BlkV wx b 37 cs) : ¬ FW g yy.ws.length nm ww r v b := by
  rintro (e | e | e | ⟨i, hi, e | e⟩)
  · exact blk_ne h.b hb (by decide) e.symm
  · exact own_ne h.n hb (by decide) e
  · exact own_ne h.p hb (by decide) e
  · exact blk_ne (h.wins i hi).b hb (by decide) e.symm
  · exact own_ne (h.wins i hi).o hb (by decide) e
theorem OX.on (h : OX w F A n c bs g yy nm ww r v wx) (hb : Below wx.heap.size wx wy) : OX w F A n c bs g yy nm ww r v wy :=
  ⟨h.way.below hb, h.z1.below hb h.z1.lt, h.z2.below hb h.z2.lt, h.rd.below hb, h.fr.then hb, h.new, Nat.le_trans h.lt hb.size, h.off⟩
/-- Blocks of the way turn. -/
theorem OX.turn (h : OX w F A n c bs g yy nm ww r v wx) (hf : Fr G wx wy) (hG : ∀ j, G j → FW g yy.ws.length nm ww r v j) (hw : RWay wy g y2 nm2 ww2 r2 v2) (hn : ∀ j, FW g y2.ws.length nm2 ww2 r2 v2 j → FW g yy.ws.length nm ww r v j ∨ wx.heap.size ≤ j) : OX w F A n c bs g y2 nm2 ww2 r2 v2 wy where
  way := hw
  z1 := h.z1.fr hf (fun k => rway_notRtp h.way h.z1 (hG _ k))
  z2 := h.z2.fr hf (fun k => rway_notRtp h.way h.z2 (hG _ k))
  rd := h.rd.fr hf (fun h0 ad hA k => by
    have h1 := h.off h0 ad hA
    rcases h.new _ (hG _ k) with h2 | h2
    · exact h1.1 h2
    · omega)
  fr := h.fr.trans hf (fun i hi => h.new i (hG i hi))
  new := fun j hj => by
    rcases hn j hj with h1 | h1
    · exact h.new j h1
    · right
      have := h.fr.size
      omega
  lt := Nat.le_trans h.lt hf.size
  off := h.off
theorem OX.start {y : Wy} (h : OE w g y nm ww r v A n c bs wx) (hF : F = FW g y.ws.length nm ww r v) (hoff : 0 < n → ∀ ad, A = some ad → ¬ F ad.block ∧ ad.block < w.heap.size) : OX w F A n c bs g y nm ww r v wx :=
  ⟨h.way, h.z1, h.z2, h.rd, Fr.of_below h.below, fun j hj => .inl (hF ▸ hj), h.lt, hoff⟩
end
/-- Where a source stands now, and that a mark there is the mark. -/
structure Spot (ws : List (Nat × List Int)) (SO : Nat) (I : Int) (k : Nat) (ws2 : List (Nat × List Int)) : Prop where
  lt : k < ws2.length
  win : (ws2.getD k (0, [])).2 = winW ws SO
  mark : ws2.set k ((ws2.getD k (0, [])).1, mkL (winW ws SO) I) = markW ws SO I
theorem Spot.same {ws : List (Nat × List Int)} {SO k : Nat} (I : Int) (h : atW ws SO = some k) : Spot ws SO I k ws := by
  refine ⟨(atW_some h).1, (winW_some h).symm, ?_⟩
  unfold markW
  rw [putY_some _ h]
theorem Spot.more {ws : List (Nat × List Int)} {SO : Nat} (I : Int) (h : atW ws SO = none) : Spot ws SO I ws.length (ws ++ [(SO, [])]) := by
  have e : (ws ++ [(SO, ([] : List Int))]).getD ws.length (0, []) = (SO, []) := by simp [List.getD]
  refine ⟨by simp, by rw [e, winW_none h], ?_⟩
  unfold markW
  rw [putY_none _ h, e]
  simp
section
variable {w4 w5 w6 w9 : World} {g SO : Nat} {y : Wy} {nm ww nm2 ww2 : Value} {r : Nat → Nat} {v : Nat → Value}
def GW (g : Nat) (nm ww : Value) (k : Nat) : Prop := k = g ∨ nm.ownBlock = some k ∨ ww.ownBlock = some k
end
/-- The way with a source more is what Open goes on with. -/
theorem OX.more {w w4 w10 : World} {F : Nat → Prop} {A : Option Addr} {n c : Nat} {bs : List UInt8} {g SO q : Nat} {y : Wy} {nm ww nm2 ww2 : Value} {r : Nat → Nat} {v : Nat → Value} (h : OX w F A n c bs g y nm ww r v w4)
    (hB : BlkV w10 g 52 (cells y.ks ++ [.int .i64 y.limit, .int .i64 y.used, nm2, ww2])) (hn : w10.ownsRow 0 33 1 nm2 (y.ws.length + 1) (nmC y.ws ++ [.int .u32 (SO : Int)]))
    (hp : w10.ownsRow 0 88 1 ww2 (y.ws.length + 1) (ptC r y.ws.length ++ [.pointer (some ⟨q, 0, none⟩)])) (hW : BlkV w10 q 92 [.slice none 0 0]) (hq : w4.heap.size ≤ q) (hf : Fr (GW g nm ww) w4 w10)
    (hn2 : ∀ k, nm2.ownBlock = some k → nm.ownBlock = some k ∨ w4.heap.size ≤ k) (hp2 : ∀ k, ww2.ownBlock = some k → ww.ownBlock = some k ∨ w4.heap.size ≤ k) :
    OX w F A n c bs g { y with ws := y.ws ++ [(SO, [])] } nm2 ww2 (fun j => if j = y.ws.length then q else r j) (fun j => if j = y.ws.length then .slice none 0 0 else v j) w10 := by
  refine h.turn hf (fun j hj => ?_) (h.way.more hB hn hp hW hq hf) (fun j hj => ?_)
  · rcases hj with e | e | e
    · exact .inl e
    · exact .inr (.inl e)
    · exact .inr (.inr (.inl e))
  · rcases hj with e | e | e | ⟨i, hi, e⟩
    · exact .inl (.inl e)
    · rcases hn2 j e with k | k
      · exact .inl (.inr (.inl k))
      · exact .inr k
    · rcases hp2 j e with k | k
      · exact .inl (.inr (.inr (.inl k)))
      · exact .inr k
    · replace e : j = (if i = y.ws.length then q else r i) ∨ (if i = y.ws.length then Value.slice none 0 0 else v i).ownBlock = some j := e
      by_cases k : i = y.ws.length
      · rw [if_pos k, if_pos k] at e
        rcases e with e | e
        · exact .inr (by omega)
        · exact nomatch e
      · rw [if_neg k, if_neg k] at e
        have hi' : i < y.ws.length + 1 := by simpa using hi
        exact .inl (.inr (.inr (.inr ⟨i, by omega, e⟩)))
end Go.Proofs.YtmkeioeodlidgaaGreatDoor

namespace Go.Proofs.YtmkeioeodlidgaaGreatDoor
open Go.RowKit
set_option linter.unusedVariables false

theorem row2W : RowTy Tryz.prog 98 2 := ⟨_, Tryz.underlying98, rfl, by kernel_rfl⟩
/-- 'm[k] = v' at the operation, in a region. -/
theorem wp_mapW (w : World) {o : Oper} {a : Act} {K : Act → World → Prop} {Q : Exit → Act → World → Prop} (m x v : Operand) (hop : o.op = Op.mapUpdate 63 m x v) (b : Nat) (ws : List (Nat × List Int))
    (hm : a.eval m = .map (some b)) (h : MapW w b ws) (hlt : ∀ y ∈ ws, y.1 < 4294967296) (X : Nat) (hx : a.eval x = .int .u32 (X : Int)) (hX : X < 4294967296) (hh : Int) (p : Nat) (hv : a.eval v = .agg #[.int .i64 hh, .int .u64 (p : Int)]) (L : List Int) (hW : WinS L hh p)
    (hK : ∀ w', MapW w' b (putY ws X L) → Only b w w' → K (a.put o.dst undef) w') : o.wp Tryz.prog a w K Q := by
  obtain ⟨w', hrun, r1, r2⟩ := h.store hlt hX hW
  unfold Oper.wp
  simp [execOp, hop, hm, hx, hv, hrun, Result.andThen]
  exact hK w' r1 r2
def wx52 (wx : World) (g b q : Nat) (h : Int) (p : Nat) : Prop := wx.cell? ⟨g, 52, none⟩ = some (.map (some b)) ∧ BlkV wx q 98 (winC h p)
set_option maxRecDepth 100000 in
set_option maxHeartbeats 1000000 in
theorem mark15_any (g b : Nat) (y : Wy) (SO : Nat) (I : Int) (w : World) (h : PWay w g b y) (hf : y.fit) (hso : SO < 4294967296) (hI : I ≤ 9223372036854775807) (ht : hiL (winW y.ws SO) ≤ 9223372036854775807) :
    Calls Tryz.prog 31 #[.pointer (some ⟨g, 0, none⟩), .int .u32 (SO : Int), .int .i64 I] w fun e w' => e = .returned (.tuple #[]) ∧ PWay w' g b { y with ws := markW y.ws SO I } ∧ Fr (fun k => k = b) w w' := by
  have c52 := (h.cells_ hf).2.2
  obtain ⟨hh, p, hW, hlk⟩ := h.m.look hf.2.2.2.2.2.2 hso
  have hlk0 := hlk false
  simp only [Bool.false_eq_true, if_false] at hlk0
  have HLT := Lib.hid hf.2.2.2.2.2.2
  have HWA : Hid (WinAt (w.alloc (.cells #[.int .i64 hh, .int .u64 (p : Int)] 98)) w.heap.size (winW y.ws SO)) := Lib.hid ⟨hh, p, hW, BlkV.new w _ [.int .i64 hh, .int .u64 (p : Int)]⟩
  have hb1 := (Below.refl w.heap.size w).alloc (Nat.le_refl _) (.cells #[.int .i64 hh, .int .u64 (p : Int)] 98)
  have HW1 := Lib.hid (h.below hb1)
  have HB1 := Lib.hid hb1
  have HF := Lib.hid hf
  have hgl : g < w.heap.size := h.bk.lt
  have hbl : b < w.heap.size := h.m.lt
  have HMK := Lib.hid ((mark_any w.heap.size (winW y.ws SO) I _ HWA.out hI ht).mono (R' := fun e w' => ∃ c, e = .returned (.int .i64 c) ∧ WinAt w' w.heap.size (mkL (winW y.ws SO) I) ∧ Only w.heap.size (w.alloc (.cells #[.int .i64 hh, .int .u64 (p : Int)] 98)) w') (fun e w' k => ⟨_, k⟩))
  clear h hlk hW hf hb1
  go_enter Tryz.func31, Tryz.ntmps31
  go_upto_region 2 with (go_at_call 63; ((with_reducible refine (Hid.out HMK).mono ?_); rintro e w2 ⟨mc, rfl, ⟨h2, p2, hW2, hB2⟩, ho2⟩; have HS2 := Lib.hid hW2; have HB2 := Lib.hid hB2; have HO2 := Lib.hid ho2; clear hW2 hB2 ho2))
  have HW2 : Hid (PWay w2 g b y) := Lib.hid (HW1.out.stay (HO2.out.block g (by omega)) (HO2.out.block b (by omega)))
  have HFr2 : Hid (Fr (fun k => k = b) w w2) := Lib.hid ((Fr.of_below HB1.out).trans (G := fun k => k = w.heap.size) (Fr.of_only HO2.out rfl) (fun i hi => .inr (by omega)))
  clear HW1 HB1 HWA HMK c52 hlk0 HO2
  refine wp_region_noPanic ?_
  refine wp_region_held (S := fun wx => wx52 wx g b w.heap.size h2 p2) (by kernel_rfl) ?_
  change wpAnyH _ _ _ _ _ _ _ _ (World.drew _)
  obtain ⟨w3, hw3⟩ : ∃ x, x = w2.drew := ⟨_, rfl⟩
  rw [← hw3]
  have HB3 : Hid (BlkV w3 w.heap.size 98 (winC h2 p2)) := Lib.hid (hw3 ▸ HB2.out)
  have HW3 : Hid (PWay w3 g b y) := Lib.hid (hw3 ▸ HW2.out.below (Below.refl _ _).drew)
  have HFr3 : Hid (Fr (fun k => k = b) w w3) := Lib.hid (hw3 ▸ HFr2.out.then (Below.refl _ _).drew)
  have k52 := (HW3.out.cells_ HF.out).2.2
  have hS : wx52 w3 g b w.heap.size h2 p2 := ⟨k52, HB3.out⟩
  have K52 := Lib.hid k52
  clear hw3 HB2 HW2 HFr2 k52
  refine wpAnyH_take (i := 0) (v := ?_) rfl (by kernel_rfl) (by kernel_rfl) (by kernel_rfl) (fun _ _ _ h => h) (Or.inl ⟨by rfl, ?_⟩) hS ?_
  case refine_2 => (intro wz hz; go_simp; with_reducible rfl)
  simp only [Act.put, List.getElem_toArray, List.getElem_cons_zero, List.setIfInBounds_toArray, List.set_cons_succ, List.set_cons_zero]
  refine wpAnyH_take (i := 1) (v := ?_) rfl (by kernel_rfl) (by kernel_rfl) (by kernel_rfl) (fun _ _ _ h => h) (Or.inl ⟨by rfl, ?_⟩) hS ?_
  case refine_2 => (intro wz hz; go_simp; with_reducible rfl)
  simp only [Act.put, List.getElem_toArray, List.getElem_cons_succ, List.getElem_cons_zero, List.setIfInBounds_toArray, List.set_cons_succ, List.set_cons_zero]
  refine wpAnyH_take (i := 2) (v := ?_) rfl (by kernel_rfl) (by kernel_rfl) (by kernel_rfl) (fun _ _ _ h => h) (Or.inl ⟨by rfl, ?_⟩) hS ?_
  case refine_2 => (intro wz hz; go_simp; with_reducible rfl)
  simp only [Act.put, List.getElem_toArray, List.getElem_cons_succ, List.getElem_cons_zero, List.setIfInBounds_toArray, List.set_cons_succ, List.set_cons_zero]
  refine wpAnyH_take (i := 3) (v := ?_) rfl (by kernel_rfl) (by kernel_rfl) (by kernel_rfl) (fun _ _ _ h => h) (Or.inl ⟨by rfl, ?_⟩) hS ?_
  case refine_2 => (intro wz hz; have k := hz.1; go_simp; with_reducible rfl)
  simp only [Act.put, List.getElem_toArray, List.getElem_cons_succ, List.getElem_cons_zero, List.setIfInBounds_toArray, List.set_cons_succ, List.set_cons_zero]
  refine wpAnyH_take (i := 4) (v := ?_) rfl (by kernel_rfl) (by kernel_rfl) (by kernel_rfl) (fun _ _ _ h => h) (Or.inl ⟨by rfl, ?_⟩) hS ?_
  case refine_2 => (intro wz hz; go_simp; with_reducible rfl)
  simp only [Act.put, List.getElem_toArray, List.getElem_cons_succ, List.getElem_cons_zero, List.setIfInBounds_toArray, List.set_cons_succ, List.set_cons_zero]
  refine wpAnyH_take (i := 5) (v := .agg (winC h2 p2).toArray) rfl (by kernel_rfl) (by kernel_rfl) (by kernel_rfl) (fun _ _ _ h => h) (Or.inl ⟨by rfl, fun wz hz => ?_⟩) hS ?_
  · (exact run_ld 98 _ rfl w.heap.size 0 (by rfl) (winC h2 p2) (hz.2.range 0 _ (fun i _ => by rw [Nat.zero_add])) row2W)
  simp only [Act.put, List.getElem_toArray, List.getElem_cons_succ, List.getElem_cons_zero, List.setIfInBounds_toArray, List.set_cons_succ, List.set_cons_zero]
  refine anyH_one (i := 6) (by kernel_rfl) rfl rfl (fun HH hH => ?_)
  simp only [List.getElem_toArray, List.getElem_cons_succ, List.getElem_cons_zero]
  refine wp_mapW w3 (.tmp 18) (.tmp 19) (.tmp 20) rfl b y.ws (by rfl) HW3.out.m HLT.out SO (by rfl) hso h2 p2 (by rfl) _ HS2.out ?_
  intro w4 hm4 ho4
  have hW4 := HW3.out.marked hm4 ho4
  have hF4 : Fr (fun k => k = b) w w4 := HFr3.out.trans (Fr.of_only (F := fun k => k = b) ho4 rfl) (fun i hi => .inl hi)
  have hS4 : wx52 w4 g b w.heap.size h2 p2 := ⟨(World.cell?_of_block (ho4.block g HW3.out.ne.symm)).trans K52.out, HB3.out.only ho4 (by omega)⟩
  refine hH _ _ hS4 ?_
  clear hH
  refine wpAnyH_done (by kernel_rfl) ?_ _
  refine NoPanic.normal ?_
  go_wp2
  go_end0
  exact ⟨rfl, hW4, hF4⟩
end Go.Proofs.YtmkeioeodlidgaaGreatDoor

namespace Go.Proofs.YtmkeioeodlidgaaGreatDoor
open Go.RowKit
set_option linter.unusedVariables false

theorem highW_bd {y : Wy} (h : y.good) (x : Nat) : -1 ≤ highW y.ws x ∧ highW y.ws x < 281474976710656 := by
  rw [highW_win]
  refine ⟨hiL_low _, ?_⟩
  have := hiL_top (L := winW y.ws x) (B := 281474976710655) (fun i hi => ⟨((win_facts h x).2 i hi).1, by have := ((win_facts h x).2 i hi).2; omega⟩) (by omega)
  omega
end Go.Proofs.YtmkeioeodlidgaaGreatDoor
