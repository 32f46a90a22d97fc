/- Several texts in one: Contracts of package srtp: an index taken for one that was there (mark). What the document's way of layer 15 (tenailleref15.Way) tells of ciphered bytes whose index may not be, or isn't fresh (Open). Contracts of package srtp: whether ciphered bytes may be opened (judge). No statement is proved here. -/
import Derived.Test.YtmkeioeodlidgaaDoorZM26
import Derived.Deep.DeepCutAuto
namespace Go.Proofs.YtmkeioeodlidgaaDoor
open Go.RowKit
set_option linter.unusedVariables false

theorem row2W : RowTy Tryd.prog 87 2 := ⟨_, Tryd.underlying87, rfl, by kernel_rfl⟩
/-- 'm[k] = v' at the operation, in a region. -/
theorem wp_mapW (w : World) {o : Oper} {a : Act} {K : Act → World → Prop} {Q : Exit → Act → World → Prop} (m x v : Operand) (hop : o.op = Op.mapUpdate 60 m x v) (b : Nat) (ws : List (Nat × List Int))
    (hm : a.eval m = .map (some b)) (h : MapW w b ws) (hlt : ∀ y ∈ ws, y.1 < 4294967296) (X : Nat) (hx : a.eval x = .int .u32 (X : Int)) (hX : X < 4294967296) (hh : Int) (p : Nat) (hv : a.eval v = .agg #[.int .i64 hh, .int .u64 (p : Int)]) (L : List Int) (hW : WinS L hh p)
    (hK : ∀ w', MapW w' b (putY ws X L) → Only b w w' → K (a.put o.dst undef) w') : o.wp Tryd.prog a w K Q := by
  obtain ⟨w', hrun, r1, r2⟩ := h.store hlt hX hW
  unfold Oper.wp
  simp [execOp, hop, hm, hx, hv, hrun, Result.andThen]
  exact hK w' r1 r2
def wx52 (wx : World) (g b q : Nat) (h : Int) (p : Nat) : Prop := wx.cell? ⟨g, 52, none⟩ = some (.map (some b)) ∧ BlkV wx q 87 (winC h p)
set_option maxRecDepth 100000 in
set_option maxHeartbeats 1000000 in
theorem mark15_any (g b : Nat) (y : Wy) (SO : Nat) (I : Int) (w : World) (h : PWay w g b y) (hf : y.fit) (hso : SO < 4294967296) (hI : I ≤ 9223372036854775807) (ht : hiL (winW y.ws SO) ≤ 9223372036854775807) :
    Calls Tryd.prog 24 #[.pointer (some ⟨g, 0, none⟩), .int .u32 (SO : Int), .int .i64 I] w fun e w' => e = .returned (.tuple #[]) ∧ PWay w' g b { y with ws := markW y.ws SO I } ∧ Fr (fun k => k = b) w w' := by
  have c52 := (h.cells_ hf).2.2
  obtain ⟨hh, p, hW, hlk⟩ := h.m.look hf.2.2.2.2.2.2 hso
  have hlk0 := hlk false
  simp only [Bool.false_eq_true, if_false] at hlk0
  have HLT := Lib.hid hf.2.2.2.2.2.2
  have HWA : Hid (WinAt (w.alloc (.cells #[.int .i64 hh, .int .u64 (p : Int)] 87)) w.heap.size (winW y.ws SO)) := Lib.hid ⟨hh, p, hW, BlkV.new w _ [.int .i64 hh, .int .u64 (p : Int)]⟩
  have hb1 := (Below.refl w.heap.size w).alloc (Nat.le_refl _) (.cells #[.int .i64 hh, .int .u64 (p : Int)] 87)
  have HW1 := Lib.hid (h.below hb1)
  have HB1 := Lib.hid hb1
  have HF := Lib.hid hf
  have hgl : g < w.heap.size := h.bk.lt
  have hbl : b < w.heap.size := h.m.lt
  have HMK := Lib.hid ((mark_any w.heap.size (winW y.ws SO) I _ HWA.out hI ht).mono (R' := fun e w' => ∃ c, e = .returned (.int .i64 c) ∧ WinAt w' w.heap.size (mkL (winW y.ws SO) I) ∧ Only w.heap.size (w.alloc (.cells #[.int .i64 hh, .int .u64 (p : Int)] 87)) w') (fun e w' k => ⟨_, k⟩))
  clear h hlk hW hf hb1
  go_enter Tryd.func24, Tryd.ntmps24
  go_upto_region 2 with (go_at_call 41; ((with_reducible refine (Hid.out HMK).mono ?_); rintro e w2 ⟨mc, rfl, ⟨h2, p2, hW2, hB2⟩, ho2⟩; have HS2 := Lib.hid hW2; have HB2 := Lib.hid hB2; have HO2 := Lib.hid ho2; clear hW2 hB2 ho2))
  have HW2 : Hid (PWay w2 g b y) := Lib.hid (HW1.out.stay (HO2.out.block g (by omega)) (HO2.out.block b (by omega)))
  have HFr2 : Hid (Fr (fun k => k = b) w w2) := Lib.hid ((Fr.of_below HB1.out).trans (G := fun k => k = w.heap.size) (Fr.of_only HO2.out rfl) (fun i hi => .inr (by omega)))
  clear HW1 HB1 HWA HMK c52 hlk0 HO2
  refine wp_region_noPanic ?_
  refine wp_region_held (S := fun wx => wx52 wx g b w.heap.size h2 p2) (by kernel_rfl) ?_
  change wpAnyH _ _ _ _ _ _ _ _ (World.drew _)
  obtain ⟨w3, hw3⟩ : ∃ x, x = w2.drew := ⟨_, rfl⟩
  rw [← hw3]
  have HB3 : Hid (BlkV w3 w.heap.size 87 (winC h2 p2)) := Lib.hid (hw3 ▸ HB2.out)
  have HW3 : Hid (PWay w3 g b y) := Lib.hid (hw3 ▸ HW2.out.below (Below.refl _ _).drew)
  have HFr3 : Hid (Fr (fun k => k = b) w w3) := Lib.hid (hw3 ▸ HFr2.out.then (Below.refl _ _).drew)
  have k52 := (HW3.out.cells_ HF.out).2.2
  have hS : wx52 w3 g b w.heap.size h2 p2 := ⟨k52, HB3.out⟩
  have K52 := Lib.hid k52
  clear hw3 HB2 HW2 HFr2 k52
  refine wpAnyH_take (i := 0) (v := ?_) rfl (by kernel_rfl) (by kernel_rfl) (by kernel_rfl) (fun _ _ _ h => h) (Or.inl ⟨by rfl, ?_⟩) hS ?_
  case refine_2 => (intro wz hz; go_simp; with_reducible rfl)
  simp only [Act.put, List.getElem_toArray, List.getElem_cons_zero, List.setIfInBounds_toArray, List.set_cons_succ, List.set_cons_zero]
  refine wpAnyH_take (i := 1) (v := ?_) rfl (by kernel_rfl) (by kernel_rfl) (by kernel_rfl) (fun _ _ _ h => h) (Or.inl ⟨by rfl, ?_⟩) hS ?_
  case refine_2 => (intro wz hz; go_simp; with_reducible rfl)
  simp only [Act.put, List.getElem_toArray, List.getElem_cons_succ, List.getElem_cons_zero, List.setIfInBounds_toArray, List.set_cons_succ, List.set_cons_zero]
  refine wpAnyH_take (i := 2) (v := ?_) rfl (by kernel_rfl) (by kernel_rfl) (by kernel_rfl) (fun _ _ _ h => h) (Or.inl ⟨by rfl, ?_⟩) hS ?_
  case refine_2 => (intro wz hz; go_simp; with_reducible rfl)
  simp only [Act.put, List.getElem_toArray, List.getElem_cons_succ, List.getElem_cons_zero, List.setIfInBounds_toArray, List.set_cons_succ, List.set_cons_zero]
  refine wpAnyH_take (i := 3) (v := ?_) rfl (by kernel_rfl) (by kernel_rfl) (by kernel_rfl) (fun _ _ _ h => h) (Or.inl ⟨by rfl, ?_⟩) hS ?_
  case refine_2 => (intro wz hz; have k := hz.1; go_simp; with_reducible rfl)
  simp only [Act.put, List.getElem_toArray, List.getElem_cons_succ, List.getElem_cons_zero, List.setIfInBounds_toArray, List.set_cons_succ, List.set_cons_zero]
  refine wpAnyH_take (i := 4) (v := ?_) rfl (by kernel_rfl) (by kernel_rfl) (by kernel_rfl) (fun _ _ _ h => h) (Or.inl ⟨by rfl, ?_⟩) hS ?_
  case refine_2 => (intro wz hz; go_simp; with_reducible rfl)
  simp only [Act.put, List.getElem_toArray, List.getElem_cons_succ, List.getElem_cons_zero, List.setIfInBounds_toArray, List.set_cons_succ, List.set_cons_zero]
  refine wpAnyH_take (i := 5) (v := .agg (winC h2 p2).toArray) rfl (by kernel_rfl) (by kernel_rfl) (by kernel_rfl) (fun _ _ _ h => h) (Or.inl ⟨by rfl, fun wz hz => ?_⟩) hS ?_
  · (exact run_ld 87 _ rfl w.heap.size 0 (by rfl) (winC h2 p2) (hz.2.range 0 _ (fun i _ => by rw [Nat.zero_add])) row2W)
  simp only [Act.put, List.getElem_toArray, List.getElem_cons_succ, List.getElem_cons_zero, List.setIfInBounds_toArray, List.set_cons_succ, List.set_cons_zero]
  refine anyH_one (i := 6) (by kernel_rfl) rfl rfl (fun HH hH => ?_)
  simp only [List.getElem_toArray, List.getElem_cons_succ, List.getElem_cons_zero]
  refine wp_mapW w3 (.tmp 18) (.tmp 19) (.tmp 20) rfl b y.ws (by rfl) HW3.out.m HLT.out SO (by rfl) hso h2 p2 (by rfl) _ HS2.out ?_
  intro w4 hm4 ho4
  have hW4 := HW3.out.marked hm4 ho4
  have hF4 : Fr (fun k => k = b) w w4 := HFr3.out.trans (Fr.of_only (F := fun k => k = b) ho4 rfl) (fun i hi => .inl hi)
  have hS4 : wx52 w4 g b w.heap.size h2 p2 := ⟨(World.cell?_of_block (ho4.block g HW3.out.ne.symm)).trans K52.out, HB3.out.only ho4 (by omega)⟩
  refine hH _ _ hS4 ?_
  clear hH
  refine wpAnyH_done (by kernel_rfl) ?_ _
  refine NoPanic.normal ?_
  go_wp2
  go_end0
  exact ⟨rfl, hW4, hF4⟩
end Go.Proofs.YtmkeioeodlidgaaDoor

namespace Go.Proofs.YtmkeioeodlidgaaDoor
open Go.RowKit
set_option linter.unusedVariables false

theorem highW_bd {y : Wy} (h : y.good) (x : Nat) : -1 ≤ highW y.ws x ∧ highW y.ws x < 281474976710656 := by
  rw [highW_win]
  refine ⟨hiL_low _, ?_⟩
  have := hiL_top (L := winW y.ws x) (B := 281474976710655) (fun i hi => ⟨((win_facts h x).2 i hi).1, by have := ((win_facts h x).2 i hi).2; omega⟩) (by omega)
  omega
theorem atI_some {ws : List (Nat × List Int)} {x i : Nat} (h : atW ws x = some i) : atI ws x = (i : Int) := by unfold atI; rw [h]
theorem atI_none {ws : List (Nat × List Int)} {x : Nat} (h : atW ws x = none) : atI ws x = -1 := by unfold atI; rw [h]
theorem look_none {ws : List (Nat × List Int)} {x : Nat} (h : lookW ws x = none) : atW ws x = none := by
  match ha : atW ws x with
  | none => rfl
  | some i => exact absurd ((atW_some ha).2.2.symm.trans h) (by simp)
end Go.Proofs.YtmkeioeodlidgaaDoor

namespace Go.Proofs.YtmkeioeodlidgaaDoor
open Go.RowKit
set_option linter.unusedVariables false

/-- What judge tells. -/
def J15 (y : Wy) (bs : List UInt8) (w : World) (e : Ending) (w' : World) : Prop :=
  ((whyOpen y bs = 0 → e = .returned (.tuple #[.int .u32 (soN bs : Int), .int .i64 (idxW y bs), .int .i64 0])) ∧ (whyOpen y bs ≠ 0 → e = .returned (.tuple #[.int .u32 0, .int .i64 0, .int .i64 (whyOpen y bs)]))) ∧ Below w.heap.size w w'
theorem J15.no {y : Wy} {bs : List UInt8} {w w' : World} {q : Int} (h : whyOpen y bs = q) (hq : q ≠ 0) (hb : Below w.heap.size w w') : J15 y bs w (.returned (.tuple #[.int .u32 0, .int .i64 0, .int .i64 q])) w' :=
  ⟨⟨fun k => absurd (h.symm.trans k) hq, fun _ => by rw [h]⟩, hb⟩
theorem check2_any (A1 A2 B : Option Addr) (n1 n2 nt c1 c2 ct : Nat) (p1 tag : List UInt8) (g b : Nat) (y : Wy) (i : Nat) (W : World) (ht : TabH W) (h : PWay W g b y) (hf : y.fit) (h1 : RdS W A1 n1 c1 p1) (h2 : RdS W A2 n2 c2 (beb 4 (i / 65536))) (hr : RdS W B 10 ct tag) (hn : n1 + n2 ≤ 100000) (t : Bool) (htt : t = decide (tagW y p1 i = tag)) :
    Calls Tryd.prog 40 #[.slice (some ⟨g, 16, none⟩) 20 20, .slice B 10 ct, .slice (some ⟨W.heap.size, 0, none⟩) 2 2] (W.alloc (.cells #[.slice A1 n1 c1, .slice A2 n2 c2] 22)) fun e w' => e = .returned (.bool t) ∧ Below W.heap.size W w' := by
  have hb : Below W.heap.size W (W.alloc (.cells #[.slice A1 n1 c1, .slice A2 n2 c2] 22)) := (Below.refl _ _).alloc (Nat.le_refl _) _
  have hfl : [p1, beb 4 (i / 65536)].flatten = p1 ++ beb 4 (i / 65536) := by simp
  refine (check_any _ 20 20 y.auth B 10 ct tag _ 2 2 [p1, beb 4 (i / 65536)] _ (tab_below ht hb) (by rw [← size_alloc]; omega) ((h.auth hf).below hb) (by omega) (hr.below hb) (parts2n W A1 A2 n1 n2 c1 c2 p1 _ h1 h2) (by omega) (by rw [hfl, List.length_append, h1.len, h2.len]; exact hn) t ?_).mono ?_
  · rw [htt, hfl]
    refine decide_eq_decide.2 ⟨fun k => ⟨by omega, by omega, k.symm⟩, fun k => k.2.2.symm⟩
  · rintro e w' ⟨rfl, hb'⟩
    exact ⟨rfl, hb.trans (hb'.mono hb.size)⟩
/-- A look under way: the way, the row, the source's window in block q. -/
structure JE (w : World) (g b : Nat) (y : Wy) (A : Option Addr) (n c : Nat) (bs : List UInt8) (q : Nat) (L : List Int) (wx : World) : Prop where
  way : PWay wx g b y
  tab : TabH wx
  rd : RdS wx A n c bs
  win : WinAt wx q L
  below : Below w.heap.size w wx
theorem JE.on {w wx wy : World} {g b : Nat} {y : Wy} {A : Option Addr} {n c : Nat} {bs : List UInt8} {q : Nat} {L : List Int} (h : JE w g b y A n c bs q L wx) (hb : Below wx.heap.size wx wy) : JE w g b y A n c bs q L wy :=
  ⟨h.way.below hb, tab_below h.tab hb, h.rd.below hb, h.win.below hb, h.below.trans (hb.mono h.below.size)⟩
set_option maxRecDepth 100000 in
set_option maxHeartbeats 1000000 in
theorem judge15_any (g b : Nat) (y : Wy) (A : Option Addr) (n c : Nat) (bs : List UInt8) (w : World) (h : PWay w g b y) (ht : TabH w) (hg : y.good) (hr : RdS w A n c bs) :
    Calls Tryd.prog 23 #[.pointer (some ⟨g, 0, none⟩), .slice A n c] w (J15 y bs w) := by
  have hpk := peek15_any A n c bs w hr
  by_cases h1 : whyPeek bs = 0
  case neg =>
    have HP := Lib.hid (hpk.mono (R' := fun e w' => e = .returned (.tuple #[.int .u32 0, .int .u16 0, .int .i64 (whyPeek bs)]) ∧ Below w.heap.size w w') (fun e w' k => ⟨k.2.1 h1, k.2.2⟩))
    have HNO := Lib.hid (fun w' hb => J15.no (w' := w') (whyOpen_peek (y := y) h1) h1 (w := w) hb)
    obtain ⟨q, hq⟩ : ∃ q, q = whyPeek bs := ⟨_, rfl⟩
    rw [← hq] at HP HNO h1
    clear h ht hg hr hpk hq
    go_enter Tryd.func23, Tryd.ntmps23
    go_wp2_with (go_at_call 5; ((with_reducible refine (Hid.out HP).mono ?_); rintro e w1 ⟨rfl, hb1⟩; have HB1 := Lib.hid hb1; clear hb1))
    go_ret3
    exact HNO.out _ HB1.out
  have HP := Lib.hid (hpk.mono (R' := fun e w' => e = .returned (.tuple #[.int .u32 (soN bs : Int), .int .u16 (sqN bs : Int), .int .i64 0]) ∧ Below w.heap.size w w') (fun e w' k => ⟨k.1 h1, k.2.2⟩))
  have H7 := Lib.hid (fun w' (k : y.limit ≤ y.used) hb => J15.no (w' := w') (whyOpen_7 (y := y) h1 k) (by decide) (w := w) hb)
  have H6 := Lib.hid (fun w' (k : ¬ y.limit ≤ y.used) k3 hb => J15.no (w' := w') (whyOpen_6 (y := y) h1 k k3) (by decide) (w := w) hb)
  have H3 := Lib.hid (fun w' (k : ¬ y.limit ≤ y.used) k3 k4 hb => J15.no (w' := w') (whyOpen_3 (y := y) h1 k k3 k4) (by decide) (w := w) hb)
  have H5 := Lib.hid (fun w' (k : ¬ y.limit ≤ y.used) k3 k4 k5 hb => J15.no (w' := w') (whyOpen_5 (y := y) h1 k k3 k4 k5) (by decide) (w := w) hb)
  have H4 := Lib.hid (fun w' (k : ¬ y.limit ≤ y.used) k3 k4 k5 k6 hb => J15.no (w' := w') (whyOpen_4 (y := y) h1 k k3 k4 k5 k6) (by decide) (w := w) hb)
  have H0 := Lib.hid (fun (k : ¬ y.limit ≤ y.used) k3 k4 k5 k6 => whyOpen_0 (y := y) h1 k k3 k4 k5 k6)
  obtain ⟨hp1, hp2, hp3⟩ := peek_len h1
  have hln := hr.len
  obtain ⟨N, hN⟩ : ∃ x, x = bs.length - 10 := ⟨_, rfl⟩
  rw [← hN] at H4 H0
  have HCT := Lib.hid (fun W (k : RdS W A n c bs) => cut15_any A n c bs W k N (by omega) (by omega))
  have hN190 : N ≤ 1190 := by omega
  have HNN := Lib.hid (show N ≤ n by omega)
  obtain ⟨SO, hSO⟩ : ∃ x, x = soN bs := ⟨_, rfl⟩
  obtain ⟨SQ, hSQ⟩ : ∃ x, x = sqN bs := ⟨_, rfl⟩
  have lSO : SO < 4294967296 := hSO ▸ soN_lt bs
  have lSQ : SQ < 65536 := hSQ ▸ sqN_lt bs
  have hwf := win_facts hg SO
  have hbd := highW_bd hg SO
  have hidx : likely (hiL (winW y.ws SO)) (SQ : Int) = idxW y bs := by unfold idxW; rw [highW_win, hSO, hSQ]
  have hI0 := idxW_ge y bs
  have HPOST : Hid (∀ w', whyOpen y bs = 0 → Below w.heap.size w w' → J15 y bs w (.returned (.tuple #[.int .u32 (SO : Int), .int .i64 (idxW y bs), .int .i64 0])) w') := Lib.hid (fun w' k hb => ⟨⟨fun _ => by rw [hSO], fun k2 => absurd k k2⟩, hb⟩)
  rw [← hSO] at H6 H3 H5 H4 H0
  rw [← hSO, ← hSQ] at HP
  obtain ⟨I, hI⟩ : ∃ I : Nat, idxW y bs = (I : Int) := ⟨(idxW y bs).toNat, by omega⟩
  rw [hI] at H3 H5 H4 H0 HPOST hidx
  simp only [Int.toNat_natCast] at H4 H0
  rw [highW_win] at hbd
  obtain ⟨L, hL⟩ : ∃ L, L = winW y.ws SO := ⟨_, rfl⟩
  have HLE := Lib.hid hL
  rw [← hL] at hidx hbd hwf
  have hI9 : (I : Int) ≤ hiL L + 98305 := by rw [← hidx]; exact likely_le _ _ (by omega) (by omega)
  have HG := Lib.hid hg
  have HWY := Lib.hid h
  have HTB := Lib.hid ht
  have HRD0 := Lib.hid hr
  have HIX := Lib.hid (fun W => index_any (hiL L) (SQ : Int) W (by omega) (by omega) (by omega) (by omega))
  rw [hidx] at HIX
  clear h ht hg hr hpk h1 hln hN hSO hSQ hwf hidx hI0 hI hL hp1 hp2 hp3
  go_enter Tryd.func23, Tryd.ntmps23
  go_upto_region 4 with (go_at_call 5; ((with_reducible refine (Hid.out HP).mono ?_); rintro e w1 ⟨rfl, hb1⟩; have HB1 := Lib.hid hb1; clear hb1))
  have HW1 := Lib.hid (HWY.out.below HB1.out)
  have c52 := (HW1.out.cells_ HG.out.1).2.2
  obtain ⟨hh, p, hW, hlk⟩ := HW1.out.m.look HG.out.1.2.2.2.2.2.2 lSO
  rw [← HLE.out] at hW
  have HAT : Hid (((atW y.ws SO).isSome = true ∧ ∃ L', lookW y.ws SO = some L' ∧ L' = L) ∨ ((atW y.ws SO).isSome = false ∧ lookW y.ws SO = none ∧ L = [])) := Lib.hid (by
    rw [HLE.out]
    match ha : atW y.ws SO with
    | none => exact .inr ⟨rfl, (atW_none ha).1, winW_none ha⟩
    | some i => exact .inl ⟨rfl, _, (atW_some ha).2.2, (winW_some ha).symm⟩)
  obtain ⟨kn, hkn⟩ : ∃ kn, kn = (atW y.ws SO).isSome := ⟨_, rfl⟩
  have hlk1 := hlk true
  simp only [if_true] at hlk1
  rw [← hkn] at hlk1 HAT
  clear hlk hkn
  have HJ2 : Hid (JE w g b y A n c bs w1.heap.size L (w1.alloc (.cells #[.int .i64 hh, .int .u64 (p : Int)] 87))) := Lib.hid (by
    have hb2 := (Below.refl w1.heap.size w1).alloc (Nat.le_refl _) (.cells #[.int .i64 hh, .int .u64 (p : Int)] 87)
    have hbw := HB1.out.trans (hb2.mono HB1.out.size)
    exact ⟨HWY.out.below hbw, tab_below HTB.out hbw, HRD0.out.below hbw, ⟨hh, p, hW, BlkV.new w1 _ [.int .i64 hh, .int .u64 (p : Int)]⟩, hbw⟩)
  clear HW1 hW HB1
  go_upto_region 5 with (fail)
  obtain ⟨w2, hw2⟩ : ∃ x, x = w1.alloc (.cells #[.int .i64 hh, .int .u64 (p : Int)] 87) := ⟨_, rfl⟩
  rw [← hw2] at HJ2 ⊢
  clear hw2 c52 hlk1
  go_upto_region 7 with (first
    | (go_at_call 38; ((with_reducible refine (high_any w1.heap.size L w2 HJ2.out.win).mono ?_); rintro e w' ⟨rfl, rfl⟩))
    | (go_at_call 37; ((with_reducible refine (HIX.out w2).mono ?_); rintro e w' ⟨rfl, rfl⟩))
    | (go_at_call 11; ((with_reducible refine (HCT.out w2 HJ2.out.rd).mono ?_); rintro e w3 ⟨AT, rfl, hb3, hrt⟩; have HJ3 := Lib.hid (HJ2.out.on hb3); have HRT := Lib.hid hrt; clear hb3 hrt)))
  clear HJ2
  by_cases h2 : y.limit ≤ y.used
  · have HSP := Lib.hid (spent15_any g b y w3 HJ3.out.way HG.out.1 true (decide_eq_true h2).symm)
    go_wp2_with (go_at_call 17; ((with_reducible refine (Hid.out HSP).mono ?_); rintro e w4 ⟨rfl, hb4⟩; have HJ4 := Lib.hid (HJ3.out.on hb4); clear hb4))
    go_ret3
    exact H7.out _ h2 HJ4.out.below
  have HSP := Lib.hid (spent15_any g b y w3 HJ3.out.way HG.out.1 false (decide_eq_false h2).symm)
  go_upto_region 9 with (go_at_call 17; ((with_reducible refine (Hid.out HSP).mono ?_); rintro e w4 ⟨rfl, hb4⟩; have HJ4 := Lib.hid (HJ3.out.on hb4); clear hb4))
  clear HJ3 HSP
  have c52 := (HJ4.out.way.cells_ HG.out.1).2.2
  have hln := fun ty => HJ4.out.way.m.len_ ty
  obtain ⟨m, hm⟩ : ∃ m, m = y.ws.length := ⟨_, rfl⟩
  have hm8 : m ≤ 8 := by rw [hm]; exact HG.out.1.2.2.2.2.2.1
  rw [← hm] at hln
  have H2 := Lib.hid h2
  clear h2
  by_cases h3 : lookW y.ws SO = none ∧ 8 ≤ y.ws.length
  · have ek : kn = false := by
      rcases HAT.out with ⟨_, L', k, _⟩ | ⟨k, _⟩
      · rw [h3.1] at k; exact nomatch k
      · exact k
    have em : m = 8 := by have := h3.2; omega
    subst ek em
    have H3' := Lib.hid h3
    clear h3 hm
    go_wp2
    go_ret3
    exact H6.out _ H2.out H3'.out HJ4.out.below
  have hkm : kn = true ∨ m < 8 := by
    rcases HAT.out with ⟨k, _⟩ | ⟨_, k, _⟩
    · exact .inl k
    · right
      have : ¬ 8 ≤ y.ws.length := fun k2 => h3 ⟨k, k2⟩
      omega
  have HKM := Lib.hid hkm
  have H3' := Lib.hid h3
  clear h3 hm hkm
  go_cut [44] (fun u wx => u = .bool false ∧ wx = w4)
  case first =>
    rcases HKM.out with ek | em
    · subst ek
      go_wp2
      go_meet
      exact ⟨rfl, rfl⟩
    · cases kn
      · have em' : (m : Int) < 8 := by omega
        go_wp2
        go_meet
        exact ⟨congrArg Value.bool (decide_eq_false (by omega)), rfl⟩
      · go_wp2
        go_meet
        exact ⟨rfl, rfl⟩
  case rest =>
    obtain ⟨rfl, hwc⟩ := hcut
    rw [hwc]
    clear hwc c52 hln
    by_cases h4 : (281474976710656 : Int) ≤ (I : Int)
    · go_wp2
      go_ret3
      exact H3.out _ H2.out H3'.out h4 HJ4.out.below
    have hI48 : I < 281474976710656 := by omega
    have H5a := Lib.hid (fun w' k5 hb => H5.out w' H2.out H3'.out (by omega) k5 hb)
    have H4a := Lib.hid (fun w' k5 k6 hb => H4.out w' H2.out H3'.out (by omega) k5 k6 hb)
    have H0a := Lib.hid (fun k5 k6 => H0.out H2.out H3'.out (by omega) k5 k6)
    have HRDS := Lib.hid (fun W => rounds15_any I W (by omega))
    have HFS := Lib.hid (fresh_any w1.heap.size L (I : Int) w4 HJ4.out.win (by omega) (by omega))
    cases hfr : frL L (I : Int) with
    | false =>
      rw [hfr] at HFS
      have h5 : ∃ L', lookW y.ws SO = some L' ∧ frL L' (I : Int) = false := by
        rcases HAT.out with ⟨_, L', k, k2⟩ | ⟨_, _, k⟩
        · exact ⟨L', k, by rw [k2]; exact hfr⟩
        · rw [k, fr_above (by omega) (by rw [hiL_nil]; omega)] at hfr
          exact nomatch hfr
      have H5' := Lib.hid h5
      clear h5 hfr
      go_wp2_with (go_at_call 39; ((with_reducible refine (Hid.out HFS).mono ?_); rintro e w' ⟨rfl, rfl⟩))
      go_ret3
      exact H5a.out _ H5'.out HJ4.out.below
    | true =>
      rw [hfr] at HFS
      have h5 : ¬ ∃ L', lookW y.ws SO = some L' ∧ frL L' (I : Int) = false := by
        rintro ⟨L', k, k3⟩
        rcases HAT.out with ⟨_, L'', k1, k2⟩ | ⟨_, k1, _⟩
        · rw [k1] at k
          injection k with k
          rw [← k, k2, hfr] at k3
          exact nomatch k3
        · rw [k1] at k; exact nomatch k
      have H5' := Lib.hid h5
      obtain ⟨tt, htt⟩ : ∃ t : Bool, t = decide (tagW y (bs.take N) I = bs.drop N) := ⟨_, rfl⟩
      have HCK : Hid (∀ W A7 c7, JE w g b y A n c bs w1.heap.size L W → RdS W A7 4 c7 (beb 4 (I / 65536)) → Calls Tryd.prog 40 #[.slice (some ⟨g, 16, none⟩) 20 20, .slice AT 10 (c - N), .slice (some ⟨W.heap.size, 0, none⟩) 2 2] (W.alloc (.cells #[.slice A N c, .slice A7 4 c7] 22)) fun e w' => e = .returned (.bool tt) ∧ Below W.heap.size W w') := Lib.hid (fun W A7 c7 k hr7 => check2_any A A7 AT N 4 10 c c7 (c - N) _ _ g b y I W k.tab k.way HG.out.1 (k.rd.headR N HNN.out) hr7 (HRT.out W bs k.rd) (by omega) tt htt)
      have HTT := Lib.hid htt
      clear h5 hfr htt
      go_upto_region 15 with (go_at_call 39; ((with_reducible refine (Hid.out HFS).mono ?_); rintro e w' ⟨rfl, rfl⟩))
      clear HFS
      refine wp_region_noPanic ?_
      refine wp_region_held (S := fun wx => JE w g b y A n c bs w1.heap.size L wx) (by kernel_rfl) ?_
      change wpAnyH _ _ _ _ _ _ _ _ (World.drew _)
      obtain ⟨w5, hw5⟩ : ∃ x, x = w4.drew := ⟨_, rfl⟩
      rw [← hw5]
      have hS : JE w g b y A n c bs w1.heap.size L w5 := hw5 ▸ HJ4.out.on (Below.refl _ _).drew
      clear hw5 HJ4
      refine wpAnyH_take (i := 0) (v := ?_) rfl (by kernel_rfl) (by kernel_rfl) (by kernel_rfl) (fun _ _ _ h => h) (Or.inl ⟨by rfl, ?_⟩) hS ?_
      case refine_2 => (intro wz hz; go_simp; with_reducible rfl)
      simp only [Act.put, List.getElem_toArray, List.getElem_cons_zero, List.setIfInBounds_toArray, List.set_cons_succ, List.set_cons_zero]
      refine wpAnyH_take (i := 1) (v := ?_) rfl (by kernel_rfl) (by kernel_rfl) (by kernel_rfl) (fun _ _ _ h => h) (Or.inl ⟨by rfl, ?_⟩) hS ?_
      case refine_2 => (intro wz hz; go_simp; with_reducible rfl)
      simp only [Act.put, List.getElem_toArray, List.getElem_cons_succ, List.getElem_cons_zero, List.setIfInBounds_toArray, List.set_cons_succ, List.set_cons_zero]
      refine wpAnyH_take (i := 2) (v := ?_) rfl (by kernel_rfl) (by kernel_rfl) (by kernel_rfl) (fun _ _ _ h => h) (Or.inl ⟨by rfl, ?_⟩) hS ?_
      case refine_2 => (intro wz hz; go_simp; with_reducible rfl)
      simp only [Act.put, List.getElem_toArray, List.getElem_cons_succ, List.getElem_cons_zero, List.setIfInBounds_toArray, List.set_cons_succ, List.set_cons_zero]
      refine wpAnyH_take (i := 3) (v := ?_) rfl (by kernel_rfl) (by kernel_rfl) (by kernel_rfl) (fun _ _ _ h => h) (Or.inl ⟨by rfl, ?_⟩) hS ?_
      case refine_2 => (intro wz hz; go_simp; with_reducible rfl)
      simp only [Act.put, List.getElem_toArray, List.getElem_cons_succ, List.getElem_cons_zero, List.setIfInBounds_toArray, List.set_cons_succ, List.set_cons_zero]
      refine wpAnyH_take (i := 4) (v := ?_) rfl (by kernel_rfl) (by kernel_rfl) (by kernel_rfl) (fun _ _ _ h => h) (Or.inl ⟨by rfl, ?_⟩) hS ?_
      case refine_2 => (intro wz hz; go_simp; with_reducible rfl)
      simp only [Act.put, List.getElem_toArray, List.getElem_cons_succ, List.getElem_cons_zero, List.setIfInBounds_toArray, List.set_cons_succ, List.set_cons_zero]
      refine wpAnyH_take (i := 5) (v := ?_) rfl (by kernel_rfl) (by kernel_rfl) (by kernel_rfl) (fun _ _ _ h => h) (Or.inl ⟨by rfl, ?_⟩) hS ?_
      case refine_2 => (intro wz hz; go_simp; with_reducible rfl)
      simp only [Act.put, List.getElem_toArray, List.getElem_cons_succ, List.getElem_cons_zero, List.setIfInBounds_toArray, List.set_cons_succ, List.set_cons_zero]
      refine wpAnyH_take (i := 6) (v := ?_) rfl (by kernel_rfl) (by kernel_rfl) (by kernel_rfl) (fun _ _ _ h => h) (Or.inl ⟨by rfl, ?_⟩) hS ?_
      case refine_2 => (intro wz hz; go_simp; with_reducible rfl)
      simp only [Act.put, List.getElem_toArray, List.getElem_cons_succ, List.getElem_cons_zero, List.setIfInBounds_toArray, List.set_cons_succ, List.set_cons_zero]
      refine wpAnyH_take (i := 7) (v := ?_) rfl (by kernel_rfl) (by kernel_rfl) (by kernel_rfl) (fun _ _ _ h => h) (Or.inl ⟨by rfl, ?_⟩) hS ?_
      case refine_2 => (intro wz hz; go_simp; with_reducible rfl)
      simp only [Act.put, List.getElem_toArray, List.getElem_cons_succ, List.getElem_cons_zero, List.setIfInBounds_toArray, List.set_cons_succ, List.set_cons_zero]
      refine anyH_one (i := 8) (by kernel_rfl) rfl rfl (fun HH hH => ?_)
      simp only [List.getElem_toArray, List.getElem_cons_succ, List.getElem_cons_zero]
      go_simp
      refine (HRDS.out w5).mono ?_
      rintro e w7 ⟨A7, c7, rfl, hr7, hb7⟩
      have hS7 : JE w g b y A n c bs w1.heap.size L w7 := hS.on hb7
      have HR7 := Lib.hid hr7
      refine hH _ _ hS7 ?_
      clear hH hS hb7 hr7
      refine anyH_one (i := 9) (by kernel_rfl) rfl rfl (fun HH hH => ?_)
      simp only [List.getElem_toArray, List.getElem_cons_succ, List.getElem_cons_zero]
      go_simp
      have hS8 : JE w g b y A n c bs w1.heap.size L (w7.alloc (.cells #[.slice A N c, .slice A7 4 c7] 22)) := hS7.on ((Below.refl _ _).alloc (Nat.le_refl _) _)
      refine hH _ _ hS8 ?_
      clear hH
      refine anyH_one (i := 10) (by kernel_rfl) rfl rfl (fun HH hH => ?_)
      simp only [List.getElem_toArray, List.getElem_cons_succ, List.getElem_cons_zero]
      go_simp
      refine (HCK.out w7 A7 c7 hS7 HR7.out).mono ?_
      rintro e w9 ⟨rfl, hb9⟩
      have hS9 : JE w g b y A n c bs w1.heap.size L w9 := hS7.on hb9
      refine hH _ _ hS9 ?_
      clear hH hS7 hS8 hb9
      refine wpAnyH_take (i := 11) (v := ?_) rfl (by kernel_rfl) (by kernel_rfl) (by kernel_rfl) (fun _ _ _ h => h) (Or.inl ⟨by rfl, ?_⟩) hS9 ?_
      case refine_2 => (intro wz hz; go_simp; with_reducible rfl)
      simp only [Act.put, List.getElem_toArray, List.getElem_cons_succ, List.getElem_cons_zero, List.setIfInBounds_toArray, List.set_cons_succ, List.set_cons_zero]
      refine wpAnyH_take (i := 12) (v := ?_) rfl (by kernel_rfl) (by kernel_rfl) (by kernel_rfl) (fun _ _ _ h => h) (Or.inl ⟨by rfl, ?_⟩) hS9 ?_
      case refine_2 => (intro wz hz; go_simp; with_reducible rfl)
      simp only [Act.put, List.getElem_toArray, List.getElem_cons_succ, List.getElem_cons_zero, List.setIfInBounds_toArray, List.set_cons_succ, List.set_cons_zero]
      refine wpAnyH_done (by kernel_rfl) ?_ _
      refine NoPanic.normal ?_
      have HB9 := Lib.hid hS9.below
      clear hS9 hbd hI9 hN190 hm8 h4 hI48 H5 H4 H3 H0 H6 H7 H5a
      cases tt with
      | false =>
        have HFIN := Lib.hid (fun w' hb => H4a.out w' H5'.out (fun k => by have := HTT.out.symm; rw [decide_eq_false_iff_not] at this; exact this k) hb)
        clear HTT
        go_wp2
        go_ret3
        exact HFIN.out _ HB9.out
      | true =>
        have HFIN := Lib.hid (fun w' hb => HPOST.out w' (H0a.out H5'.out (of_decide_eq_true HTT.out.symm)) hb)
        clear HTT
        go_wp2
        go_ret3
        exact HFIN.out _ HB9.out
end Go.Proofs.YtmkeioeodlidgaaDoor
