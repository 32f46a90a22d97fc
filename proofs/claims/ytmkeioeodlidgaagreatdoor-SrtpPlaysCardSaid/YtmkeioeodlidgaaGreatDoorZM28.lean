/- Several texts in one: plain words and walks. No statement is proved here. -/
import Derived.Test.YtmkeioeodlidgaaGreatDoorZM25
import Derived.Test.YtmkeioeodlidgaaGreatDoorZM27
import Derived.Test.YtmkeioeodlidgaaGreatDoorZM23
import Derived.Test.YtmkeioeodlidgaaGreatDoorZM15
import Derived.Test.YtmkeioeodlidgaaGreatDoorZM20
import Derived.Test.YtmkeioeodlidgaaGreatDoorZM22
namespace Go.Proofs.YtmkeioeodlidgaaGreatDoor
open List renaming getElem_toArray → xgT, getElem_cons_succ → xgS, getElem_cons_zero → xgZ, setIfInBounds_toArray → xsT, set_cons_succ → xsS, set_cons_zero → xsZ
open Go.RowKit
set_option linter.unusedVariables false

theorem tab_cell {w : World} (h : TabH w) : ∃ x, w.cell? ⟨0, 0, none⟩ = some (.int .u32 x) := ⟨_, h 0 _ rfl⟩
theorem tab_way {w : World} {g b : Nat} {y : Wy} (ht : TabH w) (h : PWay w g b y) (hf : y.fit) : g ≠ 0 ∧ b ≠ 0 := by
 obtain ⟨x, hx⟩ := tab_cell ht
 refine ⟨?_, ?_⟩
 · rintro rfl
   have hk := h.cell_ks hf 0 (by omega)
   rw [cells_at (by rw [Wy.ks_len hf]; omega), hx] at hk
   injection hk with hk
   injection hk with hk _
   exact nomatch hk
 · rintro rfl
   obtain ⟨es, clock, hb, _⟩ := h.m
   simp [World.cell?, hb] at hx
theorem tab_only {w w2 : World} {k : Nat} (ht : TabH w) (ho : Only k w w2) (hk : k ≠ 0) : TabH w2 := ht.grown ho.grown (fun e => hk (by injection e with e; exact e.symm))
set_option maxRecDepth 100000 in
set_option maxHeartbeats 2000000 in
theorem seal15_no7 (g b : Nat) (y : Wy) (F : Nat → Prop) (cs : List Value) (pk : Pkt) (i : Int) (w : World) (h : RP w (.pointer (some ⟨g, 0, none⟩)) y F) (hw : PWay w g b y) (hg : y.good) (hl : y.limit ≤ y.used) :
 Calls Tryz.prog 9 #[.pointer (some ⟨g, 0, none⟩), .agg cs.toArray, .int .i64 i] w (SealR RP (.pointer (some ⟨g, 0, none⟩)) y F pk i w) := by
 have HR := Lib.hid (fun w' hb => SealR.no (w' := w') rp_lone h (why7 (pk := pk) (i := i) hl) (by decide) hb)
 have HB : Hid (Below w.heap.size w (w.alloc (.cells cs.toArray 37))) := Lib.hid ((Below.refl _ _).alloc (Nat.le_refl _) _)
 have HS := Lib.hid (spent15_any g b y _ (hw.below HB.out) hg.1 true (decide_eq_true hl).symm)
 clear hw hg h
 go_enter Tryz.func9, Tryz.ntmps9
 go_wp2_with (go_at_call 21; ((with_reducible refine (Hid.out HS).mono ?_); rintro e w1 ⟨rfl, hb1⟩; have HB1 := Lib.hid (HB.out.trans (hb1.mono HB.out.size)); clear hb1))
 go_ret2
 exact HR.out _ HB1.out
structure SP (w : World) (g b : Nat) (y : Wy) (cs : List Value) (pk : Pkt) (wx : World) : Prop where
 way : PWay wx g b y
 box : BlkV wx w.heap.size 37 cs
 rd : PkRd wx cs pk
 below : Below w.heap.size w wx
 lt : w.heap.size < wx.heap.size
theorem SP.on {w wx wy : World} {g b : Nat} {y : Wy} {cs : List Value} {pk : Pkt} (h : SP w g b y cs pk wx) (hb : Below wx.heap.size wx wy) : SP w g b y cs pk wy :=
 ⟨h.way.below hb, h.box.below hb h.box.lt, h.rd.below hb, h.below.trans (hb.mono h.below.size), Nat.lt_of_lt_of_le h.lt hb.size⟩
theorem SP.start {w : World} {g b : Nat} {y : Wy} {cs : List Value} {pk : Pkt} (h : PWay w g b y) (hp : PkRd w cs pk) : SP w g b y cs pk (w.alloc (.cells cs.toArray 37)) := by
 have hb : Below w.heap.size w (w.alloc (.cells cs.toArray 37)) := (Below.refl _ _).alloc (Nat.le_refl _) _
 exact ⟨h.below hb, BlkV.new _ _ _, hp.below hb, hb, by rw [← size_alloc]; omega⟩
set_option maxRecDepth 100000 in
set_option maxHeartbeats 2000000 in
theorem seal15_no1 (g b : Nat) (y : Wy) (F : Nat → Prop) (cs : List Value) (pk : Pkt) (i : Int) (w : World) (h : RP w (.pointer (some ⟨g, 0, none⟩)) y F) (hw : PWay w g b y) (hg : y.good) (hl : ¬ y.limit ≤ y.used) (hp : PkRd w cs pk) (hf : fits pk) (ho : pk.ot.length ≤ 1000000) (hxt : pk.xt.length ≤ 1000000) (hpl : pk.pl.length ≤ 10000) (hm : ¬ mayB pk) :
 Calls Tryz.prog 9 #[.pointer (some ⟨g, 0, none⟩), .agg cs.toArray, .int .i64 i] w (SealR RP (.pointer (some ⟨g, 0, none⟩)) y F pk i w) := by
 have HR := Lib.hid (fun w' hb => SealR.no (w' := w') rp_lone h (why1 (pk := pk) (i := i) hl (fun k => hm k.1)) (by decide) hb)
 have HS0 := Lib.hid (SP.start (cs := cs) hw hp)
 have HSP := Lib.hid (fun W (k : PWay W g b y) => spent15_any g b y W k hg.1 false (decide_eq_false hl).symm)
 have HRT : Hid (RowTy Tryz.prog 37 cs.length) := Lib.hid (row11 hp.len)
 have HWR := Lib.hid (fun W (k : PkRd W cs pk) => write_no cs pk W k hm ho hxt (by omega) hf.2.2.2.2.2)
 clear hw hg h hp hm hf hl ho hxt hpl
 go_enter Tryz.func9, Tryz.ntmps9
 go_wp2_with (first
  | (go_at_call 21; ((with_reducible refine (HSP.out _ HS0.out.way).mono ?_); rintro e w1 ⟨rfl, hb1⟩; have HS1 := Lib.hid (HS0.out.on hb1); have RG1 := Lib.hid (HS1.out.box.range 0 cs (fun i _ => by rw [Nat.zero_add])); clear hb1))
  | (with_reducible refine wpList_ld rfl 37 (.tmp 4) rfl w.heap.size 0 rfl cs RG1.out HRT.out ?_)
  | (go_at_call 22; ((with_reducible refine (HWR.out _ HS1.out.rd).mono ?_); rintro e w3 ⟨rfl, hb3⟩; have HS3 := Lib.hid (HS1.out.on hb3); clear hb3)))
 go_ret2
 exact HR.out _ HS3.out.below
theorem parts2n (w : World) (A1 A2 : Option Addr) (n1 n2 c1 c2 : Nat) (p1 p2 : List UInt8) (h1 : RdS w A1 n1 c1 p1) (h2 : RdS w A2 n2 c2 p2) :
 PartsRd (w.alloc (.cells #[.slice A1 n1 c1, .slice A2 n2 c2] 35)) (some ⟨w.heap.size, 0, none⟩) 2 [p1, p2] := parts2 w A1 A2 n1 n2 c1 c2 p1 p2 _ h1 h2
theorem tag2_any (A1 A2 : Option Addr) (n1 n2 c1 c2 : Nat) (p1 : List UInt8) (g b : Nat) (y : Wy) (i : Nat) (W : World) (ht : TabH W) (h : PWay W g b y) (hf : y.fit) (h1 : RdS W A1 n1 c1 p1) (h2 : RdS W A2 n2 c2 (beb 4 (i / 65536))) (hn : n1 + n2 ≤ 100000) :
 Calls Tryz.prog 25 #[.slice (some ⟨g, 16, none⟩) 20 20, .int .i64 10, .slice (some ⟨W.heap.size, 0, none⟩) 2 2] (W.alloc (.cells #[.slice A1 n1 c1, .slice A2 n2 c2] 35)) fun e w' => ∃ A', e = .returned (.slice A' 10 10) ∧ RdS w' A' 10 10 (tagW y p1 i) ∧ Below W.heap.size W w' := by
 have hb : Below W.heap.size W (W.alloc (.cells #[.slice A1 n1 c1, .slice A2 n2 c2] 35)) := (Below.refl _ _).alloc (Nat.le_refl _) _
 have hfl : [p1, beb 4 (i / 65536)].flatten = p1 ++ beb 4 (i / 65536) := by simp
 refine (tag_any _ 20 20 y.auth 10 _ 2 2 [p1, beb 4 (i / 65536)] _ (tab_below ht hb) (by rw [← size_alloc]; omega) ((h.auth hf).below hb) (by omega) (by omega) (parts2n W A1 A2 n1 n2 c1 c2 p1 _ h1 h2) (by omega) (by rw [hfl, List.length_append, h1.len, h2.len]; exact hn)).mono ?_
 rintro e w' ⟨A', rfl, hr, hb'⟩
 refine ⟨A', rfl, ?_, hb.trans (hb'.mono hb.size)⟩
 rw [hfl] at hr
 exact hr
structure SQ (w0 : World) (g b : Nat) (y : Wy) (A : Option Addr) (n c : Nat) (bs : List UInt8) (wx : World) : Prop where
 way : PWay wx g b y
 tab : TabH wx
 own : wx.ownsRow w0.heap.size 5 1 (.slice A n c) n (cells bs)
 below : Below w0.heap.size w0 wx
theorem SQ.on {w0 wx wy : World} {g b : Nat} {y : Wy} {A : Option Addr} {n c : Nat} {bs : List UInt8} (h : SQ w0 g b y A n c bs wx) (hb : Below wx.heap.size wx wy) : SQ w0 g b y A n c bs wy :=
 ⟨h.way.below hb, tab_below h.tab hb, own_below h.own hb, h.below.trans (hb.mono h.below.size)⟩
set_option maxRecDepth 100000 in
set_option maxHeartbeats 1000000 in
theorem seal15_may (g b : Nat) (y : Wy) (F : Nat → Prop) (cs : List Value) (pk : Pkt) (i : Int) (w : World) (h : RP w (.pointer (some ⟨g, 0, none⟩)) y F) (hw : PWay w g b y) (hFF : F = fun k => k = g ∨ k = b) (ht : TabH w) (hg : y.good) (hl : ¬ y.limit ≤ y.used) (hp : PkRd w cs pk) (hf : fits pk) (hm : mayB pk) (hi : -9223372036854775808 ≤ i ∧ i ≤ 9223372036854775807) :
 Calls Tryz.prog 9 #[.pointer (some ⟨g, 0, none⟩), .agg cs.toArray, .int .i64 i] w (SealR RP (.pointer (some ⟨g, 0, none⟩)) y F pk i w) := by
 have HNO := Lib.hid (fun w' (h1 : ¬ mayW pk i) hb => SealR.no (w' := w') rp_lone h (why1 (pk := pk) (i := i) hl h1) (by decide) hb)
 have HRP := Lib.hid h
 have HFF := Lib.hid hFF
 have HTB := Lib.hid ht
 have HGN := Lib.hid (tab_way ht hw hg.1)
 have HS0 := Lib.hid (SP.start (cs := cs) hw hp)
 have HSP := Lib.hid (fun W (k : PWay W g b y) => spent15_any g b y W k hg.1 false (decide_eq_false hl).symm)
 have HRT : Hid (RowTy Tryz.prog 37 cs.length) := Lib.hid (row11 hp.len)
 have HWR := Lib.hid (fun W (k : PkRd W cs pk) => write_own cs pk W k hm hf)
 have HMB := Lib.hid hm
 have HFT := Lib.hid hf
 have HG := Lib.hid hg
 have HCS := Lib.hid hp.sq_so
 obtain ⟨U, hU⟩ : ∃ U, U = y.used := ⟨_, rfl⟩
 have HWHY : Hid (mayW pk i → whySeal y pk i = 0) := Lib.hid (why0 hl)
 have hU9 : 0 ≤ U ∧ U ≤ 900 := by rw [hU]; exact ⟨hg.1.2.2.2.2.1, hg.2.1⟩
 obtain ⟨B, hB⟩ : ∃ B, B = wrB pk := ⟨_, rfl⟩
 obtain ⟨N, hN⟩ : ∃ N, N = B.length := ⟨_, rfl⟩
 rw [← hB, ← hN] at HWR
 obtain ⟨SQN, hSQ⟩ : ∃ x, x = pk.sq := ⟨_, rfl⟩
 have lSQ : SQN < 65536 := by rw [hSQ]; exact hf.1
 have HN := Lib.hid hN
 have HB := Lib.hid hB
 have HSQ := Lib.hid hSQ
 have HUU := Lib.hid hU
 have hN12 : N ≤ 1200 := by rw [hN, hB, wrB_len]; have := hm.2.2.2.2.2; omega
 have HII := Lib.hid (fun W t ht => isIndex15_any i SQN W lSQ hi t ht)
 clear hw hg hp hm hf hl hU hN hB hSQ hFF h ht
 go_enter Tryz.func9, Tryz.ntmps9
 go_upto_region 4 with (first
  | (go_at_call 21; ((with_reducible refine (HSP.out _ HS0.out.way).mono ?_); rintro e w1 ⟨rfl, hb1⟩; have HS1 := Lib.hid (HS0.out.on hb1); have RG1 := Lib.hid (HS1.out.box.range 0 cs (fun i _ => by rw [Nat.zero_add])); clear hb1))
  | (with_reducible refine wpList_ld rfl 37 (.tmp 4) rfl w.heap.size 0 rfl cs RG1.out HRT.out ?_)
  | (go_at_call 22; ((with_reducible refine (HWR.out _ HS1.out.rd).mono ?_); rintro e w3 ⟨A3, c3, rfl, hr3, hb3⟩; have HS3 := Lib.hid (HS1.out.on hb3); have HO3 := Lib.hid (own_loW hr3 HS1.out.below.size); clear hr3 hb3)))
 clear HS1 RG1 HS0 HSP HWR
 have c2 : w3.cell? ⟨w.heap.size, 2, none⟩ = some (.int .u16 (SQN : Int)) := (HS3.out.box.cell 2).trans (by rw [HSQ.out]; exact HCS.out.1)
 by_cases k3 : 0 ≤ i ∧ i < 281474976710656 ∧ i % 65536 = (SQN : Int)
 case neg =>
  have HI := Lib.hid (HII.out w3 false (decide_eq_false k3).symm)
  go_wp2_with (go_at_call 23; ((with_reducible refine (HI.out).mono ?_); rintro e w' ⟨rfl, rfl⟩))
  go_ret2
  exact HNO.out _ (fun k => k3 ⟨k.2.1, k.2.2.1, by rw [HSQ.out]; exact k.2.2.2.1⟩) HS3.out.below
 have HI := Lib.hid (HII.out w3 true (decide_eq_true k3).symm)
 by_cases k4 : (1200 : Int) < (N : Int) + 10
 · go_wp2_with (go_at_call 23; ((with_reducible refine (HI.out).mono ?_); rintro e w' ⟨rfl, rfl⟩))
   go_ret2
   exact HNO.out _ (fun k => by have := k.2.2.2.2; rw [← HB.out, ← HN.out] at this; omega) HS3.out.below
 have HM : Hid (mayW pk i) := Lib.hid ⟨HMB.out, k3.1, k3.2.1, by rw [k3.2.2, HSQ.out], by rw [← HB.out, ← HN.out]; omega⟩
 have hw0 := HWHY.out HM.out
 have hp12 := why_parts (wrB pk) (read_wr pk HMB.out HFT.out).1
 rw [← HB.out, ← HN.out] at hp12
 obtain ⟨HD, hHD⟩ : ∃ H, H = at1 B := ⟨_, rfl⟩
 rw [← hHD] at hp12
 have hHN : HD ≤ N := hp12.2.2.2.1
 have hN1 : 12 ≤ N := hp12.1
 obtain ⟨SO, hSO⟩ : ∃ x, x = pk.so := ⟨_, rfl⟩
 have lSO : SO < 4294967296 := by rw [hSO]; exact HFT.out.2.2.1
 obtain ⟨I, hI⟩ : ∃ I : Nat, i = (I : Int) := ⟨i.toNat, by omega⟩
 have hI48 : I < 281474976710656 := by omega
 have HOUT : Hid (outSeal y pk i = sealB y B HD SO I) := Lib.hid (by unfold outSeal; rw [if_pos hw0, ← HB.out, ← hHD, ← hSO, hI, Int.toNat_natCast])
 have HYS : Hid (ySeal y pk i = { y with used := U + 1 }) := Lib.hid (by unfold ySeal; rw [if_pos hw0, HUU.out]; rfl)
 have HW0 := Lib.hid hw0
 subst hI
 have c4 : w3.cell? ⟨w.heap.size, 4, none⟩ = some (.int .u32 (SO : Int)) := (HS3.out.box.cell 4).trans (by rw [hSO]; exact HCS.out.2)
 have d51 := (HS3.out.way.cells_ HG.out.1).2.1
 rw [← HUU.out] at d51
 have f51 : w3.frozen? ⟨g, 51, none⟩ = false := HS3.out.way.bk.frozen 51
 have hgw : g < w.heap.size := rp_lone.low _ _ _ _ HRP.out g (by rw [HFF.out]; exact .inl rfl)
 have hgne : w.heap.size ≠ g := by omega
 have HW4 := Lib.hid (HS3.out.way.used HG.out.1 (U + 1))
 have ho4 := Only.set w3 g 51 (.int .i64 (U + 1))
 have HT4 : Hid (TabH (w3.setCell ⟨g, 51, none⟩ (.int .i64 (U + 1)))) := Lib.hid (tab_only (tab_below HTB.out HS3.out.below) ho4 HGN.out.1)
 have e4 : (w3.setCell ⟨g, 51, none⟩ (.int .i64 (U + 1))).cell? ⟨w.heap.size, 4, none⟩ = some (.int .u32 (SO : Int)) := (World.cell?_of_block (ho4.block w.heap.size (by omega))).trans c4
 have HO4 : Hid ((w3.setCell ⟨g, 51, none⟩ (.int .i64 (U + 1))).ownsRow w.heap.size 5 1 (.slice A3 N c3) N (cells B)) := Lib.hid (own_at_same HO3.out fun k hk => ho4.block k (fun e => by have := (HO3.out.lt k hk).1; omega))
 have HFr4 : Hid (Fr F w (w3.setCell ⟨g, 51, none⟩ (.int .i64 (U + 1)))) := Lib.hid ((Fr.of_below HS3.out.below).trans (Fr.of_only (F := F) ho4 (by rw [HFF.out]; exact .inl rfl)) (fun i hi => .inl hi))
 have HSZ4 : Hid (w.heap.size ≤ (w3.setCell ⟨g, 51, none⟩ (.int .i64 (U + 1))).heap.size) := Lib.hid HFr4.out.size
 have HF1 : Hid (Wy.fit { y with used := U + 1 }) := Lib.hid (by
  obtain ⟨h1, h2, h3, h4, h5, h6, h7⟩ := HG.out.1
  exact ⟨h1, h2, h3, h4, by show 0 ≤ U + 1; omega, h6, h7⟩)
 obtain ⟨U1, hU1⟩ : ∃ x, x = U + 1 := ⟨_, rfl⟩
 have eU : IntKind.i64.wrap (U + 1) = U1 := by rw [hU1]; exact IntWalk.i64_in _ (by omega)
 rw [← hU1] at HW4 HT4 e4 HO4 HFr4 HSZ4 HF1 HYS
 have HOUT2 : Hid (turnW y B HD SO I ++ tagW y (turnW y B HD SO I) I = outSeal y pk (I : Int)) := Lib.hid HOUT.out.symm
 have HTW : Hid ((turnW y B HD SO I).length = N) := Lib.hid (turnW_len y B HD SO I N HN.out.symm hHN)
 have HTN : Hid (∀ W, PWay W g b { y with used := U1 } → RdS W A3 N c3 B → Calls Tryz.prog 24 #[.pointer (some ⟨g, 0, none⟩), .slice A3 N c3, .int .u32 (SO : Int), .int .i64 (I : Int)] W fun e w' => ∃ A' c', e = .returned (.slice A' N c') ∧ BO W w' A' N c' (turnW y B HD SO I)) := Lib.hid (fun W k hr => by rw [hHD]; exact turned15_any g b { y with used := U1 } A3 N c3 B SO I W k HF1.out hr (by omega) (by omega) (by omega) lSO hI48)
 have HTG : Hid (∀ W A5 c5 A7 c7, TabH W → PWay W g b { y with used := U1 } → RdS W A5 N c5 (turnW y B HD SO I) → RdS W A7 4 c7 (beb 4 (I / 65536)) → Calls Tryz.prog 25 #[.slice (some ⟨g, 16, none⟩) 20 20, .int .i64 10, .slice (some ⟨W.heap.size, 0, none⟩) 2 2] (W.alloc (.cells #[.slice A5 N c5, .slice A7 4 c7] 35)) fun e w' => ∃ A', e = .returned (.slice A' 10 10) ∧ RdS w' A' 10 10 (tagW y (turnW y B HD SO I) I) ∧ Below W.heap.size W w') := Lib.hid (fun W A5 c5 A7 c7 t k h1 h2 => tag2_any A5 A7 N 4 c5 c7 _ g b { y with used := U1 } I W t k HF1.out h1 h2 (by omega))
 have HRD := Lib.hid (fun W => rounds15_any I W (by omega))
 obtain ⟨TW, hTW⟩ : ∃ x, x = turnW y B HD SO I := ⟨_, rfl⟩
 rw [← hTW] at HTN HTG HOUT2 HTW
 obtain ⟨TG, hTG⟩ : ∃ x, x = tagW y TW I := ⟨_, rfl⟩
 rw [← hTG] at HTG HOUT2
 clear hp12 hHD hSO c4 ho4 hU1 hw0 lSO hTW hTG HOUT HO3 HM HWHY HII HNO HCS
 go_upto_region 7 with (go_at_call 23; ((with_reducible refine (HI.out).mono ?_); rintro e w' ⟨rfl, rfl⟩))
 clear HI
 obtain ⟨w4, hw4⟩ : ∃ x, x = w3.setCell ⟨g, 51, none⟩ (.int .i64 U1) := ⟨_, rfl⟩
 rw [← hw4] at HW4 HT4 e4 HO4 HFr4 HSZ4 ⊢
 clear hw4 d51 f51 c2
 go_upto_region 8 with (go_at_call 24; ((with_reducible refine (HTN.out w4 HW4.out (RdS.of_own HO4.out)).mono ?_); rintro e w5 ⟨A5, c5, rfl, ho5⟩; have HS5 : Hid (SQ w4 g b { y with used := U1 } A5 N c5 TW w5) := Lib.hid ⟨HW4.out.below ho5.2, tab_below HT4.out ho5.2, ho5.1, ho5.2⟩; clear ho5))
 refine wp_region_noPanic ?_
 refine wp_region_held (S := fun wx => SQ w4 g b { y with used := U1 } A5 N c5 TW wx) (by kernel_rfl) ?_
 change wpAnyH _ _ _ _ _ _ _ _ (World.drew _)
 obtain ⟨w6, hw6⟩ : ∃ x, x = w5.drew := ⟨_, rfl⟩
 rw [← hw6]
 have hS : SQ w4 g b { y with used := U1 } A5 N c5 TW w6 := hw6 ▸ HS5.out.on (Below.refl _ _).drew
 clear hw6 HS5
 refine wpAnyH_take (i := 0) (v := ?_) rfl (by kernel_rfl) (by kernel_rfl) (by kernel_rfl) (fun _ _ _ h => h) (Or.inl ⟨by rfl, ?_⟩) hS ?_
 case refine_2 => (intro wz hz; go_simp; with_reducible rfl)
 simp only [Act.put, xgT, xgZ, xsT, xsS, xsZ]
 refine wpAnyH_take (i := 1) (v := ?_) rfl (by kernel_rfl) (by kernel_rfl) (by kernel_rfl) (fun _ _ _ h => h) (Or.inl ⟨by rfl, ?_⟩) hS ?_
 case refine_2 => (intro wz hz; go_simp; with_reducible rfl)
 simp only [Act.put, xgT, xgS, xgZ, xsT, xsS, xsZ]
 refine wpAnyH_take (i := 2) (v := ?_) rfl (by kernel_rfl) (by kernel_rfl) (by kernel_rfl) (fun _ _ _ h => h) (Or.inl ⟨by rfl, ?_⟩) hS ?_
 case refine_2 => (intro wz hz; go_simp; with_reducible rfl)
 simp only [Act.put, xgT, xgS, xgZ, xsT, xsS, xsZ]
 refine wpAnyH_take (i := 3) (v := ?_) rfl (by kernel_rfl) (by kernel_rfl) (by kernel_rfl) (fun _ _ _ h => h) (Or.inl ⟨by rfl, ?_⟩) hS ?_
 case refine_2 => (intro wz hz; go_simp; with_reducible rfl)
 simp only [Act.put, xgT, xgS, xgZ, xsT, xsS, xsZ]
 refine wpAnyH_take (i := 4) (v := ?_) rfl (by kernel_rfl) (by kernel_rfl) (by kernel_rfl) (fun _ _ _ h => h) (Or.inl ⟨by rfl, ?_⟩) hS ?_
 case refine_2 => (intro wz hz; go_simp; with_reducible rfl)
 simp only [Act.put, xgT, xgS, xgZ, xsT, xsS, xsZ]
 refine wpAnyH_take (i := 5) (v := ?_) rfl (by kernel_rfl) (by kernel_rfl) (by kernel_rfl) (fun _ _ _ h => h) (Or.inl ⟨by rfl, ?_⟩) hS ?_
 case refine_2 => (intro wz hz; go_simp; with_reducible rfl)
 simp only [Act.put, xgT, xgS, xgZ, xsT, xsS, xsZ]
 refine wpAnyH_take (i := 6) (v := ?_) rfl (by kernel_rfl) (by kernel_rfl) (by kernel_rfl) (fun _ _ _ h => h) (Or.inl ⟨by rfl, ?_⟩) hS ?_
 case refine_2 => (intro wz hz; go_simp; with_reducible rfl)
 simp only [Act.put, xgT, xgS, xgZ, xsT, xsS, xsZ]
 refine anyH_one (i := 7) (by kernel_rfl) rfl rfl (fun HH hH => ?_)
 simp only [xgT, xgS, xgZ]
 go_simp
 refine (HRD.out w6).mono ?_
 rintro e w7 ⟨A7, c7, rfl, hr7, hb7⟩
 have hS7 : SQ w4 g b { y with used := U1 } A5 N c5 TW w7 := hS.on hb7
 have HR7 := Lib.hid hr7
 refine hH _ _ hS7 ?_
 clear hH hS hb7 hr7
 refine anyH_one (i := 8) (by kernel_rfl) rfl rfl (fun HH hH => ?_)
 simp only [xgT, xgS, xgZ]
 go_simp
 have hS8 : SQ w4 g b { y with used := U1 } A5 N c5 TW (w7.alloc (.cells #[.slice A5 N c5, .slice A7 4 c7] 35)) := hS7.on ((Below.refl _ _).alloc (Nat.le_refl _) _)
 refine hH _ _ hS8 ?_
 clear hH
 refine anyH_one (i := 9) (by kernel_rfl) rfl rfl (fun HH hH => ?_)
 simp only [xgT, xgS, xgZ]
 go_simp
 refine (HTG.out w7 A5 c5 A7 c7 hS7.tab hS7.way (RdS.of_own hS7.own) HR7.out).mono ?_
 rintro e w9 ⟨A9, rfl, hr9, hb9⟩
 have hS9 : SQ w4 g b { y with used := U1 } A5 N c5 TW w9 := hS7.on hb9
 have HR9 := Lib.hid hr9
 refine hH _ _ hS9 ?_
 clear hH hS7 hS8 hb9 hr9
 refine wpAnyH_take (i := 10) (v := ?_) rfl (by kernel_rfl) (by kernel_rfl) (by kernel_rfl) (fun _ _ _ h => h) (Or.inl ⟨by rfl, ?_⟩) hS9 ?_
 case refine_2 => (intro wz hz; go_simp; with_reducible rfl)
 simp only [Act.put, xgT, xgS, xgZ, xsT, xsS, xsZ]
 refine wpAnyH_done (by kernel_rfl) ?_ _
 refine NoPanic.normal ?_
 have HS9 := Lib.hid hS9
 clear hS9
 go_wp2_with (at_builtin; refine wpList_append_rd _ rfl (.tmp 57) (.tmp 58) rfl Tryz.underlying35 u8_info w4.heap.size (.slice A5 N c5) N TW rfl HS9.out.own A9 10 10 TG rfl HR9.out (by omega) HS9.out.below.size ?_; intro v10 w10 hown hg10 _; obtain ⟨A10, c10, hv10⟩ := own_formN hown; subst hv10; rw [HOUT2.out] at hown; have HO10 := Lib.hid hown; have HG10 := Lib.hid hg10; clear hown hg10)
 go_ret2
 have hgb : ∀ k, F k → k < w.heap.size := fun k hk => rp_lone.low _ _ _ _ HRP.out k hk
 have hFg : F g := by rw [HFF.out]; exact .inl rfl
 have hFb : F b := by rw [HFF.out]; exact .inr rfl
 have hb10 : Below w4.heap.size w4 w10 := HS9.out.below.grown HG10.out HS9.out.below.size (fun p hp => (HS9.out.own.lt p hp).1)
 have hs9 := HS9.out.below.size
 have hne : ∀ k, F k → some k ≠ (Value.slice A5 N c5).ownBlock := fun k hk e => by
  have h1 := (HS9.out.own.lt k e.symm).1
  have h2 := hgb k hk
  have h3 := HSZ4.out
  omega
 have hw10 : PWay w10 g b { y with used := U1 } := HS9.out.way.stay (HG10.out.block g HS9.out.way.bk.lt (hne g hFg)) (HG10.out.block b HS9.out.way.m.lt (hne b hFb))
 refine ⟨A10, N + 10, c10, F, by rw [HW0.out]; rfl, own_loW HO10.out HSZ4.out, fun k hk hk2 => ?_, ?_, HFr4.out.then hb10, fun k hk => .inl hk⟩
 · have h1 := (HO10.out.lt k hk).1
   have h2 := hgb k hk2
   have h3 := HSZ4.out
   omega
 · rw [HYS.out]
   exact ⟨g, b, rfl, hw10, HFF.out⟩
theorem seal15_any (p : Value) (y : Wy) (F : Nat → Prop) (cs : List Value) (pk : Pkt) (i : Int) (w : World) (h : RP w p y F) (ht : TabH w) (hg : y.good) (hp : PkRd w cs pk) (hf : fits pk) (ho : pk.ot.length ≤ 1000000) (hxt : pk.xt.length ≤ 1000000) (hpl : pk.pl.length ≤ 10000) (hi : -9223372036854775808 ≤ i ∧ i ≤ 9223372036854775807) :
 Calls Tryz.prog 9 #[p, .agg cs.toArray, .int .i64 i] w (SealR RP p y F pk i w) := by
 have hk := h
 obtain ⟨g, b, rfl, hw, hFF⟩ := h
 by_cases h1 : y.limit ≤ y.used
 · exact seal15_no7 g b y F cs pk i w hk hw hg h1
 by_cases h2 : mayB pk
 · exact seal15_may g b y F cs pk i w hk hw hFF ht hg h1 hp hf h2 hi
 · exact seal15_no1 g b y F cs pk i w hk hw hg h1 hp hf ho hxt hpl h2
def OpenR (R : World → Value → Wy → (Nat → Prop) → Prop) (p : Value) (y : Wy) (F : Nat → Prop) (b : List UInt8) (w : World) (e : Ending) (w' : World) : Prop :=
 ∃ cs F', e = .returned (.tuple #[.agg cs.toArray, .int .i64 (idxO y b), .int .i64 (codeO y b)]) ∧ PkOwn w' w.heap.size cs (pktO y b) ∧ (∀ u ∈ cs, ∀ k, u.ownBlock = some k → ¬ F' k) ∧ R w' p (yO y b) F' ∧ Fr F w w' ∧ ∀ k, F' k → F k ∨ w.heap.size ≤ k
theorem pkZ_own (w : World) (b : Nat) : PkOwn w b zeroC pkZ := ⟨none, 0, none, 0, none, 0, rfl, World.ownsRow_nil _ _ _ _, World.ownsRow_nil _ _ _ _, World.ownsRow_nil _ _ _ _⟩
theorem zeroC_off : ∀ u ∈ zeroC, ∀ k, u.ownBlock = some k → False := by
 intro u hu k hk
 simp only [zeroC, rtpC, List.mem_cons, List.not_mem_nil, or_false] at hu
 rcases hu with rfl | rfl | rfl | rfl | rfl | rfl | rfl | rfl | rfl | rfl | rfl <;> simp [Value.ownBlock] at hk
theorem zeroC_one : ∀ u ∈ zeroC, u.oneCell' = true := by
 intro u hu
 simp only [zeroC, rtpC, List.mem_cons, List.not_mem_nil, or_false] at hu
 rcases hu with rfl | rfl | rfl | rfl | rfl | rfl | rfl | rfl | rfl | rfl | rfl <;> rfl
theorem OpenR.no {R : World → Value → Wy → (Nat → Prop) → Prop} {p : Value} {y : Wy} {F : Nat → Prop} {b : List UInt8} {w w' : World} {q : Int} (hR : Lone R) (h : R w p y F) (hw : whyOpen y b = q) (hq : q ≠ 0) (hb : Below w.heap.size w w') :
 OpenR R p y F b w (.returned (.tuple #[.agg zeroC.toArray, .int .i64 0, .int .i64 q])) w' := by
 have hc : codeO y b = q := by unfold codeO; rw [hw, if_pos hq]
 have hi : idxO y b = 0 := by unfold idxO; rw [hc, if_neg hq]
 have hp : pktO y b = pkZ := by unfold pktO; rw [hc, if_neg hq]
 have hy : yO y b = y := by unfold yO; rw [hw, if_neg hq]
 refine ⟨zeroC, F, by rw [hc, hi], by rw [hp]; exact pkZ_own _ _, fun u hu k hk => (zeroC_off u hu k hk).elim, by rw [hy]; exact hR.below h hb, Fr.of_below hb, fun k hk => .inl hk⟩
structure OE (w : World) (g : Nat) (y : Wy) (nm ww : Value) (r : Nat → Nat) (v : Nat → Value) (A : Option Addr) (n c : Nat) (bs : List UInt8) (wx : World) : Prop where
 way : RWay wx g y nm ww r v
 z1 : BlkV wx w.heap.size 37 zeroC
 z2 : BlkV wx (w.heap.size + 1) 37 zeroC
 rd : RdS wx A n c bs
 below : Below w.heap.size w wx
 lt : w.heap.size + 2 ≤ wx.heap.size
section
variable {w wx wy : World} {g : Nat} {y : Wy} {nm ww : Value} {r : Nat → Nat} {v : Nat → Value} {A : Option Addr} {n c : Nat} {bs : List UInt8}
theorem OE.on (h : OE w g y nm ww r v A n c bs wx) (hb : Below wx.heap.size wx wy) : OE w g y nm ww r v A n c bs wy :=
 ⟨h.way.below hb, h.z1.below hb h.z1.lt, h.z2.below hb h.z2.lt, h.rd.below hb, h.below.trans (hb.mono h.below.size), Nat.le_trans h.lt hb.size⟩
theorem OE.start (h : RWay w g y nm ww r v) (hr : RdS w A n c bs) : OE w g y nm ww r v A n c bs ((w.alloc (.cells zeroC.toArray 37)).alloc (.cells zeroC.toArray 37)) :=
 ⟨h.below (twoBelow w _ _), (BlkV.new w _ zeroC).alloc _, BlkV.new_at _ _ _ _ _ (size_alloc w _).symm rfl, hr.below (twoBelow w _ _), twoBelow w _ _, by
  show _ ≤ ((w.heap.push _).push _).size
  simp⟩
theorem OE.rz (h : OE w g y nm ww r v A n c bs wx) : wx.rangeAt (w.heap.size + 1) 0 zeroC := h.z2.range 0 zeroC (fun i _ => by rw [Nat.zero_add])
end
theorem zfit : 0 + zeroC.length ≤ zeroC.length := by decide
theorem ry_ptr {w : World} {p : Value} {y : Wy} {F : Nat → Prop} (h : RY w p y F) : ∃ g nm ww r v, p = .pointer (some ⟨g, 0, none⟩) ∧ RWay w g y nm ww r v ∧ F = FW g y.ws.length nm ww r v := h
set_option maxRecDepth 100000 in
set_option maxHeartbeats 2000000 in
theorem ropen15_peek (p : Value) (y : Wy) (F : Nat → Prop) (A : Option Addr) (n c : Nat) (bs : List UInt8) (w : World) (h : RY w p y F) (hg : y.good) (hr : RdS w A n c bs) (h1 : whyPeek bs ≠ 0) :
 Calls Tryz.prog 13 #[p, .slice A n c] w (OpenR RY p y F bs w) := by
 have hz := zero28
 have HNO := Lib.hid (fun w' hb => OpenR.no (w' := w') ry_lone h (whyOpen_peek h1) h1 hb)
 obtain ⟨g, nm, ww, r, v, rfl, hw, hFF⟩ := h
 clear hFF
 have HE0 := Lib.hid (OE.start (A := A) (n := n) (c := c) (bs := bs) hw hr)
 have HR11 : Hid (RowTy Tryz.prog 37 zeroC.length) := Lib.hid (row11 rfl)
 have HP := Lib.hid (fun W (hr : RdS W A n c bs) => (rpeek15_any A n c bs W hr).mono (R' := fun e w' => e = .returned (.tuple #[.int .u32 0, .int .u16 0, .int .i64 (whyPeek bs)]) ∧ Below W.heap.size W w') (fun e w' k => ⟨k.2.1 h1, k.2.2⟩))
 obtain ⟨q, hq⟩ : ∃ q, q = whyPeek bs := ⟨_, rfl⟩
 rw [← hq] at HP HNO h1
 clear hw hr hg hq
 go_enter Tryz.func13, Tryz.ntmps13
 go_wp2_with (first
  | (go_at_call 34; ((with_reducible refine (HP.out _ HE0.out.rd).mono ?_); rintro e w1 ⟨rfl, hb1⟩; have HE1 := Lib.hid (HE0.out.on hb1); have RZ1 := Lib.hid (HE0.out.on hb1).rz; clear hb1))
  | (with_reducible refine wpList_ld rfl 37 (.tmp 7) rfl (w.heap.size + 1) 0 rfl zeroC RZ1.out HR11.out ?_)
  | ((with_reducible refine wpList_st rfl 37 (.tmp 4) (.tmp 28) rfl w.heap.size 0 zeroC rfl rfl 37 zeroC HE1.out.z1 zfit HR11.out zeroC_one ?_); intro w9 hB9 ho9; rw [splice_all _ _ rfl] at hB9; have HB9 := Lib.hid hB9; have HF9 := Lib.hid (HE1.out.below.trans (ho9.below (Nat.le_refl _))); clear hB9 ho9))
 exact ret_row3 rfl rfl HB9.out (row11 rfl) rfl (HNO.out _ HF9.out)
set_option maxRecDepth 100000 in
set_option maxHeartbeats 2000000 in
theorem ropen15_7 (p : Value) (y : Wy) (F : Nat → Prop) (A : Option Addr) (n c : Nat) (bs : List UInt8) (w : World) (h : RY w p y F) (hg : y.good) (hr : RdS w A n c bs) (h0 : whyPeek bs = 0) (h1 : y.limit ≤ y.used) :
 Calls Tryz.prog 13 #[p, .slice A n c] w (OpenR RY p y F bs w) := by
 have hz := zero28
 have HNO := Lib.hid (fun w' hb => OpenR.no (w' := w') ry_lone h (whyOpen_7 h0 h1) (by decide) hb)
 obtain ⟨g, nm, ww, r, v, rfl, hw, hFF⟩ := h
 clear hFF
 have HE0 := Lib.hid (OE.start (A := A) (n := n) (c := c) (bs := bs) hw hr)
 have HR11 : Hid (RowTy Tryz.prog 37 zeroC.length) := Lib.hid (row11 rfl)
 have HP := Lib.hid (fun W (hr : RdS W A n c bs) => (rpeek15_any A n c bs W hr).mono (R' := fun e w' => e = .returned (.tuple #[.int .u32 (soN bs : Int), .int .u16 (sqN bs : Int), .int .i64 0]) ∧ Below W.heap.size W w') (fun e w' k => ⟨k.1 h0, k.2.2⟩))
 obtain ⟨SO, hSO⟩ : ∃ x, x = soN bs := ⟨_, rfl⟩
 obtain ⟨SQ, hSQ⟩ : ∃ x, x = sqN bs := ⟨_, rfl⟩
 have lSO : SO < 4294967296 := hSO ▸ soN_lt bs
 have lSQ : SQ < 65536 := hSQ ▸ sqN_lt bs
 rw [← hSO, ← hSQ] at HP
 have HG := Lib.hid hg
 obtain ⟨L, hL⟩ : ∃ L, L = y.limit := ⟨_, rfl⟩
 obtain ⟨U, hU⟩ : ∃ U, U = y.used := ⟨_, rfl⟩
 have HLE := Lib.hid hL
 have HUE := Lib.hid hU
 have hLU : L ≤ U := by rw [hL, hU]; exact h1
 clear hw hr hg hSO hSQ h1 hL hU
 go_enter Tryz.func13, Tryz.ntmps13
 go_upto_region 5 with (go_at_call 34; ((with_reducible refine (HP.out _ HE0.out.rd).mono ?_); rintro e w1 ⟨rfl, hb1⟩; have HE1 := Lib.hid (HE0.out.on hb1); clear hb1))
 have c50 := (HE1.out.way.cells_ HG.out.1).1
 have c51 := (HE1.out.way.cells_ HG.out.1).2.1
 rw [← HLE.out] at c50
 rw [← HUE.out] at c51
 go_region
 obtain ⟨w2, hw2⟩ : ∃ x, x = w1.drew := ⟨_, rfl⟩
 rw [← hw2]
 have HE2 := Lib.hid (show OE w g y _ _ r v A n c bs w2 from hw2 ▸ HE1.out.on (Below.refl _ _).drew)
 have RZ2 := Lib.hid HE2.out.rz
 clear hw2 HE1 c50 c51
 go_wp2_with (first
  | (with_reducible refine wpList_ld rfl 37 (.tmp 7) rfl (w.heap.size + 1) 0 rfl zeroC RZ2.out HR11.out ?_)
  | ((with_reducible refine wpList_st rfl 37 (.tmp 4) (.tmp 39) rfl w.heap.size 0 zeroC rfl rfl 37 zeroC HE2.out.z1 zfit HR11.out zeroC_one ?_); intro w9 hB9 ho9; rw [splice_all _ _ rfl] at hB9; have HB9 := Lib.hid hB9; have HF9 := Lib.hid (HE2.out.below.trans (ho9.below (Nat.le_refl _))); clear hB9 ho9))
 exact ret_row3 rfl rfl HB9.out (row11 rfl) rfl (HNO.out _ HF9.out)
set_option maxRecDepth 100000 in
set_option maxHeartbeats 2000000 in
theorem ropen15_6 (p : Value) (y : Wy) (F : Nat → Prop) (A : Option Addr) (n c : Nat) (bs : List UInt8) (w : World) (h : RY w p y F) (hg : y.good) (hr : RdS w A n c bs) (h0 : whyPeek bs = 0) (h1 : ¬ y.limit ≤ y.used) (h2 : lookW y.ws (soN bs) = none ∧ 8 ≤ y.ws.length) :
 Calls Tryz.prog 13 #[p, .slice A n c] w (OpenR RY p y F bs w) := by
 have hz := zero28
 have HNO := Lib.hid (fun w' hb => OpenR.no (w' := w') ry_lone h (whyOpen_6 h0 h1 h2) (by decide) hb)
 obtain ⟨g, nm, ww, r, v, rfl, hw, hFF⟩ := h
 clear hFF
 have HE0 := Lib.hid (OE.start (A := A) (n := n) (c := c) (bs := bs) hw hr)
 have HR11 : Hid (RowTy Tryz.prog 37 zeroC.length) := Lib.hid (row11 rfl)
 have HP := Lib.hid (fun W (hr : RdS W A n c bs) => (rpeek15_any A n c bs W hr).mono (R' := fun e w' => e = .returned (.tuple #[.int .u32 (soN bs : Int), .int .u16 (sqN bs : Int), .int .i64 0]) ∧ Below W.heap.size W w') (fun e w' k => ⟨k.1 h0, k.2.2⟩))
 obtain ⟨SO, hSO⟩ : ∃ x, x = soN bs := ⟨_, rfl⟩
 obtain ⟨SQ, hSQ⟩ : ∃ x, x = sqN bs := ⟨_, rfl⟩
 have lSO : SO < 4294967296 := hSO ▸ soN_lt bs
 have lSQ : SQ < 65536 := hSQ ▸ sqN_lt bs
 rw [← hSO, ← hSQ] at HP
 have HG := Lib.hid hg
 obtain ⟨L, hL⟩ : ∃ L, L = y.limit := ⟨_, rfl⟩
 obtain ⟨U, hU⟩ : ∃ U, U = y.used := ⟨_, rfl⟩
 have HLE := Lib.hid hL
 have HUE := Lib.hid hU
 obtain ⟨AN, cN, hnm⟩ := own_formN hw.n
 subst hnm
 obtain ⟨m, hm⟩ : ∃ m, m = y.ws.length := ⟨_, rfl⟩
 have hm8 : m ≤ 8 := hm ▸ hg.1.2.2.2.2.2.1
 have HM := Lib.hid hm
 have HAT : Hid (∀ W, OE w g y (.slice AN y.ws.length cN) ww r v A n c bs W → Calls Tryz.prog 35 #[.pointer (some ⟨g, 0, none⟩), .int .u32 (SO : Int)] W fun e w' => e = .returned (.int .i64 (atI y.ws SO)) ∧ W = w') := Lib.hid (fun W k => rat15_any g y _ ww r v SO W k.way hg.1 lSO)
 have HCN : Hid (∀ W, OE w g y (.slice AN y.ws.length cN) ww r v A n c bs W → W.cell? ⟨g, 52, none⟩ = some (.slice AN m cN)) := Lib.hid (fun W k => hm ▸ (k.way.cells_ hg.1).2.2.1)
 have hLU : ¬ L ≤ U := by rw [hL, hU]; exact h1
 have hai : atI y.ws SO = -1 := by
  rw [hSO]
  unfold atI
  match ha : atW y.ws (soN bs) with
  | none => rfl
  | some i => exact absurd ((atW_some ha).2.2.symm.trans h2.1) (by simp)
 rw [hai] at HAT
 have hm9 : m = 8 := by have := h2.2; omega
 subst hm9
 clear hw hr hg hSO hSQ h1 h2 hai hm hL hU
 go_enter Tryz.func13, Tryz.ntmps13
 go_upto_region 5 with (go_at_call 34; ((with_reducible refine (HP.out _ HE0.out.rd).mono ?_); rintro e w1 ⟨rfl, hb1⟩; have HE1 := Lib.hid (HE0.out.on hb1); clear hb1))
 have c50 := (HE1.out.way.cells_ HG.out.1).1
 have c51 := (HE1.out.way.cells_ HG.out.1).2.1
 rw [← HLE.out] at c50
 rw [← HUE.out] at c51
 go_region
 obtain ⟨w2, hw2⟩ : ∃ x, x = w1.drew := ⟨_, rfl⟩
 rw [← hw2]
 have HE2 := Lib.hid (show OE w g y _ _ r v A n c bs w2 from hw2 ▸ HE1.out.on (Below.refl _ _).drew)
 have RZ2 := Lib.hid HE2.out.rz
 clear hw2 HE1 c50 c51
 have c52 := HCN.out _ HE2.out
 go_wp2_with (first
  | (go_at_call 35; ((with_reducible refine (HAT.out _ HE2.out).mono ?_); rintro e w' ⟨rfl, rfl⟩))
  | (with_reducible refine wpList_ld rfl 37 (.tmp 7) rfl (w.heap.size + 1) 0 rfl zeroC RZ2.out HR11.out ?_)
  | ((with_reducible refine wpList_st rfl 37 (.tmp 4) (.tmp 53) rfl w.heap.size 0 zeroC rfl rfl 37 zeroC HE2.out.z1 zfit HR11.out zeroC_one ?_); intro w9 hB9 ho9; rw [splice_all _ _ rfl] at hB9; have HB9 := Lib.hid hB9; have HF9 := Lib.hid (HE2.out.below.trans (ho9.below (Nat.le_refl _))); clear hB9 ho9))
 exact ret_row3 rfl rfl HB9.out (row11 rfl) rfl (HNO.out _ HF9.out)
end Go.Proofs.YtmkeioeodlidgaaGreatDoor
