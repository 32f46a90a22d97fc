/- Several texts in one: plain words and walks. No statement is proved here. -/
import Derived.Test.YtmkeioeodlidgaaGreatDoorZM29
import Derived.Deep.DeepCutAuto
import Derived.Test.YtmkeioeodlidgaaGreatDoorZM28
import Derived.Test.YtmkeioeodlidgaaGreatDoorZM20
import Derived.Test.YtmkeioeodlidgaaGreatDoorZM22
namespace Go.Proofs.YtmkeioeodlidgaaGreatDoor
open List renaming getElem_toArray → xgT, getElem_cons_succ → xgS, getElem_cons_zero → xgZ, setIfInBounds_toArray → xsT, set_cons_succ → xsS, set_cons_zero → xsZ
open Go.RowKit
set_option linter.unusedVariables false

def J15 (y : Wy) (bs : List UInt8) (w : World) (e : Ending) (w' : World) : Prop :=
 ((whyOpen y bs = 0 → e = .returned (.tuple #[.int .u32 (soN bs : Int), .int .i64 (idxW y bs), .int .i64 0])) ∧ (whyOpen y bs ≠ 0 → e = .returned (.tuple #[.int .u32 0, .int .i64 0, .int .i64 (whyOpen y bs)]))) ∧ Below w.heap.size w w'
theorem J15.no {y : Wy} {bs : List UInt8} {w w' : World} {q : Int} (h : whyOpen y bs = q) (hq : q ≠ 0) (hb : Below w.heap.size w w') : J15 y bs w (.returned (.tuple #[.int .u32 0, .int .i64 0, .int .i64 q])) w' :=
 ⟨⟨fun k => absurd (h.symm.trans k) hq, fun _ => by rw [h]⟩, hb⟩
theorem check2_any (A1 A2 B : Option Addr) (n1 n2 nt c1 c2 ct : Nat) (p1 tag : List UInt8) (g b : Nat) (y : Wy) (i : Nat) (W : World) (ht : TabH W) (h : PWay W g b y) (hf : y.fit) (h1 : RdS W A1 n1 c1 p1) (h2 : RdS W A2 n2 c2 (beb 4 (i / 65536))) (hr : RdS W B 10 ct tag) (hn : n1 + n2 ≤ 100000) (t : Bool) (htt : t = decide (tagW y p1 i = tag)) :
 Calls Tryz.prog 62 #[.slice (some ⟨g, 16, none⟩) 20 20, .slice B 10 ct, .slice (some ⟨W.heap.size, 0, none⟩) 2 2] (W.alloc (.cells #[.slice A1 n1 c1, .slice A2 n2 c2] 35)) fun e w' => e = .returned (.bool t) ∧ Below W.heap.size W w' := by
 have hb : Below W.heap.size W (W.alloc (.cells #[.slice A1 n1 c1, .slice A2 n2 c2] 35)) := (Below.refl _ _).alloc (Nat.le_refl _) _
 have hfl : [p1, beb 4 (i / 65536)].flatten = p1 ++ beb 4 (i / 65536) := by simp
 refine (check_any _ 20 20 y.auth B 10 ct tag _ 2 2 [p1, beb 4 (i / 65536)] _ (tab_below ht hb) (by rw [← size_alloc]; omega) ((h.auth hf).below hb) (by omega) (hr.below hb) (parts2n W A1 A2 n1 n2 c1 c2 p1 _ h1 h2) (by omega) (by rw [hfl, List.length_append, h1.len, h2.len]; exact hn) t ?_).mono ?_
 · rw [htt, hfl]
   refine decide_eq_decide.2 ⟨fun k => ⟨by omega, by omega, k.symm⟩, fun k => k.2.2.symm⟩
 · rintro e w' ⟨rfl, hb'⟩
   exact ⟨rfl, hb.trans (hb'.mono hb.size)⟩
structure JE (w : World) (g b : Nat) (y : Wy) (A : Option Addr) (n c : Nat) (bs : List UInt8) (q : Nat) (L : List Int) (wx : World) : Prop where
 way : PWay wx g b y
 tab : TabH wx
 rd : RdS wx A n c bs
 win : WinAt wx q L
 below : Below w.heap.size w wx
theorem JE.on {w wx wy : World} {g b : Nat} {y : Wy} {A : Option Addr} {n c : Nat} {bs : List UInt8} {q : Nat} {L : List Int} (h : JE w g b y A n c bs q L wx) (hb : Below wx.heap.size wx wy) : JE w g b y A n c bs q L wy :=
 ⟨h.way.below hb, tab_below h.tab hb, h.rd.below hb, h.win.below hb, h.below.trans (hb.mono h.below.size)⟩
set_option maxRecDepth 100000 in
set_option maxHeartbeats 1000000 in
theorem judge15_any (g b : Nat) (y : Wy) (A : Option Addr) (n c : Nat) (bs : List UInt8) (w : World) (h : PWay w g b y) (ht : TabH w) (hg : y.good) (hr : RdS w A n c bs) :
 Calls Tryz.prog 30 #[.pointer (some ⟨g, 0, none⟩), .slice A n c] w (J15 y bs w) := by
 have hpk := peek15_any A n c bs w hr
 by_cases h1 : whyPeek bs = 0
 case neg =>
  have HP := Lib.hid (hpk.mono (R' := fun e w' => e = .returned (.tuple #[.int .u32 0, .int .u16 0, .int .i64 (whyPeek bs)]) ∧ Below w.heap.size w w') (fun e w' k => ⟨k.2.1 h1, k.2.2⟩))
  have HNO := Lib.hid (fun w' hb => J15.no (w' := w') (whyOpen_peek (y := y) h1) h1 (w := w) hb)
  obtain ⟨q, hq⟩ : ∃ q, q = whyPeek bs := ⟨_, rfl⟩
  rw [← hq] at HP HNO h1
  clear h ht hg hr hpk hq
  go_enter Tryz.func30, Tryz.ntmps30
  go_wp2_with (go_at_call 59; ((with_reducible refine (Hid.out HP).mono ?_); rintro e w1 ⟨rfl, hb1⟩; have HB1 := Lib.hid hb1; clear hb1))
  go_ret3
  exact HNO.out _ HB1.out
 have HP := Lib.hid (hpk.mono (R' := fun e w' => e = .returned (.tuple #[.int .u32 (soN bs : Int), .int .u16 (sqN bs : Int), .int .i64 0]) ∧ Below w.heap.size w w') (fun e w' k => ⟨k.1 h1, k.2.2⟩))
 have H7 := Lib.hid (fun w' (k : y.limit ≤ y.used) hb => J15.no (w' := w') (whyOpen_7 (y := y) h1 k) (by decide) (w := w) hb)
 have H6 := Lib.hid (fun w' (k : ¬ y.limit ≤ y.used) k3 hb => J15.no (w' := w') (whyOpen_6 (y := y) h1 k k3) (by decide) (w := w) hb)
 have H3 := Lib.hid (fun w' (k : ¬ y.limit ≤ y.used) k3 k4 hb => J15.no (w' := w') (whyOpen_3 (y := y) h1 k k3 k4) (by decide) (w := w) hb)
 have H5 := Lib.hid (fun w' (k : ¬ y.limit ≤ y.used) k3 k4 k5 hb => J15.no (w' := w') (whyOpen_5 (y := y) h1 k k3 k4 k5) (by decide) (w := w) hb)
 have H4 := Lib.hid (fun w' (k : ¬ y.limit ≤ y.used) k3 k4 k5 k6 hb => J15.no (w' := w') (whyOpen_4 (y := y) h1 k k3 k4 k5 k6) (by decide) (w := w) hb)
 have H0 := Lib.hid (fun (k : ¬ y.limit ≤ y.used) k3 k4 k5 k6 => whyOpen_0 (y := y) h1 k k3 k4 k5 k6)
 obtain ⟨hp1, hp2, hp3⟩ := peek_len h1
 have hln := hr.len
 obtain ⟨N, hN⟩ : ∃ x, x = bs.length - 10 := ⟨_, rfl⟩
 rw [← hN] at H4 H0
 have HCT := Lib.hid (fun W (k : RdS W A n c bs) => cut15_any A n c bs W k N (by omega) (by omega))
 have hN190 : N ≤ 1190 := by omega
 have HNN := Lib.hid (show N ≤ n by omega)
 obtain ⟨SO, hSO⟩ : ∃ x, x = soN bs := ⟨_, rfl⟩
 obtain ⟨SQ, hSQ⟩ : ∃ x, x = sqN bs := ⟨_, rfl⟩
 have lSO : SO < 4294967296 := hSO ▸ soN_lt bs
 have lSQ : SQ < 65536 := hSQ ▸ sqN_lt bs
 have hwf := win_facts hg SO
 have hbd := highW_bd hg SO
 have hidx : likely (hiL (winW y.ws SO)) (SQ : Int) = idxW y bs := by unfold idxW; rw [highW_win, hSO, hSQ]
 have hI0 := idxW_ge y bs
 have HPOST : Hid (∀ w', whyOpen y bs = 0 → Below w.heap.size w w' → J15 y bs w (.returned (.tuple #[.int .u32 (SO : Int), .int .i64 (idxW y bs), .int .i64 0])) w') := Lib.hid (fun w' k hb => ⟨⟨fun _ => by rw [hSO], fun k2 => absurd k k2⟩, hb⟩)
 rw [← hSO] at H6 H3 H5 H4 H0
 rw [← hSO, ← hSQ] at HP
 obtain ⟨I, hI⟩ : ∃ I : Nat, idxW y bs = (I : Int) := ⟨(idxW y bs).toNat, by omega⟩
 rw [hI] at H3 H5 H4 H0 HPOST hidx
 simp only [Int.toNat_natCast] at H4 H0
 rw [highW_win] at hbd
 obtain ⟨L, hL⟩ : ∃ L, L = winW y.ws SO := ⟨_, rfl⟩
 have HLE := Lib.hid hL
 rw [← hL] at hidx hbd hwf
 have hI9 : (I : Int) ≤ hiL L + 98305 := by rw [← hidx]; exact likely_le _ _ (by omega) (by omega)
 have HG := Lib.hid hg
 have HWY := Lib.hid h
 have HTB := Lib.hid ht
 have HRD0 := Lib.hid hr
 have HIX := Lib.hid (fun W => index_any (hiL L) (SQ : Int) W (by omega) (by omega) (by omega) (by omega))
 rw [hidx] at HIX
 clear h ht hg hr hpk h1 hln hN hSO hSQ hwf hidx hI0 hI hL hp1 hp2 hp3
 go_enter Tryz.func30, Tryz.ntmps30
 go_upto_region 4 with (go_at_call 59; ((with_reducible refine (Hid.out HP).mono ?_); rintro e w1 ⟨rfl, hb1⟩; have HB1 := Lib.hid hb1; clear hb1))
 have HW1 := Lib.hid (HWY.out.below HB1.out)
 have c52 := (HW1.out.cells_ HG.out.1).2.2
 obtain ⟨hh, p, hW, hlk⟩ := HW1.out.m.look HG.out.1.2.2.2.2.2.2 lSO
 rw [← HLE.out] at hW
 have HAT : Hid (((atW y.ws SO).isSome = true ∧ ∃ L', lookW y.ws SO = some L' ∧ L' = L) ∨ ((atW y.ws SO).isSome = false ∧ lookW y.ws SO = none ∧ L = [])) := Lib.hid (by
  rw [HLE.out]
  match ha : atW y.ws SO with
  | none => exact .inr ⟨rfl, (atW_none ha).1, winW_none ha⟩
  | some i => exact .inl ⟨rfl, _, (atW_some ha).2.2, (winW_some ha).symm⟩)
 obtain ⟨kn, hkn⟩ : ∃ kn, kn = (atW y.ws SO).isSome := ⟨_, rfl⟩
 have hlk1 := hlk true
 simp only [if_true] at hlk1
 rw [← hkn] at hlk1 HAT
 clear hlk hkn
 have HJ2 : Hid (JE w g b y A n c bs w1.heap.size L (w1.alloc (.cells #[.int .i64 hh, .int .u64 (p : Int)] 98))) := Lib.hid (by
  have hb2 := (Below.refl w1.heap.size w1).alloc (Nat.le_refl _) (.cells #[.int .i64 hh, .int .u64 (p : Int)] 98)
  have hbw := HB1.out.trans (hb2.mono HB1.out.size)
  exact ⟨HWY.out.below hbw, tab_below HTB.out hbw, HRD0.out.below hbw, ⟨hh, p, hW, BlkV.new w1 _ [.int .i64 hh, .int .u64 (p : Int)]⟩, hbw⟩)
 clear HW1 hW HB1
 go_upto_region 5 with (fail)
 obtain ⟨w2, hw2⟩ : ∃ x, x = w1.alloc (.cells #[.int .i64 hh, .int .u64 (p : Int)] 98) := ⟨_, rfl⟩
 rw [← hw2] at HJ2 ⊢
 clear hw2 c52 hlk1
 go_upto_region 7 with (first
  | (go_at_call 40; ((with_reducible refine (high_any w1.heap.size L w2 HJ2.out.win).mono ?_); rintro e w' ⟨rfl, rfl⟩))
  | (go_at_call 60; ((with_reducible refine (HIX.out w2).mono ?_); rintro e w' ⟨rfl, rfl⟩))
  | (go_at_call 32; ((with_reducible refine (HCT.out w2 HJ2.out.rd).mono ?_); rintro e w3 ⟨AT, rfl, hb3, hrt⟩; have HJ3 := Lib.hid (HJ2.out.on hb3); have HRT := Lib.hid hrt; clear hb3 hrt)))
 clear HJ2
 by_cases h2 : y.limit ≤ y.used
 · have HSP := Lib.hid (spent15_any g b y w3 HJ3.out.way HG.out.1 true (decide_eq_true h2).symm)
   go_wp2_with (go_at_call 21; ((with_reducible refine (Hid.out HSP).mono ?_); rintro e w4 ⟨rfl, hb4⟩; have HJ4 := Lib.hid (HJ3.out.on hb4); clear hb4))
   go_ret3
   exact H7.out _ h2 HJ4.out.below
 have HSP := Lib.hid (spent15_any g b y w3 HJ3.out.way HG.out.1 false (decide_eq_false h2).symm)
 go_upto_region 9 with (go_at_call 21; ((with_reducible refine (Hid.out HSP).mono ?_); rintro e w4 ⟨rfl, hb4⟩; have HJ4 := Lib.hid (HJ3.out.on hb4); clear hb4))
 clear HJ3 HSP
 have c52 := (HJ4.out.way.cells_ HG.out.1).2.2
 have hln := fun ty => HJ4.out.way.m.len_ ty
 obtain ⟨m, hm⟩ : ∃ m, m = y.ws.length := ⟨_, rfl⟩
 have hm8 : m ≤ 8 := by rw [hm]; exact HG.out.1.2.2.2.2.2.1
 rw [← hm] at hln
 have H2 := Lib.hid h2
 clear h2
 by_cases h3 : lookW y.ws SO = none ∧ 8 ≤ y.ws.length
 · have ek : kn = false := by
    rcases HAT.out with ⟨_, L', k, _⟩ | ⟨k, _⟩
    · rw [h3.1] at k; exact nomatch k
    · exact k
   have em : m = 8 := by have := h3.2; omega
   subst ek em
   have H3' := Lib.hid h3
   clear h3 hm
   go_wp2
   go_ret3
   exact H6.out _ H2.out H3'.out HJ4.out.below
 have hkm : kn = true ∨ m < 8 := by
  rcases HAT.out with ⟨k, _⟩ | ⟨_, k, _⟩
  · exact .inl k
  · right
    have : ¬ 8 ≤ y.ws.length := fun k2 => h3 ⟨k, k2⟩
    omega
 have HKM := Lib.hid hkm
 have H3' := Lib.hid h3
 clear h3 hm hkm
 go_cut [44] (fun u wx => u = .bool false ∧ wx = w4)
 case first =>
  rcases HKM.out with ek | em
  · subst ek
    go_wp2
    go_meet
    exact ⟨rfl, rfl⟩
  · cases kn
    · have em' : (m : Int) < 8 := by omega
      go_wp2
      go_meet
      exact ⟨congrArg Value.bool (decide_eq_false (by omega)), rfl⟩
    · go_wp2
      go_meet
      exact ⟨rfl, rfl⟩
 case rest =>
  obtain ⟨rfl, hwc⟩ := hcut
  rw [hwc]
  clear hwc c52 hln
  by_cases h4 : (281474976710656 : Int) ≤ (I : Int)
  · go_wp2
    go_ret3
    exact H3.out _ H2.out H3'.out h4 HJ4.out.below
  have hI48 : I < 281474976710656 := by omega
  have H5a := Lib.hid (fun w' k5 hb => H5.out w' H2.out H3'.out (by omega) k5 hb)
  have H4a := Lib.hid (fun w' k5 k6 hb => H4.out w' H2.out H3'.out (by omega) k5 k6 hb)
  have H0a := Lib.hid (fun k5 k6 => H0.out H2.out H3'.out (by omega) k5 k6)
  have HRDS := Lib.hid (fun W => rounds15_any I W (by omega))
  have HFS := Lib.hid (fresh_any w1.heap.size L (I : Int) w4 HJ4.out.win (by omega) (by omega))
  cases hfr : frL L (I : Int) with
  | false =>
    rw [hfr] at HFS
    have h5 : ∃ L', lookW y.ws SO = some L' ∧ frL L' (I : Int) = false := by
     rcases HAT.out with ⟨_, L', k, k2⟩ | ⟨_, _, k⟩
     · exact ⟨L', k, by rw [k2]; exact hfr⟩
     · rw [k, fr_above (by omega) (by rw [hiL_nil]; omega)] at hfr
       exact nomatch hfr
    have H5' := Lib.hid h5
    clear h5 hfr
    go_wp2_with (go_at_call 61; ((with_reducible refine (Hid.out HFS).mono ?_); rintro e w' ⟨rfl, rfl⟩))
    go_ret3
    exact H5a.out _ H5'.out HJ4.out.below
  | true =>
    rw [hfr] at HFS
    have h5 : ¬ ∃ L', lookW y.ws SO = some L' ∧ frL L' (I : Int) = false := by
     rintro ⟨L', k, k3⟩
     rcases HAT.out with ⟨_, L'', k1, k2⟩ | ⟨_, k1, _⟩
     · rw [k1] at k
       injection k with k
       rw [← k, k2, hfr] at k3
       exact nomatch k3
     · rw [k1] at k; exact nomatch k
    have H5' := Lib.hid h5
    obtain ⟨tt, htt⟩ : ∃ t : Bool, t = decide (tagW y (bs.take N) I = bs.drop N) := ⟨_, rfl⟩
    have HCK : Hid (∀ W A7 c7, JE w g b y A n c bs w1.heap.size L W → RdS W A7 4 c7 (beb 4 (I / 65536)) → Calls Tryz.prog 62 #[.slice (some ⟨g, 16, none⟩) 20 20, .slice AT 10 (c - N), .slice (some ⟨W.heap.size, 0, none⟩) 2 2] (W.alloc (.cells #[.slice A N c, .slice A7 4 c7] 35)) fun e w' => e = .returned (.bool tt) ∧ Below W.heap.size W w') := Lib.hid (fun W A7 c7 k hr7 => check2_any A A7 AT N 4 10 c c7 (c - N) _ _ g b y I W k.tab k.way HG.out.1 (k.rd.headR N HNN.out) hr7 (HRT.out W bs k.rd) (by omega) tt htt)
    have HTT := Lib.hid htt
    clear h5 hfr htt
    go_upto_region 15 with (go_at_call 61; ((with_reducible refine (Hid.out HFS).mono ?_); rintro e w' ⟨rfl, rfl⟩))
    clear HFS
    refine wp_region_noPanic ?_
    refine wp_region_held (S := fun wx => JE w g b y A n c bs w1.heap.size L wx) (by kernel_rfl) ?_
    change wpAnyH _ _ _ _ _ _ _ _ (World.drew _)
    obtain ⟨w5, hw5⟩ : ∃ x, x = w4.drew := ⟨_, rfl⟩
    rw [← hw5]
    have hS : JE w g b y A n c bs w1.heap.size L w5 := hw5 ▸ HJ4.out.on (Below.refl _ _).drew
    clear hw5 HJ4
    refine wpAnyH_take (i := 0) (v := ?_) rfl (by kernel_rfl) (by kernel_rfl) (by kernel_rfl) (fun _ _ _ h => h) (Or.inl ⟨by rfl, ?_⟩) hS ?_
    case refine_2 => (intro wz hz; go_simp; with_reducible rfl)
    simp only [Act.put, xgT, xgZ, xsT, xsS, xsZ]
    refine wpAnyH_take (i := 1) (v := ?_) rfl (by kernel_rfl) (by kernel_rfl) (by kernel_rfl) (fun _ _ _ h => h) (Or.inl ⟨by rfl, ?_⟩) hS ?_
    case refine_2 => (intro wz hz; go_simp; with_reducible rfl)
    simp only [Act.put, xgT, xgS, xgZ, xsT, xsS, xsZ]
    refine wpAnyH_take (i := 2) (v := ?_) rfl (by kernel_rfl) (by kernel_rfl) (by kernel_rfl) (fun _ _ _ h => h) (Or.inl ⟨by rfl, ?_⟩) hS ?_
    case refine_2 => (intro wz hz; go_simp; with_reducible rfl)
    simp only [Act.put, xgT, xgS, xgZ, xsT, xsS, xsZ]
    refine wpAnyH_take (i := 3) (v := ?_) rfl (by kernel_rfl) (by kernel_rfl) (by kernel_rfl) (fun _ _ _ h => h) (Or.inl ⟨by rfl, ?_⟩) hS ?_
    case refine_2 => (intro wz hz; go_simp; with_reducible rfl)
    simp only [Act.put, xgT, xgS, xgZ, xsT, xsS, xsZ]
    refine wpAnyH_take (i := 4) (v := ?_) rfl (by kernel_rfl) (by kernel_rfl) (by kernel_rfl) (fun _ _ _ h => h) (Or.inl ⟨by rfl, ?_⟩) hS ?_
    case refine_2 => (intro wz hz; go_simp; with_reducible rfl)
    simp only [Act.put, xgT, xgS, xgZ, xsT, xsS, xsZ]
    refine wpAnyH_take (i := 5) (v := ?_) rfl (by kernel_rfl) (by kernel_rfl) (by kernel_rfl) (fun _ _ _ h => h) (Or.inl ⟨by rfl, ?_⟩) hS ?_
    case refine_2 => (intro wz hz; go_simp; with_reducible rfl)
    simp only [Act.put, xgT, xgS, xgZ, xsT, xsS, xsZ]
    refine wpAnyH_take (i := 6) (v := ?_) rfl (by kernel_rfl) (by kernel_rfl) (by kernel_rfl) (fun _ _ _ h => h) (Or.inl ⟨by rfl, ?_⟩) hS ?_
    case refine_2 => (intro wz hz; go_simp; with_reducible rfl)
    simp only [Act.put, xgT, xgS, xgZ, xsT, xsS, xsZ]
    refine wpAnyH_take (i := 7) (v := ?_) rfl (by kernel_rfl) (by kernel_rfl) (by kernel_rfl) (fun _ _ _ h => h) (Or.inl ⟨by rfl, ?_⟩) hS ?_
    case refine_2 => (intro wz hz; go_simp; with_reducible rfl)
    simp only [Act.put, xgT, xgS, xgZ, xsT, xsS, xsZ]
    refine anyH_one (i := 8) (by kernel_rfl) rfl rfl (fun HH hH => ?_)
    simp only [xgT, xgS, xgZ]
    go_simp
    refine (HRDS.out w5).mono ?_
    rintro e w7 ⟨A7, c7, rfl, hr7, hb7⟩
    have hS7 : JE w g b y A n c bs w1.heap.size L w7 := hS.on hb7
    have HR7 := Lib.hid hr7
    refine hH _ _ hS7 ?_
    clear hH hS hb7 hr7
    refine anyH_one (i := 9) (by kernel_rfl) rfl rfl (fun HH hH => ?_)
    simp only [xgT, xgS, xgZ]
    go_simp
    have hS8 : JE w g b y A n c bs w1.heap.size L (w7.alloc (.cells #[.slice A N c, .slice A7 4 c7] 35)) := hS7.on ((Below.refl _ _).alloc (Nat.le_refl _) _)
    refine hH _ _ hS8 ?_
    clear hH
    refine anyH_one (i := 10) (by kernel_rfl) rfl rfl (fun HH hH => ?_)
    simp only [xgT, xgS, xgZ]
    go_simp
    refine (HCK.out w7 A7 c7 hS7 HR7.out).mono ?_
    rintro e w9 ⟨rfl, hb9⟩
    have hS9 : JE w g b y A n c bs w1.heap.size L w9 := hS7.on hb9
    refine hH _ _ hS9 ?_
    clear hH hS7 hS8 hb9
    refine wpAnyH_take (i := 11) (v := ?_) rfl (by kernel_rfl) (by kernel_rfl) (by kernel_rfl) (fun _ _ _ h => h) (Or.inl ⟨by rfl, ?_⟩) hS9 ?_
    case refine_2 => (intro wz hz; go_simp; with_reducible rfl)
    simp only [Act.put, xgT, xgS, xgZ, xsT, xsS, xsZ]
    refine wpAnyH_take (i := 12) (v := ?_) rfl (by kernel_rfl) (by kernel_rfl) (by kernel_rfl) (fun _ _ _ h => h) (Or.inl ⟨by rfl, ?_⟩) hS9 ?_
    case refine_2 => (intro wz hz; go_simp; with_reducible rfl)
    simp only [Act.put, xgT, xgS, xgZ, xsT, xsS, xsZ]
    refine wpAnyH_done (by kernel_rfl) ?_ _
    refine NoPanic.normal ?_
    have HB9 := Lib.hid hS9.below
    clear hS9 hbd hI9 hN190 hm8 h4 hI48 H5 H4 H3 H0 H6 H7 H5a
    cases tt with
    | false =>
      have HFIN := Lib.hid (fun w' hb => H4a.out w' H5'.out (fun k => by have := HTT.out.symm; rw [decide_eq_false_iff_not] at this; exact this k) hb)
      clear HTT
      go_wp2
      go_ret3
      exact HFIN.out _ HB9.out
    | true =>
      have HFIN := Lib.hid (fun w' hb => HPOST.out w' (H0a.out H5'.out (of_decide_eq_true HTT.out.symm)) hb)
      clear HTT
      go_wp2
      go_ret3
      exact HFIN.out _ HB9.out
theorem PkOwn.off {w : World} {b : Nat} {cs : List Value} {p : Pkt} (h : PkOwn w b cs p) : ∀ u ∈ cs, ∀ k, u.ownBlock = some k → b ≤ k := by
 obtain ⟨A, a, B, b', D, d, e, h1, h2, h3⟩ := h
 subst e
 intro u hu k hk
 simp only [rtpC, List.mem_cons, List.not_mem_nil, or_false] at hu
 rcases hu with rfl | rfl | rfl | rfl | rfl | rfl | rfl | rfl | rfl | rfl | rfl
 case inr.inr.inr.inr.inr.inl => exact (h1.lt k hk).1
 case inr.inr.inr.inr.inr.inr.inr.inr.inl => exact (h2.lt k hk).1
 case inr.inr.inr.inr.inr.inr.inr.inr.inr.inl => exact (h3.lt k hk).1
 all_goals simp [Value.ownBlock] at hk
structure ZE (w : World) (F : Nat → Prop) (g b : Nat) (y : Wy) (A : Option Addr) (n c : Nat) (bs : List UInt8) (wx : World) : Prop where
 way : PWay wx g b y
 z : BlkV wx w.heap.size 37 zeroC
 rd : RdS wx A n c bs
 tab : TabH wx
 fr : Fr F w wx
 lt : w.heap.size < wx.heap.size
section
variable {w wx wy : World} {F G : Nat → Prop} {g b : Nat} {y y2 : Wy} {A : Option Addr} {n c : Nat} {bs : List UInt8}
theorem ZE.on (h : ZE w F g b y A n c bs wx) (hb : Below wx.heap.size wx wy) : ZE w F g b y A n c bs wy :=
 ⟨h.way.below hb, h.z.below hb h.z.lt, h.rd.below hb, tab_below h.tab hb, h.fr.then hb, Nat.lt_of_lt_of_le h.lt hb.size⟩
theorem ZE.turn (h : ZE w F g b y A n c bs wx) (hf : Fr G wx wy) (hG : ∀ k, G k → F k) (hF : ∀ k, F k → k < w.heap.size) (hoff : 0 < n → ∀ ad, A = some ad → ¬ F ad.block) (hw : PWay wy g b y2) (ht : TabH wy) : ZE w F g b y2 A n c bs wy where
 way := hw
 z := h.z.fr hf (fun k => by have := hF _ (hG _ k); omega)
 rd := h.rd.fr hf (fun h0 ad hA k => hoff h0 ad hA (hG _ k))
 tab := ht
 fr := h.fr.trans hf (fun i hi => .inl (hG i hi))
 lt := Nat.lt_of_lt_of_le h.lt hf.size
end
theorem tab_fr {w w2 : World} {F : Nat → Prop} (ht : TabH w) (hf : Fr F w w2) (hn : ¬ F 0) : TabH w2 := fun j v hv => by
 have hc := ht j v hv
 have hlt := World.block_lt_of_cell? w _ hc
 exact (hf.cell (a := ⟨0, 0 + j, none⟩) hlt hn).trans hc
theorem zfitP : 0 + zeroC.length ≤ zeroC.length := by decide
set_option maxRecDepth 100000 in
set_option maxHeartbeats 1000000 in
theorem open15_no (g b : Nat) (y : Wy) (F : Nat → Prop) (A : Option Addr) (n c : Nat) (bs : List UInt8) (w : World) (h : RP w (.pointer (some ⟨g, 0, none⟩)) y F) (hw : PWay w g b y) (ht : TabH w) (hg : y.good) (hr : RdS w A n c bs) (h1 : whyOpen y bs ≠ 0) :
 Calls Tryz.prog 12 #[.pointer (some ⟨g, 0, none⟩), .slice A n c] w (OpenR RP (.pointer (some ⟨g, 0, none⟩)) y F bs w) := by
 have hz := zero28
 have hb0 : Below w.heap.size w (w.alloc (.cells zeroC.toArray 37)) := (Below.refl _ _).alloc (Nat.le_refl _) _
 have HB0 := Lib.hid hb0
 have HZ0 : Hid (BlkV (w.alloc (.cells zeroC.toArray 37)) w.heap.size 37 zeroC) := Lib.hid (BlkV.new w _ zeroC)
 have HNO := Lib.hid (fun w' hb => OpenR.no (w' := w') rp_lone h rfl h1 hb)
 have HR11 : Hid (RowTy Tryz.prog 37 zeroC.length) := Lib.hid (row11 rfl)
 have HJ := Lib.hid ((judge15_any g b y A n c bs _ (hw.below hb0) (tab_below ht hb0) hg (hr.below hb0)).mono (R' := fun e w' => e = .returned (.tuple #[.int .u32 0, .int .i64 0, .int .i64 (whyOpen y bs)]) ∧ Below (w.alloc (.cells zeroC.toArray 37)).heap.size (w.alloc (.cells zeroC.toArray 37)) w') (fun e w' k => ⟨k.1.2 h1, k.2⟩))
 obtain ⟨q, hq⟩ : ∃ q, q = whyOpen y bs := ⟨_, rfl⟩
 rw [← hq] at HJ HNO h1
 clear h hw ht hg hr hb0 hq
 go_enter Tryz.func12, Tryz.ntmps12
 go_wp2_with (first
  | (go_at_call 30; ((with_reducible refine (Hid.out HJ).mono ?_); rintro e w1 ⟨rfl, hb1⟩; have HZ1 := Lib.hid (HZ0.out.below hb1 HZ0.out.lt); have HB1 := Lib.hid (HB0.out.trans (hb1.mono HB0.out.size)); clear hb1))
  | ((with_reducible refine wpList_st rfl 37 (.tmp 4) (.tmp 22) rfl w.heap.size 0 zeroC rfl rfl 37 zeroC HZ1.out zfitP HR11.out zeroC_one ?_); intro w9 hB9 ho9; rw [splice_all _ _ rfl] at hB9; have HB9 := Lib.hid hB9; have HF9 := Lib.hid (HB1.out.trans (ho9.below (Nat.le_refl _))); clear hB9 ho9))
 exact ret_row3 rfl rfl HB9.out (row11 rfl) rfl (HNO.out _ HF9.out)
set_option maxRecDepth 100000 in
set_option maxHeartbeats 1000000 in
theorem open15_go (g b : Nat) (y : Wy) (F : Nat → Prop) (A : Option Addr) (n c : Nat) (bs : List UInt8) (w : World) (h : RP w (.pointer (some ⟨g, 0, none⟩)) y F) (hw : PWay w g b y) (hFF : F = fun k => k = g ∨ k = b) (ht : TabH w) (hg : y.good) (hu : y.used + 1 ≤ 900) (hr : RdS w A n c bs) (h1 : whyOpen y bs = 0) (hoff : 0 < n → ∀ ad, A = some ad → ¬ F ad.block ∧ ad.block < w.heap.size) :
 Calls Tryz.prog 12 #[.pointer (some ⟨g, 0, none⟩), .slice A n c] w (OpenR RP (.pointer (some ⟨g, 0, none⟩)) y F bs w) := by
 have hz := zero28
 have HFL : Hid (∀ k, F k → k < w.heap.size) := Lib.hid (fun k hk => rp_lone.low _ _ _ _ h k hk)
 have HFg : Hid (F g) := Lib.hid (by rw [hFF]; exact .inl rfl)
 have HFb : Hid (F b) := Lib.hid (by rw [hFF]; exact .inr rfl)
 have HFF := Lib.hid hFF
 have hgn := tab_way ht hw hg.1
 have HTN : Hid (¬ F 0) := Lib.hid (by rw [hFF]; exact fun k => k.elim (fun e => hgn.1 e.symm) (fun e => hgn.2 e.symm))
 have HOFF : Hid (0 < n → ∀ ad, A = some ad → ¬ F ad.block) := Lib.hid (fun h0 ad hA => (hoff h0 ad hA).1)
 have hb0 : Below w.heap.size w (w.alloc (.cells zeroC.toArray 37)) := (Below.refl _ _).alloc (Nat.le_refl _) _
 have HE0 : Hid (ZE w F g b y A n c bs (w.alloc (.cells zeroC.toArray 37))) := Lib.hid ⟨hw.below hb0, BlkV.new w _ zeroC, hr.below hb0, tab_below ht hb0, Fr.of_below hb0, by rw [← size_alloc]; omega⟩
 have HR11 : Hid (RowTy Tryz.prog 37 zeroC.length) := Lib.hid (row11 rfl)
 obtain ⟨o1, o2, o3, o4, o5, o6⟩ := open_zero h1
 obtain ⟨hp1, hp2, hp3⟩ := peek_len o1
 have hI0 := idxW_ge y bs
 have hln := hr.len
 obtain ⟨SO, hSO⟩ : ∃ x, x = soN bs := ⟨_, rfl⟩
 have lSO : SO < 4294967296 := hSO ▸ soN_lt bs
 obtain ⟨I, hI⟩ : ∃ I : Nat, idxW y bs = (I : Int) := ⟨(idxW y bs).toNat, by omega⟩
 obtain ⟨N, hN⟩ : ∃ x, x = bs.length - 10 := ⟨_, rfl⟩
 have hat := (at1_take (b := bs) (m := N) (by omega)).1 (by omega)
 have hPW : turnW y (bs.take N) (at1 (bs.take N)) SO I = plainW y bs := by
  unfold plainW
  rw [hat, hSO, hI, Int.toNat_natCast, hN]
 have hPL : (plainW y bs).length = N := by
  rw [← hPW]
  exact turnW_len y _ _ SO I N (by rw [List.length_take]; omega) (by omega)
 have HJ := Lib.hid ((judge15_any g b y A n c bs _ HE0.out.way HE0.out.tab hg HE0.out.rd).mono (R' := fun e w' => e = .returned (.tuple #[.int .u32 (SO : Int), .int .i64 (I : Int), .int .i64 0]) ∧ Below (w.alloc (.cells zeroC.toArray 37)).heap.size (w.alloc (.cells zeroC.toArray 37)) w') (fun e w' k => ⟨by rw [hSO, ← hI]; exact k.1.1 h1, k.2⟩))
 have HG := Lib.hid hg
 obtain ⟨U, hU⟩ : ∃ U, U = y.used := ⟨_, rfl⟩
 have HUU := Lib.hid hU
 have hU9 : 0 ≤ U ∧ U + 1 ≤ 900 := by rw [hU]; exact ⟨hg.1.2.2.2.2.1, hu⟩
 have HY1 : Hid (Wy.fit { y with used := U + 1 }) := Lib.hid (by
  obtain ⟨k1, k2, k3, k4, k5, k6, k7⟩ := hg.1
  exact ⟨k1, k2, k3, k4, by show 0 ≤ U + 1; omega, k6, k7⟩)
 have hwf := win_facts hg SO
 have hbd := highW_bd hg SO
 rw [highW_win] at hbd
 have hyO : yO y bs = { y with used := U + 1, ws := markW y.ws SO (I : Int) } := by unfold yO; rw [if_pos h1, hU, hSO, hI]
 have hgo := good_open hg bs hu
 rw [hyO] at hgo
 have HY2 : Hid (Wy.fit { y with used := U + 1, ws := markW y.ws SO (I : Int) }) := Lib.hid hgo.1
 have HYO := Lib.hid hyO
 have HCD : Hid ((whyR (plainW y bs) = 0 → codeO y bs = 0 ∧ idxO y bs = (I : Int) ∧ pktO y bs = pktR (plainW y bs)) ∧ (whyR (plainW y bs) ≠ 0 → codeO y bs = 3 ∧ idxO y bs = 0 ∧ pktO y bs = pkZ)) := Lib.hid (by
  refine ⟨fun k => ?_, fun k => ?_⟩
  · have hc : codeO y bs = 0 := by unfold codeO; rw [if_neg (fun k2 => k2 h1), if_neg (fun k2 => k2 k)]
    exact ⟨hc, by unfold idxO; rw [if_pos hc, hI], by unfold pktO; rw [if_pos hc]⟩
  · have hc : codeO y bs = 3 := by unfold codeO; rw [if_neg (fun k2 => k2 h1), if_pos k]
    exact ⟨hc, by unfold idxO; rw [hc, if_neg (by decide)], by unfold pktO; rw [hc, if_neg (by decide)]⟩)
 have HMK : Hid (∀ W, PWay W g b { y with used := U + 1 } → Calls Tryz.prog 31 #[.pointer (some ⟨g, 0, none⟩), .int .u32 (SO : Int), .int .i64 (I : Int)] W fun e w' => e = .returned (.tuple #[]) ∧ PWay w' g b { y with used := U + 1, ws := markW y.ws SO (I : Int) } ∧ Fr (fun k => k = b) W w') := Lib.hid (fun W k => mark15_any g b { y with used := U + 1 } SO (I : Int) W k HY1.out lSO (by omega) (show hiL (winW y.ws SO) ≤ _ by omega))
 have HCT := Lib.hid (fun W (k : RdS W A n c bs) => cut15_any A n c bs W k N (by omega) (by omega))
 have HNn := Lib.hid (show N ≤ n by omega)
 have HTU : Hid (∀ W, PWay W g b { y with used := U + 1, ws := markW y.ws SO (I : Int) } → RdS W A N c (bs.take N) → Calls Tryz.prog 24 #[.pointer (some ⟨g, 0, none⟩), .slice A N c, .int .u32 (SO : Int), .int .i64 (I : Int)] W fun e w' => ∃ A' c', e = .returned (.slice A' N c') ∧ BO W w' A' N c' (plainW y bs)) := Lib.hid (fun W k hr => by rw [← hPW]; exact turned15_any g b { y with used := U + 1, ws := markW y.ws SO (I : Int) } A N c (bs.take N) SO I W k HY2.out hr (by omega) (by omega) (by omega) lSO (by omega))
 obtain ⟨PW, hPWe⟩ : ∃ x, x = plainW y bs := ⟨_, rfl⟩
 rw [← hPWe] at HTU HCD hPL
 have HRE : Hid (∀ W A' c', RdS W A' N c' PW → Calls Tryz.prog 33 #[.slice A' N c'] W fun e w' => ∃ cs, e = .returned (.tuple #[.agg cs.toArray, .int .i64 (whyR PW)]) ∧ PkOwn w' W.heap.size cs (pktO y bs) ∧ Below W.heap.size W w') := Lib.hid (fun W A' c' hr => by
  by_cases k : whyR PW = 0
  · rw [k, (HCD.out.1 k).2.2]
    exact read_any_ok A' N c' PW W hr k
  · rw [(HCD.out.2 k).2.2]
    exact (read_any_no A' N c' PW W hr k).mono fun e w' ⟨he, hb⟩ => ⟨zeroC, he, pkZ_own _ _, hb⟩)
 have HCQ : Hid ((whyR PW = 0 → codeO y bs = 0 ∧ idxO y bs = (I : Int)) ∧ (whyR PW ≠ 0 → codeO y bs = 3 ∧ idxO y bs = 0 ∧ pktO y bs = pkZ)) := Lib.hid ⟨fun k => ⟨(HCD.out.1 k).1, (HCD.out.1 k).2.1⟩, HCD.out.2⟩
 obtain ⟨q, hq⟩ : ∃ q, q = whyR PW := ⟨_, rfl⟩
 rw [← hq] at HRE HCQ
 have f51 : ∀ W, PWay W g b y → W.frozen? ⟨g, 51, none⟩ = false := fun W k => k.bk.frozen 51
 have HF51 := Lib.hid f51
 clear hw hFF ht hg hu hr h1 hoff hgn hb0 o1 o2 o3 o4 o5 o6 hp1 hp2 hp3 hI0 hln hSO hI hN hat hPW hPL hU hwf hbd hyO hgo hPWe hq f51 HCD h
 go_enter Tryz.func12, Tryz.ntmps12
 go_upto_region 4 with (go_at_call 30; ((with_reducible refine (Hid.out HJ).mono ?_); rintro e w1 ⟨rfl, hb1⟩; have HE1 := Lib.hid (HE0.out.on hb1); clear hb1))
 clear HE0 HJ
 have d51 := (HE1.out.way.cells_ HG.out.1).2.1
 rw [← HUU.out] at d51
 have g51 := HF51.out w1 HE1.out.way
 have ho2 := Only.set w1 g 51 (.int .i64 (U + 1))
 have HE2 : Hid (ZE w F g b { y with used := U + 1 } A n c bs (w1.setCell ⟨g, 51, none⟩ (.int .i64 (U + 1)))) := Lib.hid (HE1.out.turn (Fr.of_only (F := fun k => k = g) ho2 rfl) (fun k e => e ▸ HFg.out) HFL.out HOFF.out (HE1.out.way.used HG.out.1 (U + 1)) (tab_fr HE1.out.tab (Fr.of_only (F := F) ho2 HFg.out) HTN.out))
 obtain ⟨U1, hU1⟩ : ∃ x, x = U + 1 := ⟨_, rfl⟩
 have eU : IntKind.i64.wrap (U + 1) = U1 := by rw [hU1]; exact IntWalk.i64_in _ (by omega)
 rw [← hU1] at HE2 HMK HTU HYO HY1 HY2
 clear hU1 ho2
 go_upto_region 5 with (fail)
 obtain ⟨w2, hw2⟩ : ∃ x, x = w1.setCell ⟨g, 51, none⟩ (.int .i64 U1) := ⟨_, rfl⟩
 rw [← hw2] at HE2 ⊢
 clear hw2 d51 g51 HE1
 go_upto_region 7 with (first
  | (go_at_call 31; ((with_reducible refine (HMK.out w2 HE2.out.way).mono ?_); rintro e w3 ⟨rfl, hw3, hf3⟩; have HE3 := Lib.hid (HE2.out.turn hf3 (fun k e => e ▸ HFb.out) HFL.out HOFF.out hw3 (tab_fr HE2.out.tab (hf3.mono (G := F) (fun k e => e ▸ HFb.out)) HTN.out)); clear hw3 hf3))
  | (go_at_call 32; ((with_reducible refine (HCT.out w3 HE3.out.rd).mono ?_); rintro e w4 ⟨AT, rfl, hb4, hrt⟩; have HE4 := Lib.hid (HE3.out.on hb4); clear hb4 hrt)))
 clear HE2 HE3 HMK HCT HY1
 go_upto_region 8 with (first
  | (go_at_call 24; ((with_reducible refine (HTU.out w4 HE4.out.way (HE4.out.rd.headR N HNn.out)).mono ?_); rintro e w5 ⟨A5, c5, rfl, ho5⟩; have HE5 := Lib.hid (HE4.out.on ho5.2); have HR5 := Lib.hid ho5.rd; clear ho5))
  | (go_at_call 33; ((with_reducible refine (HRE.out w5 A5 c5 HR5.out).mono ?_); rintro e w6 ⟨cs, rfl, hp6, hb6⟩; have HE6 := Lib.hid (HE5.out.on hb6); have HP6 := Lib.hid hp6; have hI6 := BlkV.new_at w6 w6.heap.size 37 zeroC _ rfl rfl; clear hp6 hb6))
  | ((with_reducible refine wpList_st rfl 37 (.tmp 12) (.tmp 47) rfl w6.heap.size 0 cs rfl rfl 37 zeroC hI6 (by rw [HP6.out.len]; decide) (row11 HP6.out.len) HP6.out.one ?_); intro w7 hB7 ho7; rw [splice_all _ _ (by rw [HP6.out.len]; rfl)] at hB7; have HB7 := Lib.hid hB7; have hb7 : Below w6.heap.size w6 w7 := ((Below.refl _ _).alloc (Nat.le_refl _) _).trans (ho7.below (Nat.le_refl _)); have HE7 := Lib.hid (HE6.out.on hb7); have HP7 := Lib.hid (HP6.out.below hb7); clear hB7 ho7 hb7))
 have HS5 : Hid (w.heap.size < w5.heap.size) := Lib.hid HE5.out.lt
 clear HE4 HTU HRE HR5 HE6 HP6 hI6
 by_cases hq0 : q = 0
 · have HC0 := Lib.hid (HCQ.out.1 hq0)
   subst hq0
   clear HCQ
   have RG7 := Lib.hid (HB7.out.range 0 cs (fun i _ => by rw [Nat.zero_add]))
   have HRT : Hid (RowTy Tryz.prog 37 cs.length) := Lib.hid (row11 HP7.out.len)
   go_wp2_with (first
    | (with_reducible refine wpList_ld rfl 37 (.tmp 12) rfl w6.heap.size 0 rfl cs RG7.out HRT.out ?_)
    | ((with_reducible refine wpList_st rfl 37 (.tmp 4) (.tmp 52) rfl w.heap.size 0 cs rfl rfl 37 zeroC HE7.out.z (by rw [HP7.out.len]; decide) HRT.out HP7.out.one ?_); intro w9 hB9 ho9; rw [splice_all _ _ (by rw [HP7.out.len]; rfl)] at hB9; have HB9 := Lib.hid hB9; have HO9 := Lib.hid ho9; clear hB9 ho9))
   refine ret_row3 rfl rfl HB9.out (row11 HP7.out.len) rfl ⟨cs, F, by rw [HC0.out.1, HC0.out.2]; rfl, (HP7.out.only HO9.out HS5.out).mono (Nat.le_of_lt HS5.out), fun u hu k hk hF => ?_, ?_, ?_, fun k hk => .inl hk⟩
   · have h1 := HP7.out.off u hu k hk
     have h2 := HFL.out k hF
     have h3 := HS5.out
     omega
   · rw [HYO.out]
     have hl1 := HFL.out g HFg.out
     have hl2 := HFL.out b HFb.out
     exact ⟨g, b, rfl, HE7.out.way.stay (HO9.out.block g (by omega)) (HO9.out.block b (by omega)), HFF.out⟩
   · exact HE7.out.fr.trans (Fr.of_only (F := fun k => k = w.heap.size) HO9.out rfl) (fun i hi => .inr (by omega))
 · have HC3 := Lib.hid (HCQ.out.2 hq0)
   clear HCQ
   go_wp2_with ((with_reducible refine wpList_st rfl 37 (.tmp 4) (.tmp 51) rfl w.heap.size 0 zeroC rfl rfl 37 zeroC HE7.out.z zfitP HR11.out zeroC_one ?_); intro w9 hB9 ho9; rw [splice_all _ _ rfl] at hB9; have HB9 := Lib.hid hB9; have HO9 := Lib.hid ho9; clear hB9 ho9)
   refine ret_row3 rfl rfl HB9.out (row11 rfl) rfl ⟨zeroC, F, by rw [HC3.out.1, HC3.out.2.1]; rfl, by rw [HC3.out.2.2]; exact pkZ_own _ _, fun u hu k hk => (zeroC_off u hu k hk).elim, ?_, ?_, fun k hk => .inl hk⟩
   · rw [HYO.out]
     have hl1 := HFL.out g HFg.out
     have hl2 := HFL.out b HFb.out
     exact ⟨g, b, rfl, HE7.out.way.stay (HO9.out.block g (by omega)) (HO9.out.block b (by omega)), HFF.out⟩
   · exact HE7.out.fr.trans (Fr.of_only (F := fun k => k = w.heap.size) HO9.out rfl) (fun i hi => .inr (by omega))
theorem open15_any (p : Value) (y : Wy) (F : Nat → Prop) (A : Option Addr) (n c : Nat) (bs : List UInt8) (w : World) (h : RP w p y F) (ht : TabH w) (hg : y.good) (hu : y.used + 1 ≤ 900) (hr : RdS w A n c bs) (hoff : 0 < n → ∀ ad, A = some ad → ¬ F ad.block ∧ ad.block < w.heap.size) :
 Calls Tryz.prog 12 #[p, .slice A n c] w (OpenR RP p y F bs w) := by
 have hk := h
 obtain ⟨g, b, rfl, hw, hFF⟩ := h
 by_cases h1 : whyOpen y bs = 0
 · exact open15_go g b y F A n c bs w hk hw hFF ht hg hu hr h1 hoff
 · exact open15_no g b y F A n c bs w hk hw ht hg hr h1
section
variable {P : Program} {w : World} {ops : Array Oper} {rest : List Oper} {op : Oper} {a : Act} {Q : Exit → Act → World → Prop}
theorem wpList_built3y (hgd : op.guard = none) (t : TypeId) (i j k : Nat) (x y z : Operand) (ho : op.op = .build t #[(i, x), (j, y), (k, z)]) (u u2 u3 v : Value) (hx : a.eval x = u) (hy : a.eval y = u2) (hz : a.eval z = u3) (hr : (Instr.build t #[(i, u), (j, u2), (k, u3)]).run P w = .ok v w)
 (hK : wpList P ops Q rest (a.put op.dst v) w) : wpList P ops Q (op :: rest) a w := by
 refine wpList_plain hgd fun K hK2 => ?_
 unfold Oper.wp execOp
 simp only [ho, List.map_toArray, List.map_cons, List.map_nil, hx, hy, hz, Sem.run_bind, hr, Result.andThen_ok, Sem.run_pure]
 exact hK2 _ _ hK
end
set_option maxRecDepth 100000 in
set_option maxHeartbeats 1000000 in
theorem run_wayP (K : List UInt8) (hk : K.length = 50) (limit : Int) (b : Nat) (w : World) :
 (Instr.build 65 #[(0, .agg (cells K).toArray), (1, .int .i64 limit), (3, .map (some b))]).run Tryz.prog w = .ok (.agg (cells K ++ ([.int .i64 limit, .int .i64 0, .map (some b)] : List Value)).toArray) w := by
 obtain ⟨x0, x1, x2, x3, x4, x5, x6, x7, x8, x9, x10, x11, x12, x13, x14, x15, x16, x17, x18, x19, x20, x21, x22, x23, x24, x25, x26, x27, x28, x29, x30, x31, x32, x33, x34, x35, x36, x37, x38, x39, x40, x41, x42, x43, x44, x45, x46, x47, x48, x49, rfl⟩ := list50 hk
 kernel_rfl
set_option maxRecDepth 100000 in
theorem new15_any (key salt : List UInt8) (limit : Int) (w : World) (hk : key.length = 16) (hs : salt.length = 14) :
 Calls Tryz.prog 6 #[.agg (cells (mst key salt)).toArray, .int .i64 limit] w fun e w' => ∃ p F, e = .returned p ∧ RP w' p (newY key salt limit) F ∧ (∀ k, F k → w.heap.size ≤ k) ∧ Below w.heap.size w w' := by
 have hB : BlkV (w.alloc (.cells (cells (mst key salt)).toArray 25)) w.heap.size 25 (cells (mst key salt)) := BlkV.new _ _ _
 have HB0 : Hid (Below w.heap.size w (w.alloc (.cells (cells (mst key salt)).toArray 25))) := Lib.hid ((Below.refl _ _).alloc (Nat.le_refl _) _)
 have HML : Hid ((cells (mst key salt)).length = 30) := Lib.hid (by rw [length_cells, mst_len key salt hk hs])
 have HKY := Lib.hid (fun W => rtp_any key salt W hk hs)
 have HBU := Lib.hid (fun b => run_wayP (kys key salt 0) (kys_len _ _ _) limit b)
 have RG := Lib.hid (hB.range 0 (cells (mst key salt)) (fun i _ => by rw [Nat.zero_add]))
 have RT : Hid (RowTy Tryz.prog 25 (cells (mst key salt)).length) := Lib.hid (row30 HML.out)
 have hmm := @run_makeMap Tryz.prog
 obtain ⟨M, hM⟩ : ∃ M, M = cells (mst key salt) := ⟨_, rfl⟩
 obtain ⟨K, hK⟩ : ∃ K, K = cells (kys key salt 0) := ⟨_, rfl⟩
 rw [← hM] at HB0 HML HKY RG RT ⊢
 rw [← hK] at HBU
 simp only [← hK] at HKY
 have HK := Lib.hid hK
 clear hB hk hs hM hK
 go_enter Tryz.func6, Tryz.ntmps6
 go_wp2_with (first
  | (with_reducible refine wpList_ld rfl 25 (.tmp 2) rfl w.heap.size 0 rfl M RG.out RT.out ?_)
  | (go_at_call 19; ((with_reducible refine (HKY.out _).mono ?_); rintro e w1 ⟨rfl, hb1⟩; have HB1 := Lib.hid (HB0.out.trans (hb1.mono HB0.out.size)); clear hb1))
  | (with_reducible refine wpList_built3y rfl 65 0 1 3 (.tmp 6) (.tmp 7) (.tmp 8) rfl (.agg K.toArray) (.int .i64 limit) (.map (some w1.heap.size)) (.agg (K ++ ([.int .i64 limit, .int .i64 0, .map (some w1.heap.size)] : List Value)).toArray) rfl rfl rfl (HBU.out w1.heap.size _) ?_))
 go_ret
 have hs := size_alloc w1 (.map #[] 0)
 refine ⟨_, _, rfl, ⟨w1.heap.size + 1, w1.heap.size, rfl, ⟨?_, ?_⟩, rfl⟩, ?_, (HB1.out.alloc HB1.out.size _).alloc (by have := HB1.out.size; omega) _⟩
 · rw [newY_ks, ← HK.out]
   exact BlkV.new_at _ _ _ _ _ hs.symm rfl
 · exact (MapW.made w1).below ((Below.refl _ _).alloc (Nat.le_refl _) _)
 · intro k hk
   have := HB1.out.size
   rcases hk with rfl | rfl <;> omega
end Go.Proofs.YtmkeioeodlidgaaGreatDoor
