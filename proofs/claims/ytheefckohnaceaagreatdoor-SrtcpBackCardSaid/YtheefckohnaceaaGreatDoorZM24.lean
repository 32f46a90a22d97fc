/- Several texts in one: plain words and walks. No statement is proved here. -/
import Derived.Test.YtheefckohnaceaaGreatDoorZM15
import Derived.Test.YtheefckohnaceaaGreatDoorZM11
import Derived.Test.YtheefckohnaceaaGreatDoorZM16
import Derived.Deep.DeepCutAuto
import Derived.Test.YtheefckohnaceaaGreatDoorZM22
import Derived.Test.YtheefckohnaceaaGreatDoorZM23
import Derived.Test.YtheefckohnaceaaGreatDoorZM10
import Derived.Test.YtheefckohnaceaaGreatDoorZM12
namespace Go.Proofs.YtheefckohnaceaaGreatDoor
open List renaming getElem_toArray → xgT, getElem_cons_succ → xgS, getElem_cons_zero → xgZ, setIfInBounds_toArray → xsT, set_cons_succ → xsS, set_cons_zero → xsZ
open Go.RowKit
set_option linter.unusedVariables false

def wx53 (wx : World) (g b q : Nat) (h : Int) (p : Nat) : Prop := wx.cell? ⟨g, 53, none⟩ = some (.map (some b)) ∧ BlkV wx q 90 (winC h p)
set_option maxRecDepth 100000 in
set_option maxHeartbeats 1000000 in
theorem mark16_any (g b : Nat) (s : Wc) (SO : Nat) (I : Int) (w : World) (h : PCtl w g b s) (hf : s.y.fit) (hso : SO < 4294967296) (hI : I ≤ 9223372036854775807) (ht : hiL (winW s.y.ws SO) ≤ 9223372036854775807) :
 Calls Tryz.prog 22 #[.pointer (some ⟨g, 0, none⟩), .int .u32 (SO : Int), .int .i64 I] w fun e w' => e = .returned (.tuple #[]) ∧ PCtl w' g b ⟨{ s.y with ws := markW s.y.ws SO I }, s.nx⟩ ∧ Fr (fun k => k = b) w w' := by
 have c53 := (h.cells_ hf).2.2.2
 obtain ⟨hh, p, hW, hlk⟩ := h.m.look hf.2.2.2.2.2.2 hso
 have hlk0 := hlk false
 simp only [Bool.false_eq_true, if_false] at hlk0
 have HLT := Lib.hid hf.2.2.2.2.2.2
 have HWA : Hid (WinAt (w.alloc (.cells #[.int .i64 hh, .int .u64 (p : Int)] 90)) w.heap.size (winW s.y.ws SO)) := Lib.hid ⟨hh, p, hW, BlkV.new w _ [.int .i64 hh, .int .u64 (p : Int)]⟩
 have hb1 := (Below.refl w.heap.size w).alloc (Nat.le_refl _) (.cells #[.int .i64 hh, .int .u64 (p : Int)] 90)
 have HW1 := Lib.hid (h.below hb1)
 have HB1 := Lib.hid hb1
 have HF := Lib.hid hf
 have hgl : g < w.heap.size := h.bk.lt
 have hbl : b < w.heap.size := h.m.lt
 have HMK := Lib.hid ((mark_any w.heap.size (winW s.y.ws SO) I _ HWA.out hI ht).mono (R' := fun e w' => ∃ c, e = .returned (.int .i64 c) ∧ WinAt w' w.heap.size (mkL (winW s.y.ws SO) I) ∧ Only w.heap.size (w.alloc (.cells #[.int .i64 hh, .int .u64 (p : Int)] 90)) w') (fun e w' k => ⟨_, k⟩))
 clear h hlk hW hf hb1
 go_enter Tryz.func22, Tryz.ntmps22
 go_upto_region 2 with (go_at_call 39; ((with_reducible refine (Hid.out HMK).mono ?_); rintro e w2 ⟨mc, rfl, ⟨h2, p2, hW2, hB2⟩, ho2⟩; have HS2 := Lib.hid hW2; have HB2 := Lib.hid hB2; have HO2 := Lib.hid ho2; clear hW2 hB2 ho2))
 have HW2 : Hid (PCtl w2 g b s) := Lib.hid (HW1.out.stay (HO2.out.block g (by omega)) (HO2.out.block b (by omega)))
 have HFr2 : Hid (Fr (fun k => k = b) w w2) := Lib.hid ((Fr.of_below HB1.out).trans (G := fun k => k = w.heap.size) (Fr.of_only HO2.out rfl) (fun i hi => .inr (by omega)))
 clear HW1 HB1 HWA HMK c53 hlk0 HO2
 refine wp_region_noPanic ?_
 refine wp_region_held (S := fun wx => wx53 wx g b w.heap.size h2 p2) (by kernel_rfl) ?_
 change wpAnyH _ _ _ _ _ _ _ _ (World.drew _)
 obtain ⟨w3, hw3⟩ : ∃ x, x = w2.drew := ⟨_, rfl⟩
 rw [← hw3]
 have HB3 : Hid (BlkV w3 w.heap.size 90 (winC h2 p2)) := Lib.hid (hw3 ▸ HB2.out)
 have HW3 : Hid (PCtl w3 g b s) := Lib.hid (hw3 ▸ HW2.out.below (Below.refl _ _).drew)
 have HFr3 : Hid (Fr (fun k => k = b) w w3) := Lib.hid (hw3 ▸ HFr2.out.then (Below.refl _ _).drew)
 have k53 := (HW3.out.cells_ HF.out).2.2.2
 have hS : wx53 w3 g b w.heap.size h2 p2 := ⟨k53, HB3.out⟩
 have K53 := Lib.hid k53
 clear hw3 HB2 HW2 HFr2 k53
 refine wpAnyH_take (i := 0) (v := ?_) rfl (by kernel_rfl) (by kernel_rfl) (by kernel_rfl) (fun _ _ _ h => h) (Or.inl ⟨by rfl, ?_⟩) hS ?_
 case refine_2 => (intro wz hz; go_simp; with_reducible rfl)
 simp only [Act.put, xgT, xgZ, xsT, xsS, xsZ]
 refine wpAnyH_take (i := 1) (v := ?_) rfl (by kernel_rfl) (by kernel_rfl) (by kernel_rfl) (fun _ _ _ h => h) (Or.inl ⟨by rfl, ?_⟩) hS ?_
 case refine_2 => (intro wz hz; go_simp; with_reducible rfl)
 simp only [Act.put, xgT, xgS, xgZ, xsT, xsS, xsZ]
 refine wpAnyH_take (i := 2) (v := ?_) rfl (by kernel_rfl) (by kernel_rfl) (by kernel_rfl) (fun _ _ _ h => h) (Or.inl ⟨by rfl, ?_⟩) hS ?_
 case refine_2 => (intro wz hz; go_simp; with_reducible rfl)
 simp only [Act.put, xgT, xgS, xgZ, xsT, xsS, xsZ]
 refine wpAnyH_take (i := 3) (v := ?_) rfl (by kernel_rfl) (by kernel_rfl) (by kernel_rfl) (fun _ _ _ h => h) (Or.inl ⟨by rfl, ?_⟩) hS ?_
 case refine_2 => (intro wz hz; have k := hz.1; go_simp; with_reducible rfl)
 simp only [Act.put, xgT, xgS, xgZ, xsT, xsS, xsZ]
 refine wpAnyH_take (i := 4) (v := ?_) rfl (by kernel_rfl) (by kernel_rfl) (by kernel_rfl) (fun _ _ _ h => h) (Or.inl ⟨by rfl, ?_⟩) hS ?_
 case refine_2 => (intro wz hz; go_simp; with_reducible rfl)
 simp only [Act.put, xgT, xgS, xgZ, xsT, xsS, xsZ]
 refine wpAnyH_take (i := 5) (v := .agg (winC h2 p2).toArray) rfl (by kernel_rfl) (by kernel_rfl) (by kernel_rfl) (fun _ _ _ h => h) (Or.inl ⟨by rfl, fun wz hz => ?_⟩) hS ?_
 · (exact run_ld 90 _ rfl w.heap.size 0 (by rfl) (winC h2 p2) (hz.2.range 0 _ (fun i _ => by rw [Nat.zero_add])) row2W)
 simp only [Act.put, xgT, xgS, xgZ, xsT, xsS, xsZ]
 refine anyH_one (i := 6) (by kernel_rfl) rfl rfl (fun HH hH => ?_)
 simp only [xgT, xgS, xgZ]
 refine wp_mapW w3 (.tmp 18) (.tmp 19) (.tmp 20) rfl b s.y.ws (by rfl) HW3.out.m HLT.out SO (by rfl) hso h2 p2 (by rfl) _ HS2.out ?_
 intro w4 hm4 ho4
 have hW4 := HW3.out.marked hm4 ho4
 have hF4 : Fr (fun k => k = b) w w4 := HFr3.out.trans (Fr.of_only (F := fun k => k = b) ho4 rfl) (fun i hi => .inl hi)
 have hS4 : wx53 w4 g b w.heap.size h2 p2 := ⟨(World.cell?_of_block (ho4.block g HW3.out.ne.symm)).trans K53.out, HB3.out.only ho4 (by omega)⟩
 refine hH _ _ hS4 ?_
 clear hH
 refine wpAnyH_done (by kernel_rfl) ?_ _
 refine NoPanic.normal ?_
 go_wp2
 go_end0
 exact ⟨rfl, hW4, hF4⟩
def J16 (y : Wy) (bs : List UInt8) (w : World) (e : Ending) (w' : World) : Prop :=
 ((whyC y bs = 0 → e = .returned (.tuple #[.int .u32 (soC bs : Int), .int .i64 (idC bs : Int), .int .i64 0])) ∧ (whyC y bs ≠ 0 → e = .returned (.tuple #[.int .u32 0, .int .i64 0, .int .i64 (whyC y bs)]))) ∧ Below w.heap.size w w'
theorem J16.no {y : Wy} {bs : List UInt8} {w w' : World} {q : Int} (h : whyC y bs = q) (hq : q ≠ 0) (hb : Below w.heap.size w w') : J16 y bs w (.returned (.tuple #[.int .u32 0, .int .i64 0, .int .i64 q])) w' :=
 ⟨⟨fun k => absurd (h.symm.trans k) hq, fun _ => by rw [h]⟩, hb⟩
structure JC (w : World) (g b : Nat) (s : Wc) (A : Option Addr) (n c : Nat) (bs : List UInt8) (q : Nat) (L : List Int) (wx : World) : Prop where
 way : PCtl wx g b s
 tab : Tabs wx
 rd : RdS wx A n c bs
 win : WinAt wx q L
 below : Below w.heap.size w wx
theorem JC.on {w wx wy : World} {g b : Nat} {s : Wc} {A : Option Addr} {n c : Nat} {bs : List UInt8} {q : Nat} {L : List Int} (h : JC w g b s A n c bs q L wx) (hb : Below wx.heap.size wx wy) : JC w g b s A n c bs q L wy :=
 ⟨h.way.below hb, h.tab.below hb, h.rd.below hb, h.win.below hb, h.below.trans (hb.mono h.below.size)⟩
theorem check1_any (A B : Option Addr) (N c ct : Nat) (p tag : List UInt8) (g b : Nat) (s : Wc) (W : World) (ht : Tabs W) (h : PCtl W g b s) (hf : s.y.fit) (hr : RdS W A N c p) (hrt : RdS W B 10 ct tag) (hn : N ≤ 100000) (t : Bool) (htt : t = decide (tagC s.y p = tag)) :
 Calls Tryz.prog 38 #[.slice (some ⟨g, 16, none⟩) 20 20, .slice B 10 ct, .slice (some ⟨W.heap.size, 0, none⟩) 1 1] (W.alloc (.cells #[.slice A N c] 32)) fun e w' => e = .returned (.bool t) ∧ Below W.heap.size W w' := by
 have hb : Below W.heap.size W (W.alloc (.cells #[.slice A N c] 32)) := (Below.refl _ _).alloc (Nat.le_refl _) _
 have hfl : [p].flatten = p := by simp
 refine (check_any _ 20 20 s.y.auth B 10 ct tag _ 1 1 [p] _ (ht.below hb).h (ht.below hb).lt ((h.auth hf).below hb) (by omega) (hrt.below hb) (parts_lit1 hr _) (by omega) (by rw [hfl, hr.len]; exact hn) t ?_).mono ?_
 · rw [htt, hfl]
   refine decide_eq_decide.2 ⟨fun k => ⟨by omega, by omega, k.symm⟩, fun k => k.2.2.symm⟩
 · rintro e w' ⟨rfl, hb'⟩
   exact ⟨rfl, hb.trans (hb'.mono hb.size)⟩
set_option maxRecDepth 100000 in
set_option maxHeartbeats 1000000 in
theorem judge16_any (g b : Nat) (s : Wc) (A : Option Addr) (n c : Nat) (bs : List UInt8) (w : World) (h : PCtl w g b s) (ht : Tabs w) (hg : s.y.good) (hr : RdS w A n c bs) :
 Calls Tryz.prog 21 #[.pointer (some ⟨g, 0, none⟩), .slice A n c] w (J16 s.y bs w) := by
 have hln := hr.len
 have hsm := hr.small
 by_cases h1 : (1200 : Int) < (n : Int)
 · have HW := Lib.hid (J16.no (whyC_big (y := s.y) (b := bs) (by omega)) (by decide) (Below.refl w.heap.size w))
   clear h ht hg hr hln
   go_enter Tryz.func21, Tryz.ntmps21
   go_wp2
   go_ret3
   exact HW.out
 by_cases h2 : (n : Int) < 22
 · have HW := Lib.hid (J16.no (whyC_short (y := s.y) (b := bs) (by omega) (by omega)) (by decide) (Below.refl w.heap.size w))
   clear h ht hg hr hln
   go_enter Tryz.func21, Tryz.ntmps21
   go_wp2
   go_ret3
   exact HW.out
 have a1 : ¬ 1200 < bs.length := by omega
 have a2 : ¬ bs.length < 22 := by omega
 by_cases h3 : inC bs < 2147483648
 · have HW := Lib.hid (J16.no (whyC_open (y := s.y) a1 a2 h3) (by decide) (Below.refl w.heap.size w))
   have HI := Lib.hid (index16_any A n c bs w hr (by omega) false (decide_eq_false (fun k => k h3)).symm)
   clear h ht hg hr hln a1 a2 h3
   go_enter Tryz.func21, Tryz.ntmps21
   go_wp2_with (go_at_call 36; ((with_reducible refine (HI.out).mono ?_); rintro e w' ⟨rfl, rfl⟩))
   go_ret3
   exact HW.out
 have HI := Lib.hid (index16_any A n c bs w hr (by omega) true (decide_eq_true h3).symm)
 have HSR := Lib.hid (source16_any A n c bs w hr (by omega))
 have H7 := Lib.hid (fun w' (k : s.y.limit ≤ s.y.used) hb => J16.no (w' := w') (whyC_7 (y := s.y) a1 a2 h3 k) (by decide) (w := w) hb)
 have H6 := Lib.hid (fun w' (k : ¬ s.y.limit ≤ s.y.used) k3 hb => J16.no (w' := w') (whyC_6 (y := s.y) a1 a2 h3 k k3) (by decide) (w := w) hb)
 have H5 := Lib.hid (fun w' (k : ¬ s.y.limit ≤ s.y.used) k3 k4 hb => J16.no (w' := w') (whyC_5 (y := s.y) a1 a2 h3 k k3 k4) (by decide) (w := w) hb)
 have H4 := Lib.hid (fun w' (k : ¬ s.y.limit ≤ s.y.used) k3 k4 k5 hb => J16.no (w' := w') (whyC_4 (y := s.y) a1 a2 h3 k k3 k4 k5) (by decide) (w := w) hb)
 have H0 := Lib.hid (fun (k : ¬ s.y.limit ≤ s.y.used) k3 k4 k5 => whyC_0 (y := s.y) a1 a2 h3 k k3 k4 k5)
 obtain ⟨N, hN⟩ : ∃ x, x = bs.length - 10 := ⟨_, rfl⟩
 rw [← hN] at H4 H0
 have hnN : n = N + 10 := by omega
 have hN190 : N ≤ 1190 := by omega
 have HNN := Lib.hid (show N ≤ n by omega)
 obtain ⟨SO, hSO⟩ : ∃ x, x = soC bs := ⟨_, rfl⟩
 have lSO : SO < 4294967296 := hSO ▸ soC_lt bs
 obtain ⟨I, hI⟩ : ∃ x, x = idC bs := ⟨_, rfl⟩
 have lI : I < 2147483648 := hI ▸ idC_lt bs
 have hwf := win_facts hg SO
 have hbd := highW_bd hg SO
 have HPOST : Hid (∀ w', whyC s.y bs = 0 → Below w.heap.size w w' → J16 s.y bs w (.returned (.tuple #[.int .u32 (SO : Int), .int .i64 (I : Int), .int .i64 0])) w') := Lib.hid (fun w' k hb => ⟨⟨fun _ => by rw [hSO, hI], fun k2 => absurd k k2⟩, hb⟩)
 rw [← hSO] at H6 H5 H4 H0 HSR
 rw [← hI] at HI H5 H4 H0
 rw [highW_win] at hbd
 obtain ⟨L, hL⟩ : ∃ L, L = winW s.y.ws SO := ⟨_, rfl⟩
 have HLE := Lib.hid hL
 rw [← hL] at hbd hwf
 have HG := Lib.hid hg
 have HWY := Lib.hid h
 have HTB := Lib.hid ht
 have HRD0 := Lib.hid hr
 obtain ⟨AT, eL, eL2, hrl⟩ := run_lo A n c N (N : Int) rfl (by omega) hr.le hr.max
 have HRL := Lib.hid hrl
 have e10 : n - N = 10 := by omega
 rw [e10] at eL eL2 HRL
 have eN : (n : Int) - 10 = (N : Int) := by omega
 have ewN : IntKind.i64.wrap (N : Int) = (N : Int) := IntWalk.i64_in _ (by omega)
 have hNc : N ≤ c := by have := hr.le; omega
 have hcm : c ≤ 9223372036854775807 := hsm.2
 clear h ht hg hr hln hN hSO hI hwf hL hrl hnN a1 a2 h3 e10
 go_enter Tryz.func21, Tryz.ntmps21
 go_upto_region 9 with (first
  | (go_at_call 36; ((with_reducible refine (HI.out).mono ?_); rintro e w' ⟨rfl, rfl⟩))
  | (go_at_call 33; ((with_reducible refine (HSR.out).mono ?_); rintro e w' ⟨rfl, rfl⟩)))
 have c53 := (HWY.out.cells_ HG.out.1).2.2.2
 obtain ⟨hh, p, hW, hlk⟩ := HWY.out.m.look HG.out.1.2.2.2.2.2.2 lSO
 rw [← HLE.out] at hW
 have HAT : Hid (((atW s.y.ws SO).isSome = true ∧ ∃ L', lookW s.y.ws SO = some L' ∧ L' = L) ∨ ((atW s.y.ws SO).isSome = false ∧ lookW s.y.ws SO = none ∧ L = [])) := Lib.hid (by
  rw [HLE.out]
  match ha : atW s.y.ws SO with
  | none => exact .inr ⟨rfl, (atW_none ha).1, winW_none ha⟩
  | some i => exact .inl ⟨rfl, _, (atW_some ha).2.2, (winW_some ha).symm⟩)
 obtain ⟨kn, hkn⟩ : ∃ kn, kn = (atW s.y.ws SO).isSome := ⟨_, rfl⟩
 have hlk1 := hlk true
 simp only [if_true] at hlk1
 rw [← hkn] at hlk1 HAT
 clear hlk hkn
 have HJ2 : Hid (JC w g b s A n c bs w.heap.size L (w.alloc (.cells #[.int .i64 hh, .int .u64 (p : Int)] 90))) := Lib.hid (by
  have hb2 := (Below.refl w.heap.size w).alloc (Nat.le_refl _) (.cells #[.int .i64 hh, .int .u64 (p : Int)] 90)
  exact ⟨HWY.out.below hb2, HTB.out.below hb2, HRD0.out.below hb2, ⟨hh, p, hW, BlkV.new w _ [.int .i64 hh, .int .u64 (p : Int)]⟩, hb2⟩)
 clear hW HI HSR
 go_upto_region 10 with (fail)
 obtain ⟨w2, hw2⟩ : ∃ x, x = w.alloc (.cells #[.int .i64 hh, .int .u64 (p : Int)] 90) := ⟨_, rfl⟩
 rw [← hw2] at HJ2 ⊢
 clear hw2 c53 hlk1
 go_upto_region 11 with (fail)
 by_cases h2' : s.y.limit ≤ s.y.used
 · have HSP := Lib.hid (spent16_any g b s w2 HJ2.out.way HG.out.1 true (decide_eq_true h2').symm)
   go_wp2_with (go_at_call 16; ((with_reducible refine (Hid.out HSP).mono ?_); rintro e w4 ⟨rfl, hb4⟩; have HJ4 := Lib.hid (HJ2.out.on hb4); clear hb4))
   go_ret3
   exact H7.out _ h2' HJ4.out.below
 have HSP := Lib.hid (spent16_any g b s w2 HJ2.out.way HG.out.1 false (decide_eq_false h2').symm)
 go_upto_region 13 with (go_at_call 16; ((with_reducible refine (Hid.out HSP).mono ?_); rintro e w4 ⟨rfl, hb4⟩; have HJ4 := Lib.hid (HJ2.out.on hb4); clear hb4))
 clear HJ2 HSP
 have c53 := (HJ4.out.way.cells_ HG.out.1).2.2.2
 have hln := fun ty => HJ4.out.way.m.len_ ty
 obtain ⟨m, hm⟩ : ∃ m, m = s.y.ws.length := ⟨_, rfl⟩
 have hm8 : m ≤ 8 := by rw [hm]; exact HG.out.1.2.2.2.2.2.1
 rw [← hm] at hln
 have H2 := Lib.hid h2'
 clear h2'
 by_cases h3 : lookW s.y.ws SO = none ∧ 8 ≤ s.y.ws.length
 · have ek : kn = false := by
    rcases HAT.out with ⟨_, L', k, _⟩ | ⟨k, _⟩
    · rw [h3.1] at k; exact nomatch k
    · exact k
   have em : m = 8 := by have := h3.2; omega
   subst ek em
   have H3' := Lib.hid h3
   clear h3 hm
   go_wp2
   go_ret3
   exact H6.out _ H2.out H3'.out HJ4.out.below
 have hkm : kn = true ∨ m < 8 := by
  rcases HAT.out with ⟨k, _⟩ | ⟨_, k, _⟩
  · exact .inl k
  · right
    have : ¬ 8 ≤ s.y.ws.length := fun k2 => h3 ⟨k, k2⟩
    omega
 have HKM := Lib.hid hkm
 have H3' := Lib.hid h3
 clear h3 hm hkm
 go_cut [45] (fun u wx => u = .bool false ∧ wx = w4)
 case first =>
  rcases HKM.out with ek | em
  · subst ek
    go_wp2
    go_meet
    exact ⟨rfl, rfl⟩
  · cases kn
    · have em' : (m : Int) < 8 := by omega
      go_wp2
      go_meet
      exact ⟨congrArg Value.bool (decide_eq_false (by omega)), rfl⟩
    · go_wp2
      go_meet
      exact ⟨rfl, rfl⟩
 case rest =>
  obtain ⟨rfl, hwc⟩ := hcut
  rw [hwc]
  clear hwc c53 hln
  have H5a := Lib.hid (fun w' k5 hb => H5.out w' H2.out H3'.out k5 hb)
  have H4a := Lib.hid (fun w' k5 k6 hb => H4.out w' H2.out H3'.out k5 k6 hb)
  have H0a := Lib.hid (fun k5 k6 => H0.out H2.out H3'.out k5 k6)
  have HFS := Lib.hid (fresh_any w.heap.size L (I : Int) w4 HJ4.out.win (by omega) (by omega))
  cases hfr : frL L (I : Int) with
  | false =>
    rw [hfr] at HFS
    have h5 : ∃ L', lookW s.y.ws SO = some L' ∧ frL L' (I : Int) = false := by
     rcases HAT.out with ⟨_, L', k, k2⟩ | ⟨_, _, k⟩
     · exact ⟨L', k, by rw [k2]; exact hfr⟩
     · rw [k, fr_above (by omega) (by rw [hiL_nil]; omega)] at hfr
       exact nomatch hfr
    have H5' := Lib.hid h5
    clear h5 hfr
    go_wp2_with (go_at_call 37; ((with_reducible refine (Hid.out HFS).mono ?_); rintro e w' ⟨rfl, rfl⟩))
    go_ret3
    exact H5a.out _ H5'.out HJ4.out.below
  | true =>
    rw [hfr] at HFS
    have h5 : ¬ ∃ L', lookW s.y.ws SO = some L' ∧ frL L' (I : Int) = false := by
     rintro ⟨L', k, k3⟩
     rcases HAT.out with ⟨_, L'', k1, k2⟩ | ⟨_, k1, _⟩
     · rw [k1] at k
       injection k with k
       rw [← k, k2, hfr] at k3
       exact nomatch k3
     · rw [k1] at k; exact nomatch k
    have H5' := Lib.hid h5
    obtain ⟨tt, htt⟩ : ∃ t : Bool, t = decide (tagC s.y (bs.take N) = bs.drop N) := ⟨_, rfl⟩
    have HCK : Hid (∀ W, JC w g b s A n c bs w.heap.size L W → Calls Tryz.prog 38 #[.slice (some ⟨g, 16, none⟩) 20 20, .slice AT 10 (c - N), .slice (some ⟨W.heap.size, 0, none⟩) 1 1] (W.alloc (.cells #[.slice A N c] 32)) fun e w' => e = .returned (.bool tt) ∧ Below W.heap.size W w') := Lib.hid (fun W k => check1_any A AT N c (c - N) _ _ g b s W k.tab k.way HG.out.1 (k.rd.headR N HNN.out) (HRL.out W bs k.rd) (by omega) tt htt)
    have HTT := Lib.hid htt
    clear h5 hfr htt
    go_upto_region 17 with (go_at_call 37; ((with_reducible refine (Hid.out HFS).mono ?_); rintro e w' ⟨rfl, rfl⟩))
    clear HFS
    refine wp_region_noPanic ?_
    refine wp_region_held (S := fun wx => JC w g b s A n c bs w.heap.size L wx) (by kernel_rfl) ?_
    change wpAnyH _ _ _ _ _ _ _ _ (World.drew _)
    obtain ⟨w5, hw5⟩ : ∃ x, x = w4.drew := ⟨_, rfl⟩
    rw [← hw5]
    have hS : JC w g b s A n c bs w.heap.size L w5 := hw5 ▸ HJ4.out.on (Below.refl _ _).drew
    clear hw5 HJ4
    refine wpAnyH_take (i := 0) (v := ?_) rfl (by kernel_rfl) (by kernel_rfl) (by kernel_rfl) (fun _ _ _ h => h) (Or.inl ⟨by rfl, ?_⟩) hS ?_
    case refine_2 => (intro wz hz; go_simp; with_reducible rfl)
    simp only [Act.put, xgT, xgZ, xsT, xsS, xsZ]
    refine wpAnyH_take (i := 1) (v := ?_) rfl (by kernel_rfl) (by kernel_rfl) (by kernel_rfl) (fun _ _ _ h => h) (Or.inl ⟨by rfl, ?_⟩) hS ?_
    case refine_2 => (intro wz hz; go_simp; with_reducible rfl)
    simp only [Act.put, xgT, xgS, xgZ, xsT, xsS, xsZ]
    refine wpAnyH_take (i := 2) (v := ?_) rfl (by kernel_rfl) (by kernel_rfl) (by kernel_rfl) (fun _ _ _ h => h) (Or.inl ⟨by rfl, ?_⟩) hS ?_
    case refine_2 => (intro wz hz; go_simp; with_reducible rfl)
    simp only [Act.put, xgT, xgS, xgZ, xsT, xsS, xsZ]
    refine wpAnyH_take (i := 3) (v := ?_) rfl (by kernel_rfl) (by kernel_rfl) (by kernel_rfl) (fun _ _ _ h => h) (Or.inl ⟨by rfl, ?_⟩) hS ?_
    case refine_2 => (intro wz hz; go_simp; with_reducible rfl)
    simp only [Act.put, xgT, xgS, xgZ, xsT, xsS, xsZ]
    refine wpAnyH_take (i := 4) (v := ?_) rfl (by kernel_rfl) (by kernel_rfl) (by kernel_rfl) (fun _ _ _ h => h) (Or.inl ⟨by rfl, ?_⟩) hS ?_
    case refine_2 => (intro wz hz; go_simp; with_reducible rfl)
    simp only [Act.put, xgT, xgS, xgZ, xsT, xsS, xsZ]
    refine wpAnyH_take (i := 5) (v := ?_) rfl (by kernel_rfl) (by kernel_rfl) (by kernel_rfl) (fun _ _ _ h => h) (Or.inl ⟨by rfl, ?_⟩) hS ?_
    case refine_2 => (intro wz hz; go_simp; with_reducible rfl)
    simp only [Act.put, xgT, xgS, xgZ, xsT, xsS, xsZ]
    refine wpAnyH_take (i := 6) (v := ?_) rfl (by kernel_rfl) (by kernel_rfl) (by kernel_rfl) (fun _ _ _ h => h) (Or.inl ⟨by rfl, ?_⟩) hS ?_
    case refine_2 => (intro wz hz; go_simp; with_reducible rfl)
    simp only [Act.put, xgT, xgS, xgZ, xsT, xsS, xsZ]
    refine wpAnyH_take (i := 7) (v := ?_) rfl (by kernel_rfl) (by kernel_rfl) (by kernel_rfl) (fun _ _ _ h => h) (Or.inl ⟨by rfl, ?_⟩) hS ?_
    case refine_2 => (intro wz hz; go_simp; with_reducible rfl)
    simp only [Act.put, xgT, xgS, xgZ, xsT, xsS, xsZ]
    refine wpAnyH_take (i := 8) (v := ?_) rfl (by kernel_rfl) (by kernel_rfl) (by kernel_rfl) (fun _ _ _ h => h) (Or.inl ⟨by rfl, ?_⟩) hS ?_
    case refine_2 => (intro wz hz; go_simp; with_reducible rfl)
    simp only [Act.put, xgT, xgS, xgZ, xsT, xsS, xsZ]
    refine wpAnyH_take (i := 9) (v := ?_) rfl (by kernel_rfl) (by kernel_rfl) (by kernel_rfl) (fun _ _ _ h => h) (Or.inl ⟨by rfl, ?_⟩) hS ?_
    case refine_2 => (intro wz hz; go_simp; with_reducible rfl)
    simp only [Act.put, xgT, xgS, xgZ, xsT, xsS, xsZ]
    refine wpAnyH_take (i := 10) (v := ?_) rfl (by kernel_rfl) (by kernel_rfl) (by kernel_rfl) (fun _ _ _ h => h) (Or.inl ⟨by rfl, ?_⟩) hS ?_
    case refine_2 => (intro wz hz; go_simp; with_reducible rfl)
    simp only [Act.put, xgT, xgS, xgZ, xsT, xsS, xsZ]
    refine anyH_one (i := 11) (by kernel_rfl) rfl rfl (fun H hH => ?_)
    simp only [xgT, xgS, xgZ]
    go_simp
    have hS8 : JC w g b s A n c bs w.heap.size L (w5.alloc (.cells #[.slice A N c] 32)) := hS.on ((Below.refl _ _).alloc (Nat.le_refl _) _)
    refine hH _ _ hS8 ?_
    clear hH
    refine anyH_one (i := 12) (by kernel_rfl) rfl rfl (fun H hH => ?_)
    simp only [xgT, xgS, xgZ]
    go_simp
    refine (HCK.out w5 hS).mono ?_
    rintro e w9 ⟨rfl, hb9⟩
    have hS9 : JC w g b s A n c bs w.heap.size L w9 := hS.on hb9
    refine hH _ _ hS9 ?_
    clear hH hS hS8 hb9
    refine wpAnyH_take (i := 13) (v := ?_) rfl (by kernel_rfl) (by kernel_rfl) (by kernel_rfl) (fun _ _ _ h => h) (Or.inl ⟨by rfl, ?_⟩) hS9 ?_
    case refine_2 => (intro wz hz; go_simp; with_reducible rfl)
    simp only [Act.put, xgT, xgS, xgZ, xsT, xsS, xsZ]
    refine wpAnyH_take (i := 14) (v := ?_) rfl (by kernel_rfl) (by kernel_rfl) (by kernel_rfl) (fun _ _ _ h => h) (Or.inl ⟨by rfl, ?_⟩) hS9 ?_
    case refine_2 => (intro wz hz; go_simp; with_reducible rfl)
    simp only [Act.put, xgT, xgS, xgZ, xsT, xsS, xsZ]
    refine wpAnyH_done (by kernel_rfl) ?_ _
    refine NoPanic.normal ?_
    have HB9 := Lib.hid hS9.below
    clear hS9 hbd hN190 hm8 H5 H4 H0 H6 H7 H5a
    cases tt with
    | false =>
      have HFIN := Lib.hid (fun w' hb => H4a.out w' H5'.out (fun k => by have := HTT.out.symm; rw [decide_eq_false_iff_not] at this; exact this k) hb)
      clear HTT
      go_wp2
      go_ret3
      exact HFIN.out _ HB9.out
    | true =>
      have HFIN := Lib.hid (fun w' hb => HPOST.out w' (H0a.out H5'.out (of_decide_eq_true HTT.out.symm)) hb)
      clear HTT
      go_wp2
      go_ret3
      exact HFIN.out _ HB9.out
theorem wpS_tail {P : Program} {fn : Func} {c₀ c₁ : Frame} {cs : List Frame} {u : FrameMode} {R : Ending → FrameMode → World → Prop} {R0 : Ending → World → Prop} {c : Code} {a : Act} {w : World}
 (h : c.wp P (bodyPost P fn R0) a w) (hc : c₁ = { c₀ with mode := u }) (hr : ∀ e w', R0 e w' → R e u w') : c.wpS P (bodyPostS P fn c₀ cs R) a (c₁ :: cs) w := by
 subst hc
 refine wpS_of_wp (Code.wp_mono ?_ h)
 intro e a' w' hq
 cases e with
 | normal => obtain ⟨hd, v, h1, h2⟩ := hq; exact ⟨hd, u, rfl, v, h1, hr _ _ h2⟩
 | ret => obtain ⟨hd, v, h1, h2⟩ := hq; exact ⟨hd, u, rfl, v, h1, hr _ _ h2⟩
 | panic chain => obtain ⟨hd, h2⟩ := hq; exact ⟨hd, u, rfl, hr _ _ h2⟩
 | outgrown => exact ⟨u, hr _ _ hq⟩
 | exit id => exact hq.elim
 | goto l => exact hq.elim

set_option maxRecDepth 100000 in
theorem catch_idle (g h : Nat) (w : World) :
 CallsD Tryz.prog 40 #[.pointer (some ⟨g, 0, none⟩), .pointer (some ⟨h, 0, none⟩)] .returning w fun e u' w' => e = .returned (.tuple #[]) ∧ u' = .returning ∧ w' = w := by
 refine callsD_of_wpS Tryz.func40 rfl fun c₀ cs hu => ?_
 simp only [Tryz.ntmps40, List.size_toArray, List.length_cons, List.length_nil, Nat.reduceAdd, Nat.reduceSub, Array.replicate_succ, Array.replicate_zero, List.push_toArray, List.append_toArray, List.nil_append, List.cons_append]
 apply wpS_seq
 apply wpS_region
 simp [wpOpsS, go_sem, recoverD, hu, Exit.thenS]
 refine wpS_tail (R0 := fun e w' => e = .returned (.tuple #[]) ∧ w = w') (u := .returning) ?_ (by rw [← hu]) (fun e w' hh => ⟨hh.1, rfl, hh.2.symm⟩)
 go_wp2
 exact bodyPost_ret (results_none rfl _ _ _) rfl ⟨rfl, rfl⟩
theorem read_results (tmps : Array Value) (w : World) (g h : Nat) (v : Value) (y : Int) (hp : tmps.getD 2 undef = .pointer (some ⟨g, 0, none⟩)) (hq : tmps.getD 3 undef = .pointer (some ⟨h, 0, none⟩)) (hg : w.cell? ⟨g, 0, none⟩ = some v) (hh : w.cell? ⟨h, 0, none⟩ = some (.int .i64 y)) :
 (results Tryz.f23 tmps).run Tryz.prog w = .ok (.tuple #[v, .int .i64 y]) w := by
 have hp' : tmps[2]?.getD undef = .pointer (some ⟨g, 0, none⟩) := by simpa using hp
 have hq' : tmps[3]?.getD undef = .pointer (some ⟨h, 0, none⟩) := by simpa using hq
 have hld : (loadVar 26 ⟨g, 0, none⟩).run Tryz.prog w = .ok v w := by simp [go_sem, hg]
 have hle : (loadVar 33 ⟨h, 0, none⟩).run Tryz.prog w = .ok (.int .i64 y) w := by simp [go_sem, hh]
 simp [results, Tryz.results23, hp', hq', asAddr, hld, hle]
theorem read_through (v : Value) (y : Int) (tmps : Array Value) (g h : Nat) (W : World) (R : Ending → World → Prop) (hp : tmps.getD 2 undef = .pointer (some ⟨g, 0, none⟩)) (hq : tmps.getD 3 undef = .pointer (some ⟨h, 0, none⟩))
 (hg : W.cell? ⟨g, 0, none⟩ = some v) (hh : W.cell? ⟨h, 0, none⟩ = some (.int .i64 y))
 (hR : R (.returned (.tuple #[v, .int .i64 y])) W) :
 bodyPostD Tryz.prog Tryz.f23 R .ret { tmps := tmps, defers := [{ target := .fn (.func 40) #[.pointer (some ⟨g, 0, none⟩), .pointer (some ⟨h, 0, none⟩)], args := #[] }] } W := by
 refine leaves_cons (f := 40) (args := #[.pointer (some ⟨g, 0, none⟩), .pointer (some ⟨h, 0, none⟩)]) (by simp) (by simp [go_sem]) ?_
 refine (catch_idle g h W).mono ?_
 rintro e u' w'' ⟨rfl, rfl, rfl⟩
 exact ⟨_, read_results tmps w'' g h v y hp hq hg hh, hR⟩
abbrev rw0 (w : World) : World := (w.alloc (.cells #[.slice none 0 0] 26)).alloc (.cells #[.int .i64 0] 33)
theorem read_boxes (w : World) : Below w.heap.size w (rw0 w) ∧ BlkV (rw0 w) w.heap.size 26 [.slice none 0 0] ∧ BlkV (rw0 w) (w.heap.size + 1) 33 [.int .i64 0] :=
 ⟨((Below.refl _ _).alloc (Nat.le_refl _) _).alloc (by simp) _, (BlkV.new _ _ _).alloc _, BlkV.new_at _ _ _ _ _ (by simp) rfl⟩
theorem OwnCs.th {w w' : World} {b : Nat} {v : Value} {l : List Ctl} (h : OwnCs w b v l) {row : Option Nat} (hg : w.grownBy w' row) (hr : ∀ p, row = some p → p < b) : OwnCs w' b v l := by
 obtain ⟨css, h1, h2, h3⟩ := h
 exact ⟨css, own_thN h1 hg (fun p hp => .inl (hr p hp)), h2, fun i cs c hi hj => (h3 i cs c hi hj).th hg (fun p hp => .inl (hr p hp))⟩

set_option maxRecDepth 100000 in
theorem read_ok (ps : List (List UInt8 × Ctl)) (A : Option Addr) (n c N : Nat) (w : World) (ht : Tab w) (hw : 0 < w.heap.size) (hN : N = ps.length) (h1 : 1 ≤ N) (h8 : N ≤ 8) (hps : ∀ p ∈ ps, PacketIs p.1 p.2) (hm : ¬ 1200 < n) (hr : RdS w A n c (ps.flatMap (·.1))) :
 Calls Tryz.prog 23 #[.slice A n c] w fun r w' => ∃ A' c', r = .returned (.tuple #[.slice A' N c', .int .i64 0]) ∧ OwnCs w' w.heap.size (.slice A' N c') (ps.map (·.2)) ∧ Below w.heap.size w w' := by
 have hmf : ∀ (fn : Fn) (first cap : Array Value) (w : World), (Instr.makeFunc fn first cap).run Tryz.prog w = .ok (.func fn first cap) w := fun _ _ _ _ => rfl
 obtain ⟨b0, k1, k2⟩ := read_boxes w
 have HP := Lib.hid (compound_ok ps A n c N (rw0 w) (ht.below b0 hw) (Nat.lt_of_lt_of_le hw b0.size) hN h1 h8 hps (hr.below b0))
 have B0 := Lib.hid b0
 have K1 := Lib.hid k1
 have K2 := Lib.hid k2
 have HSZ : Hid ((rw0 w).heap.size = w.heap.size + 2) := Lib.hid (by simp [rw0])
 clear hr hps b0 k1 k2 ht hN
 go_enter_defers Tryz.func23, Tryz.ntmps23
 go_wp2_with (first
  | (go_at_call 41; ((with_reducible refine (refuse_no _ _ _ ?_).mono ?_); (first | rfl | assumption | (simp; omega)); rintro e w' ⟨rfl, rfl⟩))
  | (go_at_call 42; ((with_reducible refine (Hid.out HP).mono ?_); rintro e w4 ⟨A4, c4, rfl, ho4, hb4⟩; have O4 := Lib.hid ho4; have B4 := Lib.hid hb4; have k1 := K1.out.below hb4 (by have := HSZ.out; omega); have k2 := K2.out.below hb4 (by have := HSZ.out; omega); have hf1 := k1.frozen 0; have hf2 := k2.frozen 0; have hc1 : w4.cell? ⟨w.heap.size, 0, none⟩ = some (.slice none 0 0) := (k1.cell 0).trans rfl; have hc2 : w4.cell? ⟨w.heap.size + 1, 0, none⟩ = some (.int .i64 0) := (k2.cell 0).trans rfl; clear ho4 hb4)))
 have hsz := HSZ.out
 have j1 := k1.set_ 0 (.slice A4 N c4)
 have j2 := k2.far (p := ⟨w.heap.size, 0, none⟩) (show w.heap.size + 1 ≠ w.heap.size by omega) (.slice A4 N c4)
 have m1 := j1.far (p := ⟨w.heap.size + 1, 0, none⟩) (show w.heap.size ≠ w.heap.size + 1 by omega) (.int .i64 0)
 have m2 := j2.set_ 0 (.int .i64 0)
 have o5 := Only.set w4 w.heap.size 0 (.slice A4 N c4)
 have o6 := Only.set (w4.setCell ⟨w.heap.size, 0, none⟩ (.slice A4 N c4)) (w.heap.size + 1) 0 (.int .i64 0)
 exact read_through (.slice A4 N c4) 0 _ _ _ _ _ rfl rfl ((m1.cell 0).trans rfl) ((m2.cell 0).trans rfl) ⟨A4, c4, rfl, ((O4.out.th o5.grown (fun p hp => by injection hp with hp; omega)).th o6.grown (fun p hp => by injection hp with hp; omega)).mono (by omega),
  ((B0.out.trans (B4.out.mono (by omega))).trans (o5.below (Nat.le_refl _))).trans (o6.below (by omega))⟩
theorem flat_fst (l : List Ctl) : (l.map fun c => (wr1 c, c)).flatMap (·.1) = wrL l := by
 induction l with
 | nil => rfl
 | cons a r ih => simp only [List.map_cons, List.flatMap_cons, wrL] at ih ⊢; rw [ih]
theorem map_snd (l : List Ctl) : (l.map fun c => (wr1 c, c)).map (·.2) = l := by
 induction l with
 | nil => rfl
 | cons a r ih => simp only [List.map_cons] at ih ⊢; rw [ih]
theorem read_ownL (l : List Ctl) (hok : wOK l) (hf : ∀ c ∈ l, c.fit) (A : Option Addr) (N c n : Nat) (w : World) (ht : Tab w) (hw : 0 < w.heap.size) (hn : l.length = n) (hN : N = (wrL l).length) (hr : RdS w A N c (wrL l)) :
 Calls Tryz.prog 23 #[.slice A N c] w fun r w' => ∃ A' c', r = .returned (.tuple #[.slice A' n c', .int .i64 0]) ∧ OwnCs w' w.heap.size (.slice A' n c') l ∧ Below w.heap.size w w' := by
 obtain ⟨⟨h1, h8⟩, hm, h1200⟩ := hok
 refine (read_ok (l.map fun c => (wr1 c, c)) A N c n w ht hw (by rw [List.length_map, hn]) (by omega) (by omega) (fun p hp => ?_) (by omega) (by rw [flat_fst]; exact hr)).mono ?_
 · obtain ⟨c, hc, rfl⟩ := List.mem_map.1 hp
   exact pk_any c (hf c hc) (hm c hc)
 · rintro r w' ⟨A', c', rfl, ho, hb⟩
   rw [map_snd] at ho
   exact ⟨A', c', rfl, ho, hb⟩
theorem OwnC.fr {w w2 : World} {F : Nat → Prop} {b : Nat} {cs : List Value} {c : Ctl} (h : OwnC w b cs c) (hf : Fr F w w2) (hF : ∀ k, F k → k < b) : OwnC w2 b cs c := by
 obtain ⟨A, a, B, b', C, c', D, d, E, e, h0, h1, h2, h3, h4, h5⟩ := h
 exact ⟨A, a, B, b', C, c', D, d, E, e, h0, own_fr h1 hf (fun k hk hf2 => by have := (h1.lt k hk).1; have := hF k hf2; omega), own_fr h2 hf (fun k hk hf2 => by have := (h2.lt k hk).1; have := hF k hf2; omega), own_fr h3 hf (fun k hk hf2 => by have := (h3.lt k hk).1; have := hF k hf2; omega), own_fr h4 hf (fun k hk hf2 => by have := (h4.lt k hk).1; have := hF k hf2; omega), own_fr h5 hf (fun k hk hf2 => by have := (h5.lt k hk).1; have := hF k hf2; omega)⟩
theorem OwnCs.fr {w w2 : World} {F : Nat → Prop} {b : Nat} {v : Value} {l : List Ctl} (h : OwnCs w b v l) (hf : Fr F w w2) (hF : ∀ k, F k → k < b) : OwnCs w2 b v l := by
 obtain ⟨css, h1, h2, h3⟩ := h
 exact ⟨css, own_fr h1 hf (fun k hk hf2 => by have := (h1.lt k hk).1; have := hF k hf2; omega), h2, fun i cs c hi hj => (h3 i cs c hi hj).fr hf hF⟩
def OpenNo (p : Value) (s : Wc) (F : Nat → Prop) (q : Int) (w : World) (e : Ending) (w' : World) : Prop :=
 e = .returned (.tuple #[.slice none 0 0, .int .u32 0, .int .i64 q]) ∧ RC w' p s F ∧ Below w.heap.size w w'
def OpenOk (p : Value) (s2 : Wc) (F : Nat → Prop) (so : Nat) (l : List Ctl) (w : World) (e : Ending) (w' : World) : Prop :=
 ∃ A n c base, l.length = n ∧ e = .returned (.tuple #[.slice A n c, .int .u32 (so : Int), .int .i64 0]) ∧ OwnCs w' base (.slice A n c) l ∧ w.heap.size ≤ base ∧ (∀ k, F k → k < base) ∧ RC w' p s2 F ∧ Fr F w w'
set_option maxRecDepth 100000 in
set_option maxHeartbeats 1000000 in
theorem open16_no (p : Value) (s : Wc) (F : Nat → Prop) (A : Option Addr) (n c : Nat) (bs : List UInt8) (w : World) (h : RC w p s F) (ht : Tabs w) (hg : s.good) (hr : RdS w A n c bs) (h1 : whyC s.y bs ≠ 0) :
 Calls Tryz.prog 9 #[p, .slice A n c] w (OpenNo p s F (whyC s.y bs) w) := by
 have hk := h
 obtain ⟨g, b, rfl, hw, hFF⟩ := h
 have HNO := Lib.hid (fun w' (hb : Below w.heap.size w w') => rc_lone.below hk hb)
 have HJ := Lib.hid ((judge16_any g b s A n c bs _ hw ht hg.1 hr).mono (R' := fun e w' => e = .returned (.tuple #[.int .u32 0, .int .i64 0, .int .i64 (whyC s.y bs)]) ∧ Below w.heap.size w w') (fun e w' k => ⟨k.1.2 h1, k.2⟩))
 obtain ⟨q, hq⟩ : ∃ q, q = whyC s.y bs := ⟨_, rfl⟩
 rw [← hq] at HJ h1 ⊢
 have hq1 : (q == 0) = false := by simpa using h1
 have hq2 : (q = 0) = False := by simpa using h1
 have hq3 : (q != 0) = true := by simpa using h1
 clear hw ht hg hr hq hFF hk h1
 go_enter Tryz.func9, Tryz.ntmps9
 go_wp2_with (go_at_call 21; ((with_reducible refine (Hid.out HJ).mono ?_); rintro e w1 ⟨rfl, hb1⟩; have HB1 := Lib.hid hb1; clear hb1))
 go_ret3
 exact ⟨rfl, HNO.out _ HB1.out, HB1.out⟩
structure ZC (w : World) (F : Nat → Prop) (g b : Nat) (s : Wc) (A : Option Addr) (n c : Nat) (bs : List UInt8) (wx : World) : Prop where
 way : PCtl wx g b s
 rd : RdS wx A n c bs
 tab : Tabs wx
 fr : Fr F w wx
section
variable {w wx wy : World} {F G : Nat → Prop} {g b : Nat} {s s2 : Wc} {A : Option Addr} {n c : Nat} {bs : List UInt8}
theorem ZC.on (h : ZC w F g b s A n c bs wx) (hb : Below wx.heap.size wx wy) : ZC w F g b s A n c bs wy :=
 ⟨h.way.below hb, h.rd.below hb, h.tab.below hb, h.fr.then hb⟩
theorem ZC.turn (h : ZC w F g b s A n c bs wx) (hf : Fr G wx wy) (hG : ∀ k, G k → F k) (hoff : 0 < n → ∀ ad, A = some ad → ¬ F ad.block) (hT : OffT F) (hw : PCtl wy g b s2) : ZC w F g b s2 A n c bs wy where
 way := hw
 rd := h.rd.fr hf (fun h0 ad hA k => hoff h0 ad hA (hG _ k))
 tab := h.tab.fr hf ⟨fun k => hT.1 (hG _ k), fun k => hT.2 (hG _ k)⟩
 fr := h.fr.trans hf (fun i hi => .inl (hG i hi))
end
set_option maxRecDepth 100000 in
set_option maxHeartbeats 1000000 in
theorem open16_ok (p : Value) (s : Wc) (F : Nat → Prop) (A : Option Addr) (n c : Nat) (bs : List UInt8) (l : List Ctl) (w : World) (h : RC w p s F) (ht : Tabs w) (hg : s.good) (hu : s.y.used + 1 ≤ 900) (hr : RdS w A n c bs) (h1 : whyC s.y bs = 0) (hp : plainC s.y bs = wrL l) (hok : wOK l) (hfit : ∀ c ∈ l, c.fit) (hoff : 0 < n → ∀ ad, A = some ad → ¬ F ad.block ∧ ad.block < w.heap.size) :
 Calls Tryz.prog 9 #[p, .slice A n c] w (OpenOk p ⟨openC s.y bs, s.nx⟩ F (soC bs) l w) := by
 obtain ⟨g, b, rfl, hw, hFF⟩ := h
 have HFF := Lib.hid hFF
 have HFg : Hid (F g) := Lib.hid (by rw [hFF]; exact .inl rfl)
 have HFb : Hid (F b) := Lib.hid (by rw [hFF]; exact .inr rfl)
 have HFL : Hid (∀ k, F k → k < w.heap.size) := Lib.hid (fun k hk => by
  rw [hFF] at hk
  rcases hk with rfl | rfl
  · exact hw.bk.lt
  · exact hw.m.lt)
 have HT : Hid (OffT F) := Lib.hid (by rw [hFF]; exact hw.off hg.1.1 ht)
 have HOFF : Hid (0 < n → ∀ ad, A = some ad → ¬ F ad.block) := Lib.hid (fun h0 ad hA => (hoff h0 ad hA).1)
 have HE0 : Hid (ZC w F g b s A n c bs w) := Lib.hid ⟨hw, hr, ht, Fr.refl _ _⟩
 obtain ⟨a1, a2, a3, a4, a5, a6, a7⟩ := whyC_zero h1
 have hgo := good_openC hg.1 hu h1
 have hln := hr.len
 have hle := hr.le
 have hcm : c ≤ 9223372036854775807 := hr.small.2
 obtain ⟨SO, hSO⟩ : ∃ SO, SO = soC bs := ⟨_, rfl⟩
 have lSO : SO < 4294967296 := hSO ▸ soC_lt bs
 obtain ⟨I, hI⟩ : ∃ I, I = idC bs := ⟨_, rfl⟩
 have lI : I < 2147483648 := hI ▸ idC_lt bs
 obtain ⟨N, hN⟩ : ∃ x, x = bs.length - 14 := ⟨_, rfl⟩
 have hN8 : 8 ≤ N ∧ N ≤ 1186 := by omega
 have HNn := Lib.hid (show N ≤ n by omega)
 have eN : (n : Int) - 14 = (N : Int) := by omega
 have ewN : IntKind.i64.wrap (N : Int) = (N : Int) := IntWalk.i64_in _ (by omega)
 have hNc : N ≤ c := by omega
 have h8c : (8 : Int) ≤ (c : Int) := by omega
 have HJ := Lib.hid ((judge16_any g b s A n c bs _ hw ht hg.1 hr).mono (R' := fun e w' => e = .returned (.tuple #[.int .u32 (SO : Int), .int .i64 (I : Int), .int .i64 0]) ∧ Below w.heap.size w w') (fun e w' k => ⟨by rw [hSO, hI]; exact k.1.1 h1, k.2⟩))
 have HG := Lib.hid hg
 obtain ⟨U, hU⟩ : ∃ U, U = s.y.used := ⟨_, rfl⟩
 have HUU := Lib.hid hU
 have hU9 : 0 ≤ U ∧ U + 1 ≤ 900 := by rw [hU]; exact ⟨hg.1.1.2.2.2.2.1, hu⟩
 have HY1 : Hid (Wy.fit { s.y with used := U + 1 }) := Lib.hid (by
  obtain ⟨k1, k2, k3, k4, k5, k6, k7⟩ := hg.1.1
  exact ⟨k1, k2, k3, k4, by show 0 ≤ U + 1; omega, k6, k7⟩)
 have hbd := highW_bd hg.1 SO
 rw [highW_win] at hbd
 have hyO : openC s.y bs = { s.y with used := U + 1, ws := markW s.y.ws SO (I : Int) } := by unfold openC; rw [hU, hSO, hI]
 rw [hyO] at hgo
 have HY2 : Hid (Wy.fit { s.y with used := U + 1, ws := markW s.y.ws SO (I : Int) }) := Lib.hid hgo.1
 rw [hyO, ← hSO]
 have HMK : Hid (∀ W, PCtl W g b ⟨{ s.y with used := U + 1 }, s.nx⟩ → Calls Tryz.prog 22 #[.pointer (some ⟨g, 0, none⟩), .int .u32 (SO : Int), .int .i64 (I : Int)] W fun e w' => e = .returned (.tuple #[]) ∧ PCtl w' g b ⟨{ s.y with used := U + 1, ws := markW s.y.ws SO (I : Int) }, s.nx⟩ ∧ Fr (fun k => k = b) W w') := Lib.hid (fun W k => mark16_any g b ⟨{ s.y with used := U + 1 }, s.nx⟩ SO (I : Int) W k HY1.out lSO (by omega) (show hiL (winW s.y.ws SO) ≤ _ by omega))
 obtain ⟨s2, hs2⟩ : ∃ s2 : Wc, s2 = ⟨{ s.y with used := U + 1, ws := markW s.y.ws SO (I : Int) }, s.nx⟩ := ⟨_, rfl⟩
 have HY2' : Hid (s2.y.fit) := Lib.hid (by rw [hs2]; exact HY2.out)
 have HKS : Hid (s2.y.key = s.y.key ∧ s2.y.salt = s.y.salt) := Lib.hid (by rw [hs2]; exact ⟨rfl, rfl⟩)
 rw [← hs2] at HMK ⊢
 have hfl : [(bs.take N).take 8, cph s2.y.key (firstC s2.y.salt (soC (bs.take N)) I) ((bs.take N).drop 8)].flatten = wrL l := by
  rw [← hp, HKS.out.1, HKS.out.2]
  simp [plainC, turnC, hN, hI]
 have hPL : (wrL l).length = N := by
  rw [← hp]
  unfold plainC
  rw [turnC_len _ _ (by rw [List.length_take]; omega), List.length_take]
  omega
 have HTU : Hid (∀ W, PCtl W g b s2 → RdS W A N c (bs.take N) → Calls Tryz.prog 19 #[.pointer (some ⟨g, 0, none⟩), .slice A N c, .int .i64 (I : Int)] W fun e w' => ∃ v, e = .returned v ∧ w'.ownsRow W.heap.size 5 1 v (N - 8) (cells (cph s2.y.key (firstC s2.y.salt (soC (bs.take N)) I) ((bs.take N).drop 8))) ∧ Below W.heap.size W w') := Lib.hid (fun W k hr => turned16_any g b s2 A N c (bs.take N) I W k HY2'.out hr (by omega) (by omega) (by omega))
 have HCC : Hid (∀ W A6 c6, ZC w F g b s2 A n c bs W → RdS W A6 (N - 8) c6 (cph s2.y.key (firstC s2.y.salt (soC (bs.take N)) I) ((bs.take N).drop 8)) → Calls Tryz.prog 24 #[.slice (some ⟨W.heap.size, 0, none⟩) 2 2] (W.alloc (.cells #[.slice A 8 c, .slice A6 (N - 8) c6] 32)) fun e w' => ∃ A' c', e = .returned (.slice A' N c') ∧ BO W w' A' N c' (wrL l)) := Lib.hid (fun W A6 c6 k h6 => concat2_own W A A6 8 (N - 8) c c6 N _ _ _ ((k.rd.headR N HNn.out).headR 8 (by omega)) h6 (by rw [← hfl]; simp) hPL.symm (by omega))
 have HRE : Hid (∀ W A' c', ZC w F g b s2 A n c bs W → RdS W A' N c' (wrL l) → Calls Tryz.prog 23 #[.slice A' N c'] W fun e w' => ∃ A2 c2, e = .returned (.tuple #[.slice A2 l.length c2, .int .i64 0]) ∧ OwnCs w' W.heap.size (.slice A2 l.length c2) l ∧ Below W.heap.size W w') := Lib.hid (fun W A' c' k hr => read_ownL l hok hfit A' N c' l.length W k.tab.r k.tab.lt rfl hPL.symm hr)
 obtain ⟨m, hm⟩ : ∃ m, m = l.length := ⟨_, rfl⟩
 rw [← hm] at HRE
 have HM := Lib.hid hm
 have HD : Hid (∀ W, PCtl W g b s → W.cell? ⟨g, 51, none⟩ = some (.int .i64 U) ∧ W.frozen? ⟨g, 51, none⟩ = false) := Lib.hid (fun W k => ⟨by rw [hU]; exact (k.cells_ hg.1.1).2.1, k.bk.frozen 51⟩)
 have HU2 : Hid (∀ W, PCtl W g b s → PCtl (W.setCell ⟨g, 51, none⟩ (.int .i64 (U + 1))) g b ⟨{ s.y with used := U + 1 }, s.nx⟩) := Lib.hid (fun W k => k.used hg.1.1 (U + 1))
 clear hw hFF ht hg hu hr h1 hoff hgo hln hle hSO hI hN hU hbd hyO hs2 hp hok hfit a1 a2 a3 a4 a5 a6 a7 hfl hPL hm HY2 HY1
 go_enter Tryz.func9, Tryz.ntmps9
 go_upto_region 4 with (go_at_call 21; ((with_reducible refine (Hid.out HJ).mono ?_); rintro e w1 ⟨rfl, hb1⟩; have HE1 := Lib.hid (HE0.out.on hb1); clear hb1))
 clear HE0 HJ
 obtain ⟨d51, g51⟩ := HD.out w1 HE1.out.way
 have ho2 := Only.set w1 g 51 (.int .i64 (U + 1))
 have HE2 : Hid (ZC w F g b ⟨{ s.y with used := U + 1 }, s.nx⟩ A n c bs (w1.setCell ⟨g, 51, none⟩ (.int .i64 (U + 1)))) := Lib.hid (HE1.out.turn (Fr.of_only (F := fun k => k = g) ho2 rfl) (fun k e => e ▸ HFg.out) HOFF.out HT.out (HU2.out w1 HE1.out.way))
 obtain ⟨U1, hU1⟩ : ∃ x, x = U + 1 := ⟨_, rfl⟩
 have eU : IntKind.i64.wrap (U + 1) = U1 := by rw [hU1]; exact IntWalk.i64_in _ (by omega)
 rw [← hU1] at HE2 HMK
 clear hU1 ho2 HD HU2
 go_upto_region 5 with (fail)
 obtain ⟨w2, hw2⟩ : ∃ x, x = w1.setCell ⟨g, 51, none⟩ (.int .i64 U1) := ⟨_, rfl⟩
 rw [← hw2] at HE2 ⊢
 clear hw2 d51 g51 HE1
 go_upto_region 7 with (go_at_call 22; ((with_reducible refine (HMK.out w2 HE2.out.way).mono ?_); rintro e w3 ⟨rfl, hw3, hf3⟩; have HE3 := Lib.hid (HE2.out.turn hf3 (fun k e => e ▸ HFb.out) HOFF.out HT.out hw3); clear hw3 hf3))
 clear HE2 HMK
 refine wp_region_noPanic ?_
 refine wp_region_held (S := fun wx => ZC w F g b s2 A n c bs wx) (by kernel_rfl) ?_
 change wpAnyH _ _ _ _ _ _ _ _ (World.drew _)
 obtain ⟨w4, hw4⟩ : ∃ x, x = w3.drew := ⟨_, rfl⟩
 rw [← hw4]
 have hS : ZC w F g b s2 A n c bs w4 := hw4 ▸ HE3.out.on (Below.refl _ _).drew
 clear hw4 HE3
 refine wpAnyH_take (i := 0) (v := ?_) rfl (by kernel_rfl) (by kernel_rfl) (by kernel_rfl) (fun _ _ _ h => h) (Or.inl ⟨by rfl, ?_⟩) hS ?_
 case refine_2 => (intro wz hz; go_simp; with_reducible rfl)
 simp only [Act.put, xgT, xgZ, xsT, xsS, xsZ]
 refine wpAnyH_take (i := 1) (v := ?_) rfl (by kernel_rfl) (by kernel_rfl) (by kernel_rfl) (fun _ _ _ h => h) (Or.inl ⟨by rfl, ?_⟩) hS ?_
 case refine_2 => (intro wz hz; go_simp; with_reducible rfl)
 simp only [Act.put, xgT, xgS, xgZ, xsT, xsS, xsZ]
 refine wpAnyH_take (i := 2) (v := ?_) rfl (by kernel_rfl) (by kernel_rfl) (by kernel_rfl) (fun _ _ _ h => h) (Or.inl ⟨by rfl, ?_⟩) hS ?_
 case refine_2 => (intro wz hz; go_simp; with_reducible rfl)
 simp only [Act.put, xgT, xgS, xgZ, xsT, xsS, xsZ]
 refine wpAnyH_take (i := 3) (v := ?_) rfl (by kernel_rfl) (by kernel_rfl) (by kernel_rfl) (fun _ _ _ h => h) (Or.inl ⟨by rfl, ?_⟩) hS ?_
 case refine_2 => (intro wz hz; go_simp; with_reducible rfl)
 simp only [Act.put, xgT, xgS, xgZ, xsT, xsS, xsZ]
 refine wpAnyH_take (i := 4) (v := ?_) rfl (by kernel_rfl) (by kernel_rfl) (by kernel_rfl) (fun _ _ _ h => h) (Or.inl ⟨by rfl, ?_⟩) hS ?_
 case refine_2 => (intro wz hz; go_simp; with_reducible rfl)
 simp only [Act.put, xgT, xgS, xgZ, xsT, xsS, xsZ]
 refine anyH_one (i := 5) (by kernel_rfl) rfl rfl (fun H hH => ?_)
 simp only [xgT, xgS, xgZ]
 go_simp
 refine (HTU.out w4 hS.way (hS.rd.headR N HNn.out)).mono ?_
 rintro e w5 ⟨v5, rfl, ho5, hb5⟩
 obtain ⟨A5, c5, hv5⟩ := own_formN ho5
 subst hv5
 have hS5 := hS.on hb5
 have HR5 := Lib.hid (RdS.of_own ho5)
 refine hH _ _ hS5 ?_
 clear hH hS ho5 hb5
 refine anyH_one (i := 6) (by kernel_rfl) rfl rfl (fun H hH => ?_)
 simp only [xgT, xgS, xgZ]
 go_simp
 have hS6 := hS5.on ((Below.refl w5.heap.size w5).alloc (Nat.le_refl _) (.cells #[.slice A 8 c, .slice A5 (N - 8) c5] 32))
 refine hH _ _ hS6 ?_
 clear hH
 refine anyH_one (i := 7) (by kernel_rfl) rfl rfl (fun H hH => ?_)
 simp only [xgT, xgS, xgZ]
 go_simp
 refine (HCC.out w5 A5 c5 hS5 HR5.out).mono ?_
 rintro e w7 ⟨A7, c7, rfl, ho7⟩
 have hS7 := hS5.on ho7.2
 have HR7 := Lib.hid ho7.rd
 refine hH _ _ hS7 ?_
 clear hH hS5 hS6 ho7
 refine anyH_one (i := 8) (by kernel_rfl) rfl rfl (fun H hH => ?_)
 simp only [xgT, xgS, xgZ]
 go_simp
 refine (HRE.out w7 A7 c7 hS7 HR7.out).mono ?_
 rintro e w8 ⟨A8, c8, rfl, ho8, hb8⟩
 have hS8 := hS7.on hb8
 have HO8 := Lib.hid ho8
 have HSZ : Hid (w.heap.size ≤ w7.heap.size) := Lib.hid hS7.fr.size
 refine hH _ _ hS8 ?_
 clear hH hS7 ho8 hb8
 refine wpAnyH_take (i := 9) (v := ?_) rfl (by kernel_rfl) (by kernel_rfl) (by kernel_rfl) (fun _ _ _ h => h) (Or.inl ⟨by rfl, ?_⟩) hS8 ?_
 case refine_2 => (intro wz hz; go_simp; with_reducible rfl)
 simp only [Act.put, xgT, xgS, xgZ, xsT, xsS, xsZ]
 refine wpAnyH_take (i := 10) (v := ?_) rfl (by kernel_rfl) (by kernel_rfl) (by kernel_rfl) (fun _ _ _ h => h) (Or.inl ⟨by rfl, ?_⟩) hS8 ?_
 case refine_2 => (intro wz hz; go_simp; with_reducible rfl)
 simp only [Act.put, xgT, xgS, xgZ, xsT, xsS, xsZ]
 refine wpAnyH_take (i := 11) (v := ?_) rfl (by kernel_rfl) (by kernel_rfl) (by kernel_rfl) (fun _ _ _ h => h) (Or.inl ⟨by rfl, ?_⟩) hS8 ?_
 case refine_2 => (intro wz hz; go_simp; with_reducible rfl)
 simp only [Act.put, xgT, xgS, xgZ, xsT, xsS, xsZ]
 refine wpAnyH_take (i := 12) (v := ?_) rfl (by kernel_rfl) (by kernel_rfl) (by kernel_rfl) (fun _ _ _ h => h) (Or.inl ⟨by rfl, ?_⟩) hS8 ?_
 case refine_2 => (intro wz hz; go_simp; with_reducible rfl)
 simp only [Act.put, xgT, xgS, xgZ, xsT, xsS, xsZ]
 refine wpAnyH_take (i := 13) (v := ?_) rfl (by kernel_rfl) (by kernel_rfl) (by kernel_rfl) (fun _ _ _ h => h) (Or.inl ⟨by rfl, ?_⟩) hS8 ?_
 case refine_2 => (intro wz hz; go_simp; with_reducible rfl)
 simp only [Act.put, xgT, xgS, xgZ, xsT, xsS, xsZ]
 refine wpAnyH_done (by kernel_rfl) ?_ _
 refine NoPanic.normal ?_
 have HS8 := Lib.hid hS8
 clear hS8
 go_wp2
 go_ret3
 exact ⟨A8, m, c8, w7.heap.size, HM.out.symm, rfl, HO8.out, HSZ.out, fun k hk => Nat.lt_of_lt_of_le (HFL.out k hk) HSZ.out, ⟨g, b, rfl, HS8.out.way, HFF.out⟩, HS8.out.fr⟩
def newC (key salt : List UInt8) (limit : Int) : Wc := ⟨⟨drv key salt 3 16, drv key salt 4 20, drv key salt 5 14, limit, 0, []⟩, 0⟩
theorem newC_ks (key salt : List UInt8) (limit : Int) : (newC key salt limit).y.ks = kys key salt 3 := rfl
theorem newC_good (key salt : List UInt8) (limit : Int) (h : -9223372036854775808 ≤ limit ∧ limit ≤ 9223372036854775807) : (newC key salt limit).good :=
 ⟨⟨⟨drv_len _ _ _ _, drv_len _ _ _ _, drv_len _ _ _ _, h, Int.le_refl _, by simp [newC], fun x hx => nomatch hx⟩, by simp [newC], fun x hx => nomatch hx⟩, Int.le_refl _, by simp [newC]⟩
set_option maxRecDepth 100000 in
set_option maxHeartbeats 1000000 in
theorem run_wayC (K : List UInt8) (hk : K.length = 50) (limit : Int) (b : Nat) (w : World) :
 (Instr.build 66 #[(0, .agg (cells K).toArray), (1, .int .i64 limit), (4, .map (some b))]).run Tryz.prog w = .ok (.agg (cells K ++ ([.int .i64 limit, .int .i64 0, .int .i64 0, .map (some b)] : List Value)).toArray) w := by
 obtain ⟨x0, x1, x2, x3, x4, x5, x6, x7, x8, x9, x10, x11, x12, x13, x14, x15, x16, x17, x18, x19, x20, x21, x22, x23, x24, x25, x26, x27, x28, x29, x30, x31, x32, x33, x34, x35, x36, x37, x38, x39, x40, x41, x42, x43, x44, x45, x46, x47, x48, x49, rfl⟩ := list50 hk
 kernel_rfl
set_option maxRecDepth 100000 in
theorem new16_any (key salt : List UInt8) (limit : Int) (w : World) (hk : key.length = 16) (hs : salt.length = 14) :
 Calls Tryz.prog 7 #[.agg (cells (mst key salt)).toArray, .int .i64 limit] w fun e w' => ∃ p F, e = .returned p ∧ RC w' p (newC key salt limit) F ∧ (∀ k, F k → w.heap.size ≤ k) ∧ Below w.heap.size w w' := by
 have hB : BlkV (w.alloc (.cells (cells (mst key salt)).toArray 25)) w.heap.size 25 (cells (mst key salt)) := BlkV.new _ _ _
 have HB0 : Hid (Below w.heap.size w (w.alloc (.cells (cells (mst key salt)).toArray 25))) := Lib.hid ((Below.refl _ _).alloc (Nat.le_refl _) _)
 have HML : Hid ((cells (mst key salt)).length = 30) := Lib.hid (by rw [length_cells, mst_len key salt hk hs])
 have HKY := Lib.hid (fun W => rtcp_any key salt W hk hs)
 have HBU := Lib.hid (fun b => run_wayC (kys key salt 3) (kys_len _ _ _) limit b)
 have RG := Lib.hid (hB.range 0 (cells (mst key salt)) (fun i _ => by rw [Nat.zero_add]))
 have RT : Hid (RowTy Tryz.prog 25 (cells (mst key salt)).length) := Lib.hid (row30 HML.out)
 have hmm := @run_makeMap Tryz.prog
 obtain ⟨M, hM⟩ : ∃ M, M = cells (mst key salt) := ⟨_, rfl⟩
 obtain ⟨K, hK⟩ : ∃ K, K = cells (kys key salt 3) := ⟨_, rfl⟩
 rw [← hM] at HB0 HML HKY RG RT ⊢
 rw [← hK] at HBU
 simp only [← hK] at HKY
 have HK := Lib.hid hK
 clear hB hk hs hM hK
 go_enter Tryz.func7, Tryz.ntmps7
 go_wp2_with (first
  | (with_reducible refine wpList_ld rfl 25 (.tmp 2) rfl w.heap.size 0 rfl M RG.out RT.out ?_)
  | (go_at_call 15; ((with_reducible refine (HKY.out _).mono ?_); rintro e w1 ⟨rfl, hb1⟩; have HB1 := Lib.hid (HB0.out.trans (hb1.mono HB0.out.size)); clear hb1))
  | (with_reducible refine wpList_built3y rfl 66 0 1 4 (.tmp 6) (.tmp 7) (.tmp 8) rfl (.agg K.toArray) (.int .i64 limit) (.map (some w1.heap.size)) (.agg (K ++ ([.int .i64 limit, .int .i64 0, .int .i64 0, .map (some w1.heap.size)] : List Value)).toArray) rfl rfl rfl (HBU.out w1.heap.size _) ?_))
 go_ret
 have hs := size_alloc w1 (.map #[] 0)
 refine ⟨_, _, rfl, ⟨w1.heap.size + 1, w1.heap.size, rfl, ⟨?_, ?_⟩, rfl⟩, ?_, (HB1.out.alloc HB1.out.size _).alloc (by have := HB1.out.size; omega) _⟩
 · rw [newC_ks, ← HK.out]
   exact BlkV.new_at _ _ _ _ _ hs.symm rfl
 · exact (MapW.made w1).below ((Below.refl _ _).alloc (Nat.le_refl _) _)
 · intro k hk
   have := HB1.out.size
   rcases hk with rfl | rfl <;> omega
set_option maxRecDepth 100000 in
set_option maxHeartbeats 1000000 in
theorem run_wayR (K : List UInt8) (hk : K.length = 50) (limit : Int) (w : World) :
 (Instr.build 46 #[(0, .agg (cells K).toArray), (1, .int .i64 limit)]).run Tryz.prog w = .ok (.agg (cells K ++ ([.int .i64 limit, .int .i64 0, .int .i64 0, .slice none 0 0, .slice none 0 0] : List Value)).toArray) w := by
 obtain ⟨x0, x1, x2, x3, x4, x5, x6, x7, x8, x9, x10, x11, x12, x13, x14, x15, x16, x17, x18, x19, x20, x21, x22, x23, x24, x25, x26, x27, x28, x29, x30, x31, x32, x33, x34, x35, x36, x37, x38, x39, x40, x41, x42, x43, x44, x45, x46, x47, x48, x49, rfl⟩ := list50 hk
 kernel_rfl
theorem rnew16_any (key salt : List UInt8) (limit : Int) (w : World) (hk : key.length = 16) (hs : salt.length = 14) :
 Calls Tryz.prog 11 #[.agg (cells (mst key salt)).toArray, .int .i64 limit] w fun e w' => ∃ q cs, e = .returned (.pointer (some ⟨q, 0, none⟩)) ∧ BlkV w' q 46 (cells (kys key salt 3) ++ cs) ∧ Below w.heap.size w w' := by
 have hB : BlkV (w.alloc (.cells (cells (mst key salt)).toArray 25)) w.heap.size 25 (cells (mst key salt)) := BlkV.new _ _ _
 have HB0 : Hid (Below w.heap.size w (w.alloc (.cells (cells (mst key salt)).toArray 25))) := Lib.hid ((Below.refl _ _).alloc (Nat.le_refl _) _)
 have HML : Hid ((cells (mst key salt)).length = 30) := Lib.hid (by rw [length_cells, mst_len key salt hk hs])
 have HKY := Lib.hid (fun W => rkeys_any key salt 3 3 W hk hs (by omega) rfl)
 have HBU := Lib.hid (run_wayR (kys key salt 3) (kys_len _ _ _) limit)
 have RG := Lib.hid (hB.range 0 (cells (mst key salt)) (fun i _ => by rw [Nat.zero_add]))
 have RT : Hid (RowTy Tryz.prog 25 (cells (mst key salt)).length) := Lib.hid (row30 HML.out)
 obtain ⟨M, hM⟩ : ∃ M, M = cells (mst key salt) := ⟨_, rfl⟩
 obtain ⟨K, hK⟩ : ∃ K, K = cells (kys key salt 3) := ⟨_, rfl⟩
 rw [← hM] at HB0 HML HKY RG RT ⊢
 rw [← hK] at HBU ⊢
 simp only [← hK] at HKY
 clear hB hk hs hM hK
 go_enter Tryz.func11, Tryz.ntmps11
 go_wp2_with (first
  | (with_reducible refine wpList_ld rfl 25 (.tmp 2) rfl w.heap.size 0 rfl M RG.out RT.out ?_)
  | (go_at_call 26; ((with_reducible refine (HKY.out _).mono ?_); rintro e w1 ⟨rfl, hb1⟩; have HB1 := Lib.hid (HB0.out.trans (hb1.mono HB0.out.size)); clear hb1))
  | (with_reducible refine wpList_built2y rfl 46 0 1 (.tmp 6) (.tmp 7) rfl (.agg K.toArray) (.int .i64 limit) (.agg (K ++ ([.int .i64 limit, .int .i64 0, .int .i64 0, .slice none 0 0, .slice none 0 0] : List Value)).toArray) rfl rfl (HBU.out _) ?_))
 go_ret
 exact ⟨w1.heap.size, _, rfl, BlkV.new _ _ _, HB1.out.alloc HB1.out.size _⟩
end Go.Proofs.YtheefckohnaceaaGreatDoor
