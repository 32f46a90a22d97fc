/- Several texts in one: plain words and walks. No statement is proved here. -/
import Derived.Test.YtmkeioeodlidgaaGreatDoorZM29
import Derived.Test.YtmkeioeodlidgaaGreatDoorZM14
import Derived.Test.YtmkeioeodlidgaaGreatDoorZM21
namespace Go.Proofs.YtmkeioeodlidgaaGreatDoor
open List renaming getElem_toArray → xgT, getElem_cons_succ → xgS, getElem_cons_zero → xgZ, setIfInBounds_toArray → xsT, set_cons_succ → xsS, set_cons_zero → xsZ
open Go.RowKit
set_option linter.unusedVariables false

theorem conv_rdW {w : World} {A : Option Addr} {n c : Nat} {bs : List UInt8} (h : RdS w A n c bs) : (convert 35 9 (.slice A n c)).run Tryz.prog w = .ok (.string (txt bs)) w :=
 run_conv h 35 9 5 Tryz.underlying35 Tryz.underlying5 Tryz.underlying9
theorem rtag15_i (s : Wy) (A : Option Addr) (n c : Nat) (bs : List UInt8) (i : Int) (w : World) (hs : s.fit) (hr : RdS w A n c bs) (hn : n ≤ 50000) (hi0 : 0 ≤ i) (hi : i < 9223372036854775808) :
 Calls Tryz.prog 18 #[.agg (cells s.ks).toArray, .slice A n c, .int .i64 i] w fun e w' => ∃ A' c', e = .returned (.slice A' 10 c') ∧ RdS w' A' 10 c' (tagW s bs i.toNat) ∧ Below w.heap.size w w' := by
 have := rtag15_any s A n c bs i.toNat w hs hr hn (by omega)
 rwa [show ((i.toNat : Nat) : Int) = i by omega] at this
theorem OE.keys {w wx : World} {g : Nat} {y : Wy} {nm ww : Value} {r : Nat → Nat} {v : Nat → Value} {A : Option Addr} {n c : Nat} {bs : List UInt8} (h : OE w g y nm ww r v A n c bs wx) : wx.rangeAt g 0 (cells y.ks) :=
 h.way.b.range 0 (cells y.ks) (fun i hi => by rw [Nat.zero_add]; exact List.getElem?_append_left hi)
theorem PkOwn.offR {w : World} {b : Nat} {cs : List Value} {p : Pkt} (h : PkOwn w b cs p) : ∀ u ∈ cs, ∀ k, u.ownBlock = some k → b ≤ k := by
 obtain ⟨A, a, B, b', D, d, e, h1, h2, h3⟩ := h
 subst e
 intro u hu k hk
 simp only [rtpC, List.mem_cons, List.not_mem_nil, or_false] at hu
 rcases hu with rfl | rfl | rfl | rfl | rfl | rfl | rfl | rfl | rfl | rfl | rfl
 case inr.inr.inr.inr.inr.inl => exact (h1.lt k hk).1
 case inr.inr.inr.inr.inr.inr.inr.inr.inl => exact (h2.lt k hk).1
 case inr.inr.inr.inr.inr.inr.inr.inr.inr.inl => exact (h3.lt k hk).1
 all_goals simp [Value.ownBlock] at hk
theorem spot_fit {ws : List (Nat × List Int)} {SO k : Nat} {I : Int} {ws2 : List (Nat × List Int)} (h : Spot ws SO I k ws2) (hm : (markW ws SO I).length ≤ 8) : ws2.length ≤ 8 := by
 rw [← h.mark, List.length_set] at hm
 exact hm
theorem OX.keys {w wx : World} {F : Nat → Prop} {g : Nat} {yy : Wy} {nm ww : Value} {r : Nat → Nat} {v : Nat → Value} {A : Option Addr} {n c : Nat} {bs : List UInt8} (h : OX w F A n c bs g yy nm ww r v wx) : wx.rangeAt g 0 (cells yy.ks) :=
 h.way.b.range 0 (cells yy.ks) (fun i hi => by rw [Nat.zero_add]; exact List.getElem?_append_left hi)
theorem OX.cells_ {w wx : World} {F : Nat → Prop} {g : Nat} {yy : Wy} {nm ww : Value} {r : Nat → Nat} {v : Nat → Value} {A : Option Addr} {n c : Nat} {bs : List UInt8} (h : OX w F A n c bs g yy nm ww r v wx) (hl : (cells yy.ks).length = 50) : wx.cell? ⟨g, 51, none⟩ = some (.int .i64 yy.used) ∧ wx.cell? ⟨g, 53, none⟩ = some ww := by
 refine ⟨(h.way.b.cell 51).trans ?_, (h.way.b.cell 53).trans ?_⟩ <;>
  (rw [List.getElem?_append_right (by omega), hl]; rfl)
theorem RWay.used_ {w : World} {g : Nat} {y : Wy} {nm ww : Value} {r : Nat → Nat} {v : Nat → Value} (h : RWay w g y nm ww r v) (hl : (cells y.ks).length = 50) (u : Int) : RWay (w.setCell ⟨g, 51, none⟩ (.int .i64 u)) g { y with used := u } nm ww r v := by
 have hB := h.b.set_ 51 (.int .i64 u)
 rw [List.set_append_right _ _ (by omega), hl] at hB
 have ho := Only.set w g 51 (.int .i64 u)
 have hs : ∀ k, k ≠ g → (w.setCell ⟨g, 51, none⟩ (.int .i64 u)).heap[k]? = w.heap[k]? := fun k hk => ho.block k hk
 exact ⟨hB, own_at_same h.n fun k hk => hs k (fun e => own_ne h.n h.b (by decide) (e ▸ hk)), own_at_same h.p fun k hk => hs k (fun e => own_ne h.p h.b (by decide) (e ▸ hk)),
  fun i hi => ⟨(hs _ (fun e => blk_ne h.b (h.wins i hi).b (by decide) e.symm)).trans (h.wins i hi).b, own_at_same (h.wins i hi).o fun k hk => hs k (fun e => own_ne (h.wins i hi).o h.b (by decide) (e ▸ hk))⟩, h.apart⟩
set_option maxRecDepth 100000 in
set_option maxHeartbeats 8000000 in
theorem ropen15_go (p : Value) (y : Wy) (F : Nat → Prop) (A : Option Addr) (n c : Nat) (bs : List UInt8) (w : World) (h : RY w p y F) (hg : y.good) (hr : RdS w A n c bs) (h0 : whyPeek bs = 0) (h1 : ¬ y.limit ≤ y.used) (h3 : ¬ (lookW y.ws (soN bs) = none ∧ 8 ≤ y.ws.length)) (h4 : ¬ 281474976710656 ≤ idxW y bs) (h5 : ¬ ∃ L, lookW y.ws (soN bs) = some L ∧ frL L (idxW y bs) = false) (hu : y.used + 1 ≤ 900) (hoff : 0 < n → ∀ ad, A = some ad → ¬ F ad.block ∧ ad.block < w.heap.size) :
 Calls Tryz.prog 13 #[p, .slice A n c] w (OpenR RY p y F bs w) := by
 have hz := zero28
 have HNO := Lib.hid (fun w' h6 hb => OpenR.no (w' := w') ry_lone h (whyOpen_4 h0 h1 h3 h4 h5 h6) (by decide) hb)
 obtain ⟨g, nm, ww, r, v, rfl, hw, hFF⟩ := h
 have HFF := Lib.hid hFF
 clear hFF
 have HE0 := Lib.hid (OE.start (A := A) (n := n) (c := c) (bs := bs) hw hr)
 have HR11 : Hid (RowTy Tryz.prog 37 zeroC.length) := Lib.hid (row11 rfl)
 have HP := Lib.hid (fun W (hr : RdS W A n c bs) => (rpeek15_any A n c bs W hr).mono (R' := fun e w' => e = .returned (.tuple #[.int .u32 (soN bs : Int), .int .u16 (sqN bs : Int), .int .i64 0]) ∧ Below W.heap.size W w') (fun e w' k => ⟨k.1 h0, k.2.2⟩))
 obtain ⟨SO, hSO⟩ : ∃ x, x = soN bs := ⟨_, rfl⟩
 obtain ⟨SQ, hSQ⟩ : ∃ x, x = sqN bs := ⟨_, rfl⟩
 have lSO : SO < 4294967296 := hSO ▸ soN_lt bs
 have lSQ : SQ < 65536 := hSQ ▸ sqN_lt bs
 rw [← hSO, ← hSQ] at HP
 have HG := Lib.hid hg
 obtain ⟨L, hL⟩ : ∃ L, L = y.limit := ⟨_, rfl⟩
 obtain ⟨U, hU⟩ : ∃ U, U = y.used := ⟨_, rfl⟩
 have HLE := Lib.hid hL
 have HUE := Lib.hid hU
 obtain ⟨AN, cN, hnm⟩ := own_formN hw.n
 subst hnm
 obtain ⟨m, hm⟩ : ∃ m, m = y.ws.length := ⟨_, rfl⟩
 have hm8 : m ≤ 8 := hm ▸ hg.1.2.2.2.2.2.1
 have HM := Lib.hid hm
 have HAT : Hid (∀ W, OE w g y (.slice AN y.ws.length cN) ww r v A n c bs W → Calls Tryz.prog 35 #[.pointer (some ⟨g, 0, none⟩), .int .u32 (SO : Int)] W fun e w' => e = .returned (.int .i64 (atI y.ws SO)) ∧ W = w') := Lib.hid (fun W k => rat15_any g y _ ww r v SO W k.way hg.1 lSO)
 have HCN : Hid (∀ W, OE w g y (.slice AN y.ws.length cN) ww r v A n c bs W → W.cell? ⟨g, 52, none⟩ = some (.slice AN m cN)) := Lib.hid (fun W k => hm ▸ (k.way.cells_ hg.1).2.2.1)
 have hLU : ¬ L ≤ U := by rw [hL, hU]; exact h1
 have hcs : (atI y.ws SO = -1 ∧ (m : Int) < 8) ∨ (0 ≤ atI y.ws SO) := by
  match ha : atW y.ws SO with
  | none =>
    refine .inl ⟨atI_none ha, ?_⟩
    have : ¬ 8 ≤ y.ws.length := fun k => h3 ⟨hSO ▸ (atW_none ha).1, k⟩
    omega
  | some i => exact .inr (by rw [atI_some ha]; omega)
 have HCSS := Lib.hid hcs
 obtain ⟨ai, hai⟩ : ∃ x, x = atI y.ws SO := ⟨_, rfl⟩
 rw [← hai] at HCSS HAT
 have HAI := Lib.hid hai
 have hbd := highW_bd hg SO
 have HHI : Hid (∀ W, OE w g y (.slice AN y.ws.length cN) ww r v A n c bs W → Calls Tryz.prog 17 #[.pointer (some ⟨g, 0, none⟩), .int .u32 (SO : Int)] W fun e w' => e = .returned (.int .i64 (highW y.ws SO)) ∧ W = w') := Lib.hid (fun W k => rhigh15_any g y _ ww r v SO W k.way hg lSO)
 have HIX : Hid (∀ W, Calls Tryz.prog 36 #[.int .i64 (highW y.ws SO), .int .u16 (SQ : Int)] W fun e w' => e = .returned (.int .i64 (idxW y bs)) ∧ W = w') := Lib.hid (fun W => by
  have := rindex_any (highW y.ws SO) (SQ : Int) W (by omega) (by omega) (by omega) (by omega)
  unfold idxW
  rw [← hSO, ← hSQ]
  exact this)
 have hI0 : 0 ≤ idxW y bs := idxW_ge y bs
 obtain ⟨I, hI⟩ : ∃ x, x = idxW y bs := ⟨_, rfl⟩
 obtain ⟨H, hH⟩ : ∃ x, x = highW y.ws SO := ⟨_, rfl⟩
 rw [← hI] at HIX hI0
 rw [← hH] at HHI HIX
 have hfs : ∀ i, atW y.ws SO = some i → frL (y.ws.getD i (0, [])).2 I = true := fun i hi => by
  cases hf : frL (y.ws.getD i (0, [])).2 I with
  | true => rfl
  | false => exact absurd ⟨_, hSO ▸ (atW_some hi).2.2, by rw [← hI]; exact hf⟩ h5
 rw [← hI] at h4
 have HFT := Lib.hid hfs
 have HOFF := Lib.hid hoff
 have hI4 : ¬ (281474976710656 : Int) ≤ I := h4
 obtain ⟨hp1, hp2, hp3⟩ := peek_len h0
 have hln := hr.len
 obtain ⟨N, hN⟩ : ∃ x, x = n - 10 := ⟨_, rfl⟩
 have hN10 : n = N + 10 := by omega
 have HNN := Lib.hid hN10
 have HN6 : Hid (tagW y (bs.take N) I.toNat ≠ bs.drop N → ∀ w', Below w.heap.size w w' → OpenR RY (.pointer (some ⟨g, 0, none⟩)) y F bs w (.returned (.tuple #[.agg zeroC.toArray, .int .i64 0, .int .i64 4])) w') := Lib.hid (fun h6 w' hb => HNO.out w' (by rw [hln, ← hN, ← hI]; exact h6) hb)
 have hn22 : 22 ≤ n ∧ n ≤ 1200 := by omega
 have hNc : N ≤ c := by have := hr.le; omega
 have hcm : c ≤ 9223372036854775807 := hr.small.2
 have HEND : Hid (tagW y (bs.take N) I.toNat = bs.drop N → whyOpen y bs = 0) := Lib.hid (fun k => whyOpen_0 h0 h1 h3 (by rw [← hI]; exact h4) h5 (by rw [← hI, hln, ← hN]; exact k))
 have HYO : Hid (whyOpen y bs = 0 → yO y bs = { y with used := y.used + 1, ws := markW y.ws SO I } ∧ (markW y.ws SO I).length ≤ 8) := Lib.hid (fun k => by
  have e : yO y bs = { y with used := y.used + 1, ws := markW y.ws SO I } := by unfold yO; rw [if_pos k, hSO, hI]
  have hgo := good_open hg bs hu
  rw [e] at hgo
  exact ⟨e, hgo.1.2.2.2.2.2.1⟩)
 have HWF := Lib.hid (win_facts hg SO)
 have HU9 := Lib.hid (show 0 ≤ U ∧ U + 1 ≤ 900 by rw [hU]; exact ⟨hg.1.2.2.2.2.1, hu⟩)
 have HBDW := Lib.hid (show hiL (winW y.ws SO) < 281474976710656 by have := (highW_bd hg SO).2; rwa [highW_win] at this)
 obtain ⟨HD, hHD⟩ : ∃ x, x = at1 bs := ⟨_, rfl⟩
 have hHDN : HD ≤ N := by omega
 have HHEAD : Hid (∀ W, RdS W A n c bs → Calls Tryz.prog 28 #[.slice A n c, .int .i64 (N : Int)] W fun e w' => e = .returned (.tuple #[.int .i64 (HD : Int), .bool true]) ∧ W = w') := Lib.hid (fun W hr => (rhead15_any A n c bs N (N : Int) rfl W hr (by omega) (by omega) (by omega)).mono (by
  rintro e w' ⟨⟨h, he, hh⟩, hw⟩
  rw [← hHD] at he hh
  rw [he, hh hHDN, decide_eq_true hHDN]
  exact ⟨rfl, hw⟩))
 have hPW : turnW y (bs.take N) HD SO I.toNat = plainW y bs := by unfold plainW; rw [hHD, hSO, hI, hln, hN]
 have hTL : (turnW y (bs.take N) HD SO I.toNat).length = N := turnW_len y _ HD SO I.toNat N (by rw [List.length_take]; omega) hHDN
 have HSEAL : Hid (∀ W, RdS W A N c (bs.take N) → Calls Tryz.prog 29 #[.agg (cells y.ks).toArray, .slice A N c, .int .i64 (HD : Int), .int .u32 (SO : Int), .int .i64 I] W fun e w' => ∃ A' c', e = .returned (.slice A' (N + 10) c') ∧ BO W w' A' (N + 10) c' (sealB y (bs.take N) HD SO I.toNat)) := Lib.hid (fun W hr => rsealed15_i y A N c (bs.take N) HD SO I W hg.1 hr (by omega) hHDN lSO (by omega) (by omega))
 have HPLAIN : Hid ((sealB y (bs.take N) HD SO I.toNat).take N = plainW y bs) := Lib.hid (by rw [← hPW]; unfold sealB; exact List.take_left' hTL)
 have HCD : Hid (whyOpen y bs = 0 → (whyR (plainW y bs) = 0 → codeO y bs = 0 ∧ idxO y bs = I ∧ pktO y bs = pktR (plainW y bs)) ∧ (whyR (plainW y bs) ≠ 0 → codeO y bs = 3 ∧ idxO y bs = 0 ∧ pktO y bs = pkZ)) := Lib.hid (fun k0 => by
  refine ⟨fun k => ?_, fun k => ?_⟩
  · have hc : codeO y bs = 0 := by unfold codeO; rw [if_neg (fun k2 => k2 k0), if_neg (fun k2 => k2 k)]
    exact ⟨hc, by unfold idxO; rw [if_pos hc, hI], by unfold pktO; rw [if_pos hc]⟩
  · have hc : codeO y bs = 3 := by unfold codeO; rw [if_neg (fun k2 => k2 k0), if_pos k]
    exact ⟨hc, by unfold idxO; rw [hc, if_neg (by decide)], by unfold pktO; rw [hc, if_neg (by decide)]⟩)
 have HREAD : Hid (whyOpen y bs = 0 → ∀ W A' c', RdS W A' N c' (plainW y bs) → Calls Tryz.prog 39 #[.slice A' N c'] W fun e w' => ∃ (cs : List Value) (h : Int), e = .returned (.tuple #[.agg cs.toArray, .int .i64 h, .int .i64 (whyR (plainW y bs))]) ∧ PkOwn w' W.heap.size cs (pktO y bs) ∧ Below W.heap.size W w') := Lib.hid (fun k0 W A' c' hr => by
  by_cases k : whyR (plainW y bs) = 0
  · rw [((HCD.out k0).1 k).2.2, k]
    exact (rread_ok A' N c' _ W hr k).mono fun e w' ⟨cs, he, hp, hb⟩ => ⟨cs, _, he, hp, hb⟩
  · rw [((HCD.out k0).2 k).2.2]
    exact (rread_no A' N c' _ W hr k).mono fun e w' ⟨he, hb⟩ => ⟨zeroC, _, he, pkZ_own _ _, hb⟩)
 have HKS : Hid ((cells y.ks).length = 50) := Lib.hid (by rw [length_cells, Wy.ks_len hg.1])
 obtain ⟨AL, eL, eL2, hrl⟩ := run_lo A n c N (N : Int) rfl (by omega) hr.le hr.max
 rw [show n - N = 10 by omega] at eL eL2
 have HCV : Hid (∀ wx, OE w g y (.slice AN y.ws.length cN) ww r v A n c bs wx → (convert 35 9 (.slice AL 10 (c - N))).run Tryz.prog wx = .ok (.string (txt (bs.drop N))) wx) := Lib.hid (fun wx k => conv_rdW (by have := hrl wx bs k.rd; rwa [show n - N = 10 by omega] at this))
 have HTA : Hid (∀ wx, OE w g y (.slice AN y.ws.length cN) ww r v A n c bs wx → RdS wx A N c (bs.take N)) := Lib.hid (fun wx k => k.rd.headR N (by omega))
 have HTG : Hid (∀ W, RdS W A N c (bs.take N) → Calls Tryz.prog 18 #[.agg (cells y.ks).toArray, .slice A N c, .int .i64 I] W fun e w' => ∃ A' c', e = .returned (.slice A' 10 c') ∧ RdS w' A' 10 c' (tagW y (bs.take N) I.toNat) ∧ Below W.heap.size W w') := Lib.hid (fun W hr => rtag15_i y A N c _ I W hg.1 hr (by omega) (by omega) (by omega))
 clear hw hr hg hSO hSQ h1 h3 hcs hai hm hL hU hI hH h5 hfs hN hN10 hln hrl h4 hoff hHD hPW hTL
 go_enter Tryz.func13, Tryz.ntmps13
 go_upto_region 5 with (go_at_call 34; ((with_reducible refine (HP.out _ HE0.out.rd).mono ?_); rintro e w1 ⟨rfl, hb1⟩; have HE1 := Lib.hid (HE0.out.on hb1); clear hb1))
 have c50 := (HE1.out.way.cells_ HG.out.1).1
 have c51 := (HE1.out.way.cells_ HG.out.1).2.1
 rw [← HLE.out] at c50
 rw [← HUE.out] at c51
 go_region
 obtain ⟨w2, hw2⟩ : ∃ x, x = w1.drew := ⟨_, rfl⟩
 rw [← hw2]
 have HE2 := Lib.hid (show OE w g y _ _ r v A n c bs w2 from hw2 ▸ HE1.out.on (Below.refl _ _).drew)
 have RZ2 := Lib.hid HE2.out.rz
 clear hw2 HE1 c50 c51
 go_upto_region 8 with (go_at_call 35; ((with_reducible refine (HAT.out _ HE2.out).mono ?_); rintro e w' ⟨rfl, rfl⟩))
 go_cut [52] (fun u wx => u = .bool false ∧ wx = w2)
 case first =>
  have c52 := HCN.out _ HE2.out
  rcases HCSS.out with ⟨ha1, ha2⟩ | ha1
  · first
     | (exfalso; omega)
     | (subst ha1; go_wp2; go_meet; exact ⟨by rw [decide_eq_false (by omega)], rfl⟩)
  · go_wp2
    go_meet
    exact ⟨rfl, rfl⟩
 case rest =>
  obtain ⟨rfl, hwc⟩ := hcut
  rw [hwc]
  clear hwc
  go_upto_region 13 with (first
   | (go_at_call 17; ((with_reducible refine (HHI.out _ HE2.out).mono ?_); rintro e w' ⟨rfl, rfl⟩))
   | (go_at_call 36; ((with_reducible refine (HIX.out _).mono ?_); rintro e w' ⟨rfl, rfl⟩)))
  go_cut [75] (fun u wx => u = .bool false ∧ wx = w2)
  case first =>
   match ha : atW y.ws SO with
   | none =>
     have e := (HAI.out).trans (atI_none ha)
     subst e
     clear ha
     go_wp2
     go_meet
     exact ⟨rfl, rfl⟩
   | some i =>
     have e := (HAI.out).trans (atI_some ha)
     subst e
     have hii := atW_some ha
     obtain ⟨bW, cW, hww, cbw⟩ := HE2.out.way.ptr hii.1
     subst hww
     have c53 := (HE2.out.way.cells_ HG.out.1).2.2.2
     rw [← HM.out] at c53
     have hgat := HG.out.at_ hii.1
     have HFS : Hid (Calls Tryz.prog 37 #[.pointer (some ⟨r i, 0, none⟩), .int .i64 I] w2 fun e w' => e = .returned (.bool true) ∧ w2 = w') := Lib.hid (by
      have := rfresh_any 0 (r i) _ I w2 (HE2.out.way.wins i hii.1).rw (by omega) (by omega) (by omega)
      rwa [HFT.out i ha] at this)
     have him : (i : Int) < (m : Int) := by have := hii.1; have := HM.out; omega
     clear ha hii hgat
     go_wp2_with (go_at_call 37; ((with_reducible refine (Hid.out HFS).mono ?_); rintro e w' ⟨rfl, rfl⟩))
     go_meet
     exact ⟨rfl, rfl⟩
  case rest =>
   obtain ⟨rfl, hwc⟩ := hcut
   rw [hwc]
   clear hwc
   go_upto_region 15 with (fail)
   go_cut [13] (fun u wx => u = .int .i64 (N : Int) ∧ wx = w2)
   case first =>
    go_wp2
    go_meet
    have hnn := HNN.out
    exact ⟨congrArg (Value.int .i64) (by omega), rfl⟩
   case rest =>
    obtain ⟨rfl, hwc⟩ := hcut
    rw [hwc]
    clear hwc
    go_upto_region 16 with (fail)
    have hS2 := HE2.out
    refine wp_region_noPanic ?_
    refine wp_region_held (S := fun wx => OE w g y (.slice AN y.ws.length cN) ww r v A n c bs wx) (by kernel_rfl) ?_
    change wpAnyH _ _ _ _ _ _ _ _ (World.drew _)
    obtain ⟨w3, hw3⟩ : ∃ x, x = w2.drew := ⟨_, rfl⟩
    rw [← hw3]
    have hS : OE w g y (.slice AN y.ws.length cN) ww r v A n c bs w3 := hw3 ▸ hS2.on (Below.refl _ _).drew
    clear hw3 hS2
    refine wpAnyH_take (i := 0) (v := ?_) rfl (by kernel_rfl) (by kernel_rfl) (by kernel_rfl) (fun _ _ _ h => h) (Or.inl ⟨by rfl, ?_⟩) hS ?_
    case refine_2 => (intro wz hz; go_simp; with_reducible rfl)
    simp only [Act.put, xgT, xgZ, xsT, xsS, xsZ]
    refine wpAnyH_take (i := 1) (v := ?_) rfl (by kernel_rfl) (by kernel_rfl) (by kernel_rfl) (fun _ _ _ h => h) (Or.inl ⟨by rfl, ?_⟩) hS ?_
    case refine_2 => (intro wz hz; go_simp; with_reducible rfl)
    simp only [Act.put, xgT, xgS, xgZ, xsT, xsS, xsZ]
    refine wpAnyH_take (i := 2) (v := ?_) rfl (by kernel_rfl) (by kernel_rfl) (by kernel_rfl) (fun _ _ _ h => h) (Or.inl ⟨by rfl, ?_⟩) hS ?_
    case refine_2 => (intro wz hz; go_simp; with_reducible rfl)
    simp only [Act.put, xgT, xgS, xgZ, xsT, xsS, xsZ]
    refine wpAnyH_take (i := 3) (v := .agg (cells y.ks).toArray) rfl (by kernel_rfl) (by kernel_rfl) (by kernel_rfl) (fun _ _ _ h => h) (Or.inl ⟨by rfl, fun wz hz => ?_⟩) hS ?_
    · (exact run_ld 49 _ rfl g 0 (by rfl) (cells y.ks) hz.keys (row50 HKS.out))
    simp only [Act.put, xgT, xgS, xgZ, xsT, xsS, xsZ]
    refine wpAnyH_take (i := 4) (v := ?_) rfl (by kernel_rfl) (by kernel_rfl) (by kernel_rfl) (fun _ _ _ h => h) (Or.inl ⟨by rfl, ?_⟩) hS ?_
    case refine_2 => (intro wz hz; go_simp; with_reducible rfl)
    simp only [Act.put, xgT, xgS, xgZ, xsT, xsS, xsZ]
    refine wpAnyH_take (i := 5) (v := ?_) rfl (by kernel_rfl) (by kernel_rfl) (by kernel_rfl) (fun _ _ _ h => h) (Or.inl ⟨by rfl, ?_⟩) hS ?_
    case refine_2 => (intro wz hz; go_simp; with_reducible rfl)
    simp only [Act.put, xgT, xgS, xgZ, xsT, xsS, xsZ]
    refine wpAnyH_take (i := 6) (v := ?_) rfl (by kernel_rfl) (by kernel_rfl) (by kernel_rfl) (fun _ _ _ h => h) (Or.inl ⟨by rfl, ?_⟩) hS ?_
    case refine_2 => (intro wz hz; go_simp; with_reducible rfl)
    simp only [Act.put, xgT, xgS, xgZ, xsT, xsS, xsZ]
    refine wpAnyH_take (i := 7) (v := ?_) rfl (by kernel_rfl) (by kernel_rfl) (by kernel_rfl) (fun _ _ _ h => h) (Or.inl ⟨by rfl, ?_⟩) hS ?_
    case refine_2 => (intro wz hz; go_simp; with_reducible rfl)
    simp only [Act.put, xgT, xgS, xgZ, xsT, xsS, xsZ]
    refine wpAnyH_take (i := 10) (v := ?_) rfl (by kernel_rfl) (by kernel_rfl) (by kernel_rfl) (fun _ _ _ h => h) (Or.inl ⟨by rfl, ?_⟩) hS ?_
    case refine_2 => (intro wz hz; go_simp; with_reducible rfl)
    simp only [Act.put, xgT, xgS, xgZ, xsT, xsS, xsZ]
    refine wpAnyH_take (i := 11) (v := ?_) rfl (by kernel_rfl) (by kernel_rfl) (by kernel_rfl) (fun _ _ _ h => h) (Or.inl ⟨by rfl, ?_⟩) hS ?_
    case refine_2 => (intro wz hz; go_simp; with_reducible rfl)
    simp only [Act.put, xgT, xgS, xgZ, xsT, xsS, xsZ]
    refine wpAnyH_take (i := 12) (v := ?_) rfl (by kernel_rfl) (by kernel_rfl) (by kernel_rfl) (fun _ _ _ h => h) (Or.inl ⟨by rfl, ?_⟩) hS ?_
    case refine_2 => (intro wz hz; go_simp; with_reducible rfl)
    simp only [Act.put, xgT, xgS, xgZ, xsT, xsS, xsZ]
    refine wpAnyH_take (i := 13) (v := ?_) rfl (by kernel_rfl) (by kernel_rfl) (by kernel_rfl) (fun _ _ _ h => h) (Or.inl ⟨by rfl, ?_⟩) hS ?_
    case refine_2 => (intro wz hz; (have hcv := HCV.out wz hz); go_simp; with_reducible rfl)
    simp only [Act.put, xgT, xgS, xgZ, xsT, xsS, xsZ]
    refine anyH_one (i := 8) (by kernel_rfl) rfl rfl (fun H hH => ?_)
    simp only [xgT, xgS, xgZ]
    go_simp
    refine (HTG.out w3 (HTA.out _ hS)).mono ?_
    rintro e w4 ⟨A4, c4, rfl, hr4, hb4⟩
    have hS4 : OE w g y (.slice AN y.ws.length cN) ww r v A n c bs w4 := hS.on hb4
    have hc4 := conv_rdW hr4
    refine hH _ _ hS4 ?_
    clear hH H hS hb4
    refine anyH_one (i := 9) (by kernel_rfl) rfl rfl (fun H hH => ?_)
    simp only [xgT, xgS, xgZ]
    go_simp
    refine hH _ _ hS4 ?_
    clear hH H hc4
    refine wpAnyH_take (i := 14) (v := ?_) rfl (by kernel_rfl) (by kernel_rfl) (by kernel_rfl) (fun _ _ _ h => h) (Or.inl ⟨by rfl, ?_⟩) hS4 ?_
    case refine_2 => (intro wz hz; go_simp; with_reducible rfl)
    simp only [Act.put, xgT, xgS, xgZ, xsT, xsS, xsZ]
    refine wpAnyH_done (by kernel_rfl) ?_ _
    refine NoPanic.normal ?_
    clear hI4
    by_cases h6 : tagW y (bs.take N) I.toNat = bs.drop N
    case neg =>
     have hT : ((txt (tagW y (bs.take N) I.toNat)).toList == (txt (bs.drop N)).toList) = false := by rw [txt_toList, txt_toList]; exact beq_eq_false_iff_ne.2 h6
     simp only [hT, Bool.not_false]
     clear hT
     have HF6 := Lib.hid (HN6.out h6)
     have HS4 := Lib.hid hS4
     have RZ4 := Lib.hid hS4.rz
     clear h6 hS4
     go_wp2_with (first
      | (with_reducible refine wpList_ld rfl 37 (.tmp 7) rfl (w.heap.size + 1) 0 rfl zeroC RZ4.out HR11.out ?_)
      | ((with_reducible refine wpList_st rfl 37 (.tmp 4) (.tmp 95) rfl w.heap.size 0 zeroC rfl rfl 37 zeroC HS4.out.z1 zfit HR11.out zeroC_one ?_); intro w9 hB9 ho9; rw [splice_all _ _ rfl] at hB9; have HB9 := Lib.hid hB9; have HF9 := Lib.hid (HS4.out.below.trans (ho9.below (Nat.le_refl _))); clear hB9 ho9))
     exact ret_row3 rfl rfl HB9.out (row11 rfl) rfl (HF6.out _ HF9.out)
    have hT : ((txt (tagW y (bs.take N) I.toNat)).toList == (txt (bs.drop N)).toList) = true := by rw [txt_toList, txt_toList, h6]; exact beq_self_eq_true _
    simp only [hT, Bool.not_true]
    clear hT
    go_upto_if 97 with (fail)
    have HX4 := Lib.hid (OX.start hS4 HFF.out HOFF.out)
    have HW0 := Lib.hid (HEND.out h6)
    clear hS4 h6
    go_cut [11] (fun u wx => ∃ k : Nat, ∃ ws2 nm2 ww2 r2 v2, u = .int .i64 (k : Int) ∧ Hid (k < 9 ∧ Spot y.ws SO I k ws2 ∧ OX w F A n c bs g { y with ws := ws2 } nm2 ww2 r2 v2 wx))
    case first =>
     match ha : atW y.ws SO with
     | some i =>
       have e := (HAI.out).trans (atI_some ha)
       subst e
       have hi9 := Lib.hid (atW_some ha).1
       have HSP := Lib.hid (Spot.same I ha)
       clear ha
       go_wp2
       go_meet
       exact ⟨i, y.ws, _, _, _, _, rfl, Lib.hid ⟨by have h1 := hi9.out; have h2 := HM.out; omega, HSP.out, HX4.out⟩⟩
     | none =>
       have e := (HAI.out).trans (atI_none ha)
       subst e
       have HSP := Lib.hid (Spot.more I ha)
       clear ha
       have hcw := HX4.out.way.cells_ HG.out.1
       have c52 := hcw.2.2.1
       have c53 := hcw.2.2.2
       rw [← HM.out] at c52
       have hB0 : Below w4.heap.size w4 (w4.alloc (.cells #[.int .u32 (SO : Int)] 33)) := (Below.refl _ _).alloc (Nat.le_refl _) _
       have HN1 : Hid ((w4.alloc (.cells #[.int .u32 (SO : Int)] 33)).ownsRow 0 33 1 (.slice AN m cN) m (nmC y.ws)) := Lib.hid (by have := HX4.out.way.n; rw [← HM.out] at this; exact this.alloc _)
       have hx1 : (w4.alloc (.cells #[.int .u32 (SO : Int)] 33)).cell? (Addr.add ⟨w4.heap.size, 0, none⟩ 0) = some (.int .u32 (SO : Int)) := by
        rw [add_lit]
        exact ((BlkV.new w4 33 [.int .u32 (SO : Int)]).cell 0).trans rfl
       clear hcw hB0
       go_upto_region 21 with (at_builtin; ((with_reducible refine wpList_app1 _ rfl (.tmp 107) (.tmp 109) rfl Tryz.underlying34 u32_infY rfl (by omega) 0 (.slice AN m cN) m (nmC y.ws) rfl HN1.out ⟨w4.heap.size, 0, none⟩ 1 rfl (.int .u32 (SO : Int)) hx1 rfl (by omega) (Nat.zero_le _) ?_); intro n5 w5 hown5 hg5 hat5 _; obtain ⟨A5, c5, hv5⟩ := own_formN hown5; subst hv5; have HGR := Lib.hid (grown1 HX4.out.way HG.out.1 HM.out hg5 hown5); have HAT5 := Lib.hid hat5; obtain ⟨u52, k52⟩ := HGR.out.2.2.2.2.2.1; have k53 := HGR.out.2.2.2.2.2.2; have kf := HGR.out.2.2.2.2.1.frozen 52; clear hown5 hg5 hat5))
       obtain ⟨w6, hw6⟩ : ∃ x, x = w5.setCell ⟨g, 52, none⟩ (.slice A5 (m + 1) c5) := ⟨_, rfl⟩
       have HG1 := HGR.out
       rw [← hw6] at HG1 ⊢
       obtain ⟨B6, N6, P6, F6, _, _, _⟩ := HG1
       have hs46 := F6.size
       clear hw6 HGR k52 k53 kf hx1 HN1 c52 c53
       obtain ⟨AW, cW, hww⟩ := own_formN P6
       subst hww
       have d53 : w6.cell? ⟨g, 53, none⟩ = some (.slice AW y.ws.length cW) := (B6.cell 53).trans (by rw [List.getElem?_append_right (by rw [HKS.out]; omega), HKS.out]; rfl)
       have HP7 : Hid (((w6.alloc (.cells #[.slice none 0 0] 92)).alloc (.cells #[.pointer (some ⟨w6.heap.size, 0, none⟩)] 88)).ownsRow 0 88 1 (.slice AW y.ws.length cW) y.ws.length (ptC r y.ws.length)) := Lib.hid ((P6.alloc _).alloc _)
       have hx2 : ((w6.alloc (.cells #[.slice none 0 0] 92)).alloc (.cells #[.pointer (some ⟨w6.heap.size, 0, none⟩)] 88)).cell? (Addr.add ⟨w6.heap.size + 1, 0, none⟩ 0) = some (.pointer (some ⟨w6.heap.size, 0, none⟩)) := by
        rw [add_lit]
        exact ((BlkV.new_at _ _ _ [.pointer (some ⟨w6.heap.size, 0, none⟩)] _ (size_alloc w6 _).symm rfl).cell 0).trans rfl
       have hl8 : y.ws.length ≤ 8 := by have := HM.out; omega
       have H6 := Lib.hid (And.intro B6 (And.intro N6 (And.intro P6 F6)))
       clear B6 N6 P6 F6
       go_wp2_with (at_builtin; ((with_reducible refine wpList_app1 _ rfl (.tmp 117) (.tmp 120) rfl Tryz.underlying50 ptr_infY rfl (by omega) 0 (.slice AW y.ws.length cW) y.ws.length (ptC r y.ws.length) rfl HP7.out ⟨w6.heap.size + 1, 0, none⟩ 1 rfl (.pointer (some ⟨w6.heap.size, 0, none⟩)) hx2 rfl (by omega) (Nat.zero_le _) ?_); intro n9 w9 hown9 hg9 hat9 _; obtain ⟨A9, c9, hv9⟩ := own_formN hown9; subst hv9; have HGS := Lib.hid (grow2 HG.out.1 H6.out.1 H6.out.2.1 H6.out.2.2.1 H6.out.2.2.2 _ hg9 hown9); have HAT9 := Lib.hid hat9; have j53 := HGS.out.2.2.2.2.2.cell 53; have jf := HGS.out.2.2.2.2.2.frozen 53; rw [List.getElem?_append_right (by rw [HKS.out]; omega), HKS.out] at j53; clear hown9 hg9 hat9))
       go_meet
       obtain ⟨B10, N10, P10, W10, F10, _⟩ := HGS.out
       have hs := size_alloc w6 (.cells #[.slice none 0 0] 92)
       have hs2 := size_alloc w4 (.cells #[.int .u32 (SO : Int)] 33)
       have hs3 : ((w6.alloc (.cells #[.slice none 0 0] 92)).alloc (.cells #[.pointer (some ⟨w6.heap.size, 0, none⟩)] 88)).heap.size = w6.heap.size + 2 := by
        rw [← size_alloc, ← size_alloc]
       refine ⟨m, y.ws ++ [(SO, [])], .slice A5 (m + 1) c5, .slice A9 (y.ws.length + 1) c9, _, _, rfl, Lib.hid ⟨by omega, HM.out ▸ HSP.out, OX.more HX4.out B10 N10 P10 W10 hs46 F10 (fun k hk => ?_) (fun k hk => ?_)⟩⟩
       · rcases HAT5.out with e | e
         · left
           rw [hk] at e
           rw [← HM.out]
           exact e.symm
         · right
           rw [hk] at e
           injection e with e
           omega
       · rcases HAT9.out with e | e
         · left
           rw [hk] at e
           exact e.symm
         · right
           rw [hk] at e
           injection e with e
           omega
    case rest =>
     obtain ⟨k, ws2, nm2, ww2, r2, v2, rfl, HK⟩ := hcut
     -- THE REST
     have HM8 := Lib.hid ((HYO.out HW0.out).2)
     obtain ⟨hk9, hsp, hox⟩ := HK.out
     have hc53 := (hox.cells_ HKS.out).2
     obtain ⟨bW, cW, hww, hcb⟩ := hox.way.ptr hsp.lt
     subst hww
     have hl8 := spot_fit hsp HM8.out
     have HMK := Lib.hid (rmark15_any (r2 k) (v2 k) _ I wc (hox.way.wins k hsp.lt) (by show (ws2.getD k (0, [])).2.length ≤ 1000; rw [hsp.win]; have := HWF.out.1; have := HU9.out.2; have := HUE.out; omega) (by omega) (by show hiL (ws2.getD k (0, [])).2 ≤ _; rw [hsp.win]; have := HBDW.out; omega))
     have hkl : (k : Int) < (ws2.length : Int) := by have := hsp.lt; omega
     obtain ⟨M2, hM2⟩ : ∃ m, m = ws2.length := ⟨_, rfl⟩
     have HM2 := Lib.hid hM2
     have hc53' : wc.cell? ⟨g, 53, none⟩ = some (.slice (some ⟨bW, 0, none⟩) M2 cW) := by rw [hM2]; exact hc53
     rw [← hM2] at hkl hl8
     clear hc53 hM2 hsp hox
     go_upto_region 23 with (go_at_call 38; ((with_reducible refine (HMK.out).mono ?_); rintro e w6 ⟨rfl, ⟨v', hwf6, hv6⟩, hf6⟩; have HMD := Lib.hid (And.intro hwf6 (And.intro hv6 hf6)); clear hwf6 hv6 hf6))
     have HX6 : Hid (OX w F A n c bs g { y with ws := markW y.ws SO I } nm2 (.slice (some ⟨bW, 0, none⟩) ws2.length cW) r2 (fun j => if j = k then v' else v2 j) w6) := Lib.hid (by
      obtain ⟨hk9, hsp, hox⟩ := HK.out
      have hwf6 := HMD.out.1
      rw [show ((({ y with ws := ws2 } : Wy).ws.getD k (0, [])).2) = winW y.ws SO from hsp.win] at hwf6
      have hm := hox.way.mark hsp.lt (L' := mkL (winW y.ws SO) I) hwf6 HMD.out.2.2 HMD.out.2.1
      have em : ({ ({ y with ws := ws2 } : Wy) with ws := ({ y with ws := ws2 } : Wy).ws.set k ((({ y with ws := ws2 } : Wy).ws.getD k (0, [])).1, mkL (winW y.ws SO) I) } : Wy) = { y with ws := markW y.ws SO I } := congrArg (fun z => ({ y with ws := z } : Wy)) hsp.mark
      rw [em] at hm
      have hlen : ({ y with ws := markW y.ws SO I } : Wy).ws.length = ws2.length := by show (markW y.ws SO I).length = _; rw [← hsp.mark, List.length_set]
      refine hox.turn HMD.out.2.2 (fun j hj => .inr (.inr (.inr ⟨k, hsp.lt, hj⟩))) hm (fun j hj => ?_)
      rcases hj with e | e | e | ⟨i, hi, e⟩
      · exact .inl (.inl e)
      · exact .inl (.inr (.inl e))
      · exact .inl (.inr (.inr (.inl e)))
      · rw [hlen] at hi
        by_cases ei : i = k
        · subst ei
          simp only [if_true] at e
          rcases e with e | e
          · exact .inl (.inr (.inr (.inr ⟨i, hi, .inl e⟩)))
          · rcases HMD.out.2.1 j e with k2 | k2
            · exact .inl (.inr (.inr (.inr ⟨i, hi, .inr k2⟩)))
            · exact .inr k2
        · replace e : j = r2 i ∨ (if i = k then v' else v2 i).ownBlock = some j := e
          rw [if_neg ei] at e
          exact .inl (.inr (.inr (.inr ⟨i, hi, e⟩))))
     clear HMK HK HMD hc53' hcb hkl hl8 hk9
     have d51 := (HX6.out.cells_ HKS.out).1
     replace d51 : w6.cell? ⟨g, 51, none⟩ = some (.int .i64 U) := by rw [HUE.out]; exact d51
     have f51 : w6.frozen? ⟨g, 51, none⟩ = false := HX6.out.way.b.frozen 51
     have HX7 : Hid (OX w F A n c bs g { y with used := U + 1, ws := markW y.ws SO I } nm2 (.slice (some ⟨bW, 0, none⟩) ws2.length cW) r2 (fun j => if j = k then v' else v2 j) (w6.setCell ⟨g, 51, none⟩ (.int .i64 (U + 1)))) := Lib.hid (HX6.out.turn (Fr.of_only (F := fun j => j = g) (Only.set w6 g 51 (.int .i64 (U + 1))) rfl) (fun j hj => .inl hj) (HX6.out.way.used_ HKS.out (U + 1)) (fun j hj => .inl hj))
     obtain ⟨U1, hU1⟩ : ∃ x, x = U + 1 := ⟨_, rfl⟩
     have eU : IntKind.i64.wrap (U + 1) = U1 := by rw [hU1]; exact IntWalk.i64_in _ (by have := HU9.out; omega)
     have HU1 := Lib.hid hU1
     rw [← hU1] at HX7
     clear hU1 HX6
     go_upto_region 24 with (fail)
     obtain ⟨w7, hw7⟩ : ∃ x, x = w6.setCell ⟨g, 51, none⟩ (.int .i64 U1) := ⟨_, rfl⟩
     rw [← hw7] at HX7 ⊢
     clear hw7 d51 f51
     go_upto_region 25 with (go_at_call 28; ((with_reducible refine (HHEAD.out w7 HX7.out.rd).mono ?_); rintro e w' ⟨rfl, rfl⟩))
     obtain ⟨y2, hy2⟩ : ∃ z : Wy, z = { y with used := U1, ws := markW y.ws SO I } := ⟨_, rfl⟩
     have hk2 : y2.ks = y.ks := by rw [hy2]; rfl
     have HY2 := Lib.hid hy2
     have HK2 := Lib.hid hk2
     rw [← hy2] at HX7
     obtain ⟨v3, hv3⟩ : ∃ z, z = (fun j => if j = k then v' else v2 j) := ⟨_, rfl⟩
     rw [← hv3] at HX7
     obtain ⟨ww3, hww3⟩ : ∃ z, z = Value.slice (some ⟨bW, 0, none⟩) ws2.length cW := ⟨_, rfl⟩
     rw [← hww3] at HX7
     clear hy2 hk2 hv3 hww3
     refine wp_region_noPanic ?_
     refine wp_region_held (S := fun wx => OX w F A n c bs g y2 nm2 ww3 r2 v3 wx) (by kernel_rfl) ?_
     change wpAnyH _ _ _ _ _ _ _ _ (World.drew _)
     obtain ⟨w8, hw8⟩ : ∃ x, x = w7.drew := ⟨_, rfl⟩
     rw [← hw8]
     have hS : OX w F A n c bs g y2 nm2 ww3 r2 v3 w8 := hw8 ▸ HX7.out.on (Below.refl _ _).drew
     clear hw8 HX7
     refine wpAnyH_take (i := 0) (v := ?_) rfl (by kernel_rfl) (by kernel_rfl) (by kernel_rfl) (fun _ _ _ h => h) (Or.inl ⟨by rfl, ?_⟩) hS ?_
     case refine_2 => (intro wz hz; go_simp; with_reducible rfl)
     simp only [Act.put, xgT, xgZ, xsT, xsS, xsZ]
     refine wpAnyH_take (i := 1) (v := ?_) rfl (by kernel_rfl) (by kernel_rfl) (by kernel_rfl) (fun _ _ _ h => h) (Or.inl ⟨by rfl, ?_⟩) hS ?_
     case refine_2 => (intro wz hz; go_simp; with_reducible rfl)
     simp only [Act.put, xgT, xgS, xgZ, xsT, xsS, xsZ]
     refine wpAnyH_take (i := 2) (v := ?_) rfl (by kernel_rfl) (by kernel_rfl) (by kernel_rfl) (fun _ _ _ h => h) (Or.inl ⟨by rfl, ?_⟩) hS ?_
     case refine_2 => (intro wz hz; go_simp; with_reducible rfl)
     simp only [Act.put, xgT, xgS, xgZ, xsT, xsS, xsZ]
     refine wpAnyH_take (i := 3) (v := .agg (cells y.ks).toArray) rfl (by kernel_rfl) (by kernel_rfl) (by kernel_rfl) (fun _ _ _ h => h) (Or.inl ⟨by rfl, fun wz hz => ?_⟩) hS ?_
     · (have hk3 := hz.keys; rw [HK2.out] at hk3; exact run_ld 49 _ rfl g 0 (by rfl) (cells y.ks) hk3 (row50 HKS.out))
     simp only [Act.put, xgT, xgS, xgZ, xsT, xsS, xsZ]
     refine wpAnyH_take (i := 4) (v := ?_) rfl (by kernel_rfl) (by kernel_rfl) (by kernel_rfl) (fun _ _ _ h => h) (Or.inl ⟨by rfl, ?_⟩) hS ?_
     case refine_2 => (intro wz hz; go_simp; with_reducible rfl)
     simp only [Act.put, xgT, xgS, xgZ, xsT, xsS, xsZ]
     refine wpAnyH_take (i := 5) (v := ?_) rfl (by kernel_rfl) (by kernel_rfl) (by kernel_rfl) (fun _ _ _ h => h) (Or.inl ⟨by rfl, ?_⟩) hS ?_
     case refine_2 => (intro wz hz; go_simp; with_reducible rfl)
     simp only [Act.put, xgT, xgS, xgZ, xsT, xsS, xsZ]
     refine wpAnyH_take (i := 6) (v := ?_) rfl (by kernel_rfl) (by kernel_rfl) (by kernel_rfl) (fun _ _ _ h => h) (Or.inl ⟨by rfl, ?_⟩) hS ?_
     case refine_2 => (intro wz hz; go_simp; with_reducible rfl)
     simp only [Act.put, xgT, xgS, xgZ, xsT, xsS, xsZ]
     refine wpAnyH_take (i := 7) (v := ?_) rfl (by kernel_rfl) (by kernel_rfl) (by kernel_rfl) (fun _ _ _ h => h) (Or.inl ⟨by rfl, ?_⟩) hS ?_
     case refine_2 => (intro wz hz; go_simp; with_reducible rfl)
     simp only [Act.put, xgT, xgS, xgZ, xsT, xsS, xsZ]
     refine wpAnyH_take (i := 8) (v := ?_) rfl (by kernel_rfl) (by kernel_rfl) (by kernel_rfl) (fun _ _ _ h => h) (Or.inl ⟨by rfl, ?_⟩) hS ?_
     case refine_2 => (intro wz hz; go_simp; with_reducible rfl)
     simp only [Act.put, xgT, xgS, xgZ, xsT, xsS, xsZ]
     refine wpAnyH_take (i := 9) (v := ?_) rfl (by kernel_rfl) (by kernel_rfl) (by kernel_rfl) (fun _ _ _ h => h) (Or.inl ⟨by rfl, ?_⟩) hS ?_
     case refine_2 => (intro wz hz; go_simp; with_reducible rfl)
     simp only [Act.put, xgT, xgS, xgZ, xsT, xsS, xsZ]
     refine anyH_one (i := 10) (by kernel_rfl) rfl rfl (fun HH hH => ?_)
     simp only [xgT, xgS, xgZ]
     go_simp
     refine (HSEAL.out w8 (hS.rd.headR N (by have := HNN.out; omega))).mono ?_
     rintro e w9 ⟨A9, c9, rfl, ho9⟩
     have hS9 : OX w F A n c bs g y2 nm2 ww3 r2 v3 w9 := hS.on ho9.2
     have HR9 : Hid (RdS w9 A9 N c9 (plainW y bs)) := Lib.hid (by have := ho9.rd.headR N (by omega); rwa [HPLAIN.out] at this)
     have HC9 : Hid (N + 10 ≤ c9 ∧ c9 ≤ 9223372036854775807) := Lib.hid ⟨ho9.rd.le, ho9.rd.small.2⟩
     refine hH _ _ hS9 ?_
     clear hH hS ho9
     refine wpAnyH_take (i := 11) (v := ?_) rfl (by kernel_rfl) (by kernel_rfl) (by kernel_rfl) (fun _ _ _ h => h) (Or.inl ⟨by rfl, ?_⟩) hS9 ?_
     case refine_2 => (intro wz hz; go_simp; with_reducible rfl)
     simp only [Act.put, xgT, xgS, xgZ, xsT, xsS, xsZ]
     refine wpAnyH_done (by kernel_rfl) ?_ _
     refine NoPanic.normal ?_
     have HX9 := Lib.hid hS9
     have hc9a := HC9.out.1
     have hc9b := HC9.out.2
     have hN9 : N ≤ c9 := by omega
     have HRD9 := Lib.hid (HREAD.out HW0.out)
     have HCQ : Hid ((whyR (plainW y bs) = 0 → codeO y bs = 0 ∧ idxO y bs = I) ∧ (whyR (plainW y bs) ≠ 0 → codeO y bs = 3 ∧ idxO y bs = 0 ∧ pktO y bs = pkZ)) := Lib.hid ⟨fun k => ⟨((HCD.out HW0.out).1 k).1, ((HCD.out HW0.out).1 k).2.1⟩, (HCD.out HW0.out).2⟩
     have HYE : Hid (yO y bs = y2) := Lib.hid (by rw [(HYO.out HW0.out).1, HY2.out, HU1.out, HUE.out])
     obtain ⟨PW, hPW⟩ : ∃ x, x = plainW y bs := ⟨_, rfl⟩
     rw [← hPW] at HR9 HRD9 HCQ
     obtain ⟨qq, hqq⟩ : ∃ q, q = whyR PW := ⟨_, rfl⟩
     rw [← hqq] at HRD9 HCQ
     have hcN := HNO
     clear hS9 hPW hqq HSEAL HPLAIN HHEAD HCD HREAD HYO HEND HNO HN6 hcN HWF HBDW HM8 HTG HTA HCV HC9 eL eL2
     go_upto_region 27 with (first
      | (go_at_call 39; ((with_reducible refine (HRD9.out w9 A9 c9 HR9.out).mono ?_); rintro e w10 ⟨cs, hh, rfl, hp10, hb10⟩; have HX10 := Lib.hid (HX9.out.on hb10); have HP10 := Lib.hid hp10; have HS9 : Hid (w.heap.size + 2 ≤ w9.heap.size) := Lib.hid HX9.out.lt; have HFL : Hid (∀ k, FW g y2.ws.length nm2 ww3 r2 v3 k → k < w9.heap.size) := Lib.hid (fun k hk => HX9.out.way.low hk); have hI10 := BlkV.new_at w10 w10.heap.size 37 zeroC _ rfl rfl; clear hp10 hb10))
      | ((with_reducible refine wpList_st rfl 37 (.tmp 17) (.tmp 162) rfl w10.heap.size 0 cs rfl rfl 37 zeroC hI10 (by rw [HP10.out.len]; decide) (row11 HP10.out.len) HP10.out.one ?_); intro w11 hB11 ho11; rw [splice_all _ _ (by rw [HP10.out.len]; rfl)] at hB11; have HB11 := Lib.hid hB11; have hb11 : Below w10.heap.size w10 w11 := ((Below.refl _ _).alloc (Nat.le_refl _) _).trans (ho11.below (Nat.le_refl _)); have HX11 := Lib.hid (HX10.out.on hb11); have HP11 := Lib.hid (HP10.out.below hb11); clear hB11 ho11 hb11))
     clear HX9 HRD9 HR9 HX10 HP10 hI10
     by_cases hq0 : qq = 0
     · have HC0 := Lib.hid (HCQ.out.1 hq0)
       subst hq0
       clear HCQ
       have RG11 := Lib.hid (HB11.out.range 0 cs (fun i _ => by rw [Nat.zero_add]))
       have HRT : Hid (RowTy Tryz.prog 37 cs.length) := Lib.hid (row11 HP11.out.len)
       go_wp2_with (first
        | (with_reducible refine wpList_ld rfl 37 (.tmp 17) rfl w10.heap.size 0 rfl cs RG11.out HRT.out ?_)
        | ((with_reducible refine wpList_st rfl 37 (.tmp 4) (.tmp 168) rfl w.heap.size 0 cs rfl rfl 37 zeroC HX11.out.z1 (by rw [HP11.out.len]; decide) HRT.out HP11.out.one ?_); intro w12 hB12 ho12; rw [splice_all _ _ (by rw [HP11.out.len]; rfl)] at hB12; have HB12 := Lib.hid hB12; have HO12 := Lib.hid ho12; clear hB12 ho12))
       refine ret_row3 rfl rfl HB12.out (row11 HP11.out.len) rfl ⟨cs, FW g y2.ws.length nm2 ww3 r2 v3, by rw [HC0.out.1, HC0.out.2]; rfl, (HP11.out.only HO12.out (by have := HS9.out; omega)).mono (by have := HS9.out; omega), fun u hu k hk hF => ?_, ?_, ?_, fun k hk => HX11.out.new k hk⟩
       · have h1 := PkOwn.offR HP11.out u hu k hk
         have h2 := HFL.out k hF
         omega
       · rw [HYE.out]
         exact ⟨g, nm2, ww3, r2, v3, rfl, HX11.out.way.stay (fun k hk => HO12.out.block k (fun e => rway_notRtp HX11.out.way HX11.out.z1 (e ▸ hk))), rfl⟩
       · exact HX11.out.fr.trans (Fr.of_only (F := fun k => k = w.heap.size) HO12.out rfl) (fun i hi => .inr (by omega))
     · have HC3 := Lib.hid (HCQ.out.2 hq0)
       clear HCQ
       have RZ11 := Lib.hid HX11.out.rz
       go_wp2_with (first
        | (with_reducible refine wpList_ld rfl 37 (.tmp 7) rfl (w.heap.size + 1) 0 rfl zeroC RZ11.out HR11.out ?_)
        | ((with_reducible refine wpList_st rfl 37 (.tmp 4) (.tmp 167) rfl w.heap.size 0 zeroC rfl rfl 37 zeroC HX11.out.z1 zfit HR11.out zeroC_one ?_); intro w12 hB12 ho12; rw [splice_all _ _ rfl] at hB12; have HB12 := Lib.hid hB12; have HO12 := Lib.hid ho12; clear hB12 ho12))
       refine ret_row3 rfl rfl HB12.out (row11 rfl) rfl ⟨zeroC, FW g y2.ws.length nm2 ww3 r2 v3, by rw [HC3.out.1, HC3.out.2.1]; rfl, by rw [HC3.out.2.2]; exact pkZ_own _ _, fun u hu k hk => (zeroC_off u hu k hk).elim, ?_, ?_, fun k hk => HX11.out.new k hk⟩
       · rw [HYE.out]
         exact ⟨g, nm2, ww3, r2, v3, rfl, HX11.out.way.stay (fun k hk => HO12.out.block k (fun e => rway_notRtp HX11.out.way HX11.out.z1 (e ▸ hk))), rfl⟩
       · exact HX11.out.fr.trans (Fr.of_only (F := fun k => k = w.heap.size) HO12.out rfl) (fun i hi => .inr (by omega))
theorem ropen15_any (p : Value) (y : Wy) (F : Nat → Prop) (A : Option Addr) (n c : Nat) (bs : List UInt8) (w : World) (h : RY w p y F) (hg : y.good) (hu : y.used + 1 ≤ 900) (hr : RdS w A n c bs) (hoff : 0 < n → ∀ ad, A = some ad → ¬ F ad.block ∧ ad.block < w.heap.size) :
 Calls Tryz.prog 13 #[p, .slice A n c] w (OpenR RY p y F bs w) := by
 by_cases h0 : whyPeek bs = 0
 case neg => exact ropen15_peek p y F A n c bs w h hg hr h0
 by_cases h1 : y.limit ≤ y.used
 · exact ropen15_7 p y F A n c bs w h hg hr h0 h1
 by_cases h3 : lookW y.ws (soN bs) = none ∧ 8 ≤ y.ws.length
 · exact ropen15_6 p y F A n c bs w h hg hr h0 h1 h3
 by_cases h4 : 281474976710656 ≤ idxW y bs
 · exact ropen15_3 p y F A n c bs w h hg hr h0 h1 h3 h4
 by_cases h5 : ∃ L, lookW y.ws (soN bs) = some L ∧ frL L (idxW y bs) = false
 · exact ropen15_5 p y F A n c bs w h hg hr h0 h1 h3 h4 h5
 · exact ropen15_go p y F A n c bs w h hg hr h0 h1 h3 h4 h5 hu hoff
end Go.Proofs.YtmkeioeodlidgaaGreatDoor
