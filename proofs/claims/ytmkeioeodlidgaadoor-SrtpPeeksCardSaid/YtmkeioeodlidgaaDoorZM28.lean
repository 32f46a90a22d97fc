/- Several texts in one: Contracts of package srtp: ciphered bytes opened (Open). Contracts of package srtp: a new way (New). Plain words: the chapter's example of layer 15: a packet sealed by two indices, opened, opened again. No statement is proved here. -/
import Derived.Test.YtmkeioeodlidgaaDoorZM27
import Derived.Test.YtmkeioeodlidgaaDoorZM26
import Derived.Test.YtmkeioeodlidgaaDoorZM20
import Derived.Test.YtmkeioeodlidgaaDoorZM21
import Derived.Test.YtmkeioeodlidgaaDoorZM25
namespace Go.Proofs.YtmkeioeodlidgaaDoor
open Go.RowKit
set_option linter.unusedVariables false

theorem PkOwn.off {w : World} {b : Nat} {cs : List Value} {p : Pkt} (h : PkOwn w b cs p) : ∀ u ∈ cs, ∀ k, u.ownBlock = some k → b ≤ k := by
  obtain ⟨A, a, B, b', D, d, e, h1, h2, h3⟩ := h
  subst e
  intro u hu k hk
  simp only [rtpC, List.mem_cons, List.not_mem_nil, or_false] at hu
  rcases hu with rfl | rfl | rfl | rfl | rfl | rfl | rfl | rfl | rfl | rfl | rfl
  case inr.inr.inr.inr.inr.inl => exact (h1.lt k hk).1
  case inr.inr.inr.inr.inr.inr.inr.inr.inl => exact (h2.lt k hk).1
  case inr.inr.inr.inr.inr.inr.inr.inr.inr.inl => exact (h3.lt k hk).1
  all_goals simp [Value.ownBlock] at hk
/-- Open under way: the result's cell is a zero packet. -/
structure ZE (w : World) (F : Nat → Prop) (g b : Nat) (y : Wy) (A : Option Addr) (n c : Nat) (bs : List UInt8) (wx : World) : Prop where
  way : PWay wx g b y
  z : BlkV wx w.heap.size 40 zeroC
  rd : RdS wx A n c bs
  tab : TabH wx
  fr : Fr F w wx
  lt : w.heap.size < wx.heap.size
section
variable {w wx wy : World} {F G : Nat → Prop} {g b : Nat} {y y2 : Wy} {A : Option Addr} {n c : Nat} {bs : List UInt8}
theorem ZE.on (h : ZE w F g b y A n c bs wx) (hb : Below wx.heap.size wx wy) : ZE w F g b y A n c bs wy :=
  ⟨h.way.below hb, h.z.below hb h.z.lt, h.rd.below hb, tab_below h.tab hb, h.fr.then hb, Nat.lt_of_lt_of_le h.lt hb.size⟩
theorem ZE.turn (h : ZE w F g b y A n c bs wx) (hf : Fr G wx wy) (hG : ∀ k, G k → F k) (hF : ∀ k, F k → k < w.heap.size) (hoff : 0 < n → ∀ ad, A = some ad → ¬ F ad.block) (hw : PWay wy g b y2) (ht : TabH wy) : ZE w F g b y2 A n c bs wy where
  way := hw
  z := h.z.fr hf (fun k => by have := hF _ (hG _ k); omega)
  rd := h.rd.fr hf (fun h0 ad hA k => hoff h0 ad hA (hG _ k))
  tab := ht
  fr := h.fr.trans hf (fun i hi => .inl (hG i hi))
  lt := Nat.lt_of_lt_of_le h.lt hf.size
end
theorem tab_fr {w w2 : World} {F : Nat → Prop} (ht : TabH w) (hf : Fr F w w2) (hn : ¬ F 0) : TabH w2 := fun j v hv => by
  have hc := ht j v hv
  have hlt := World.block_lt_of_cell? w _ hc
  exact (hf.cell (a := ⟨0, 0 + j, none⟩) hlt hn).trans hc
theorem zfitP : 0 + zeroC.length ≤ zeroC.length := by decide
set_option maxRecDepth 100000 in
set_option maxHeartbeats 1000000 in
theorem open15_no (g b : Nat) (y : Wy) (F : Nat → Prop) (A : Option Addr) (n c : Nat) (bs : List UInt8) (w : World) (h : RP w (.pointer (some ⟨g, 0, none⟩)) y F) (hw : PWay w g b y) (ht : TabH w) (hg : y.good) (hr : RdS w A n c bs) (h1 : whyOpen y bs ≠ 0) :
    Calls Tryd.prog 9 #[.pointer (some ⟨g, 0, none⟩), .slice A n c] w (OpenR RP (.pointer (some ⟨g, 0, none⟩)) y F bs w) := by
  have hz := zero28
  have hb0 : Below w.heap.size w (w.alloc (.cells zeroC.toArray 40)) := (Below.refl _ _).alloc (Nat.le_refl _) _
  have HB0 := Lib.hid hb0
  have HZ0 : Hid (BlkV (w.alloc (.cells zeroC.toArray 40)) w.heap.size 40 zeroC) := Lib.hid (BlkV.new w _ zeroC)
  have HNO := Lib.hid (fun w' hb => OpenR.no (w' := w') rp_lone h rfl h1 hb)
  have HR11 : Hid (RowTy Tryd.prog 40 zeroC.length) := Lib.hid (row11 rfl)
  have HJ := Lib.hid ((judge15_any g b y A n c bs _ (hw.below hb0) (tab_below ht hb0) hg (hr.below hb0)).mono (R' := fun e w' => e = .returned (.tuple #[.int .u32 0, .int .i64 0, .int .i64 (whyOpen y bs)]) ∧ Below (w.alloc (.cells zeroC.toArray 40)).heap.size (w.alloc (.cells zeroC.toArray 40)) w') (fun e w' k => ⟨k.1.2 h1, k.2⟩))
  obtain ⟨q, hq⟩ : ∃ q, q = whyOpen y bs := ⟨_, rfl⟩
  rw [← hq] at HJ HNO h1
  clear h hw ht hg hr hb0 hq
  go_enter Tryd.func9, Tryd.ntmps9
  go_wp2_with (first
    | (go_at_call 23; ((with_reducible refine (Hid.out HJ).mono ?_); rintro e w1 ⟨rfl, hb1⟩; have HZ1 := Lib.hid (HZ0.out.below hb1 HZ0.out.lt); have HB1 := Lib.hid (HB0.out.trans (hb1.mono HB0.out.size)); clear hb1))
    | ((with_reducible refine wpList_st rfl 40 (.tmp 4) (.tmp 22) rfl w.heap.size 0 zeroC rfl rfl 40 zeroC HZ1.out zfitP HR11.out zeroC_one ?_); intro w9 hB9 ho9; rw [splice_all _ _ rfl] at hB9; have HB9 := Lib.hid hB9; have HF9 := Lib.hid (HB1.out.trans (ho9.below (Nat.le_refl _))); clear hB9 ho9))
  exact ret_row3 rfl rfl HB9.out (row11 rfl) rfl (HNO.out _ HF9.out)
set_option maxRecDepth 100000 in
set_option maxHeartbeats 1000000 in
theorem open15_go (g b : Nat) (y : Wy) (F : Nat → Prop) (A : Option Addr) (n c : Nat) (bs : List UInt8) (w : World) (h : RP w (.pointer (some ⟨g, 0, none⟩)) y F) (hw : PWay w g b y) (hFF : F = fun k => k = g ∨ k = b) (ht : TabH w) (hg : y.good) (hu : y.used + 1 ≤ 900) (hr : RdS w A n c bs) (h1 : whyOpen y bs = 0) (hoff : 0 < n → ∀ ad, A = some ad → ¬ F ad.block ∧ ad.block < w.heap.size) :
    Calls Tryd.prog 9 #[.pointer (some ⟨g, 0, none⟩), .slice A n c] w (OpenR RP (.pointer (some ⟨g, 0, none⟩)) y F bs w) := by
  have hz := zero28
  have HFL : Hid (∀ k, F k → k < w.heap.size) := Lib.hid (fun k hk => rp_lone.low _ _ _ _ h k hk)
  have HFg : Hid (F g) := Lib.hid (by rw [hFF]; exact .inl rfl)
  have HFb : Hid (F b) := Lib.hid (by rw [hFF]; exact .inr rfl)
  have HFF := Lib.hid hFF
  have hgn := tab_way ht hw hg.1
  have HTN : Hid (¬ F 0) := Lib.hid (by rw [hFF]; exact fun k => k.elim (fun e => hgn.1 e.symm) (fun e => hgn.2 e.symm))
  have HOFF : Hid (0 < n → ∀ ad, A = some ad → ¬ F ad.block) := Lib.hid (fun h0 ad hA => (hoff h0 ad hA).1)
  have hb0 : Below w.heap.size w (w.alloc (.cells zeroC.toArray 40)) := (Below.refl _ _).alloc (Nat.le_refl _) _
  have HE0 : Hid (ZE w F g b y A n c bs (w.alloc (.cells zeroC.toArray 40))) := Lib.hid ⟨hw.below hb0, BlkV.new w _ zeroC, hr.below hb0, tab_below ht hb0, Fr.of_below hb0, by rw [← size_alloc]; omega⟩
  have HR11 : Hid (RowTy Tryd.prog 40 zeroC.length) := Lib.hid (row11 rfl)
  obtain ⟨o1, o2, o3, o4, o5, o6⟩ := open_zero h1
  obtain ⟨hp1, hp2, hp3⟩ := peek_len o1
  have hI0 := idxW_ge y bs
  have hln := hr.len
  obtain ⟨SO, hSO⟩ : ∃ x, x = soN bs := ⟨_, rfl⟩
  have lSO : SO < 4294967296 := hSO ▸ soN_lt bs
  obtain ⟨I, hI⟩ : ∃ I : Nat, idxW y bs = (I : Int) := ⟨(idxW y bs).toNat, by omega⟩
  obtain ⟨N, hN⟩ : ∃ x, x = bs.length - 10 := ⟨_, rfl⟩
  have hat := (at1_take (b := bs) (m := N) (by omega)).1 (by omega)
  have hPW : turnW y (bs.take N) (at1 (bs.take N)) SO I = plainW y bs := by
    unfold plainW
    rw [hat, hSO, hI, Int.toNat_natCast, hN]
  have hPL : (plainW y bs).length = N := by
    rw [← hPW]
    exact turnW_len y _ _ SO I N (by rw [List.length_take]; omega) (by omega)
  have HJ := Lib.hid ((judge15_any g b y A n c bs _ HE0.out.way HE0.out.tab hg HE0.out.rd).mono (R' := fun e w' => e = .returned (.tuple #[.int .u32 (SO : Int), .int .i64 (I : Int), .int .i64 0]) ∧ Below (w.alloc (.cells zeroC.toArray 40)).heap.size (w.alloc (.cells zeroC.toArray 40)) w') (fun e w' k => ⟨by rw [hSO, ← hI]; exact k.1.1 h1, k.2⟩))
  have HG := Lib.hid hg
  obtain ⟨U, hU⟩ : ∃ U, U = y.used := ⟨_, rfl⟩
  have HUU := Lib.hid hU
  have hU9 : 0 ≤ U ∧ U + 1 ≤ 900 := by rw [hU]; exact ⟨hg.1.2.2.2.2.1, hu⟩
  have HY1 : Hid (Wy.fit { y with used := U + 1 }) := Lib.hid (by
    obtain ⟨k1, k2, k3, k4, k5, k6, k7⟩ := hg.1
    exact ⟨k1, k2, k3, k4, by show 0 ≤ U + 1; omega, k6, k7⟩)
  have hwf := win_facts hg SO
  have hbd := highW_bd hg SO
  rw [highW_win] at hbd
  have hyO : yO y bs = { y with used := U + 1, ws := markW y.ws SO (I : Int) } := by unfold yO; rw [if_pos h1, hU, hSO, hI]
  have hgo := good_open hg bs hu
  rw [hyO] at hgo
  have HY2 : Hid (Wy.fit { y with used := U + 1, ws := markW y.ws SO (I : Int) }) := Lib.hid hgo.1
  have HYO := Lib.hid hyO
  have HCD : Hid ((whyR (plainW y bs) = 0 → codeO y bs = 0 ∧ idxO y bs = (I : Int) ∧ pktO y bs = pktR (plainW y bs)) ∧ (whyR (plainW y bs) ≠ 0 → codeO y bs = 3 ∧ idxO y bs = 0 ∧ pktO y bs = pkZ)) := Lib.hid (by
    refine ⟨fun k => ?_, fun k => ?_⟩
    · have hc : codeO y bs = 0 := by unfold codeO; rw [if_neg (fun k2 => k2 h1), if_neg (fun k2 => k2 k)]
      exact ⟨hc, by unfold idxO; rw [if_pos hc, hI], by unfold pktO; rw [if_pos hc]⟩
    · have hc : codeO y bs = 3 := by unfold codeO; rw [if_neg (fun k2 => k2 h1), if_pos k]
      exact ⟨hc, by unfold idxO; rw [hc, if_neg (by decide)], by unfold pktO; rw [hc, if_neg (by decide)]⟩)
  have HMK : Hid (∀ W, PWay W g b { y with used := U + 1 } → Calls Tryd.prog 24 #[.pointer (some ⟨g, 0, none⟩), .int .u32 (SO : Int), .int .i64 (I : Int)] W fun e w' => e = .returned (.tuple #[]) ∧ PWay w' g b { y with used := U + 1, ws := markW y.ws SO (I : Int) } ∧ Fr (fun k => k = b) W w') := Lib.hid (fun W k => mark15_any g b { y with used := U + 1 } SO (I : Int) W k HY1.out lSO (by omega) (show hiL (winW y.ws SO) ≤ _ by omega))
  have HCT := Lib.hid (fun W (k : RdS W A n c bs) => cut15_any A n c bs W k N (by omega) (by omega))
  have HNn := Lib.hid (show N ≤ n by omega)
  have HTU : Hid (∀ W, PWay W g b { y with used := U + 1, ws := markW y.ws SO (I : Int) } → RdS W A N c (bs.take N) → Calls Tryd.prog 20 #[.pointer (some ⟨g, 0, none⟩), .slice A N c, .int .u32 (SO : Int), .int .i64 (I : Int)] W fun e w' => ∃ A' c', e = .returned (.slice A' N c') ∧ BO W w' A' N c' (plainW y bs)) := Lib.hid (fun W k hr => by rw [← hPW]; exact turned15_any g b { y with used := U + 1, ws := markW y.ws SO (I : Int) } A N c (bs.take N) SO I W k HY2.out hr (by omega) (by omega) (by omega) lSO (by omega))
  obtain ⟨PW, hPWe⟩ : ∃ x, x = plainW y bs := ⟨_, rfl⟩
  rw [← hPWe] at HTU HCD hPL
  have HRE : Hid (∀ W A' c', RdS W A' N c' PW → Calls Tryd.prog 25 #[.slice A' N c'] W fun e w' => ∃ cs, e = .returned (.tuple #[.agg cs.toArray, .int .i64 (whyR PW)]) ∧ PkOwn w' W.heap.size cs (pktO y bs) ∧ Below W.heap.size W w') := Lib.hid (fun W A' c' hr => by
    by_cases k : whyR PW = 0
    · rw [k, (HCD.out.1 k).2.2]
      exact read_any_ok A' N c' PW W hr k
    · rw [(HCD.out.2 k).2.2]
      exact (read_any_no A' N c' PW W hr k).mono fun e w' ⟨he, hb⟩ => ⟨zeroC, he, pkZ_own _ _, hb⟩)
  have HCQ : Hid ((whyR PW = 0 → codeO y bs = 0 ∧ idxO y bs = (I : Int)) ∧ (whyR PW ≠ 0 → codeO y bs = 3 ∧ idxO y bs = 0 ∧ pktO y bs = pkZ)) := Lib.hid ⟨fun k => ⟨(HCD.out.1 k).1, (HCD.out.1 k).2.1⟩, HCD.out.2⟩
  obtain ⟨q, hq⟩ : ∃ q, q = whyR PW := ⟨_, rfl⟩
  rw [← hq] at HRE HCQ
  have f51 : ∀ W, PWay W g b y → W.frozen? ⟨g, 51, none⟩ = false := fun W k => k.bk.frozen 51
  have HF51 := Lib.hid f51
  clear hw hFF ht hg hu hr h1 hoff hgn hb0 o1 o2 o3 o4 o5 o6 hp1 hp2 hp3 hI0 hln hSO hI hN hat hPW hPL hU hwf hbd hyO hgo hPWe hq f51 HCD h
  go_enter Tryd.func9, Tryd.ntmps9
  go_upto_region 4 with (go_at_call 23; ((with_reducible refine (Hid.out HJ).mono ?_); rintro e w1 ⟨rfl, hb1⟩; have HE1 := Lib.hid (HE0.out.on hb1); clear hb1))
  clear HE0 HJ
  have d51 := (HE1.out.way.cells_ HG.out.1).2.1
  rw [← HUU.out] at d51
  have g51 := HF51.out w1 HE1.out.way
  have ho2 := Only.set w1 g 51 (.int .i64 (U + 1))
  have HE2 : Hid (ZE w F g b { y with used := U + 1 } A n c bs (w1.setCell ⟨g, 51, none⟩ (.int .i64 (U + 1)))) := Lib.hid (HE1.out.turn (Fr.of_only (F := fun k => k = g) ho2 rfl) (fun k e => e ▸ HFg.out) HFL.out HOFF.out (HE1.out.way.used HG.out.1 (U + 1)) (tab_fr HE1.out.tab (Fr.of_only (F := F) ho2 HFg.out) HTN.out))
  obtain ⟨U1, hU1⟩ : ∃ x, x = U + 1 := ⟨_, rfl⟩
  have eU : IntKind.i64.wrap (U + 1) = U1 := by rw [hU1]; exact IntWalk.i64_in _ (by omega)
  rw [← hU1] at HE2 HMK HTU HYO HY1 HY2
  clear hU1 ho2
  go_upto_region 5 with (fail)
  obtain ⟨w2, hw2⟩ : ∃ x, x = w1.setCell ⟨g, 51, none⟩ (.int .i64 U1) := ⟨_, rfl⟩
  rw [← hw2] at HE2 ⊢
  clear hw2 d51 g51 HE1
  go_upto_region 7 with (first
    | (go_at_call 24; ((with_reducible refine (HMK.out w2 HE2.out.way).mono ?_); rintro e w3 ⟨rfl, hw3, hf3⟩; have HE3 := Lib.hid (HE2.out.turn hf3 (fun k e => e ▸ HFb.out) HFL.out HOFF.out hw3 (tab_fr HE2.out.tab (hf3.mono (G := F) (fun k e => e ▸ HFb.out)) HTN.out)); clear hw3 hf3))
    | (go_at_call 11; ((with_reducible refine (HCT.out w3 HE3.out.rd).mono ?_); rintro e w4 ⟨AT, rfl, hb4, hrt⟩; have HE4 := Lib.hid (HE3.out.on hb4); clear hb4 hrt)))
  clear HE2 HE3 HMK HCT HY1
  go_upto_region 8 with (first
    | (go_at_call 20; ((with_reducible refine (HTU.out w4 HE4.out.way (HE4.out.rd.headR N HNn.out)).mono ?_); rintro e w5 ⟨A5, c5, rfl, ho5⟩; have HE5 := Lib.hid (HE4.out.on ho5.2); have HR5 := Lib.hid ho5.rd; clear ho5))
    | (go_at_call 25; ((with_reducible refine (HRE.out w5 A5 c5 HR5.out).mono ?_); rintro e w6 ⟨cs, rfl, hp6, hb6⟩; have HE6 := Lib.hid (HE5.out.on hb6); have HP6 := Lib.hid hp6; have hI6 := BlkV.new_at w6 w6.heap.size 40 zeroC _ rfl rfl; clear hp6 hb6))
    | ((with_reducible refine wpList_st rfl 40 (.tmp 12) (.tmp 47) rfl w6.heap.size 0 cs rfl rfl 40 zeroC hI6 (by rw [HP6.out.len]; decide) (row11 HP6.out.len) HP6.out.one ?_); intro w7 hB7 ho7; rw [splice_all _ _ (by rw [HP6.out.len]; rfl)] at hB7; have HB7 := Lib.hid hB7; have hb7 : Below w6.heap.size w6 w7 := ((Below.refl _ _).alloc (Nat.le_refl _) _).trans (ho7.below (Nat.le_refl _)); have HE7 := Lib.hid (HE6.out.on hb7); have HP7 := Lib.hid (HP6.out.below hb7); clear hB7 ho7 hb7))
  have HS5 : Hid (w.heap.size < w5.heap.size) := Lib.hid HE5.out.lt
  clear HE4 HTU HRE HR5 HE6 HP6 hI6
  by_cases hq0 : q = 0
  · have HC0 := Lib.hid (HCQ.out.1 hq0)
    subst hq0
    clear HCQ
    have RG7 := Lib.hid (HB7.out.range 0 cs (fun i _ => by rw [Nat.zero_add]))
    have HRT : Hid (RowTy Tryd.prog 40 cs.length) := Lib.hid (row11 HP7.out.len)
    go_wp2_with (first
      | (with_reducible refine wpList_ld rfl 40 (.tmp 12) rfl w6.heap.size 0 rfl cs RG7.out HRT.out ?_)
      | ((with_reducible refine wpList_st rfl 40 (.tmp 4) (.tmp 52) rfl w.heap.size 0 cs rfl rfl 40 zeroC HE7.out.z (by rw [HP7.out.len]; decide) HRT.out HP7.out.one ?_); intro w9 hB9 ho9; rw [splice_all _ _ (by rw [HP7.out.len]; rfl)] at hB9; have HB9 := Lib.hid hB9; have HO9 := Lib.hid ho9; clear hB9 ho9))
    refine ret_row3 rfl rfl HB9.out (row11 HP7.out.len) rfl ⟨cs, F, by rw [HC0.out.1, HC0.out.2]; rfl, (HP7.out.only HO9.out HS5.out).mono (Nat.le_of_lt HS5.out), fun u hu k hk hF => ?_, ?_, ?_, fun k hk => .inl hk⟩
    · have h1 := HP7.out.off u hu k hk
      have h2 := HFL.out k hF
      have h3 := HS5.out
      omega
    · rw [HYO.out]
      have hl1 := HFL.out g HFg.out
      have hl2 := HFL.out b HFb.out
      exact ⟨g, b, rfl, HE7.out.way.stay (HO9.out.block g (by omega)) (HO9.out.block b (by omega)), HFF.out⟩
    · exact HE7.out.fr.trans (Fr.of_only (F := fun k => k = w.heap.size) HO9.out rfl) (fun i hi => .inr (by omega))
  · have HC3 := Lib.hid (HCQ.out.2 hq0)
    clear HCQ
    go_wp2_with ((with_reducible refine wpList_st rfl 40 (.tmp 4) (.tmp 51) rfl w.heap.size 0 zeroC rfl rfl 40 zeroC HE7.out.z zfitP HR11.out zeroC_one ?_); intro w9 hB9 ho9; rw [splice_all _ _ rfl] at hB9; have HB9 := Lib.hid hB9; have HO9 := Lib.hid ho9; clear hB9 ho9)
    refine ret_row3 rfl rfl HB9.out (row11 rfl) rfl ⟨zeroC, F, by rw [HC3.out.1, HC3.out.2.1]; rfl, by rw [HC3.out.2.2]; exact pkZ_own _ _, fun u hu k hk => (zeroC_off u hu k hk).elim, ?_, ?_, fun k hk => .inl hk⟩
    · rw [HYO.out]
      have hl1 := HFL.out g HFg.out
      have hl2 := HFL.out b HFb.out
      exact ⟨g, b, rfl, HE7.out.way.stay (HO9.out.block g (by omega)) (HO9.out.block b (by omega)), HFF.out⟩
    · exact HE7.out.fr.trans (Fr.of_only (F := fun k => k = w.heap.size) HO9.out rfl) (fun i hi => .inr (by omega))
/-- What the program's Open tells. -/
theorem open15_any (p : Value) (y : Wy) (F : Nat → Prop) (A : Option Addr) (n c : Nat) (bs : List UInt8) (w : World) (h : RP w p y F) (ht : TabH w) (hg : y.good) (hu : y.used + 1 ≤ 900) (hr : RdS w A n c bs) (hoff : 0 < n → ∀ ad, A = some ad → ¬ F ad.block ∧ ad.block < w.heap.size) :
    Calls Tryd.prog 9 #[p, .slice A n c] w (OpenR RP p y F bs w) := by
  have hk := h
  obtain ⟨g, b, rfl, hw, hFF⟩ := h
  by_cases h1 : whyOpen y bs = 0
  · exact open15_go g b y F A n c bs w hk hw hFF ht hg hu hr h1 hoff
  · exact open15_no g b y F A n c bs w hk hw ht hg hr h1
end Go.Proofs.YtmkeioeodlidgaaDoor

namespace Go.Proofs.YtmkeioeodlidgaaDoor
open Go.RowKit
set_option linter.unusedVariables false

section
variable {P : Program} {w : World} {ops : Array Oper} {rest : List Oper} {op : Oper} {a : Act} {Q : Exit → Act → World → Prop}
theorem wpList_built3y (hgd : op.guard = none) (t : TypeId) (i j k : Nat) (x y z : Operand) (ho : op.op = .build t #[(i, x), (j, y), (k, z)]) (u u2 u3 v : Value) (hx : a.eval x = u) (hy : a.eval y = u2) (hz : a.eval z = u3) (hr : (Instr.build t #[(i, u), (j, u2), (k, u3)]).run P w = .ok v w)
    (hK : wpList P ops Q rest (a.put op.dst v) w) : wpList P ops Q (op :: rest) a w := by
  refine wpList_plain hgd fun K hK2 => ?_
  unfold Oper.wp execOp
  simp only [ho, List.map_toArray, List.map_cons, List.map_nil, hx, hy, hz, Sem.run_bind, hr, Result.andThen_ok, Sem.run_pure]
  exact hK2 _ _ hK
end
set_option maxRecDepth 100000 in
set_option maxHeartbeats 1000000 in
theorem run_wayP (K : List UInt8) (hk : K.length = 50) (limit : Int) (b : Nat) (w : World) :
    (Instr.build 62 #[(0, .agg (cells K).toArray), (1, .int .i64 limit), (3, .map (some b))]).run Tryd.prog w = .ok (.agg (cells K ++ ([.int .i64 limit, .int .i64 0, .map (some b)] : List Value)).toArray) w := by
  obtain ⟨x0, x1, x2, x3, x4, x5, x6, x7, x8, x9, x10, x11, x12, x13, x14, x15, x16, x17, x18, x19, x20, x21, x22, x23, x24, x25, x26, x27, x28, x29, x30, x31, x32, x33, x34, x35, x36, x37, x38, x39, x40, x41, x42, x43, x44, x45, x46, x47, x48, x49, rfl⟩ := list50 hk
  kernel_rfl
set_option maxRecDepth 100000 in
theorem new15_any (key salt : List UInt8) (limit : Int) (w : World) (hk : key.length = 16) (hs : salt.length = 14) :
    Calls Tryd.prog 7 #[.agg (cells (mst key salt)).toArray, .int .i64 limit] w fun e w' => ∃ p F, e = .returned p ∧ RP w' p (newY key salt limit) F ∧ (∀ k, F k → w.heap.size ≤ k) ∧ Below w.heap.size w w' := by
  have hB : BlkV (w.alloc (.cells (cells (mst key salt)).toArray 37)) w.heap.size 37 (cells (mst key salt)) := BlkV.new _ _ _
  have HB0 : Hid (Below w.heap.size w (w.alloc (.cells (cells (mst key salt)).toArray 37))) := Lib.hid ((Below.refl _ _).alloc (Nat.le_refl _) _)
  have HML : Hid ((cells (mst key salt)).length = 30) := Lib.hid (by rw [length_cells, mst_len key salt hk hs])
  have HKY := Lib.hid (fun W => rtp_any key salt W hk hs)
  have HBU := Lib.hid (fun b => run_wayP (kys key salt 0) (kys_len _ _ _) limit b)
  have RG := Lib.hid (hB.range 0 (cells (mst key salt)) (fun i _ => by rw [Nat.zero_add]))
  have RT : Hid (RowTy Tryd.prog 37 (cells (mst key salt)).length) := Lib.hid (row30 HML.out)
  have hmm := @run_makeMap Tryd.prog
  obtain ⟨M, hM⟩ : ∃ M, M = cells (mst key salt) := ⟨_, rfl⟩
  obtain ⟨K, hK⟩ : ∃ K, K = cells (kys key salt 0) := ⟨_, rfl⟩
  rw [← hM] at HB0 HML HKY RG RT ⊢
  rw [← hK] at HBU
  simp only [← hK] at HKY
  have HK := Lib.hid hK
  clear hB hk hs hM hK
  go_enter Tryd.func7, Tryd.ntmps7
  go_wp2_with (first
    | (with_reducible refine wpList_ld rfl 37 (.tmp 2) rfl w.heap.size 0 rfl M RG.out RT.out ?_)
    | (go_at_call 16; ((with_reducible refine (HKY.out _).mono ?_); rintro e w1 ⟨rfl, hb1⟩; have HB1 := Lib.hid (HB0.out.trans (hb1.mono HB0.out.size)); clear hb1))
    | (with_reducible refine wpList_built3y rfl 62 0 1 3 (.tmp 6) (.tmp 7) (.tmp 8) rfl (.agg K.toArray) (.int .i64 limit) (.map (some w1.heap.size)) (.agg (K ++ ([.int .i64 limit, .int .i64 0, .map (some w1.heap.size)] : List Value)).toArray) rfl rfl rfl (HBU.out w1.heap.size _) ?_))
  go_ret
  have hs := size_alloc w1 (.map #[] 0)
  refine ⟨_, _, rfl, ⟨w1.heap.size + 1, w1.heap.size, rfl, ⟨?_, ?_⟩, rfl⟩, ?_, (HB1.out.alloc HB1.out.size _).alloc (by have := HB1.out.size; omega) _⟩
  · rw [newY_ks, ← HK.out]
    exact BlkV.new_at _ _ _ _ _ hs.symm rfl
  · exact (MapW.made w1).below ((Below.refl _ _).alloc (Nat.le_refl _) _)
  · intro k hk
    have := HB1.out.size
    rcases hk with rfl | rfl <;> omega
end Go.Proofs.YtmkeioeodlidgaaDoor

namespace Go.Proofs.YtmkeioeodlidgaaDoor
open Go.RowKit
set_option linter.unusedVariables false

def z16Y : List UInt8 := List.replicate 16 0
def z14Y : List UInt8 := List.replicate 14 0
def keyY : List UInt8 := [102, 233, 75, 212, 239, 138, 44, 59, 136, 76, 250, 89, 202, 52, 43, 46]
def saltY : List UInt8 := [181, 176, 52, 33, 222, 139, 191, 252, 78, 173, 236, 118, 115, 57]
def cntY1 : List UInt8 := [181, 176, 52, 33, 222, 139, 191, 249, 78, 173, 236, 119, 115, 62, 0, 0]
def cntY2 : List UInt8 := [181, 176, 52, 33, 222, 139, 191, 249, 78, 173, 236, 118, 115, 62, 0, 0]
theorem exY_key : drv z16Y z14Y 0 16 = keyY := by
  rw [drv, strm_below _ _ _ (labC_len _ _ rfl) (by omega)]; decide +kernel
theorem exY_salt : drv z16Y z14Y 2 14 = saltY := by
  rw [drv, strm_below _ _ _ (labC_len _ _ rfl) (by omega)]; decide +kernel
theorem exY_c1 : firstC saltY 5 65543 = cntY1 := by decide +kernel
theorem exY_c2 : firstC saltY 5 7 = cntY2 := by decide +kernel
theorem exY_ne : (enc (kall keyY) cntY1).getD 0 0 ≠ (enc (kall keyY) cntY2).getD 0 0 := by decide +kernel
def pkY : Pkt := ⟨false, 96, 7, 0, 5, [], false, 0, [], [104, 101, 108, 108, 111], 0⟩
theorem pkY_may : mayB pkY := ⟨by decide, by decide, .inr ⟨rfl, rfl⟩, by decide, by decide, by decide⟩
theorem pkY_fits : fits pkY := ⟨by decide, by decide, by decide, fun x hx => (nomatch hx), by decide, by decide⟩
theorem pkY_len : (wrB pkY).length = 17 := by rw [wrB_len]; rfl
theorem pkY_at1 : at1 (wrB pkY) = 12 := by
  have h := read_wr pkY pkY_may pkY_fits
  rw [← hd_at1 _ h.1, h.2]
  rfl
theorem pkY_w1 : mayW pkY 65543 := ⟨pkY_may, by decide, by decide, by decide, by rw [pkY_len]; decide⟩
theorem pkY_w2 : mayW pkY 7 := ⟨pkY_may, by decide, by decide, by decide, by rw [pkY_len]; decide⟩
theorem sealB_mid (s : Wy) (B : List UInt8) (h so i : Nat) (hh : h ≤ B.length) : ((sealB s B h so i).drop h).take (B.length - h) = cph s.key (firstC s.salt so i) (B.drop h) := by
  have e : (B.take h).length = h := by rw [List.length_take]; omega
  unfold sealB turnW
  rw [List.append_assoc, List.drop_left' e, List.take_left' (by rw [cph_len, List.length_drop])]
theorem xor_left (a x y : UInt8) (h : a ^^^ x = a ^^^ y) : x = y := by
  have h2 := congrArg (fun z => a ^^^ z) h
  simpa only [← UInt8.xor_assoc, UInt8.xor_self, UInt8.zero_xor] using h2
theorem exY_diff (s t : Wy) (hs : s.key = keyY ∧ s.salt = saltY) (ht : t.key = keyY ∧ t.salt = saltY) : sealB s (wrB pkY) (at1 (wrB pkY)) 5 65543 ≠ sealB t (wrB pkY) (at1 (wrB pkY)) 5 7 := by
  intro e
  have h1 := sealB_mid s (wrB pkY) (at1 (wrB pkY)) 5 65543 (by rw [pkY_at1, pkY_len]; decide)
  have h2 := sealB_mid t (wrB pkY) (at1 (wrB pkY)) 5 7 (by rw [pkY_at1, pkY_len]; decide)
  rw [e, h2, hs.1, hs.2, ht.1, ht.2, exY_c1, exY_c2] at h1
  have hl : ((wrB pkY).drop (at1 (wrB pkY))).length = 5 := by rw [List.length_drop, pkY_at1, pkY_len]
  have h3 := congrArg (fun l => l.getD 0 0) h1
  simp only [cph] at h3
  rw [tab_get _ _ _ (by omega), tab_get _ _ _ (by omega)] at h3
  have h4 := xor_left _ _ _ h3
  unfold ksB at h4
  rw [show 0 / 16 = 0 from rfl, show 0 % 16 = 0 from rfl, plusC_zero _ rfl, plusC_zero _ rfl] at h4
  exact exY_ne h4.symm
/-- A new way of zeros. -/
noncomputable def yY : Wy := newY z16Y z14Y 9
theorem yY_good : yY.good := newY_good _ _ _ (by decide)
theorem yY_keys : yY.key = keyY ∧ yY.salt = saltY := ⟨exY_key, exY_salt⟩
theorem exY_seal1 : whySeal yY pkY 65543 = 0 ∧ outSeal yY pkY 65543 = sealB yY (wrB pkY) (at1 (wrB pkY)) 5 65543 ∧ ySeal yY pkY 65543 = yY.once := by
  have h : whySeal yY pkY 65543 = 0 := why0 (by show ¬ (9 : Int) ≤ 0; decide) pkY_w1
  exact ⟨h, by unfold outSeal; rw [if_pos h]; rfl, by unfold ySeal; rw [if_pos h]⟩
theorem exY_seal2 : whySeal yY.once pkY 7 = 0 ∧ outSeal yY.once pkY 7 = sealB yY.once (wrB pkY) (at1 (wrB pkY)) 5 7 ∧ ySeal yY.once pkY 7 = yY.once.once := by
  have h : whySeal yY.once pkY 7 = 0 := why0 (by show ¬ (9 : Int) ≤ 0 + 1; decide) pkY_w2
  exact ⟨h, by unfold outSeal; rw [if_pos h]; rfl, by unfold ySeal; rw [if_pos h]⟩
theorem exY_differ : outSeal yY pkY 65543 ≠ outSeal yY.once pkY 7 := by
  rw [exY_seal1.2.1, exY_seal2.2.1]
  exact exY_diff _ _ yY_keys yY_keys
theorem exY_sealed : Sealed yY.once pkY 7 (outSeal yY.once pkY 7) := by
  rw [exY_seal2.2.1]
  exact sealed_ok yY.once pkY 7 pkY_w2 pkY_fits
theorem exY_open1 : codeO yY (outSeal yY.once pkY 7) = 0 ∧ idxO yY (outSeal yY.once pkY 7) = 7 ∧ pktO yY (outSeal yY.once pkY 7) = pkY ∧ yO yY (outSeal yY.once pkY 7) = { yY with used := 1, ws := [(5, [7])] } := by
  obtain ⟨h1, h2, h3, h4⟩ := sealed_new (y := yY) exY_sealed pkY_may pkY_fits ⟨rfl, rfl, rfl⟩ (by show ¬ (9 : Int) ≤ 0; decide) rfl
  exact ⟨h1, h2, h3, h4⟩
theorem exY_open2 : codeO { yY with used := 1, ws := [(5, [7])] } (outSeal yY.once pkY 7) = 5 :=
  sealed_old (y := { yY with used := 1, ws := [(5, [7])] }) exY_sealed pkY_may pkY_fits (by show ¬ (9 : Int) ≤ 1; decide) rfl
end Go.Proofs.YtmkeioeodlidgaaDoor
