/- Several texts in one: plain words and walks. No statement is proved here. -/
import Derived.Test.YtmkeioeodlidgaaGreatDoorZM17
namespace Go.Proofs.YtmkeioeodlidgaaGreatDoor
open Go.RowKit
set_option linter.unusedVariables false

set_option maxRecDepth 100000 in
set_option maxHeartbeats 8000000 in
theorem rread_ok11 (A : Option Addr) (n c : Nat) (bs : List UInt8) (w : World) (hr : RdS w A n c bs) (hm : ¬ 1200 < n) (h12 : ¬ n < 12) (hv : bt bs 0 / 64 = 2) (ho : at0 bs ≤ n) (hx : bt bs 0 / 16 % 2 = 1) (hp : bt bs 0 / 32 % 2 = 1) (he : at0 bs + 4 + 4 * wordsN bs ≤ n) (hw : wordsN bs ≤ 255) (hq : 1 ≤ bt bs (n - 1)) (hq2 : bt bs (n - 1) ≤ n - (at0 bs + 4 + 4 * wordsN bs)) (hq3 : at0 bs + 4 + 4 * wordsN bs < n) :
 Calls Tryz.prog 39 #[.slice A n c] w fun e w' => ∃ cs, e = .returned (.tuple #[.agg cs.toArray, .int .i64 (at0 bs + 4 + 4 * wordsN bs : Nat), .int .i64 0]) ∧ PkOwn w' w.heap.size cs ⟨bt bs 1 / 128 == 1, bt bs 1 % 128, sqN bs, stN bs, soN bs, srcs (bs.drop 12) (othN bs), true, numb ((bs.drop (at0 bs)).take 2), (bs.drop (at0 bs + 4)).take (4 * wordsN bs), (bs.drop (at0 bs + 4 + 4 * wordsN bs)).take (n - bt bs (n - 1) - (at0 bs + 4 + 4 * wordsN bs)), bt bs (n - 1)⟩ ∧ Below w.heap.size w w' := by
 have hz := zero28
 have hs := hr.small
 have hl := hr.len
 have hle := hr.le
 obtain ⟨hb, h1, h2⟩ := rbox w
 have HB := Lib.hid hb
 have HU := Lib.hid (under_start w)
 clear h1 h2 hb
 obtain ⟨b, off, rfl, hlt, hcs⟩ := hr.2.2.2.2 (by omega)
 have CB : Hid (∀ wx, Below w.heap.size w wx → ∀ j, j < n → wx.cell? ⟨b, off + j, none⟩ = some (.int .u8 (bt bs j : Nat))) := Lib.hid fun wx hb j hj => (hb.cell (p := ⟨b, off + j, none⟩) hlt).trans (hcs j hj)
 have c0 : (rboxW w).cell? ⟨b, off, none⟩ = some (.int .u8 (bt bs 0 : Nat)) := CB.out _ HB.out 0 (by omega)
 have lb := bt_lt bs 0
 have lb1 := bt_lt bs 1
 have ll := bt_lt bs (n - 1)
 have l2 := sqN_lt bs
 have l3 := stN_lt bs
 have l4 := soN_lt bs
 have e3 : ((n : Int) - 1) = ((n - 1 : Nat) : Int) := by omega
 have hk : ((bt bs 0 : Int) % 16) = (othN bs : Int) := by unfold othN; omega
 have lk : othN bs < 16 := by unfold othN; omega
 have HN : Hid (∀ (k : Nat) wx, Below w.heap.size w wx → k < othN bs → Calls Tryz.prog 56 #[.slice (some ⟨b, off, none⟩) n c, .int .i64 (12 + 4 * (k : Int)), .int .i64 4] wx fun e w' => e = .returned (.int .u64 (numb (((bs.drop 12).drop (4 * k)).take 4) : Nat)) ∧ wx = w') := Lib.hid fun k wx hb hk => by
  unfold at0 at ho
  have := rnum_yes (some ⟨b, off, none⟩) n c bs (12 + 4 * k) 4 wx (hr.below hb) (by omega) (by omega) (by omega)
  rw [show ((12 + 4 * k : Nat) : Int) = 12 + 4 * (k : Int) by omega] at this
  rw [List.drop_drop]
  exact this
 have HN2 : Hid (∀ wx, Below w.heap.size w wx → Calls Tryz.prog 56 #[.slice (some ⟨b, off, none⟩) n c, .int .i64 2, .int .i64 2] wx fun e w' => e = .returned (.int .u64 (sqN bs : Nat)) ∧ wx = w') := Lib.hid fun wx hb => rnum_yes (some ⟨b, off, none⟩) n c bs 2 2 wx (hr.below hb) (by omega) (by omega) (by omega)
 have HN4 : Hid (∀ wx, Below w.heap.size w wx → Calls Tryz.prog 56 #[.slice (some ⟨b, off, none⟩) n c, .int .i64 4, .int .i64 4] wx fun e w' => e = .returned (.int .u64 (stN bs : Nat)) ∧ wx = w') := Lib.hid fun wx hb => rnum_yes (some ⟨b, off, none⟩) n c bs 4 4 wx (hr.below hb) (by omega) (by omega) (by omega)
 have HN8 : Hid (∀ wx, Below w.heap.size w wx → Calls Tryz.prog 56 #[.slice (some ⟨b, off, none⟩) n c, .int .i64 8, .int .i64 4] wx fun e w' => e = .returned (.int .u64 (soN bs : Nat)) ∧ wx = w') := Lib.hid fun wx hb => rnum_yes (some ⟨b, off, none⟩) n c bs 8 4 wx (hr.below hb) (by omega) (by omega) (by omega)
 have lw := words_lt bs
 have lpf : numb ((bs.drop (at0 bs)).take 2) < 65536 := by have := numb_take_lt (bs.drop (at0 bs)) 2; simpa using this
 have HW2 : Hid (∀ wx, Below w.heap.size w wx → Calls Tryz.prog 56 #[.slice (some ⟨b, off, none⟩) n c, .int .i64 (12 + 4 * (othN bs : Int) + 2), .int .i64 2] wx fun e w' => e = .returned (.int .u64 (wordsN bs : Nat)) ∧ wx = w') := Lib.hid fun wx hb => by
  have := rnum_yes (some ⟨b, off, none⟩) n c bs (at0 bs + 2) 2 wx (hr.below hb) (by omega) (by omega) (by omega)
  rw [show ((at0 bs + 2 : Nat) : Int) = 12 + 4 * (othN bs : Int) + 2 by unfold at0; omega] at this
  exact this
 have HWP : Hid (∀ wx, Below w.heap.size w wx → Calls Tryz.prog 56 #[.slice (some ⟨b, off, none⟩) n c, .int .i64 (12 + 4 * (othN bs : Int)), .int .i64 2] wx fun e w' => e = .returned (.int .u64 (numb ((bs.drop (at0 bs)).take 2) : Nat)) ∧ wx = w') := Lib.hid fun wx hb => by
  have := rnum_yes (some ⟨b, off, none⟩) n c bs (at0 bs) 2 wx (hr.below hb) (by omega) (by omega) (by omega)
  rw [show ((at0 bs : Nat) : Int) = 12 + 4 * (othN bs : Int) by unfold at0; omega] at this
  exact this
 obtain ⟨A7, hs7, hs7', hr7⟩ := run_sl w (some ⟨b, off, none⟩) n c bs (at0 bs + 4) (at0 bs + 4 + 4 * wordsN bs) (12 + 4 * (othN bs : Int) + 4) (12 + 4 * (othN bs : Int) + 4 + 4 * (wordsN bs : Int)) (by unfold at0; omega) (by unfold at0; omega) (by omega) (by omega) hr
 rw [show at0 bs + 4 + 4 * wordsN bs - (at0 bs + 4) = 4 * wordsN bs by omega] at hs7 hs7' hr7
 obtain ⟨X, hX⟩ : ∃ X, X = (bs.drop (at0 bs + 4)).take (4 * wordsN bs) := ⟨_, rfl⟩
 rw [← hX] at hr7
 have hXl : X.length = 4 * wordsN bs := hr7.len
 obtain ⟨A9, hs9, hs9', hr9⟩ := run_sl w (some ⟨b, off, none⟩) n c bs (at0 bs + 4 + 4 * wordsN bs) (n - bt bs (n - 1)) (12 + 4 * (othN bs : Int) + 4 + 4 * (wordsN bs : Int)) ((n : Int) - (bt bs (n - 1) : Int)) (by unfold at0; omega) (by omega) (by omega) (by omega) hr
 obtain ⟨Y, hY⟩ : ∃ Y, Y = (bs.drop (at0 bs + 4 + 4 * wordsN bs)).take (n - bt bs (n - 1) - (at0 bs + 4 + 4 * wordsN bs)) := ⟨_, rfl⟩
 have hYl : Y.length = n - bt bs (n - 1) - (at0 bs + 4 + 4 * wordsN bs) := by rw [hY]; exact hr9.len
 rw [← hY, ← hYl] at hr9
 rw [← hYl] at hs9 hs9'
 have hat : at0 bs = 12 + 4 * othN bs := rfl
 have HAT := Lib.hid hat
 obtain ⟨pf, hpf⟩ : ∃ pf, pf = numb ((bs.drop (at0 bs)).take 2) := ⟨_, rfl⟩
 rw [← hpf] at lpf
 simp only [← hpf] at HWP
 rw [hat] at ho he hq2 hq3 hYl
 obtain ⟨K, hK⟩ : ∃ K, K = othN bs := ⟨_, rfl⟩
 obtain ⟨b0, hb0⟩ : ∃ b0, b0 = bt bs 0 := ⟨_, rfl⟩
 obtain ⟨b1, hb1⟩ : ∃ b1, b1 = bt bs 1 := ⟨_, rfl⟩
 obtain ⟨sq, hsq⟩ : ∃ sq, sq = sqN bs := ⟨_, rfl⟩
 obtain ⟨st, hst⟩ : ∃ st, st = stN bs := ⟨_, rfl⟩
 obtain ⟨so, hso⟩ : ∃ so, so = soN bs := ⟨_, rfl⟩
 obtain ⟨ty, hty⟩ : ∃ ty, ty = bt bs 1 % 128 := ⟨_, rfl⟩
 obtain ⟨mk, hmk⟩ : ∃ mk, mk = (bt bs 1 / 128 == 1) := ⟨_, rfl⟩
 obtain ⟨W, hW⟩ : ∃ W, W = wordsN bs := ⟨_, rfl⟩
 obtain ⟨L, hL⟩ : ∃ L, L = bt bs (n - 1) := ⟨_, rfl⟩
 simp only [← hK] at hk lk ho HN he HW2 HWP hs7 hs7' hq2 hq3 hs9 hs9' hYl
 simp only [← hW] at lw he hw HW2 hs7 hs7' hr7 hXl hq2 hq3 hs9 hs9' hYl hr9
 simp only [← hL] at ll hq hq2 hs9 hs9' hYl
 simp only [← hb0] at c0 lb hv hk hx hp
 simp only [← hb1] at lb1 hty hmk
 simp only [← hsq] at l2 HN2
 simp only [← hst] at l3 HN4
 simp only [← hso] at l4 HN8
 have hv2 : ((b0 : Int) / 64 == 2) = true := by simp; omega
 have hvn : ((b0 : Int) / 64 != 2) = false := by rw [bne, hv2]; rfl
 have hx1 : ((b0 : Int) / 16 % 2 == 1) = true := by simp; omega
 have hp1 : ((b0 : Int) / 32 % 2 == 1) = true := by simp; omega
 have ht1 : ((b1 : Int) % 128) = (ty : Int) := by omega
 have hm1 : decide ((127 : Int) < (b1 : Int)) = mk := by rw [hmk, Bool.eq_iff_iff]; simp; omega
 have lty : ty < 128 := by omega
 have q1 : ((12 + 4 * (K : Int) + 4 + 4 * (W : Int)) == (n : Int)) = false := by simp; omega
 have q2 : ((L : Int) == 0) = false := by simp; omega
 have q3 : (L : Int) ≤ (n : Int) - (12 + 4 * (K : Int) + 4 + 4 * (W : Int)) := by omega
 have HR9 := Lib.hid hr9
 have HYL := Lib.hid hYl
 have hy9 : Y.length ≤ 1000000 := by omega
 have HR7 := Lib.hid hr7
 have HXL := Lib.hid hXl
 have w7 : IntKind.i64.wrap (12 + 4 * (K : Int) + 4) = 12 + 4 * (K : Int) + 4 := by rw [IntKind.wrap_i64]; omega
 have w8 : IntKind.i64.wrap (4 * (W : Int)) = 4 * (W : Int) := by rw [IntKind.wrap_i64]; omega
 have w9 : IntKind.i64.wrap (12 + 4 * (K : Int) + 4 + 4 * (W : Int)) = 12 + 4 * (K : Int) + 4 + 4 * (W : Int) := by rw [IntKind.wrap_i64]; omega
 have w10 : IntKind.i64.wrap ((n : Int) - (L : Int)) = (n : Int) - (L : Int) := by rw [IntKind.wrap_i64]; omega
 have HMK := Lib.hid hmk
 have HTY := Lib.hid hty
 have HK_ := Lib.hid hK
 have HB0_ := Lib.hid hb0
 have HB1_ := Lib.hid hb1
 have HSQ_ := Lib.hid hsq
 have HST_ := Lib.hid hst
 have HSO_ := Lib.hid hso
 have HW_ := Lib.hid hW
 have HPF_ := Lib.hid hpf
 have HX_ := Lib.hid hX
 have HL_ := Lib.hid hL
 have HY_ := Lib.hid hY
 clear hr hcs hat hK hb0 hb1 hsq hst hso hW hpf hX hL hY hmk hty hv hx hp hXl hr7 hr9 hq hq2
 clear hYl
 go_enter Tryz.func39, Tryz.ntmps39
 go_wp2_with (first
  | (go_at_call 56; ((with_reducible refine (Hid.out HW2 _ HB.out).mono ?_); rintro e w1 ⟨rfl, hq1⟩; have HU1 : Hid (Under w w1 false 0 0 0 0 [] none 0 false 0 [] none 0 [] none 0 0) := Lib.hid (hq1 ▸ HU.out); have k6 : w1.cell? ⟨w.heap.size + 1, 6, none⟩ = some (.bool false) := (HU1.out.blk.cell 6).trans rfl; have f6 := HU1.out.blk.frozen 6; have HUa := Lib.hid ((HU1.out.put 6 (.bool true) (x2 := true) rfl)); clear hq1 c0))
  | (go_at_call 56; ((with_reducible refine (Hid.out HWP _ HUa.out.bel).mono ?_); rintro e w2 ⟨rfl, hq2⟩; have HU2 : Hid (Under w w2 false 0 0 0 0 [] none 0 true 0 [] none 0 [] none 0 0) := Lib.hid (hq2 ▸ HUa.out); have k7 : w2.cell? ⟨w.heap.size + 1, 7, none⟩ = some (.int .u16 0) := (HU2.out.blk.cell 7).trans rfl; have f7 := HU2.out.blk.frozen 7; have HUb := Lib.hid ((HU2.out.put 7 (.int .u16 (pf : Int)) (pf2 := pf) rfl)); clear hq2 k6 f6)))
 generalize (w2.setCell ⟨w.heap.size + 1, 7, none⟩ (.int .u16 (pf : Int))) = w3 at HUb ⊢
 clear k7 f7
 have HV := HUb.out.siz
 have k8 : w3.drew.cell? ⟨w.heap.size + 1, 8, none⟩ = some (.slice none 0 0) := (HUb.out.blk.cell 8).trans rfl
 go_region_law (first
  | (refine step_append_rd (by rfl) (.tmp 72) (.tmp 81) (by rfl) Tryz.underlying35 u8_info (w.heap.size + 2) (.slice none 0 0) 0 [] (by rfl) (World.ownsRow_nil _ _ _ _) A7 (4 * W) (c - (at0 bs + 4)) X (by rfl) (HR7.out.below HUb.out.bel.drew) (by omega) HV ?_; intro v4 w4 hown4 hg4 hat4; rw [Nat.zero_add, List.nil_append, ← HXL.out] at hown4; obtain ⟨B, bX, hv4⟩ := own_form hown4; subst hv4; have hb4 : Below w3.heap.size w3 w4 := below_of_grown ⟨hg4.os, hg4.tape, hg4.output, hg4.size, hg4.block⟩ (Nat.le_refl _) (fun q hq => by simp [Value.ownBlock] at hq); have hk4 := (HUb.out.blk.below hb4 HUb.out.blk.lt); have k4 : w4.cell? ⟨w.heap.size + 1, 8, none⟩ = some (.slice none 0 0) := (hk4.cell 8).trans rfl; have f4 := hk4.frozen 8; have HUc := Lib.hid (HUb.out.putX hb4 hown4); clear hg4 hat4 hown4 hk4)
  | fail)
 generalize (w4.setCell ⟨w.heap.size + 1, 8, none⟩ (.slice B X.length bX)) = V at HUc ⊢
 clear k8 k4 f4 hb4
 have hV : Hid (Below w.heap.size w V) := Lib.hid HUc.out.bel
 have c0 : V.cell? ⟨b, off, none⟩ = some (.int .u8 (b0 : Int)) := by rw [HB0_.out]; exact CB.out V hV.out 0 (by omega)
 have cl : V.cell? ⟨b, off + (n - 1), none⟩ = some (.int .u8 (L : Int)) := by rw [HL_.out]; exact CB.out _ hV.out (n - 1) (by omega)
 go_wp2
 have HBX : Hid (∀ q, (Value.slice B X.length bX).ownBlock = some q → q < V.heap.size) := Lib.hid (fun q hq => (HUc.out.ox.lt q hq).2)
 go_loopw [11] (fun i wr => ∃ (k : Nat) (A : Option Addr) (a : Nat) (U : List Nat), k ≤ K ∧ U.length = k ∧ i = .int .i64 k ∧ Hid (U = srcs (bs.drop 12) k) ∧ Hid (Under w wr false 0 0 0 0 U A a true pf X B bX [] none 0 0) ∧ Hid (V.heap.size ≤ wr.heap.size ∧ ∀ q, (Value.slice A k a).ownBlock = some q → V.heap.size ≤ q)) (fun i _ => K - (intOf i).toNat)
 case atStart => exact ⟨0, none, 0, [], by omega, rfl, rfl, Lib.hid rfl, HUc, Lib.hid ⟨Nat.le_refl _, fun q hq => by simp [Value.ownBlock] at hq⟩⟩
 case round =>
  obtain ⟨k, A, a, U, hkK, hUl, rfl, hUs, hUn, hUq⟩ := hrel
  by_cases hkn : k < K
  · have HN1 := Lib.hid (HN.out k wr.drew hUn.out.bel.drew hkn)
    have lx : numb (((bs.drop 12).drop (4 * k)).take 4) < 4294967296 := by have := numb_take_lt ((bs.drop 12).drop (4 * k)) 4; simpa using this
    have hU2 : Hid (U ++ [numb (((bs.drop 12).drop (4 * k)).take 4)] = srcs (bs.drop 12) (k + 1)) := Lib.hid (by rw [hUs.out, srcs_succ])
    obtain ⟨x, hx⟩ : ∃ x, x = numb (((bs.drop 12).drop (4 * k)).take 4) := ⟨_, rfl⟩
    rw [← hx] at HN1 lx hU2
    have hc5 : wr.drew.cell? ⟨w.heap.size + 1, 5, none⟩ = some (.slice A k a) := by rw [← hUl]; exact (hUn.out.blk.cell 5).trans rfl
    have hc5b : (wr.alloc (.cells #[.int .u32 (x : Int)] 33)).drew.cell? ⟨w.heap.size + 1, 5, none⟩ = some (.slice A k a) := by rw [← hUl]; exact ((hUn.out.blk.alloc _).cell 5).trans rfl
    have hou : Hid (wr.drew.ownsRow (w.heap.size + 2) 33 1 (.slice A k a) k (ucells U)) := Lib.hid (by rw [← hUl]; exact hUn.out.ou)
    have hw1 : IntKind.i64.wrap (4 * (k : Int)) = 4 * (k : Int) := by rw [IntKind.wrap_i64]; omega
    have hw2 : IntKind.i64.wrap (12 + 4 * (k : Int)) = 12 + 4 * (k : Int) := by rw [IntKind.wrap_i64]; omega
    have hw3 : IntKind.u32.wrap (x : Int) = (x : Int) := by rw [IntKind.wrap_u32]; omega
    have hfin : Hid (∀ (v2 : Value) (w2 : World) (A2 : Option Addr) (a2 : Nat), v2 = .slice A2 (k + 1) a2 → w2.ownsRow (w.heap.size + 2) 33 1 v2 (k + 1) (ucells U ++ [.int .u32 (x : Int)]) → (wr.alloc (.cells #[.int .u32 (x : Int)] 33)).grownBy w2 (Value.slice A k a).ownBlock →
     (v2.ownBlock = (Value.slice A k a).ownBlock ∨ v2.ownBlock = some (wr.alloc (.cells #[.int .u32 (x : Int)] 33)).heap.size) →
     w2.cell? ⟨w.heap.size + 1, 5, none⟩ = some (.slice A k a) ∧ w2.frozen? ⟨w.heap.size + 1, 5, none⟩ = false ∧
     Under w (w2.setCell ⟨w.heap.size + 1, 5, none⟩ v2) false 0 0 0 0 (U ++ [x]) A2 a2 true pf X B bX [] none 0 0 ∧ (V.heap.size ≤ (w2.setCell ⟨w.heap.size + 1, 5, none⟩ v2).heap.size ∧ ∀ q, (Value.slice A2 (k + 1) a2).ownBlock = some q → V.heap.size ≤ q)) := Lib.hid (by
     intro v2 w2 A2 a2 hv hown hg hat
     subst hv
     have hU := hUn.out
     subst hUl
     have hg2 : wr.grownBy w2 (Value.slice A U.length a).ownBlock := (grown_of_below ((Below.refl _ _).alloc (Nat.le_refl _) _) _).trans hg
     have hqb : ∀ q, (Value.slice A U.length a).ownBlock = some q → w.heap.size + 2 ≤ q := fun q hq => (hU.ou.lt q hq).1
     have hb := hU.blk.grown hg2 (fun e => by have := hqb _ e.symm; omega)
     refine ⟨(hb.cell 5).trans rfl, hb.frozen 5, ?_, ?_, ?_⟩
     · have e1 : U.length + 1 = (U ++ [x]).length := by simp
       rw [e1] at hown ⊢
       exact hU.putU hg2 (by rw [ucells_snoc]; exact hown) (fun q hq e => by have h1 := hUq.out.2 q hq; have h2 := HBX.out q e; omega) (fun q hq e => by simp [Value.ownBlock] at e)
     · have h1 := hUq.out.1
       have h2 := hg2.size
       rw [(Only.set w2 (w.heap.size + 1) 5 _).size]
       exact Nat.le_trans h1 h2
     · intro q hq
       rcases hat with hat | hat
       · exact hUq.out.2 q (by rw [← hat]; exact hq)
       · rw [hq] at hat
         injection hat with hat
         have h1 := hUq.out.1
         have h2 : (wr.alloc (.cells #[.int .u32 (x : Int)] 33)).heap.size = wr.heap.size + 1 := by simp
         rw [h2] at hat
         omega)
    clear hx
    go_wp2
    go_region_law (first
     | (go_simp; go_at_call 56; ((with_reducible refine (Hid.out HN1).mono ?_); rintro e w' ⟨rfl, rfl⟩))
     | (refine step_app1 _ (by rfl) (.tmp 122) (.tmp 129) (by rfl) Tryz.underlying34 u32_inf rfl (by omega) (w.heap.size + 2) (.slice A k a) k (ucells U) (by rfl) (hou.out.alloc _) ⟨wr.heap.size, 0, none⟩ 1 (by rfl) (.int .u32 (x : Int)) (cell_one_new _ _ _ 0 _ rfl) rfl (by omega) (by have := hUn.out.siz; simp; omega) ?_; intro v2 w2 hown2 hg2 hat2 _; obtain ⟨A2, a2, hv2⟩ := own_form hown2; obtain ⟨hc2, hf2, hU3, hq3⟩ := hfin.out v2 w2 A2 a2 hv2 hown2 ⟨hg2.os, hg2.tape, hg2.output, hg2.size, hg2.block⟩ hat2; subst hv2; have HU3 := Lib.hid hU3; have HQ3 := Lib.hid hq3; clear hU3 hq3)
     | fail)
    all_goals (try go_wp2)
    all_goals (go_roundw)
    case rel => exact ⟨k + 1, A2, a2, U ++ [x], by omega, by simp [hUl], by go_num, hU2, HU3, HQ3⟩
    case measure => simp [intOf]; omega
    case rel => exact ⟨k + 1, A2, a2, U ++ [x], by omega, by simp [hUl], by go_num, hU2, HU3, HQ3⟩
    case measure => simp [intOf]; omega
    case rel => exact ⟨k + 1, A2, a2, U ++ [x], by omega, by simp [hUl], by go_num, hU2, HU3, HQ3⟩
    case measure => simp [intOf]; omega
  · have hke : k = K := by omega
    subst hke
    subst hUl
    have c1 : wr.cell? ⟨b, off + 1, none⟩ = some (.int .u8 (b1 : Int)) := by rw [HB1_.out]; exact CB.out wr hUn.out.bel 1 (by omega)
    have k0 : wr.cell? ⟨w.heap.size + 1, 0, none⟩ = some (.bool false) := (hUn.out.blk.cell 0).trans rfl
    have f0 := hUn.out.blk.frozen 0
    have k1 : wr.cell? ⟨w.heap.size + 1, 1, none⟩ = some (.int .u8 0) := (hUn.out.blk.cell 1).trans rfl
    have f1 := hUn.out.blk.frozen 1
    have k2 : wr.cell? ⟨w.heap.size + 1, 2, none⟩ = some (.int .u16 0) := (hUn.out.blk.cell 2).trans rfl
    have f2 := hUn.out.blk.frozen 2
    have k3 : wr.cell? ⟨w.heap.size + 1, 3, none⟩ = some (.int .u32 0) := (hUn.out.blk.cell 3).trans rfl
    have f3 := hUn.out.blk.frozen 3
    have k4 : wr.cell? ⟨w.heap.size + 1, 4, none⟩ = some (.int .u32 0) := (hUn.out.blk.cell 4).trans rfl
    have f4 := hUn.out.blk.frozen 4
    have HU1 := Lib.hid (hUn.out.put 0 (.bool mk) (m2 := mk) rfl)
    have HU2 := Lib.hid (HU1.out.put 1 (.int .u8 (ty : Int)) (ty2 := ty) rfl)
    have HU3 := Lib.hid (HU2.out.put 2 (.int .u16 (sq : Int)) (sq2 := sq) rfl)
    have HU4 := Lib.hid (HU3.out.put 3 (.int .u32 (st : Int)) (st2 := st) rfl)
    have HU5 := Lib.hid (HU4.out.put 4 (.int .u32 (so : Int)) (so2 := so) rfl)
    clear hUn hUq HN
    go_wp2_with (first
     | (go_at_call 56; ((with_reducible refine (Hid.out HN2 _ HU2.out.bel).mono ?_); rintro e wq ⟨rfl, rfl⟩))
     | (go_at_call 56; ((with_reducible refine (Hid.out HN4 _ HU3.out.bel).mono ?_); rintro e wq ⟨rfl, rfl⟩))
     | (go_at_call 56; ((with_reducible refine (Hid.out HN8 _ HU4.out.bel).mono ?_); rintro e wq ⟨rfl, rfl⟩)))
    generalize (((((wr.setCell ⟨w.heap.size + 1, 0, none⟩ (.bool mk)).setCell ⟨w.heap.size + 1, 1, none⟩ (.int .u8 (ty : Int))).setCell ⟨w.heap.size + 1, 2, none⟩ (.int .u16 (sq : Int))).setCell ⟨w.heap.size + 1, 3, none⟩ (.int .u32 (st : Int))).setCell ⟨w.heap.size + 1, 4, none⟩ (.int .u32 (so : Int))) = w5 at HU5 ⊢
    clear k0 f0 k1 f1 k2 f2 k3 f3 k4 f4 c1 HU1 HU2 HU3 HU4
    have HV5 := HU5.out.siz
    have k9 : w5.drew.cell? ⟨w.heap.size + 1, 9, none⟩ = some (.slice none 0 0) := (HU5.out.blk.cell 9).trans rfl
    go_region_law (first
     | (refine step_append_rd (by rfl) (.tmp 155) (.tmp 161) (by rfl) Tryz.underlying35 u8_info (w.heap.size + 2) (.slice none 0 0) 0 [] (by rfl) (World.ownsRow_nil _ _ _ _) A9 Y.length (c - (at0 bs + 4 + 4 * W)) Y (by rfl) (HR9.out.below HU5.out.bel.drew) (by omega) HV5 ?_; intro v6 w6 hown6 hg6 hat6; rw [Nat.zero_add, List.nil_append] at hown6; obtain ⟨D, dY, hv6⟩ := own_form hown6; subst hv6; have hb6 : Below w5.heap.size w5 w6 := below_of_grown ⟨hg6.os, hg6.tape, hg6.output, hg6.size, hg6.block⟩ (Nat.le_refl _) (fun q hq => by simp [Value.ownBlock] at hq); have hk6 := (HU5.out.blk.below hb6 HU5.out.blk.lt); have k6 : w6.cell? ⟨w.heap.size + 1, 9, none⟩ = some (.slice none 0 0) := (hk6.cell 9).trans rfl; have f6 := hk6.frozen 9; have HU6 := Lib.hid (HU5.out.putY hb6 hown6); clear hg6 hat6 hown6 hk6)
     | fail)
    generalize (w6.setCell ⟨w.heap.size + 1, 9, none⟩ (.slice D Y.length dY)) = w7 at HU6 ⊢
    clear k9 k6 f6 hb6
    have k10 : w7.cell? ⟨w.heap.size + 1, 10, none⟩ = some (.int .u8 0) := (HU6.out.blk.cell 10).trans rfl
    have f10 := HU6.out.blk.frozen 10
    have HU7 := Lib.hid (HU6.out.put 10 (.int .u8 (L : Int)) (pd2 := L) rfl)
    go_wp2_with (first
     | (with_reducible refine wpList_ld rfl 37 (.tmp 5) rfl (w.heap.size + 1) 0 rfl (rtpC mk ty sq st so (.slice A U.length a) true pf (.slice B X.length bX) (.slice D Y.length dY) L) (HU7.out.blk.range 0 _ (fun i _ => by rw [Nat.zero_add])) (row11 rfl) ?_)
     | ((with_reducible refine wpList_st rfl 37 (.tmp 2) (.tmp 167) rfl w.heap.size 0 (rtpC mk ty sq st so (.slice A U.length a) true pf (.slice B X.length bX) (.slice D Y.length dY) L) rfl rfl 37 zeroC HU7.out.res fit11 (row11 rfl) (rtpC_one _ _ _ _ _ _ _ _ _ _ _ _ _ _ _ _ _) ?_); intro w9 hB9 ho9; rw [splice_all _ _ (by rfl)] at hB9))
    have hpk : (⟨bt bs 1 / 128 == 1, bt bs 1 % 128, sqN bs, stN bs, soN bs, srcs (bs.drop 12) (othN bs), true, numb ((bs.drop (at0 bs)).take 2), (bs.drop (at0 bs + 4)).take (4 * wordsN bs), (bs.drop (at0 bs + 4 + 4 * wordsN bs)).take (n - bt bs (n - 1) - (at0 bs + 4 + 4 * wordsN bs)), bt bs (n - 1)⟩ : Pkt) = ⟨mk, ty, sq, st, so, U, true, pf, X, Y, L⟩ := by
     rw [HTY.out, HMK.out, HB1_.out, HSQ_.out, HST_.out, HSO_.out, hUs.out, HK_.out, HY_.out, HPF_.out, HX_.out, HL_.out]
    have hae : ((at0 bs + 4 + 4 * wordsN bs : Nat) : Int) = 12 + 4 * (U.length : Int) + 4 + 4 * (W : Int) := by have h1 := HAT.out; have h2 := HK_.out; have h3 := HW_.out; omega
    rw [hpk, hae]
    exact bodyPost_ret (rread_results _ w9 _ (rtpC mk ty sq st so (.slice A U.length a) true pf (.slice B X.length bX) (.slice D Y.length dY) L) _ _ (by rfl) (by rfl) (by rfl) hB9 rfl) (by rfl) ⟨_, rfl, ⟨A, a, B, bX, D, dY, rfl, own_mono (own_only HU7.out.ou ho9 (by omega)) (by omega), own_mono (own_only HU7.out.ox ho9 (by omega)) (by omega), own_mono (own_only HU7.out.oy ho9 (by omega)) (by omega)⟩, HU7.out.bel.trans (ho9.below (Nat.le_refl _))⟩

set_option maxRecDepth 100000 in
set_option maxHeartbeats 8000000 in
theorem rread_ok10 (A : Option Addr) (n c : Nat) (bs : List UInt8) (w : World) (hr : RdS w A n c bs) (hm : ¬ 1200 < n) (h12 : ¬ n < 12) (hv : bt bs 0 / 64 = 2) (ho : at0 bs ≤ n) (hx : bt bs 0 / 16 % 2 = 1) (hp : bt bs 0 / 32 % 2 = 0) (he : at0 bs + 4 + 4 * wordsN bs ≤ n) (hw : wordsN bs ≤ 255) :
 Calls Tryz.prog 39 #[.slice A n c] w fun e w' => ∃ cs, e = .returned (.tuple #[.agg cs.toArray, .int .i64 (at0 bs + 4 + 4 * wordsN bs : Nat), .int .i64 0]) ∧ PkOwn w' w.heap.size cs ⟨bt bs 1 / 128 == 1, bt bs 1 % 128, sqN bs, stN bs, soN bs, srcs (bs.drop 12) (othN bs), true, numb ((bs.drop (at0 bs)).take 2), (bs.drop (at0 bs + 4)).take (4 * wordsN bs), (bs.drop (at0 bs + 4 + 4 * wordsN bs)).take (n - 0 - (at0 bs + 4 + 4 * wordsN bs)), 0⟩ ∧ Below w.heap.size w w' := by
 have hz := zero28
 have hs := hr.small
 have hl := hr.len
 have hle := hr.le
 obtain ⟨hb, h1, h2⟩ := rbox w
 have HB := Lib.hid hb
 have HU := Lib.hid (under_start w)
 clear h1 h2 hb
 obtain ⟨b, off, rfl, hlt, hcs⟩ := hr.2.2.2.2 (by omega)
 have CB : Hid (∀ wx, Below w.heap.size w wx → ∀ j, j < n → wx.cell? ⟨b, off + j, none⟩ = some (.int .u8 (bt bs j : Nat))) := Lib.hid fun wx hb j hj => (hb.cell (p := ⟨b, off + j, none⟩) hlt).trans (hcs j hj)
 have c0 : (rboxW w).cell? ⟨b, off, none⟩ = some (.int .u8 (bt bs 0 : Nat)) := CB.out _ HB.out 0 (by omega)
 have lb := bt_lt bs 0
 have lb1 := bt_lt bs 1
 have ll := bt_lt bs (n - 1)
 have l2 := sqN_lt bs
 have l3 := stN_lt bs
 have l4 := soN_lt bs
 have e3 : ((n : Int) - 1) = ((n - 1 : Nat) : Int) := by omega
 have hk : ((bt bs 0 : Int) % 16) = (othN bs : Int) := by unfold othN; omega
 have lk : othN bs < 16 := by unfold othN; omega
 have HN : Hid (∀ (k : Nat) wx, Below w.heap.size w wx → k < othN bs → Calls Tryz.prog 56 #[.slice (some ⟨b, off, none⟩) n c, .int .i64 (12 + 4 * (k : Int)), .int .i64 4] wx fun e w' => e = .returned (.int .u64 (numb (((bs.drop 12).drop (4 * k)).take 4) : Nat)) ∧ wx = w') := Lib.hid fun k wx hb hk => by
  unfold at0 at ho
  have := rnum_yes (some ⟨b, off, none⟩) n c bs (12 + 4 * k) 4 wx (hr.below hb) (by omega) (by omega) (by omega)
  rw [show ((12 + 4 * k : Nat) : Int) = 12 + 4 * (k : Int) by omega] at this
  rw [List.drop_drop]
  exact this
 have HN2 : Hid (∀ wx, Below w.heap.size w wx → Calls Tryz.prog 56 #[.slice (some ⟨b, off, none⟩) n c, .int .i64 2, .int .i64 2] wx fun e w' => e = .returned (.int .u64 (sqN bs : Nat)) ∧ wx = w') := Lib.hid fun wx hb => rnum_yes (some ⟨b, off, none⟩) n c bs 2 2 wx (hr.below hb) (by omega) (by omega) (by omega)
 have HN4 : Hid (∀ wx, Below w.heap.size w wx → Calls Tryz.prog 56 #[.slice (some ⟨b, off, none⟩) n c, .int .i64 4, .int .i64 4] wx fun e w' => e = .returned (.int .u64 (stN bs : Nat)) ∧ wx = w') := Lib.hid fun wx hb => rnum_yes (some ⟨b, off, none⟩) n c bs 4 4 wx (hr.below hb) (by omega) (by omega) (by omega)
 have HN8 : Hid (∀ wx, Below w.heap.size w wx → Calls Tryz.prog 56 #[.slice (some ⟨b, off, none⟩) n c, .int .i64 8, .int .i64 4] wx fun e w' => e = .returned (.int .u64 (soN bs : Nat)) ∧ wx = w') := Lib.hid fun wx hb => rnum_yes (some ⟨b, off, none⟩) n c bs 8 4 wx (hr.below hb) (by omega) (by omega) (by omega)
 have lw := words_lt bs
 have lpf : numb ((bs.drop (at0 bs)).take 2) < 65536 := by have := numb_take_lt (bs.drop (at0 bs)) 2; simpa using this
 have HW2 : Hid (∀ wx, Below w.heap.size w wx → Calls Tryz.prog 56 #[.slice (some ⟨b, off, none⟩) n c, .int .i64 (12 + 4 * (othN bs : Int) + 2), .int .i64 2] wx fun e w' => e = .returned (.int .u64 (wordsN bs : Nat)) ∧ wx = w') := Lib.hid fun wx hb => by
  have := rnum_yes (some ⟨b, off, none⟩) n c bs (at0 bs + 2) 2 wx (hr.below hb) (by omega) (by omega) (by omega)
  rw [show ((at0 bs + 2 : Nat) : Int) = 12 + 4 * (othN bs : Int) + 2 by unfold at0; omega] at this
  exact this
 have HWP : Hid (∀ wx, Below w.heap.size w wx → Calls Tryz.prog 56 #[.slice (some ⟨b, off, none⟩) n c, .int .i64 (12 + 4 * (othN bs : Int)), .int .i64 2] wx fun e w' => e = .returned (.int .u64 (numb ((bs.drop (at0 bs)).take 2) : Nat)) ∧ wx = w') := Lib.hid fun wx hb => by
  have := rnum_yes (some ⟨b, off, none⟩) n c bs (at0 bs) 2 wx (hr.below hb) (by omega) (by omega) (by omega)
  rw [show ((at0 bs : Nat) : Int) = 12 + 4 * (othN bs : Int) by unfold at0; omega] at this
  exact this
 obtain ⟨A7, hs7, hs7', hr7⟩ := run_sl w (some ⟨b, off, none⟩) n c bs (at0 bs + 4) (at0 bs + 4 + 4 * wordsN bs) (12 + 4 * (othN bs : Int) + 4) (12 + 4 * (othN bs : Int) + 4 + 4 * (wordsN bs : Int)) (by unfold at0; omega) (by unfold at0; omega) (by omega) (by omega) hr
 rw [show at0 bs + 4 + 4 * wordsN bs - (at0 bs + 4) = 4 * wordsN bs by omega] at hs7 hs7' hr7
 obtain ⟨X, hX⟩ : ∃ X, X = (bs.drop (at0 bs + 4)).take (4 * wordsN bs) := ⟨_, rfl⟩
 rw [← hX] at hr7
 have hXl : X.length = 4 * wordsN bs := hr7.len
 obtain ⟨A9, hs9, hs9', hr9⟩ := run_sl w (some ⟨b, off, none⟩) n c bs (at0 bs + 4 + 4 * wordsN bs) (n - 0) (12 + 4 * (othN bs : Int) + 4 + 4 * (wordsN bs : Int)) ((n : Int)) (by unfold at0; omega) (by omega) (by omega) (by omega) hr
 obtain ⟨Y, hY⟩ : ∃ Y, Y = (bs.drop (at0 bs + 4 + 4 * wordsN bs)).take (n - 0 - (at0 bs + 4 + 4 * wordsN bs)) := ⟨_, rfl⟩
 have hYl : Y.length = n - 0 - (at0 bs + 4 + 4 * wordsN bs) := by rw [hY]; exact hr9.len
 rw [← hY, ← hYl] at hr9
 rw [← hYl] at hs9 hs9'
 have hat : at0 bs = 12 + 4 * othN bs := rfl
 have HAT := Lib.hid hat
 obtain ⟨pf, hpf⟩ : ∃ pf, pf = numb ((bs.drop (at0 bs)).take 2) := ⟨_, rfl⟩
 rw [← hpf] at lpf
 simp only [← hpf] at HWP
 rw [hat] at ho he hYl
 obtain ⟨K, hK⟩ : ∃ K, K = othN bs := ⟨_, rfl⟩
 obtain ⟨b0, hb0⟩ : ∃ b0, b0 = bt bs 0 := ⟨_, rfl⟩
 obtain ⟨b1, hb1⟩ : ∃ b1, b1 = bt bs 1 := ⟨_, rfl⟩
 obtain ⟨sq, hsq⟩ : ∃ sq, sq = sqN bs := ⟨_, rfl⟩
 obtain ⟨st, hst⟩ : ∃ st, st = stN bs := ⟨_, rfl⟩
 obtain ⟨so, hso⟩ : ∃ so, so = soN bs := ⟨_, rfl⟩
 obtain ⟨ty, hty⟩ : ∃ ty, ty = bt bs 1 % 128 := ⟨_, rfl⟩
 obtain ⟨mk, hmk⟩ : ∃ mk, mk = (bt bs 1 / 128 == 1) := ⟨_, rfl⟩
 obtain ⟨W, hW⟩ : ∃ W, W = wordsN bs := ⟨_, rfl⟩
 simp only [← hK] at hk lk ho HN he HW2 HWP hs7 hs7' hs9 hs9' hYl
 simp only [← hW] at lw he hw HW2 hs7 hs7' hr7 hXl hs9 hs9' hYl hr9
 simp only [← hb0] at c0 lb hv hk hx hp
 simp only [← hb1] at lb1 hty hmk
 simp only [← hsq] at l2 HN2
 simp only [← hst] at l3 HN4
 simp only [← hso] at l4 HN8
 have hv2 : ((b0 : Int) / 64 == 2) = true := by simp; omega
 have hvn : ((b0 : Int) / 64 != 2) = false := by rw [bne, hv2]; rfl
 have hx1 : ((b0 : Int) / 16 % 2 == 1) = true := by simp; omega
 have hp1 : ((b0 : Int) / 32 % 2 == 1) = false := by simp; omega
 have ht1 : ((b1 : Int) % 128) = (ty : Int) := by omega
 have hm1 : decide ((127 : Int) < (b1 : Int)) = mk := by rw [hmk, Bool.eq_iff_iff]; simp; omega
 have lty : ty < 128 := by omega
 have HR9 := Lib.hid hr9
 have HYL := Lib.hid hYl
 have hy9 : Y.length ≤ 1000000 := by omega
 have HR7 := Lib.hid hr7
 have HXL := Lib.hid hXl
 have w7 : IntKind.i64.wrap (12 + 4 * (K : Int) + 4) = 12 + 4 * (K : Int) + 4 := by rw [IntKind.wrap_i64]; omega
 have w8 : IntKind.i64.wrap (4 * (W : Int)) = 4 * (W : Int) := by rw [IntKind.wrap_i64]; omega
 have w9 : IntKind.i64.wrap (12 + 4 * (K : Int) + 4 + 4 * (W : Int)) = 12 + 4 * (K : Int) + 4 + 4 * (W : Int) := by rw [IntKind.wrap_i64]; omega
 have w10 : IntKind.i64.wrap ((n : Int) - 0) = (n : Int) := by rw [IntKind.wrap_i64]; omega
 have w11 : IntKind.i64.wrap (n : Int) = (n : Int) := by rw [IntKind.wrap_i64]; omega
 have HMK := Lib.hid hmk
 have HTY := Lib.hid hty
 have HK_ := Lib.hid hK
 have HB0_ := Lib.hid hb0
 have HB1_ := Lib.hid hb1
 have HSQ_ := Lib.hid hsq
 have HST_ := Lib.hid hst
 have HSO_ := Lib.hid hso
 have HW_ := Lib.hid hW
 have HPF_ := Lib.hid hpf
 have HX_ := Lib.hid hX
 have HY_ := Lib.hid hY
 clear hr hcs hat hK hb0 hb1 hsq hst hso hW hpf hX hY hmk hty hv hx hp hXl hr7 hr9
 clear hYl
 go_enter Tryz.func39, Tryz.ntmps39
 go_wp2_with (first
  | (go_at_call 56; ((with_reducible refine (Hid.out HW2 _ HB.out).mono ?_); rintro e w1 ⟨rfl, hq1⟩; have HU1 : Hid (Under w w1 false 0 0 0 0 [] none 0 false 0 [] none 0 [] none 0 0) := Lib.hid (hq1 ▸ HU.out); have k6 : w1.cell? ⟨w.heap.size + 1, 6, none⟩ = some (.bool false) := (HU1.out.blk.cell 6).trans rfl; have f6 := HU1.out.blk.frozen 6; have HUa := Lib.hid ((HU1.out.put 6 (.bool true) (x2 := true) rfl)); clear hq1 c0))
  | (go_at_call 56; ((with_reducible refine (Hid.out HWP _ HUa.out.bel).mono ?_); rintro e w2 ⟨rfl, hq2⟩; have HU2 : Hid (Under w w2 false 0 0 0 0 [] none 0 true 0 [] none 0 [] none 0 0) := Lib.hid (hq2 ▸ HUa.out); have k7 : w2.cell? ⟨w.heap.size + 1, 7, none⟩ = some (.int .u16 0) := (HU2.out.blk.cell 7).trans rfl; have f7 := HU2.out.blk.frozen 7; have HUb := Lib.hid ((HU2.out.put 7 (.int .u16 (pf : Int)) (pf2 := pf) rfl)); clear hq2 k6 f6)))
 generalize (w2.setCell ⟨w.heap.size + 1, 7, none⟩ (.int .u16 (pf : Int))) = w3 at HUb ⊢
 clear k7 f7
 have HV := HUb.out.siz
 have k8 : w3.drew.cell? ⟨w.heap.size + 1, 8, none⟩ = some (.slice none 0 0) := (HUb.out.blk.cell 8).trans rfl
 go_region_law (first
  | (refine step_append_rd (by rfl) (.tmp 72) (.tmp 81) (by rfl) Tryz.underlying35 u8_info (w.heap.size + 2) (.slice none 0 0) 0 [] (by rfl) (World.ownsRow_nil _ _ _ _) A7 (4 * W) (c - (at0 bs + 4)) X (by rfl) (HR7.out.below HUb.out.bel.drew) (by omega) HV ?_; intro v4 w4 hown4 hg4 hat4; rw [Nat.zero_add, List.nil_append, ← HXL.out] at hown4; obtain ⟨B, bX, hv4⟩ := own_form hown4; subst hv4; have hb4 : Below w3.heap.size w3 w4 := below_of_grown ⟨hg4.os, hg4.tape, hg4.output, hg4.size, hg4.block⟩ (Nat.le_refl _) (fun q hq => by simp [Value.ownBlock] at hq); have hk4 := (HUb.out.blk.below hb4 HUb.out.blk.lt); have k4 : w4.cell? ⟨w.heap.size + 1, 8, none⟩ = some (.slice none 0 0) := (hk4.cell 8).trans rfl; have f4 := hk4.frozen 8; have HUc := Lib.hid (HUb.out.putX hb4 hown4); clear hg4 hat4 hown4 hk4)
  | fail)
 generalize (w4.setCell ⟨w.heap.size + 1, 8, none⟩ (.slice B X.length bX)) = V at HUc ⊢
 clear k8 k4 f4 hb4
 have hV : Hid (Below w.heap.size w V) := Lib.hid HUc.out.bel
 have c0 : V.cell? ⟨b, off, none⟩ = some (.int .u8 (b0 : Int)) := by rw [HB0_.out]; exact CB.out V hV.out 0 (by omega)
 go_wp2
 have HBX : Hid (∀ q, (Value.slice B X.length bX).ownBlock = some q → q < V.heap.size) := Lib.hid (fun q hq => (HUc.out.ox.lt q hq).2)
 go_loopw [11] (fun i wr => ∃ (k : Nat) (A : Option Addr) (a : Nat) (U : List Nat), k ≤ K ∧ U.length = k ∧ i = .int .i64 k ∧ Hid (U = srcs (bs.drop 12) k) ∧ Hid (Under w wr false 0 0 0 0 U A a true pf X B bX [] none 0 0) ∧ Hid (V.heap.size ≤ wr.heap.size ∧ ∀ q, (Value.slice A k a).ownBlock = some q → V.heap.size ≤ q)) (fun i _ => K - (intOf i).toNat)
 case atStart => exact ⟨0, none, 0, [], by omega, rfl, rfl, Lib.hid rfl, HUc, Lib.hid ⟨Nat.le_refl _, fun q hq => by simp [Value.ownBlock] at hq⟩⟩
 case round =>
  obtain ⟨k, A, a, U, hkK, hUl, rfl, hUs, hUn, hUq⟩ := hrel
  by_cases hkn : k < K
  · have HN1 := Lib.hid (HN.out k wr.drew hUn.out.bel.drew hkn)
    have lx : numb (((bs.drop 12).drop (4 * k)).take 4) < 4294967296 := by have := numb_take_lt ((bs.drop 12).drop (4 * k)) 4; simpa using this
    have hU2 : Hid (U ++ [numb (((bs.drop 12).drop (4 * k)).take 4)] = srcs (bs.drop 12) (k + 1)) := Lib.hid (by rw [hUs.out, srcs_succ])
    obtain ⟨x, hx⟩ : ∃ x, x = numb (((bs.drop 12).drop (4 * k)).take 4) := ⟨_, rfl⟩
    rw [← hx] at HN1 lx hU2
    have hc5 : wr.drew.cell? ⟨w.heap.size + 1, 5, none⟩ = some (.slice A k a) := by rw [← hUl]; exact (hUn.out.blk.cell 5).trans rfl
    have hc5b : (wr.alloc (.cells #[.int .u32 (x : Int)] 33)).drew.cell? ⟨w.heap.size + 1, 5, none⟩ = some (.slice A k a) := by rw [← hUl]; exact ((hUn.out.blk.alloc _).cell 5).trans rfl
    have hou : Hid (wr.drew.ownsRow (w.heap.size + 2) 33 1 (.slice A k a) k (ucells U)) := Lib.hid (by rw [← hUl]; exact hUn.out.ou)
    have hw1 : IntKind.i64.wrap (4 * (k : Int)) = 4 * (k : Int) := by rw [IntKind.wrap_i64]; omega
    have hw2 : IntKind.i64.wrap (12 + 4 * (k : Int)) = 12 + 4 * (k : Int) := by rw [IntKind.wrap_i64]; omega
    have hw3 : IntKind.u32.wrap (x : Int) = (x : Int) := by rw [IntKind.wrap_u32]; omega
    have hfin : Hid (∀ (v2 : Value) (w2 : World) (A2 : Option Addr) (a2 : Nat), v2 = .slice A2 (k + 1) a2 → w2.ownsRow (w.heap.size + 2) 33 1 v2 (k + 1) (ucells U ++ [.int .u32 (x : Int)]) → (wr.alloc (.cells #[.int .u32 (x : Int)] 33)).grownBy w2 (Value.slice A k a).ownBlock →
     (v2.ownBlock = (Value.slice A k a).ownBlock ∨ v2.ownBlock = some (wr.alloc (.cells #[.int .u32 (x : Int)] 33)).heap.size) →
     w2.cell? ⟨w.heap.size + 1, 5, none⟩ = some (.slice A k a) ∧ w2.frozen? ⟨w.heap.size + 1, 5, none⟩ = false ∧
     Under w (w2.setCell ⟨w.heap.size + 1, 5, none⟩ v2) false 0 0 0 0 (U ++ [x]) A2 a2 true pf X B bX [] none 0 0 ∧ (V.heap.size ≤ (w2.setCell ⟨w.heap.size + 1, 5, none⟩ v2).heap.size ∧ ∀ q, (Value.slice A2 (k + 1) a2).ownBlock = some q → V.heap.size ≤ q)) := Lib.hid (by
     intro v2 w2 A2 a2 hv hown hg hat
     subst hv
     have hU := hUn.out
     subst hUl
     have hg2 : wr.grownBy w2 (Value.slice A U.length a).ownBlock := (grown_of_below ((Below.refl _ _).alloc (Nat.le_refl _) _) _).trans hg
     have hqb : ∀ q, (Value.slice A U.length a).ownBlock = some q → w.heap.size + 2 ≤ q := fun q hq => (hU.ou.lt q hq).1
     have hb := hU.blk.grown hg2 (fun e => by have := hqb _ e.symm; omega)
     refine ⟨(hb.cell 5).trans rfl, hb.frozen 5, ?_, ?_, ?_⟩
     · have e1 : U.length + 1 = (U ++ [x]).length := by simp
       rw [e1] at hown ⊢
       exact hU.putU hg2 (by rw [ucells_snoc]; exact hown) (fun q hq e => by have h1 := hUq.out.2 q hq; have h2 := HBX.out q e; omega) (fun q hq e => by simp [Value.ownBlock] at e)
     · have h1 := hUq.out.1
       have h2 := hg2.size
       rw [(Only.set w2 (w.heap.size + 1) 5 _).size]
       exact Nat.le_trans h1 h2
     · intro q hq
       rcases hat with hat | hat
       · exact hUq.out.2 q (by rw [← hat]; exact hq)
       · rw [hq] at hat
         injection hat with hat
         have h1 := hUq.out.1
         have h2 : (wr.alloc (.cells #[.int .u32 (x : Int)] 33)).heap.size = wr.heap.size + 1 := by simp
         rw [h2] at hat
         omega)
    clear hx
    go_wp2
    go_region_law (first
     | (go_simp; go_at_call 56; ((with_reducible refine (Hid.out HN1).mono ?_); rintro e w' ⟨rfl, rfl⟩))
     | (refine step_app1 _ (by rfl) (.tmp 122) (.tmp 129) (by rfl) Tryz.underlying34 u32_inf rfl (by omega) (w.heap.size + 2) (.slice A k a) k (ucells U) (by rfl) (hou.out.alloc _) ⟨wr.heap.size, 0, none⟩ 1 (by rfl) (.int .u32 (x : Int)) (cell_one_new _ _ _ 0 _ rfl) rfl (by omega) (by have := hUn.out.siz; simp; omega) ?_; intro v2 w2 hown2 hg2 hat2 _; obtain ⟨A2, a2, hv2⟩ := own_form hown2; obtain ⟨hc2, hf2, hU3, hq3⟩ := hfin.out v2 w2 A2 a2 hv2 hown2 ⟨hg2.os, hg2.tape, hg2.output, hg2.size, hg2.block⟩ hat2; subst hv2; have HU3 := Lib.hid hU3; have HQ3 := Lib.hid hq3; clear hU3 hq3)
     | fail)
    all_goals (try go_wp2)
    all_goals (go_roundw)
    case rel => exact ⟨k + 1, A2, a2, U ++ [x], by omega, by simp [hUl], by go_num, hU2, HU3, HQ3⟩
    case measure => simp [intOf]; omega
    case rel => exact ⟨k + 1, A2, a2, U ++ [x], by omega, by simp [hUl], by go_num, hU2, HU3, HQ3⟩
    case measure => simp [intOf]; omega
    case rel => exact ⟨k + 1, A2, a2, U ++ [x], by omega, by simp [hUl], by go_num, hU2, HU3, HQ3⟩
    case measure => simp [intOf]; omega
  · have hke : k = K := by omega
    subst hke
    subst hUl
    have c1 : wr.cell? ⟨b, off + 1, none⟩ = some (.int .u8 (b1 : Int)) := by rw [HB1_.out]; exact CB.out wr hUn.out.bel 1 (by omega)
    have k0 : wr.cell? ⟨w.heap.size + 1, 0, none⟩ = some (.bool false) := (hUn.out.blk.cell 0).trans rfl
    have f0 := hUn.out.blk.frozen 0
    have k1 : wr.cell? ⟨w.heap.size + 1, 1, none⟩ = some (.int .u8 0) := (hUn.out.blk.cell 1).trans rfl
    have f1 := hUn.out.blk.frozen 1
    have k2 : wr.cell? ⟨w.heap.size + 1, 2, none⟩ = some (.int .u16 0) := (hUn.out.blk.cell 2).trans rfl
    have f2 := hUn.out.blk.frozen 2
    have k3 : wr.cell? ⟨w.heap.size + 1, 3, none⟩ = some (.int .u32 0) := (hUn.out.blk.cell 3).trans rfl
    have f3 := hUn.out.blk.frozen 3
    have k4 : wr.cell? ⟨w.heap.size + 1, 4, none⟩ = some (.int .u32 0) := (hUn.out.blk.cell 4).trans rfl
    have f4 := hUn.out.blk.frozen 4
    have HU1 := Lib.hid (hUn.out.put 0 (.bool mk) (m2 := mk) rfl)
    have HU2 := Lib.hid (HU1.out.put 1 (.int .u8 (ty : Int)) (ty2 := ty) rfl)
    have HU3 := Lib.hid (HU2.out.put 2 (.int .u16 (sq : Int)) (sq2 := sq) rfl)
    have HU4 := Lib.hid (HU3.out.put 3 (.int .u32 (st : Int)) (st2 := st) rfl)
    have HU5 := Lib.hid (HU4.out.put 4 (.int .u32 (so : Int)) (so2 := so) rfl)
    clear hUn hUq HN
    go_wp2_with (first
     | (go_at_call 56; ((with_reducible refine (Hid.out HN2 _ HU2.out.bel).mono ?_); rintro e wq ⟨rfl, rfl⟩))
     | (go_at_call 56; ((with_reducible refine (Hid.out HN4 _ HU3.out.bel).mono ?_); rintro e wq ⟨rfl, rfl⟩))
     | (go_at_call 56; ((with_reducible refine (Hid.out HN8 _ HU4.out.bel).mono ?_); rintro e wq ⟨rfl, rfl⟩)))
    generalize (((((wr.setCell ⟨w.heap.size + 1, 0, none⟩ (.bool mk)).setCell ⟨w.heap.size + 1, 1, none⟩ (.int .u8 (ty : Int))).setCell ⟨w.heap.size + 1, 2, none⟩ (.int .u16 (sq : Int))).setCell ⟨w.heap.size + 1, 3, none⟩ (.int .u32 (st : Int))).setCell ⟨w.heap.size + 1, 4, none⟩ (.int .u32 (so : Int))) = w5 at HU5 ⊢
    clear k0 f0 k1 f1 k2 f2 k3 f3 k4 f4 c1 HU1 HU2 HU3 HU4
    have HV5 := HU5.out.siz
    have k9 : w5.drew.cell? ⟨w.heap.size + 1, 9, none⟩ = some (.slice none 0 0) := (HU5.out.blk.cell 9).trans rfl
    go_region_law (first
     | (refine step_append_rd (by rfl) (.tmp 155) (.tmp 161) (by rfl) Tryz.underlying35 u8_info (w.heap.size + 2) (.slice none 0 0) 0 [] (by rfl) (World.ownsRow_nil _ _ _ _) A9 Y.length (c - (at0 bs + 4 + 4 * W)) Y (by rfl) (HR9.out.below HU5.out.bel.drew) (by omega) HV5 ?_; intro v6 w6 hown6 hg6 hat6; rw [Nat.zero_add, List.nil_append] at hown6; obtain ⟨D, dY, hv6⟩ := own_form hown6; subst hv6; have hb6 : Below w5.heap.size w5 w6 := below_of_grown ⟨hg6.os, hg6.tape, hg6.output, hg6.size, hg6.block⟩ (Nat.le_refl _) (fun q hq => by simp [Value.ownBlock] at hq); have hk6 := (HU5.out.blk.below hb6 HU5.out.blk.lt); have k6 : w6.cell? ⟨w.heap.size + 1, 9, none⟩ = some (.slice none 0 0) := (hk6.cell 9).trans rfl; have f6 := hk6.frozen 9; have HU6 := Lib.hid (HU5.out.putY hb6 hown6); clear hg6 hat6 hown6 hk6)
     | fail)
    generalize (w6.setCell ⟨w.heap.size + 1, 9, none⟩ (.slice D Y.length dY)) = w7 at HU6 ⊢
    clear k9 k6 f6 hb6
    have k10 : w7.cell? ⟨w.heap.size + 1, 10, none⟩ = some (.int .u8 0) := (HU6.out.blk.cell 10).trans rfl
    have f10 := HU6.out.blk.frozen 10
    have HU7 := Lib.hid (HU6.out.put 10 (.int .u8 0) (pd2 := 0) rfl)
    go_wp2_with (first
     | (with_reducible refine wpList_ld rfl 37 (.tmp 5) rfl (w.heap.size + 1) 0 rfl (rtpC mk ty sq st so (.slice A U.length a) true pf (.slice B X.length bX) (.slice D Y.length dY) 0) (HU7.out.blk.range 0 _ (fun i _ => by rw [Nat.zero_add])) (row11 rfl) ?_)
     | ((with_reducible refine wpList_st rfl 37 (.tmp 2) (.tmp 167) rfl w.heap.size 0 (rtpC mk ty sq st so (.slice A U.length a) true pf (.slice B X.length bX) (.slice D Y.length dY) 0) rfl rfl 37 zeroC HU7.out.res fit11 (row11 rfl) (rtpC_one _ _ _ _ _ _ _ _ _ _ _ _ _ _ _ _ _) ?_); intro w9 hB9 ho9; rw [splice_all _ _ (by rfl)] at hB9))
    have hpk : (⟨bt bs 1 / 128 == 1, bt bs 1 % 128, sqN bs, stN bs, soN bs, srcs (bs.drop 12) (othN bs), true, numb ((bs.drop (at0 bs)).take 2), (bs.drop (at0 bs + 4)).take (4 * wordsN bs), (bs.drop (at0 bs + 4 + 4 * wordsN bs)).take (n - 0 - (at0 bs + 4 + 4 * wordsN bs)), 0⟩ : Pkt) = ⟨mk, ty, sq, st, so, U, true, pf, X, Y, 0⟩ := by
     rw [HTY.out, HMK.out, HB1_.out, HSQ_.out, HST_.out, HSO_.out, hUs.out, HK_.out, HY_.out, HPF_.out, HX_.out]
    have hae : ((at0 bs + 4 + 4 * wordsN bs : Nat) : Int) = 12 + 4 * (U.length : Int) + 4 + 4 * (W : Int) := by have h1 := HAT.out; have h2 := HK_.out; have h3 := HW_.out; omega
    rw [hpk, hae]
    exact bodyPost_ret (rread_results _ w9 _ (rtpC mk ty sq st so (.slice A U.length a) true pf (.slice B X.length bX) (.slice D Y.length dY) 0) _ _ (by rfl) (by rfl) (by rfl) hB9 rfl) (by rfl) ⟨_, rfl, ⟨A, a, B, bX, D, dY, rfl, own_mono (own_only HU7.out.ou ho9 (by omega)) (by omega), own_mono (own_only HU7.out.ox ho9 (by omega)) (by omega), own_mono (own_only HU7.out.oy ho9 (by omega)) (by omega)⟩, HU7.out.bel.trans (ho9.below (Nat.le_refl _))⟩

end Go.Proofs.YtmkeioeodlidgaaGreatDoor
