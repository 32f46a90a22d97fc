/- What the document's answer for layer 10 (tenailleref10) reads: a packet, way by way. No statement is proved here. -/
import Derived.Test.YticbajagccemoaaRtpR2
namespace Go.Proofs.Yticbajagccemoaa
open Go.RowKit
set_option linter.unusedVariables false

set_option maxRecDepth 100000 in
set_option maxHeartbeats 8000000 in
theorem rread_padno1 (A : Option Addr) (n c : Nat) (bs : List UInt8) (w : World) (hr : RdS w A n c bs) (hm : ¬ 1200 < n) (h12 : ¬ n < 12) (hv : bt bs 0 / 64 = 2) (ho : at0 bs ≤ n) (hx : bt bs 0 / 16 % 2 = 1) (hp : bt bs 0 / 32 % 2 = 1) (he : at0 bs + 4 + 4 * wordsN bs ≤ n) (hw : wordsN bs ≤ 255) (hq : at0 bs + 4 + 4 * wordsN bs = n ∨ bt bs (n - 1) = 0 ∨ n - (at0 bs + 4 + 4 * wordsN bs) < bt bs (n - 1)) :
    Calls Try.prog 9 #[.slice A n c] w fun e w' => e = .returned (.tuple #[.agg zeroC.toArray, .int .i64 0, .int .i64 3]) ∧ Below w.heap.size w w' := by
  have hz := zero28
  have hs := hr.small
  have hl := hr.len
  have hle := hr.le
  obtain ⟨hb, h1, h2⟩ := rbox w
  have HB := Lib.hid hb
  have HU := Lib.hid (under_start w)
  clear h1 h2 hb
  obtain ⟨b, off, rfl, hlt, hcs⟩ := hr.2.2.2.2 (by omega)
  have CB : Hid (∀ wx, Below w.heap.size w wx → ∀ j, j < n → wx.cell? ⟨b, off + j, none⟩ = some (.int .u8 (bt bs j : Nat))) := Lib.hid fun wx hb j hj => (hb.cell (p := ⟨b, off + j, none⟩) hlt).trans (hcs j hj)
  have c0 : (rboxW w).cell? ⟨b, off, none⟩ = some (.int .u8 (bt bs 0 : Nat)) := CB.out _ HB.out 0 (by omega)
  have lb := bt_lt bs 0
  have lb1 := bt_lt bs 1
  have ll := bt_lt bs (n - 1)
  have l2 := sqN_lt bs
  have l3 := stN_lt bs
  have l4 := soN_lt bs
  have e3 : ((n : Int) - 1) = ((n - 1 : Nat) : Int) := by omega
  have hk : ((bt bs 0 : Int) % 16) = (othN bs : Int) := by unfold othN; omega
  have lk : othN bs < 16 := by unfold othN; omega
  have HN : Hid (∀ (k : Nat) wx, Below w.heap.size w wx → k < othN bs → Calls Try.prog 17 #[.slice (some ⟨b, off, none⟩) n c, .int .i64 (12 + 4 * (k : Int)), .int .i64 4] wx fun e w' => e = .returned (.int .u64 (numb (((bs.drop 12).drop (4 * k)).take 4) : Nat)) ∧ wx = w') := Lib.hid fun k wx hb hk => by
    unfold at0 at ho
    have := rnum_yes (some ⟨b, off, none⟩) n c bs (12 + 4 * k) 4 wx (hr.below hb) (by omega) (by omega) (by omega)
    rw [show ((12 + 4 * k : Nat) : Int) = 12 + 4 * (k : Int) by omega] at this
    rw [List.drop_drop]
    exact this
  have HN2 : Hid (∀ wx, Below w.heap.size w wx → Calls Try.prog 17 #[.slice (some ⟨b, off, none⟩) n c, .int .i64 2, .int .i64 2] wx fun e w' => e = .returned (.int .u64 (sqN bs : Nat)) ∧ wx = w') := Lib.hid fun wx hb => rnum_yes (some ⟨b, off, none⟩) n c bs 2 2 wx (hr.below hb) (by omega) (by omega) (by omega)
  have HN4 : Hid (∀ wx, Below w.heap.size w wx → Calls Try.prog 17 #[.slice (some ⟨b, off, none⟩) n c, .int .i64 4, .int .i64 4] wx fun e w' => e = .returned (.int .u64 (stN bs : Nat)) ∧ wx = w') := Lib.hid fun wx hb => rnum_yes (some ⟨b, off, none⟩) n c bs 4 4 wx (hr.below hb) (by omega) (by omega) (by omega)
  have HN8 : Hid (∀ wx, Below w.heap.size w wx → Calls Try.prog 17 #[.slice (some ⟨b, off, none⟩) n c, .int .i64 8, .int .i64 4] wx fun e w' => e = .returned (.int .u64 (soN bs : Nat)) ∧ wx = w') := Lib.hid fun wx hb => rnum_yes (some ⟨b, off, none⟩) n c bs 8 4 wx (hr.below hb) (by omega) (by omega) (by omega)
  have lw := words_lt bs
  have lpf : numb ((bs.drop (at0 bs)).take 2) < 65536 := by have := numb_take_lt (bs.drop (at0 bs)) 2; simpa using this
  have HW2 : Hid (∀ wx, Below w.heap.size w wx → Calls Try.prog 17 #[.slice (some ⟨b, off, none⟩) n c, .int .i64 (12 + 4 * (othN bs : Int) + 2), .int .i64 2] wx fun e w' => e = .returned (.int .u64 (wordsN bs : Nat)) ∧ wx = w') := Lib.hid fun wx hb => by
    have := rnum_yes (some ⟨b, off, none⟩) n c bs (at0 bs + 2) 2 wx (hr.below hb) (by omega) (by omega) (by omega)
    rw [show ((at0 bs + 2 : Nat) : Int) = 12 + 4 * (othN bs : Int) + 2 by unfold at0; omega] at this
    exact this
  have HWP : Hid (∀ wx, Below w.heap.size w wx → Calls Try.prog 17 #[.slice (some ⟨b, off, none⟩) n c, .int .i64 (12 + 4 * (othN bs : Int)), .int .i64 2] wx fun e w' => e = .returned (.int .u64 (numb ((bs.drop (at0 bs)).take 2) : Nat)) ∧ wx = w') := Lib.hid fun wx hb => by
    have := rnum_yes (some ⟨b, off, none⟩) n c bs (at0 bs) 2 wx (hr.below hb) (by omega) (by omega) (by omega)
    rw [show ((at0 bs : Nat) : Int) = 12 + 4 * (othN bs : Int) by unfold at0; omega] at this
    exact this
  obtain ⟨A7, hs7, hs7', hr7⟩ := run_sl w (some ⟨b, off, none⟩) n c bs (at0 bs + 4) (at0 bs + 4 + 4 * wordsN bs) (12 + 4 * (othN bs : Int) + 4) (12 + 4 * (othN bs : Int) + 4 + 4 * (wordsN bs : Int)) (by unfold at0; omega) (by unfold at0; omega) (by omega) (by omega) hr
  rw [show at0 bs + 4 + 4 * wordsN bs - (at0 bs + 4) = 4 * wordsN bs by omega] at hs7 hs7' hr7
  obtain ⟨X, hX⟩ : ∃ X, X = (bs.drop (at0 bs + 4)).take (4 * wordsN bs) := ⟨_, rfl⟩
  rw [← hX] at hr7
  have hXl : X.length = 4 * wordsN bs := hr7.len
  have hat : at0 bs = 12 + 4 * othN bs := rfl
  have HAT := Lib.hid hat
  obtain ⟨pf, hpf⟩ : ∃ pf, pf = numb ((bs.drop (at0 bs)).take 2) := ⟨_, rfl⟩
  rw [← hpf] at lpf
  simp only [← hpf] at HWP
  rw [hat] at ho he hq
  obtain ⟨K, hK⟩ : ∃ K, K = othN bs := ⟨_, rfl⟩
  obtain ⟨b0, hb0⟩ : ∃ b0, b0 = bt bs 0 := ⟨_, rfl⟩
  obtain ⟨b1, hb1⟩ : ∃ b1, b1 = bt bs 1 := ⟨_, rfl⟩
  obtain ⟨sq, hsq⟩ : ∃ sq, sq = sqN bs := ⟨_, rfl⟩
  obtain ⟨st, hst⟩ : ∃ st, st = stN bs := ⟨_, rfl⟩
  obtain ⟨so, hso⟩ : ∃ so, so = soN bs := ⟨_, rfl⟩
  obtain ⟨ty, hty⟩ : ∃ ty, ty = bt bs 1 % 128 := ⟨_, rfl⟩
  obtain ⟨mk, hmk⟩ : ∃ mk, mk = (bt bs 1 / 128 == 1) := ⟨_, rfl⟩
  obtain ⟨W, hW⟩ : ∃ W, W = wordsN bs := ⟨_, rfl⟩
  obtain ⟨L, hL⟩ : ∃ L, L = bt bs (n - 1) := ⟨_, rfl⟩
  simp only [← hK] at hk lk ho HN he HW2 HWP hs7 hs7' hq
  simp only [← hW] at lw he hw HW2 hs7 hs7' hr7 hXl hq
  simp only [← hL] at ll hq
  simp only [← hb0] at c0 lb hv hk hx hp
  simp only [← hb1] at lb1 hty hmk
  simp only [← hsq] at l2 HN2
  simp only [← hst] at l3 HN4
  simp only [← hso] at l4 HN8
  have hv2 : ((b0 : Int) / 64 == 2) = true := by simp; omega
  have hvn : ((b0 : Int) / 64 != 2) = false := by rw [bne, hv2]; rfl
  have hx1 : ((b0 : Int) / 16 % 2 == 1) = true := by simp; omega
  have hp1 : ((b0 : Int) / 32 % 2 == 1) = true := by simp; omega
  have ht1 : ((b1 : Int) % 128) = (ty : Int) := by omega
  have hm1 : decide ((127 : Int) < (b1 : Int)) = mk := by rw [hmk, Bool.eq_iff_iff]; simp; omega
  have lty : ty < 128 := by omega
  have HR7 := Lib.hid hr7
  have HXL := Lib.hid hXl
  have w7 : IntKind.i64.wrap (12 + 4 * (K : Int) + 4) = 12 + 4 * (K : Int) + 4 := by rw [IntKind.wrap_i64]; omega
  have w8 : IntKind.i64.wrap (4 * (W : Int)) = 4 * (W : Int) := by rw [IntKind.wrap_i64]; omega
  have w9 : IntKind.i64.wrap (12 + 4 * (K : Int) + 4 + 4 * (W : Int)) = 12 + 4 * (K : Int) + 4 + 4 * (W : Int) := by rw [IntKind.wrap_i64]; omega
  have hq1 : ((12 + 4 * (K : Int) + 4 + 4 * (W : Int)) == (n : Int)) = true ∨ (((12 + 4 * (K : Int) + 4 + 4 * (W : Int)) == (n : Int)) = false ∧ ((L : Int) == 0) = true) ∨ (((12 + 4 * (K : Int) + 4 + 4 * (W : Int)) == (n : Int)) = false ∧ ((L : Int) == 0) = false ∧ (n : Int) - (12 + 4 * (K : Int) + 4 + 4 * (W : Int)) < (L : Int)) := by
    by_cases q1 : 12 + 4 * K + 4 + 4 * W = n
    · exact .inl (by simp; omega)
    · by_cases q2 : L = 0
      · exact .inr (.inl ⟨by simp; omega, by simp; omega⟩)
      · exact .inr (.inr ⟨by simp; omega, by simp; omega, by omega⟩)
  have HMK := Lib.hid hmk
  have HTY := Lib.hid hty
  have HK_ := Lib.hid hK
  have HB0_ := Lib.hid hb0
  have HB1_ := Lib.hid hb1
  have HSQ_ := Lib.hid hsq
  have HST_ := Lib.hid hst
  have HSO_ := Lib.hid hso
  have HW_ := Lib.hid hW
  have HPF_ := Lib.hid hpf
  have HX_ := Lib.hid hX
  have HL_ := Lib.hid hL
  clear hr hcs hat hK hb0 hb1 hsq hst hso hW hpf hX hL hmk hty hv hx hp hXl hr7 hq
  go_enter Try.func9, Try.ntmps9
  go_wp2_with (first
    | (go_at_call 17; ((with_reducible refine (Hid.out HW2 _ HB.out).mono ?_); rintro e w1 ⟨rfl, hq1⟩; have HU1 : Hid (Under w w1 false 0 0 0 0 [] none 0 false 0 [] none 0 [] none 0 0) := Lib.hid (hq1 ▸ HU.out); have k6 : w1.cell? ⟨w.heap.size + 1, 6, none⟩ = some (.bool false) := (HU1.out.blk.cell 6).trans rfl; have f6 := HU1.out.blk.frozen 6; have HUa := Lib.hid ((HU1.out.put 6 (.bool true) (x2 := true) rfl)); clear hq1 c0))
    | (go_at_call 17; ((with_reducible refine (Hid.out HWP _ HUa.out.bel).mono ?_); rintro e w2 ⟨rfl, hq2⟩; have HU2 : Hid (Under w w2 false 0 0 0 0 [] none 0 true 0 [] none 0 [] none 0 0) := Lib.hid (hq2 ▸ HUa.out); have k7 : w2.cell? ⟨w.heap.size + 1, 7, none⟩ = some (.int .u16 0) := (HU2.out.blk.cell 7).trans rfl; have f7 := HU2.out.blk.frozen 7; have HUb := Lib.hid ((HU2.out.put 7 (.int .u16 (pf : Int)) (pf2 := pf) rfl)); clear hq2 k6 f6)))
  generalize (w2.setCell ⟨w.heap.size + 1, 7, none⟩ (.int .u16 (pf : Int))) = w3 at HUb ⊢
  clear k7 f7
  have HV := HUb.out.siz
  have k8 : w3.drew.cell? ⟨w.heap.size + 1, 8, none⟩ = some (.slice none 0 0) := (HUb.out.blk.cell 8).trans rfl
  go_region_law (first
    | (refine step_append_rd (by rfl) (.tmp 72) (.tmp 81) (by rfl) Try.underlying22 u8_info (w.heap.size + 2) (.slice none 0 0) 0 [] (by rfl) (World.ownsRow_nil _ _ _ _) A7 (4 * W) (c - (at0 bs + 4)) X (by rfl) (HR7.out.below HUb.out.bel.drew) (by omega) HV ?_; intro v4 w4 hown4 hg4 hat4; rw [Nat.zero_add, List.nil_append, ← HXL.out] at hown4; obtain ⟨B, bX, hv4⟩ := own_form hown4; subst hv4; have hb4 : Below w3.heap.size w3 w4 := below_of_grown ⟨hg4.os, hg4.tape, hg4.output, hg4.size, hg4.block⟩ (Nat.le_refl _) (fun q hq => by simp [Value.ownBlock] at hq); have hk4 := (HUb.out.blk.below hb4 HUb.out.blk.lt); have k4 : w4.cell? ⟨w.heap.size + 1, 8, none⟩ = some (.slice none 0 0) := (hk4.cell 8).trans rfl; have f4 := hk4.frozen 8; have HUc := Lib.hid (HUb.out.putX hb4 hown4); clear hg4 hat4 hown4 hk4)
    | fail)
  generalize (w4.setCell ⟨w.heap.size + 1, 8, none⟩ (.slice B X.length bX)) = V at HUc ⊢
  clear k8 k4 f4 hb4
  have hV : Hid (Below w.heap.size w V) := Lib.hid HUc.out.bel
  have c0 : V.cell? ⟨b, off, none⟩ = some (.int .u8 (b0 : Int)) := by rw [HB0_.out]; exact CB.out V hV.out 0 (by omega)
  have cl : V.cell? ⟨b, off + (n - 1), none⟩ = some (.int .u8 (L : Int)) := by rw [HL_.out]; exact CB.out _ hV.out (n - 1) (by omega)
  have HRS := Lib.hid HUc.out.res
  rcases hq1 with q1 | ⟨q1, q2⟩ | ⟨q1, q2, q3⟩
  · go_wp2_with (first
      | ((with_reducible refine wpList_st rfl 28 (.tmp 2) (.tmp 115) rfl w.heap.size 0 zeroC rfl rfl 28 zeroC HRS.out fitz (row11 zlen) zone ?_); intro w9 hB9 ho9; rw [splice_all _ _ (by rfl)] at hB9))
    exact bodyPost_ret (rread_results _ w9 _ zeroC _ _ (by rfl) (by rfl) (by rfl) hB9 rfl) (by rfl) ⟨rfl, hV.out.trans (ho9.below (Nat.le_refl _))⟩
  · go_wp2_with (first
      | ((with_reducible refine wpList_st rfl 28 (.tmp 2) (.tmp 115) rfl w.heap.size 0 zeroC rfl rfl 28 zeroC HRS.out fitz (row11 zlen) zone ?_); intro w9 hB9 ho9; rw [splice_all _ _ (by rfl)] at hB9))
    exact bodyPost_ret (rread_results _ w9 _ zeroC _ _ (by rfl) (by rfl) (by rfl) hB9 rfl) (by rfl) ⟨rfl, hV.out.trans (ho9.below (Nat.le_refl _))⟩
  · go_wp2_with (first
      | ((with_reducible refine wpList_st rfl 28 (.tmp 2) (.tmp 115) rfl w.heap.size 0 zeroC rfl rfl 28 zeroC HRS.out fitz (row11 zlen) zone ?_); intro w9 hB9 ho9; rw [splice_all _ _ (by rfl)] at hB9))
    exact bodyPost_ret (rread_results _ w9 _ zeroC _ _ (by rfl) (by rfl) (by rfl) hB9 rfl) (by rfl) ⟨rfl, hV.out.trans (ho9.below (Nat.le_refl _))⟩

end Go.Proofs.Yticbajagccemoaa
