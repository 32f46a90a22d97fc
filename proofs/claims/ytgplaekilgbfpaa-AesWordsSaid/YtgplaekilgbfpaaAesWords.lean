/- AesWords's walk: the words of any key are the document's. -/
import Derived.Test.YtgplaekilgbfpaaAesLaw
import Derived.Test.YtgplaekilgbfpaaAesR3
import Derived.Test.YtgplaekilgbfpaaAesR4
namespace Go.Proofs.Ytgplaekilgbfpaa
open Go.RowKit
set_option linter.unusedVariables false

/-- A whole cipher of the document's, as Block reads it. -/
theorem NW.ciph {w0 : World} {key : List UInt8} {p gB : Nat} {vW : Value} {vs : List Value} {w : World} (h : NW w0 key p gB 44 vW vs w) : ∃ gW cW, RCiph w p gB gW cW key := by
  obtain ⟨gW, cW, hv, _, hgl⟩ := h.own.form (by omega)
  subst hv
  refine ⟨gW, cW, (h.hp.cell 0).trans rfl, (h.hp.cell 1).trans rfl, h.hp.lt, h.hB.lt, hgl, fun i hi => h.hB.cell (by rw [boxT_len]; exact hi), fun j hj => ?_⟩
  obtain ⟨b, o, c, h1, _, h3, _, h5⟩ := h.rows j hj
  exact ⟨b, o, c, (h.own.cellAt j (by omega)).trans h1, h3, h5⟩
theorem rnewC_any (key : List UInt8) (w : World) (hk : key.length = 16) :
    Calls Try.prog 12 #[.agg (cells key).toArray] w fun e w' => ∃ p gB gW cW, e = .returned (.pointer (some ⟨p, 0, none⟩)) ∧ RCiph w' p gB gW cW key ∧ Below w.heap.size w w' :=
  (rnew_any key w hk).mono fun _ _ ⟨p, gB, _, _, he, h⟩ => by
    obtain ⟨gW, cW, hc⟩ := h.ciph
    exact ⟨p, gB, gW, cW, he, hc, h.b⟩

set_option maxRecDepth 100000 in
set_option maxHeartbeats 1000000 in
theorem aesWords_bs (key : List UInt8) (w : World) (hk : key.length = 16) :
    Calls Try.prog 4 #[.agg (cells key).toArray] w fun e w' => e = .returned (.bool true) ∧ Below w.heap.size w w' := by
  have hz := zero176
  have hb0 : Below w.heap.size w (w.alloc (Obj.cells (cells key).toArray 28)) := (Below.refl _ _).alloc (Nat.le_refl _) _
  have h0 : Blk (w.alloc (Obj.cells (cells key).toArray 28)) w.heap.size 28 key := Blk.new _ _ _
  have hKL : (cells key).length = 16 := by rw [length_cells, hk]
  have HKL := Lib.hid hKL
  have hKA : (cells (kall key)).length = 176 := by rw [length_cells, kall_len key hk]
  have HKA := Lib.hid hKA
  have hZL : (cells Z176).length = 176 := by rw [length_cells, Z176_len]
  have HZL := Lib.hid hZL
  have hwa := fun wx => words_any key wx hk
  have hrn := fun wx => rnewC_any key wx hk
  have HWA := Lib.hid hwa
  have HRN := Lib.hid hrn
  have HK := Lib.hid hk
  clear hKL hKA hZL hwa hrn hk
  go_enter Try.func4, Try.ntmps4
  go_wp2_with (first
    | (go_at_call 6; ((with_reducible refine (alive_any _).mono ?_); rintro e w1 ⟨rfl, hb1⟩; have h1 := h0.below hb1 h0.lt; have hb1w := hb0.trans (hb1.mono hb0.size)))
    | (with_reducible refine wpList_ld rfl 28 (.tmp 1) rfl w.heap.size 0 rfl (cells key) (h1.v.range 0 _ (by simp)) (row16 HKL.out) ?_)
    | (go_at_call 11; ((with_reducible refine (HWA.out w1).mono ?_); rintro e w2 ⟨rfl, hb2⟩; have h2 := (h1.below hb2 h1.lt).alloc (.cells (cells Z176).toArray 29); have hb2w := (hb1w.trans (hb2.mono hb1w.size)).alloc (by have := hb2.size; have := hb1w.size; omega) (.cells (cells Z176).toArray 29); have hc2 := BlkV.new w2 29 (cells Z176); have hl2 := (h1.below hb2 h1.lt).lt))
    | ((with_reducible refine wpList_st rfl 29 (.tmp 3) (.tmp 9) rfl w2.heap.size 0 (cells (kall key)) rfl rfl 29 _ hc2 (by rw [HKA.out, HZL.out]; omega) (row176 HKA.out) (cells_one _) ?_); intro w3 hB3 ho3; rw [splice_all _ _ (by rw [HKA.out, HZL.out])] at hB3; have h3 := Blk.only h2 ho3 (by omega); have hb3w := hb2w.trans (ho3.below (by omega)); have hW3 : Blk w3 w2.heap.size 29 (kall key) := hB3)
    | (with_reducible refine wpList_ld rfl 28 (.tmp 1) rfl w.heap.size 0 rfl (cells key) (h3.v.range 0 _ (by simp)) (row16 HKL.out) ?_)
    | (go_at_call 12; ((with_reducible refine (HRN.out w3).mono ?_); rintro e w4 ⟨p, gB, gW, cW, rfl, hC4, hb4⟩; have hW4 := hW3.below hb4 hW3.lt; have hb4w := hb3w.trans (hb4.mono hb3w.size))))
  clear h1 hb1 hb1w h2 hb2 hb2w hc2 hB3 ho3 h3 hb3w hW3 hb4 h0 hb0 HWA HRN
  obtain ⟨g2, hg2⟩ : ∃ g, g = w2.heap.size := ⟨_, rfl⟩
  rw [← hg2] at hW4 ⊢
  clear hg2
  go_loopw [5] (fun vi wr => ∃ i : Nat, i ≤ 176 ∧ vi = .int .i64 i ∧ Blk wr g2 29 (kall key) ∧ RCiph wr p gB gW cW key ∧ Below w.heap.size w wr) (fun i _ => 176 - (intOf i).toNat)
  case atStart => exact ⟨0, by omega, rfl, hW4, hC4, hb4w⟩
  case round =>
    clear hW4 hC4 hb4w
    obtain ⟨i, hi, rfl, hW, hC, hb⟩ := hrel
    by_cases hlt : i < 176
    · obtain ⟨J, hJ⟩ : ∃ J, J = i / 4 := ⟨_, rfl⟩
      obtain ⟨L, hL⟩ : ∃ L, L = i % 4 := ⟨_, rfl⟩
      obtain ⟨b, o, cb, hcW, hbl, hcb⟩ := hC.words J (by omega)
      have hcL := hcb L (by omega)
      have hc1 := hC.c1
      have hwk : (wd key J).getD L 0 = (kall key).getD i 0 := by
        rw [wd_get _ _ _ (by omega), show 4 * J + L = i by omega]
      rw [hwk] at hcL
      have hci := hW.cell (j := i) (by rw [kall_len key HK.out]; exact hlt)
      obtain ⟨z, hz', z1, z2⟩ := u8_ex ((kall key).getD i 0)
      rw [← hz'] at hcL hci
      have e1 : (i : Int).tdiv 4 = (J : Int) := by rw [Int.tdiv_eq_ediv_of_nonneg (by omega)]; omega
      have e2 : (i : Int).tmod 4 = (L : Int) := by rw [Int.tmod_eq_emod_of_nonneg (by omega)]; omega
      have e5 : IntKind.i64.wrap (J : Int) = (J : Int) := IntWalk.i64_in _ (by omega)
      have e6 : IntKind.i64.wrap (L : Int) = (L : Int) := IntWalk.i64_in _ (by omega)
      have f1 : (i : Int) < 176 := by omega
      have f2 : (J : Int) < 44 := by omega
      have f3 : (L : Int) < 4 := by omega
      have f4 : J < 44 := by omega
      have f5 : L < 4 := by omega
      clear hwk hz' hJ hL hcb hbl
      go_wp2
      go_quiet (fail)
      have hW' : Blk (wr.drewN nq) g2 29 (kall key) := hW
      have hb' : Below w.heap.size w (wr.drewN nq) := ⟨hb.os, hb.tape, hb.output, hb.size, hb.block⟩
      have hC' : RCiph (wr.drewN nq) p gB gW cW key := hC.below ⟨rfl, rfl, rfl, Nat.le_refl _, fun _ _ => rfl⟩
      clear hW hb hC e1 e2 e5 e6 f2 f3 f4 f5 hcL hci hcW hc1
      generalize wr.drewN nq = w7 at *
      go_wp2
      go_roundw
      case rel => exact ⟨i + 1, by omega, by go_num, hW', hC', hb'⟩
      case measure => simp [intOf]; omega
    · obtain rfl : i = 176 := by omega
      go_wp2
      go_ret
      exact ⟨rfl, hb⟩
end Go.Proofs.Ytgplaekilgbfpaa
