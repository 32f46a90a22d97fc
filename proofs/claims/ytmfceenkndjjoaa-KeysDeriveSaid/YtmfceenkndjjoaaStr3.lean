/- Contracts of package stream: the stream's bytes, bytes ciphered. No statement is proved here. -/
import Derived.Test.YtmfceenkndjjoaaStr2
namespace Go.Proofs.Ytmfceenkndjjoaa
open Go.RowKit
set_option linter.unusedVariables false

set_option maxHeartbeats 1000000 in
theorem bytes_none (key c : List UInt8) (n : Int) (w : World) (hn : n < 1) :
    Calls Try.prog 11 #[.agg (cells key).toArray, .agg (cells c).toArray, .int .i64 n] w fun e w' => e = .returned (.slice none 0 0) ∧ Below w.heap.size w w' := by
  have hb0 : Below w.heap.size w ((w.alloc (Obj.cells (cells key).toArray 22)).alloc (Obj.cells (cells c).toArray 22)) := ((Below.refl _ _).alloc (Nat.le_refl _) _).alloc (by simp) _
  go_enter Try.func11, Try.ntmps11
  go_wp2
  go_ret
  exact ⟨rfl, hb0⟩

set_option maxRecDepth 100000 in
set_option maxHeartbeats 2000000 in
theorem bytes_any (key c : List UInt8) (n : Nat) (w : World) (hk : key.length = 16) (hc : c.length = 16) (h1 : 1 ≤ n) (hn : n ≤ 4096) :
    Calls Try.prog 11 #[.agg (cells key).toArray, .agg (cells c).toArray, .int .i64 (n : Int)] w fun e w' => ∃ g : Nat, e = .returned (.slice (some ⟨g, 0, none⟩) n n) ∧ w.heap.size ≤ g ∧ Blk w' g 5 (strm key c n) ∧ Below w.heap.size w w' := by
  have hz := zero16
  have hb0 : Below w.heap.size w ((w.alloc (Obj.cells (cells key).toArray 22)).alloc (Obj.cells (cells c).toArray 22)) := ((Below.refl _ _).alloc (Nat.le_refl _) _).alloc (by simp) _
  have h0 : Blk ((w.alloc (Obj.cells (cells key).toArray 22)).alloc (Obj.cells (cells c).toArray 22)) w.heap.size 22 key := (Blk.new _ _ _).alloc _
  have h01 : Blk ((w.alloc (Obj.cells (cells key).toArray 22)).alloc (Obj.cells (cells c).toArray 22)) (w.heap.size + 1) 22 c := Blk.new_at _ _ _ _ _ (by simp) rfl
  have hmk := run_makeB (P := Try.prog) Try.underlying27 u8_inf .i64 .i64 (n : Int) (n : Int) n rfl rfl (by omega)
  have HKL : Hid ((cells key).length = 16) := Lib.hid (by rw [length_cells, hk])
  have HCL : Hid ((cells c).length = 16) := Lib.hid (by rw [length_cells, hc])
  have hbl := fun wx => blocks_any key c wx hk hc
  have HBL := Lib.hid hbl
  have HK := Lib.hid hk
  clear hk hc hbl
  have hb1 := hb0.alloc hb0.size (.cells (cells (List.replicate n 0)).toArray 5)
  have k0 := h0.alloc (.cells (cells (List.replicate n 0)).toArray 5)
  have k01 := h01.alloc (.cells (cells (List.replicate n 0)).toArray 5)
  have kr : Blk (((w.alloc (Obj.cells (cells key).toArray 22)).alloc (Obj.cells (cells c).toArray 22)).alloc (.cells (cells (List.replicate n 0)).toArray 5)) (w.heap.size + 1 + 1) 5 (strR key c n 0) := by
    rw [strR, fillAt_zero]; exact Blk.new_at _ _ _ _ _ (by simp) rfl
  clear hb0 h0 h01
  go_enter Try.func11, Try.ntmps11
  go_wp2_with (first
    | (with_reducible refine wpList_ld rfl 22 (.tmp 3) rfl w.heap.size 0 rfl (cells key) (k0.v.range 0 _ (by simp)) (row16 HKL.out) ?_)
    | (with_reducible refine wpList_ld rfl 22 (.tmp 4) rfl (w.heap.size + 1) 0 rfl (cells c) (k01.v.range 0 _ (by simp)) (row16 HCL.out) ?_)
    | (go_at_call 14; ((with_reducible refine (HBL.out _).mono ?_); rintro e w2 ⟨q, r, p, rfl, hE2, hb2⟩)))
  obtain ⟨G, hG⟩ : ∃ G, G = w.heap.size + 1 + 1 := ⟨_, rfl⟩
  rw [← hG] at kr ⊢
  have hwG : w.heap.size + 1 < G := by omega
  clear hG
  have hGl := kr.lt
  have hr2 := kr.below hb2 kr.lt
  have hb2w := hb1.trans (hb2.mono hb1.size)
  obtain ⟨B, hB⟩ : ∃ B, B = (((w.alloc (Obj.cells (cells key).toArray 22)).alloc (Obj.cells (cells c).toArray 22)).alloc (.cells (cells (List.replicate n 0)).toArray 5)).heap.size := ⟨_, rfl⟩
  rw [← hB] at hE2 hGl
  have hM0 : 0 = min 0 n := by omega
  clear hB hb2 hb1 k0 k01 kr hmk HBL
  go_loopw [9] (fun va wr => ∃ k K M : Nat, Hid (K = 16 * k) ∧ K ≤ n + 15 ∧ M = min K n ∧ va = .int .i64 (K : Int) ∧ SEnv B key c k q r p wr ∧ Blk wr G 5 (strR key c n M) ∧ Below w.heap.size w wr) (fun a _ => n + 15 - (intOf a).toNat)
  case atStart => exact ⟨0, 0, 0, Lib.hid rfl, by omega, hM0, rfl, hE2, hr2, hb2w⟩
  case round =>
    clear hE2 hr2 hb2w hM0
    obtain ⟨k, K, M, HKk, hk, hM, rfl, hE, hr, hb⟩ := hrel
    by_cases hlt : K < n
    · have hMk : M = K := by omega
      rw [hMk] at hr
      clear hM hMk
      have hK := HKk.out
      have hstp := fun m hm => strR_step key c n k m hm
      have htl := tell_any B key c k q r p wr HK.out hE
      obtain ⟨X, hX⟩ : ∃ X, X = enc (kall key) (plusC c k) := ⟨_, rfl⟩
      have hXl : X.length = 16 := by rw [hX]; exact enc_len _ _
      rw [← hX] at htl
      simp only [← hX] at hstp
      have hXL : (cells X).length = 16 := by rw [length_cells, hXl]
      have hZL : (cells Z16).length = 16 := by rw [length_cells, Z16_len]
      have HXL := Lib.hid hXL
      have HZL := Lib.hid hZL
      have HXl := Lib.hid hXl
      have hEl := hE.lr
      have hEq := hE.lq
      have hEp := hE.lp
      simp only [← hK] at hstp
      clear hK
      have hKl : (strR key c n K).length = n := strR_len _ _ _ _ (by omega)
      have HKl := Lib.hid hKl
      have hnK : (n = K) = False := by simp; omega
      have hki : (K : Int) < (n : Int) := by omega
      have hkle : (K : Int) ≤ (n : Int) := by omega
      have HT := Lib.hid htl
      have HSP := Lib.hid hstp
      have hsb := hb.size
      have hGB : G < wr.heap.size := hr.lt
      clear hX hXl hXL hZL hKl htl hstp hE
      go_wp2_with (first
        | (go_at_call 20; ((with_reducible refine HT.out.mono ?_); rintro e w3 ⟨rfl, hE3, hg3⟩; have hr3 := (hr.grown hg3 (by intro hh; injection hh with hh; omega)).alloc (.cells (cells Z16).toArray 22); have hE3a := hE3.alloc (.cells (cells Z16).toArray 22); have hsz3 := hg3.size; have hb3 := (hb.grown hg3 hsb (fun i hi => by injection hi with hi; omega)).alloc (by omega) (.cells (cells Z16).toArray 22); have hx3 := BlkV.new w3 22 (cells Z16)))
        | ((with_reducible refine wpList_st rfl 22 (.tmp 10) (.tmp 26) rfl w3.heap.size 0 (cells X) rfl rfl 22 _ hx3 (by rw [HXL.out, HZL.out]; omega) (row16 HXL.out) (cells_one _) ?_); intro w4 hB4 ho4; rw [splice_all _ _ (by rw [HXL.out, HZL.out])] at hB4))
      have hE4 := hE3a.only ho4 (by have := hE3.hq.lt; omega) (by have := hE3.hr.lt; omega) (by have := hE3.hp.lt; omega)
      have hr4 := Blk.only hr3 ho4 (by omega)
      have hb4 := hb3.trans (ho4.below (by omega))
      have hXlt : G < w3.heap.size := by omega
      clear hE3a hr3 hb3 hx3 ho4 hE3 hg3
      go_still_tail 4, (by kernel_rfl)
      change wpList _ _ _ _ _ w4.drew
      have hE5 := hE4.drew
      have hr5 := hr4.drew
      have hb5 := hb4.drew
      have hX5 : Blk w4.drew w3.heap.size 22 X := BlkV.drew hB4
      generalize w4.drew = w5 at *
      clear hE4 hr4 hb4 hB4
      obtain ⟨m, hm⟩ : ∃ m, m = min 16 (n - K) := ⟨_, rfl⟩
      have hsp := HSP.out m hm
      have hmp : 0 < m := by omega
      have hKm : K + m = min (K + 16) n := by omega
      have hXr := hX5.rd HXl.out (Nat.le_refl 16) (by simp [maxLen])
      have HM := Lib.hid hm
      have HSM := Lib.hid hsp
      have HKM := Lib.hid hKm
      have hnl : K + (n - K) ≤ (cells (strR key c n K)).length := by rw [length_cells, HKl.out]; omega
      have HNL := Lib.hid hnl
      clear hm hsp hKm hnl
      go_wp2_with (first
        | ((with_reducible refine wpList_cp rfl (.tmp 29) (.tmp 30) rfl Try.underlying27 u8_inf G K (n - K) (n - K) 5 (cells (strR key c n K)) rfl hr5.v (some ⟨w3.heap.size, 0, none⟩) 16 16 X rfl hXr HNL.out m HM.out hmp ?_); intro w6 hB6 ho6; rw [HSM.out] at hB6))
      have hE6 := hE5.onlyLow ho6 hGl
      have hb6 := hb5.trans (ho6.below (by omega))
      have hr6 : Blk w6 G 5 (strR key c n (K + m)) := hB6
      go_roundw
      case rel => exact ⟨k + 1, K + 16, K + m, Lib.hid (by have := HKk.out; omega), by omega, HKM.out, by go_num, hE6, hr6, hb6⟩
      case measure => simp [intOf]; omega
    · have hMn : M = n := by omega
      rw [hMn, strR_all] at hr
      go_wp2
      go_ret
      exact ⟨G, rfl, by omega, hr, hb⟩
end Go.Proofs.Ytmfceenkndjjoaa
