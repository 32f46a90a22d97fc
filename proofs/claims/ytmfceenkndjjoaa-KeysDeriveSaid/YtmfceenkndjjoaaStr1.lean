/- Contracts of package stream: bytes taken into others, the next counter. No statement is proved here. -/
import Derived.Test.YtmfceenkndjjoaaAes9
import Derived.Test.YtmfceenkndjjoaaStrNum
namespace Go.Proofs.Ytmfceenkndjjoaa
open Go.RowKit
set_option linter.unusedVariables false

theorem down1 (j : Nat) : ((j + 1 : Nat) : Int) - 1 = (j : Int) := by omega

set_option maxRecDepth 100000 in
set_option maxHeartbeats 1000000 in
theorem next_any (c : List UInt8) (w : World) (hc : c.length = 16) :
    Calls Try.prog 22 #[.agg (cells c).toArray] w fun e w' => e = .returned (.agg (cells (plusC c 1)).toArray) ∧ Below w.heap.size w w' := by
  have hz := zero16
  obtain ⟨hb0, h0, h1, _⟩ := block_base w c
  have hZL : (cells Z16).length = 16 := by rw [length_cells, Z16_len]
  have HZL := Lib.hid hZL
  have hPL : (cells (plusC c 1)).length = 16 := by rw [length_cells, plusC_len]
  have HPL := Lib.hid hPL
  have h0' : Blk ((w.alloc (Obj.cells (cells c).toArray 22)).alloc (Obj.cells (cells Z16).toArray 22)) w.heap.size 22 (nxR c 0) := by rw [nxR_zero c hc]; exact h0
  have hF := full_zero c hc
  have HC := Lib.hid hc
  clear h0 hc hZL hPL
  go_enter Try.func22, Try.ntmps22
  go_wp2
  go_loopw [3] (fun vi wr => ∃ k J : Nat, Hid (J + k = 16) ∧ vi = .int .i64 ((J : Int) - 1) ∧ Full c k ∧ Blk wr w.heap.size 22 (nxR c k) ∧ Blk wr (w.heap.size + 1) 22 Z16 ∧ Below w.heap.size w wr) (fun i _ => (intOf i + 1).toNat)
  case atStart => exact ⟨0, 16, Lib.hid rfl, rfl, hF, h0', h1, hb0⟩
  case round =>
    clear h0' hF h1 hb0
    obtain ⟨k, J, HJ, rfl, hF, h2, h1, hb⟩ := hrel
    rcases Nat.eq_zero_or_pos J with h | h
    · subst h
      have hk : k = 16 := by have := HJ.out; omega
      subst hk
      rw [nxR_all c hF] at h2
      clear hF
      go_wp2_with (first
        | (with_reducible refine wpList_ld rfl 22 (.tmp 1) rfl w.heap.size 0 rfl (cells (plusC c 1)) (h2.v.range 0 _ (by simp)) (row16 HPL.out) ?_)
        | ((with_reducible refine wpList_st rfl 22 (.tmp 2) (.tmp 17) rfl (w.heap.size + 1) 0 (cells (plusC c 1)) rfl rfl 22 _ h1.v (by rw [HPL.out, HZL.out]; omega) (row16 HPL.out) (cells_one _) ?_); intro w2 hB2 ho2; rw [splice_all _ _ (by rw [HPL.out, HZL.out])] at hB2))
      exact ret_row (by rfl) (by rfl) hB2 (row16 HPL.out) (by rfl) ⟨rfl, hb.trans (ho2.below (by omega))⟩
    · obtain ⟨j, rfl⟩ : ∃ j, J = j + 1 := ⟨J - 1, by omega⟩
      have hjk : 15 - k = j := by have := HJ.out; omega
      have hk16 : k < 16 := by have := HJ.out; omega
      have hj16 : j < 16 := by omega
      have hcell := h2.cell (j := j) (by rw [nxR_len c k HC.out (by omega)]; exact hj16)
      have hget := nxR_get c k HC.out hk16
      rw [hjk] at hget
      rw [hget] at hcell
      have hfr := h2.frozen j
      rw [down1 j]
      obtain ⟨y, hy⟩ : ∃ y, y = c.getD j 0 := ⟨_, rfl⟩
      rw [← hy] at hcell
      have hyl := y.toNat_lt
      by_cases hfull : y.toNat = 255
      · have hst := h2.set_ j 0
        have hset := nxR_set c k HC.out hk16
        rw [hjk] at hset
        rw [hset] at hst
        have hst' : Blk (wr.setCell ⟨w.heap.size, j, none⟩ (.int .u8 0)) w.heap.size 22 (nxR c (k + 1)) := hst
        have h1s := h1.far (p := ⟨w.heap.size, j, none⟩) (by simp) (.int .u8 0)
        have hbs := hb.setCell (p := ⟨w.heap.size, j, none⟩) (by simp) (.int .u8 0)
        have hc2 : (wr.setCell ⟨w.heap.size, j, none⟩ (.int .u8 0)).cell? ⟨w.heap.size, j, none⟩ = some (.int .u8 0) := by
          have h := hst'.cell (j := j) (by rw [nxR_len c (k + 1) HC.out (by omega)]; exact hj16)
          rw [← hset] at h
          rw [h]
          simp [List.getD_eq_getElem?_getD, nxR_len c k HC.out (by omega : k ≤ 16), hj16]
        have hF2 := full_succ c k HC.out hk16 hF (by rw [hjk, ← hy]; exact hfull)
        have HJ2 : Hid (j + (k + 1) = 16) := Lib.hid (by have := HJ.out; omega)
        rw [hfull] at hcell
        have hcell' : wr.cell? ⟨w.heap.size, j, none⟩ = some (.int .u8 255) := hcell
        clear hfull hy hget hset hF hst hcell hyl
        go_wp2
        go_roundw
        case rel => exact ⟨k + 1, j, HJ2, by go_num, hF2, hst', h1s, hbs⟩
        case measure => simp [intOf]
      · obtain ⟨z, hz⟩ : ∃ z : UInt8, z.toNat = y.toNat + 1 := ⟨UInt8.ofNat (y.toNat + 1), by rw [UInt8.toNat_ofNat']; omega⟩
        have hst := h2.set_ j z
        have hset := nxR_stop c k HC.out hk16 hF z (by rw [hjk, ← hy]; exact hz)
        rw [hjk] at hset
        rw [hset] at hst
        have h1s := h1.far (p := ⟨w.heap.size, j, none⟩) (by simp) (.int .u8 (z.toNat : Int))
        have hbs := hb.setCell (p := ⟨w.heap.size, j, none⟩) (by simp) (.int .u8 (z.toNat : Int))
        have hc2 : (wr.setCell ⟨w.heap.size, j, none⟩ (.int .u8 (z.toNat : Int))).cell? ⟨w.heap.size, j, none⟩ = some (.int .u8 (z.toNat : Int)) := by
          have h := hst.cell (j := j) (by rw [plusC_len]; exact hj16)
          rw [← hset] at h
          rw [h]
          simp [List.getD_eq_getElem?_getD, nxR_len c k HC.out (by omega : k ≤ 16), hj16]
        obtain ⟨a, ha⟩ : ∃ a : Int, a = (y.toNat : Int) := ⟨_, rfl⟩
        obtain ⟨b, hbz⟩ : ∃ b : Int, b = (z.toNat : Int) := ⟨_, rfl⟩
        rw [← ha] at hcell
        rw [← hbz] at hst h1s hbs hc2
        have e1 : IntKind.u8.wrap (a + 1) = b := by
          rw [show a + 1 = b by omega]
          exact (IntKind.wrap_u8 b).trans (Int.emod_eq_of_lt (by omega) (by omega))
        have e2 : (b != 0) = true := by simp; omega
        clear hfull hy hget hset hF hyl ha hbz hz h2
        go_wp2_with (first
          | (with_reducible refine wpList_ld rfl 22 (.tmp 1) rfl w.heap.size 0 rfl (cells (plusC c 1)) (hst.v.range 0 _ (by simp)) (row16 HPL.out) ?_)
          | ((with_reducible refine wpList_st rfl 22 (.tmp 2) (.tmp 17) rfl (w.heap.size + 1) 0 (cells (plusC c 1)) rfl rfl 22 _ h1s.v (by rw [HPL.out, HZL.out]; omega) (row16 HPL.out) (cells_one _) ?_); intro w2 hB2 ho2; rw [splice_all _ _ (by rw [HPL.out, HZL.out])] at hB2))
        exact ret_row (by rfl) (by rfl) hB2 (row16 HPL.out) (by rfl) ⟨rfl, hbs.trans (ho2.below (by omega))⟩
end Go.Proofs.Ytmfceenkndjjoaa
