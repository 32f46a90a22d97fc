/- Contracts of package mac: a key's block. No statement is proved here. -/
import Derived.Test.YtihaiplkkamkoaaDoorMac1
import Derived.Test.YtihaiplkkamkoaaDoorMem3
namespace Go.Proofs.YtihaiplkkamkoaaDoor
open Go.RowKit
set_option linter.unusedVariables false

/-- Zeros, by names that the walk leaves alone. -/
def Z64 : List UInt8 := List.replicate 64 0
def Z20 : List UInt8 := List.replicate 20 0
theorem Z64_len : Z64.length = 64 := by simp [Z64]
theorem Z20_len : Z20.length = 20 := by simp [Z20]
theorem pad_is {k : List UInt8} {n : Nat} (h : k.length = n) : k ++ Z64.drop n = padTo k := by subst h; rw [Z64, padTo, List.drop_replicate]
theorem zero64b (w : World) : (zeroValue 35).run Tryd.prog w = .ok (.agg (cells Z64).toArray) w := by kernel_rfl
theorem zero20b (w : World) : (zeroValue 31).run Tryd.prog w = .ok (.agg (cells Z20).toArray) w := by kernel_rfl

/-- What blockOf does from where a key's stand-in is known on. -/
theorem block_base (w : World) : Below w.heap.size w ((w.alloc (Obj.cells (cells Z64).toArray 35)).alloc (Obj.cells (cells Z64).toArray 35)) ∧
    Blk ((w.alloc (Obj.cells (cells Z64).toArray 35)).alloc (Obj.cells (cells Z64).toArray 35)) w.heap.size 35 Z64 ∧
    Blk ((w.alloc (Obj.cells (cells Z64).toArray 35)).alloc (Obj.cells (cells Z64).toArray 35)) (w.heap.size + 1) 35 Z64 ∧
    ((w.alloc (Obj.cells (cells Z64).toArray 35)).alloc (Obj.cells (cells Z64).toArray 35)).heap.size = w.heap.size + 1 + 1 :=
  ⟨((Below.refl _ _).alloc (Nat.le_refl _) _).alloc (by simp) _, (Blk.new _ _ _).alloc _, Blk.new_at _ _ _ _ _ (by simp) rfl, by simp⟩

set_option maxRecDepth 100000 in
set_option maxHeartbeats 1000000 in
theorem blockOf_any (A : Option Addr) (nb c : Nat) (key : List UInt8) (w : World) (ht : Tab w) (hw : 0 < w.heap.size) (hr : RdS w A nb c key) (hle : nb ≤ 100000) :
    Calls Tryd.prog 13 #[.slice A nb c] w fun e w' => e = .returned (.agg (cells (keyB key)).toArray) ∧ Below w.heap.size w w' := by
  have hz := zero64b
  have hz2 := zero20b
  have hl := hr.len
  obtain ⟨hb0, hR0, hB0, hz0⟩ := block_base w
  have hr0 := hr.below hb0
  obtain ⟨w1, hw1⟩ : ∃ w1, w1 = ((w.alloc (Obj.cells (cells Z64).toArray 35)).alloc (Obj.cells (cells Z64).toArray 35)) := ⟨_, rfl⟩
  rw [← hw1] at hb0 hR0 hB0 hz0 hr0
  have hkl := keyB_len key
  have HKL := Lib.hid hkl
  have HZ := Lib.hid hz0
  have HLE := Lib.hid hle
  by_cases h64 : 64 < nb
  · have hks : keyB key = padTo (shaSum key) := by unfold keyB; rw [keyS_long (by omega)]
    have ht1 := tab_below ht hb0
    have hd : (64 : Int) < (nb : Int) := by omega
    have hsum : Calls Tryd.prog 14 #[.slice (some ⟨w1.heap.size, 0, none⟩) 1 1] (w1.alloc (.cells #[.slice A nb c] 22)) fun e w' => e = .returned (.agg (cells (shaSum key)).toArray) ∧ Below w1.heap.size w1 w' := by
      have hb : Below w1.heap.size w1 (w1.alloc (.cells #[.slice A nb c] 22)) := (Below.refl _ _).alloc (Nat.le_refl _) _
      have := sum_any _ 1 1 [key] _ (tab_below ht1 hb) (by simp) (parts_lit1 hr0 22) (by omega) (by simp; omega)
      have e : [key].flatten = key := by simp
      rw [e] at this
      exact this.mono fun _ _ ⟨h1, h2⟩ => ⟨h1, hb.trans (h2.mono hb.size)⟩
    obtain ⟨D, hD⟩ : ∃ D, D = shaSum key := ⟨_, rfl⟩
    have hDl : D.length = 20 := by rw [hD]; exact shaSum_len _
    rw [← hD] at hsum hks
    rw [HZ.out] at hsum
    have HS := Lib.hid hsum
    have HD := Lib.hid hDl
    have HK := Lib.hid hks
    clear hsum hDl hD hks hkl hl hle hz0 h64
    go_enter Tryd.func13, Tryd.ntmps13
    go_wp2_with (first
      | (go_at_call 14; rw [← hw1]; ((with_reducible refine (Hid.out HS).mono ?_); rintro e w2 ⟨rfl, hb2⟩; have hb3 := hb0.trans (hb2.mono (by have := HZ.out; omega)); have hR2 := hR0.below hb2 (by omega); have hB2 := hB0.below hb2 (by omega); have hR2a := hR2.alloc (.cells (cells Z20).toArray 31); have hB2a := hB2.alloc (.cells (cells Z20).toArray 31); have hT2 := BlkV.new_at w2 w2.heap.size 31 (cells Z20) _ rfl rfl; have hb3a := hb3.alloc hb3.size (.cells (cells Z20).toArray 31)))
      | ((with_reducible refine wpList_st rfl 31 (.tmp 4) (.tmp 10) rfl w2.heap.size 0 (cells D) rfl rfl 31 _ hT2 (by simp [length_cells, HD.out, Z20_len]) (row20 (by rw [length_cells]; exact HD.out)) (cells_one _) ?_); intro w3 hB3 ho3; rw [splice_all _ _ (by rw [length_cells, length_cells, HD.out, Z20_len])] at hB3; have hlt := hB2.lt; have hR3 := Blk.only hR2a ho3 (by omega); have hB4 := Blk.only hB2a ho3 (by omega); have hrd3 := (show Blk w3 w2.heap.size 31 D from hB3).rd (n := 20) (c := 20) HD.out (Nat.le_refl _) (by simp [maxLen]); have hb4 := hb3a.trans (ho3.below hb3.size))
      | ((with_reducible refine wpList_copy_hd rfl (.tmp 12) (.tmp 13) rfl Tryd.underlying22 u8_info (w.heap.size + 1) 64 64 35 Z64 rfl hB4 (some ⟨w2.heap.size, 0, none⟩) 20 20 D rfl hrd3 (by omega) (by rw [Z64_len]; omega) ?_); intro w5 hB5 hb5; rw [pad_is HD.out, ← HK.out] at hB5; have hR5 := hR3.below hb5 (by omega); have hb6 := hb4.trans (hb5.mono (by omega)))
      | (with_reducible refine wpList_ld rfl 35 (.tmp 3) rfl (w.heap.size + 1) 0 rfl (cells (keyB key)) (hB5.v.range 0 _ (by simp)) (row64 (by rw [length_cells]; exact HKL.out)) ?_)
      | ((with_reducible refine wpList_st rfl 35 (.tmp 2) (.tmp 15) rfl w.heap.size 0 (cells (keyB key)) rfl rfl 35 _ hR5.v (by rw [length_cells, length_cells, HKL.out, Z64_len]; omega) (row64 (by rw [length_cells]; exact HKL.out)) (cells_one _) ?_); intro w6 hB6 ho6))
    rw [splice_all _ _ (by rw [length_cells, length_cells, HKL.out, Z64_len])] at hB6
    exact ret_row (by rfl) (by rfl) hB6 (row64 (by rw [length_cells]; exact HKL.out)) (by rfl) ⟨rfl, hb6.trans (ho6.below (Nat.le_refl _))⟩
  · have hks : keyB key = padTo key := by unfold keyB; rw [keyS_short (by omega)]
    have hd : decide ((64 : Int) < (nb : Int)) = false := by simp; omega
    have h64' : nb ≤ 64 := by omega
    have HL := Lib.hid hl
    have HK := Lib.hid hks
    rw [hw1] at hb0 hR0 hB0 hr0 hz0
    clear hks hkl hl hle h64
    go_enter Tryd.func13, Tryd.ntmps13
    go_wp2_with (first
      | ((with_reducible refine wpList_copy_hd rfl (.tmp 12) (.tmp 13) rfl Tryd.underlying22 u8_info (w.heap.size + 1) 64 64 35 Z64 rfl hB0 A nb c key rfl hr0 h64' (by rw [Z64_len]; omega) ?_); intro w5 hB5 hb5; rw [pad_is HL.out, ← HK.out] at hB5; have hR5 := hR0.below hb5 (by omega); have hb6 := hb0.trans (hb5.mono (by omega)))
      | (with_reducible refine wpList_ld rfl 35 (.tmp 3) rfl (w.heap.size + 1) 0 rfl (cells (keyB key)) (hB5.v.range 0 _ (by simp)) (row64 (by rw [length_cells]; exact HKL.out)) ?_)
      | ((with_reducible refine wpList_st rfl 35 (.tmp 2) (.tmp 15) rfl w.heap.size 0 (cells (keyB key)) rfl rfl 35 _ hR5.v (by rw [length_cells, length_cells, HKL.out, Z64_len]; omega) (row64 (by rw [length_cells]; exact HKL.out)) (cells_one _) ?_); intro w6 hB6 ho6))
    rw [splice_all _ _ (by rw [length_cells, length_cells, HKL.out, Z64_len])] at hB6
    exact ret_row (by rfl) (by rfl) hB6 (row64 (by rw [length_cells]; exact HKL.out)) (by rfl) ⟨rfl, hb6.trans (ho6.below (Nat.le_refl _))⟩
end Go.Proofs.YtihaiplkkamkoaaDoor
