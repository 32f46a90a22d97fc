/- Contracts of package aes: Words, New. No statement is proved here. -/
import Derived.Test.YtmfceenkndjjoaaAes7
import Derived.Deep.RegionHeld3
namespace Go.Proofs.Ytmfceenkndjjoaa
open Go.RowKit
set_option linter.unusedVariables false

theorem built_c (w : World) : (Instr.build 57 #[(0, .agg (cells boxT).toArray)]).run Try.prog w = .ok (.agg (ciph Z176).toArray) w := by kernel_rfl
theorem ciph_len (ks : List UInt8) (h : ks.length = 176) : (ciph ks).length = 432 := by rw [ciph, List.length_append, length_cells, length_cells, boxT_len, h]
theorem ciph_splice (ks : List UInt8) (h : ks.length = 176) : splice (ciph Z176) 256 (cells ks) = ciph ks := by
  have hb : (cells boxT).length = 256 := by rw [length_cells, boxT_len]
  unfold splice ciph
  rw [List.take_left' hb, List.drop_of_length_le (by rw [List.length_append, length_cells, length_cells, length_cells, boxT_len, Z176_len, h]; omega), List.append_nil]

set_option maxRecDepth 100000 in
set_option maxHeartbeats 1000000 in
theorem new_any (key : List UInt8) (w : World) (hk : key.length = 16) :
    Calls Try.prog 19 #[.agg (cells key).toArray] w fun e w' => ∃ p : Nat, e = .returned (.pointer (some ⟨p, 0, none⟩)) ∧ w.heap.size ≤ p ∧ BlkV w' p 57 (ciph (kall key)) ∧ Below w.heap.size w w' := by
  have hb0 : Below w.heap.size w (w.alloc (Obj.cells (cells key).toArray 22)) := (Below.refl _ _).alloc (Nat.le_refl _) _
  have h0 : Blk (w.alloc (Obj.cells (cells key).toArray 22)) w.heap.size 22 key := Blk.new _ _ _
  have hKL : (cells key).length = 16 := by rw [length_cells, hk]
  have HKL := Lib.hid hKL
  have hkl := kall_len key hk
  have hKA : (cells (kall key)).length = 176 := by rw [length_cells, hkl]
  have HKA := Lib.hid hKA
  have hcz := ciph_len Z176 Z176_len
  have HCZ := Lib.hid hcz
  have hsp := ciph_splice (kall key) hkl
  have hwb := fun wx p (hbx : BoxRd wx p) => wordsBy_any p key wx hk hbx
  obtain ⟨KA, hKAe⟩ : ∃ KA, KA = kall key := ⟨_, rfl⟩
  rw [← hKAe] at hKA HKA hsp ⊢
  simp only [← hKAe] at hwb
  have HSP := Lib.hid hsp
  have HWB := Lib.hid hwb
  clear hKL hk hkl hKA hcz hsp hwb hKAe
  go_enter Try.func19, Try.ntmps19
  go_wp2_with (first
    | (go_at_call 25; ((with_reducible refine (box_any _).mono ?_); rintro e w1 ⟨rfl, hb1⟩))
    | (with_reducible refine wpList_built1 rfl 57 0 (.tmp 4) rfl (.agg (cells boxT).toArray) (.agg (ciph Z176).toArray) rfl (built_c _) ?_))
  have h1 := h0.below hb1 h0.lt
  have hbb := (hb0.trans (hb1.mono hb0.size)).alloc (by have := hb1.size; have := hb0.size; omega) (.cells (ciph Z176).toArray 57)
  have h2 := h1.alloc (.cells (ciph Z176).toArray 57)
  have hc := BlkV.new w1 57 (ciph Z176)
  have hlt : w.heap.size < w1.heap.size := h1.lt
  have hcd : BlkV (w1.alloc (.cells (ciph Z176).toArray 57)).drew w1.heap.size 57 (ciph Z176) := hc
  have h2d : Blk (w1.alloc (.cells (ciph Z176).toArray 57)).drew w.heap.size 22 key := h2
  have hbd : Below w.heap.size w (w1.alloc (.cells (ciph Z176).toArray 57)).drew := hbb.drew
  clear hc h2 hbb
  refine wp_region_noPanic ?_
  refine wp_region_any (by kernel_rfl) ?_
  change wpAny _ _ _ _ _ _ _ (World.drew _)
  obtain ⟨wd, hwd⟩ : ∃ wd, wd = (w1.alloc (.cells (ciph Z176).toArray 57)).drew := ⟨_, rfl⟩
  rw [← hwd] at hcd h2d hbd ⊢
  clear hwd
  refine wpAny_take (i := 0) (v := ?_) rfl (by kernel_rfl) (by kernel_rfl) (by kernel_rfl) (fun _ _ _ h => h) (Or.inl ⟨by rfl, ?_⟩) ?_
  case refine_2 => (intro wz; go_simp; with_reducible rfl)
  simp only [Act.put, List.getElem_toArray, List.getElem_cons_zero, List.setIfInBounds_toArray, List.set_cons_succ, List.set_cons_zero]
  refine wpAny_take (i := 1) (v := ?_) rfl (by kernel_rfl) (by kernel_rfl) (by kernel_rfl) (fun _ _ _ h => h) (Or.inl ⟨by rfl, ?_⟩) ?_
  case refine_2 => (intro wz; go_simp; with_reducible rfl)
  simp only [Act.put, List.getElem_toArray, List.getElem_cons_succ, List.getElem_cons_zero, List.setIfInBounds_toArray, List.set_cons_succ, List.set_cons_zero]
  refine wpAny_take (i := 2) (v := ?_) rfl (by kernel_rfl) (by kernel_rfl) (by kernel_rfl) (fun _ _ _ h => h) (Or.inl ⟨by rfl, ?_⟩) ?_
  case refine_2 => (intro wz; go_simp; with_reducible rfl)
  simp only [Act.put, List.getElem_toArray, List.getElem_cons_succ, List.getElem_cons_zero, List.setIfInBounds_toArray, List.set_cons_succ, List.set_cons_zero]
  refine wpAny_take (i := 3) (v := ?_) rfl (by kernel_rfl) (by kernel_rfl) (by kernel_rfl) (fun _ _ _ h => h) (Or.inl ⟨by rfl, ?_⟩) ?_
  case refine_2 => (intro wz; go_simp; with_reducible rfl)
  simp only [Act.put, List.getElem_toArray, List.getElem_cons_succ, List.getElem_cons_zero, List.setIfInBounds_toArray, List.set_cons_succ, List.set_cons_zero]
  refine any_one (i := 4) (by kernel_rfl) rfl rfl (fun H hH => ?_)
  simp only [List.getElem_toArray, List.getElem_cons_succ, List.getElem_cons_zero]
  refine wp_ld 22 (.tmp 1) rfl w.heap.size 0 (by rfl) (cells key) (h2d.v.range 0 _ (by simp)) (row16 HKL.out) ?_
  refine hH _ _ ?_
  clear hH H
  refine any_one (i := 5) (by kernel_rfl) rfl rfl (fun H hH => ?_)
  simp only [List.getElem_toArray, List.getElem_cons_succ, List.getElem_cons_zero]
  go_simp
  refine (HWB.out _ _ hcd.boxrd).mono ?_
  rintro e w3 ⟨rfl, hb3⟩
  refine hH _ _ ?_
  clear hH H
  have hc3 := hcd.below hb3 hcd.lt
  have hb3w := hbd.trans (hb3.mono hbd.size)
  refine wpAny_take (i := 6) (v := ?_) rfl (by kernel_rfl) (by kernel_rfl) (by kernel_rfl) (fun _ _ _ h => h) (Or.inl ⟨by rfl, ?_⟩) ?_
  case refine_2 => (intro wz; go_simp; with_reducible rfl)
  simp only [Act.put, List.getElem_toArray, List.getElem_cons_succ, List.getElem_cons_zero, List.setIfInBounds_toArray, List.set_cons_succ, List.set_cons_zero]
  refine wpAny_take (i := 7) (v := ?_) rfl (by kernel_rfl) (by kernel_rfl) (by kernel_rfl) (fun _ _ _ h => h) (Or.inl ⟨by rfl, ?_⟩) ?_
  case refine_2 => (intro wz; go_simp; with_reducible rfl)
  simp only [Act.put, List.getElem_toArray, List.getElem_cons_succ, List.getElem_cons_zero, List.setIfInBounds_toArray, List.set_cons_succ, List.set_cons_zero]
  refine any_one (i := 8) (by kernel_rfl) rfl rfl (fun H hH => ?_)
  simp only [List.getElem_toArray, List.getElem_cons_succ, List.getElem_cons_zero]
  refine wp_st 55 (.tmp 14) (.tmp 12) rfl w1.heap.size 256 (cells KA) (by rfl) (by rfl) 57 _ hc3 (by rw [HCZ.out, HKA.out]; omega) (row176 HKA.out) (cells_one _) ?_
  intro w4 hB4 ho4
  refine hH _ _ ?_
  clear hH H
  refine wpAny_done (by kernel_rfl) ?_ _
  refine NoPanic.normal ?_
  rw [HSP.out] at hB4
  have hfin := hb3w.trans (ho4.below (by omega))
  simp only [Act.put]
  go_wp2
  go_ret
  exact ⟨w1.heap.size, rfl, by omega, hB4, hfin⟩

end Go.Proofs.Ytmfceenkndjjoaa
