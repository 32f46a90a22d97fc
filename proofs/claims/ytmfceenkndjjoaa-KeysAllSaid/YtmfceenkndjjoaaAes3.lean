/- Contracts of package aes: the box. No statement is proved here. -/
import Derived.Test.YtmfceenkndjjoaaAes2
import Derived.Test.YtmfceenkndjjoaaArr
namespace Go.Proofs.Ytmfceenkndjjoaa
open Go.RowKit
set_option linter.unusedVariables false

theorem und_u8 : Try.prog.underlying 5 = some (.int .u8) := by kernel_rfl
theorem sz_u8 (w : World) : (sizeOf 5).run Try.prog w = .ok 1 w := by kernel_rfl
theorem index255 (k : Nat) (hk : k < 255) (w : World) : (Instr.index 65 (.agg (cells powT).toArray) (.int .i64 (k : Int))).run Try.prog w = .ok (.int .u8 ((pw k).toNat : Int)) w :=
  run_index_cells 65 5 255 (by kernel_rfl) und_u8 sz_u8 powT powT_len k hk w
/-- The first store into the box. -/
theorem box_zero {w : World} {g : Nat} {e : TypeId} (h : Blk w g e Z256) : Blk (w.setCell ⟨g, 0, none⟩ (.int .u8 ((mx 0).toNat : Int))) g e (boxAt 0) := h.set_ 0 (mx 0)

set_option maxRecDepth 100000 in
set_option maxHeartbeats 1000000 in
theorem box_any (w : World) : Calls Try.prog 25 #[] w fun e w' => e = .returned (.agg (cells boxT).toArray) ∧ Below w.heap.size w w' := by
  have hz := zero256
  have hz2 := zero255
  have hmx := fun wx => mixed_any 0 0 wx rfl
  have HM := Lib.hid hmx
  have hset : (cells Z256).set 0 (.int .u8 ((mx 0).toNat : Int)) = cells (boxAt 0) := cells_set Z256 0 (mx 0)
  have HS := Lib.hid hset
  have k0 : Blk ((w.alloc (Obj.cells (cells Z256).toArray 53)).alloc (Obj.cells (cells (boxAt 0)).toArray 53)) w.heap.size 53 Z256 := (Blk.new _ _ _).alloc _
  have k1 : Blk ((w.alloc (Obj.cells (cells Z256).toArray 53)).alloc (Obj.cells (cells (boxAt 0)).toArray 53)) (w.heap.size + 1) 53 (boxAt 0) := Blk.new_at _ _ _ _ _ (by simp) rfl
  have kb : Below w.heap.size w ((w.alloc (Obj.cells (cells Z256).toArray 53)).alloc (Obj.cells (cells (boxAt 0)).toArray 53)) := ((Below.refl _ _).alloc (Nat.le_refl _) _).alloc (by simp) _
  obtain ⟨w2, hw2⟩ : ∃ w2, w2 = ((w.alloc (Obj.cells (cells Z256).toArray 53)).alloc (Obj.cells (cells (boxAt 0)).toArray 53)) := ⟨_, rfl⟩
  rw [← hw2] at k0 k1 kb
  have HW2 := Lib.hid hw2
  clear hmx hset hw2
  have hL : (cells powT).length = 255 := by rw [length_cells, powT_len]
  have HL := Lib.hid hL
  have hZ : (cells Z255).length = 255 := by rw [length_cells, Z255_len]
  have HZ := Lib.hid hZ
  clear hL hZ
  go_enter Try.func25, Try.ntmps25
  go_wp2_with (first
    | (go_at_call 31; ((with_reducible refine (Hid.out HM _).mono ?_); rintro e w' ⟨rfl, rfl⟩))
    | (go_at_call 32; rw [HS.out, ← HW2.out]; ((with_reducible refine (powers_any _).mono ?_); rintro e w3 ⟨rfl, hb3⟩; have j0 := (k0.below hb3 k0.lt).alloc (.cells (cells Z255).toArray 65); have j1 := (k1.below hb3 k1.lt).alloc (.cells (cells Z255).toArray 65); have jl := k1.lt; have jsz := hb3.size; have jb := (kb.trans (hb3.mono kb.size)).alloc (by have := kb.size; omega) (.cells (cells Z255).toArray 65); have j2 := Blk.new_at w3 w3.heap.size 65 Z255 _ rfl rfl))
    | ((with_reducible refine wpList_st rfl 65 (.tmp 2) (.tmp 7) rfl w3.heap.size 0 (cells powT) rfl rfl 65 _ j2.v (by rw [HL.out, HZ.out]; omega) (row255 HL.out) (cells_one _) ?_); intro w4 hB4 ho4; rw [splice_all _ _ (by rw [HL.out, HZ.out])] at hB4; have i0 := Blk.only j0 ho4 (by omega); have i1 := Blk.only j1 ho4 (by omega); have ib := jb.trans (ho4.below (by have := kb.size; omega)))
    | (with_reducible refine wpList_ld rfl 65 (.tmp 2) rfl w3.heap.size 0 rfl (cells powT) (hB4.range 0 _ (by simp)) (row255 HL.out) ?_))
  have hg3 : w.heap.size + 1 < w3.heap.size := by omega
  clear jb j0 j1 j2 jsz jl ho4 k0 k1 kb hb3 HW2 HS
  obtain ⟨g3, hg⟩ : ∃ g3, g3 = w3.heap.size := ⟨_, rfl⟩
  rw [← hg] at hB4 hg3 ⊢
  clear hg
  have hP : Blk w4 g3 65 powT := hB4
  clear hB4
  go_loopw [9] (fun vi wr => ∃ k : Nat, k ≤ 255 ∧ vi = .int .i64 k ∧ Blk wr w.heap.size 53 Z256 ∧ Blk wr (w.heap.size + 1) 53 (boxAt k) ∧ Blk wr g3 65 powT ∧ Below w.heap.size w wr) (fun i _ => 255 - (intOf i).toNat)
  case atStart => exact ⟨0, by omega, rfl, i0, i1, hP, ib⟩
  case round =>
    clear i0 i1 hP ib
    obtain ⟨k, hk, rfl, g0, g1, g2, gb⟩ := hrel
    by_cases hlt : k < 255
    · have hix := index255 k hlt
      obtain ⟨M, hM⟩ : ∃ M, M = (255 - k) % 255 := ⟨_, rfl⟩
      have hMc : (255 - (k : Int)) % 255 = (M : Int) := by omega
      have hMl : M < 255 := by omega
      have hcM := g2.cell (j := M) (by rw [powT_len]; exact hMl)
      have hpw : (powT.getD M 0) = pw M := rfl
      rw [hpw] at hcM
      have hmx := fun wx => mixed_any (pw M) ((pw M).toNat : Int) wx rfl
      have hnx : boxAt (k + 1) = (boxAt k).set (pw k).toNat (mx (pw M)) := by rw [boxAt, hM]
      have hpl := (pw k).toNat_lt
      have hcell := g1.cell (j := (pw k).toNat) (by rw [boxAt_len]; exact hpl)
      have hfr := g1.frozen (pw k).toNat
      have s1 := g1.set_ (pw k).toNat (mx (pw M))
      rw [← hnx] at s1
      have s0 := g0.far (p := ⟨w.heap.size + 1, (pw k).toNat, none⟩) (by simp) (.int .u8 ((mx (pw M)).toNat : Int))
      have s2 := g2.far (p := ⟨w.heap.size + 1, (pw k).toNat, none⟩) (by simp; omega) (.int .u8 ((mx (pw M)).toNat : Int))
      have sb := gb.setCell (p := ⟨w.heap.size + 1, (pw k).toNat, none⟩) (by simp) (.int .u8 ((mx (pw M)).toNat : Int))
      obtain ⟨y, hy⟩ : ∃ y : Int, y = (((boxAt k).getD (pw k).toNat 0).toNat : Int) := ⟨_, rfl⟩
      rw [← hy] at hcell
      obtain ⟨p, hp⟩ : ∃ p, p = (pw k).toNat := ⟨_, rfl⟩
      rw [← hp] at hcell hfr s1 s0 s2 sb hpl hix
      have HMX := Lib.hid hmx
      clear hmx hnx hy hp hpw hM
      go_wp2_with (first
        | (go_at_call 31; ((with_reducible refine (Hid.out HMX _).mono ?_); rintro e w' ⟨rfl, rfl⟩)))
      go_roundw
      case rel => exact ⟨k + 1, by omega, by go_num, s0, s1, s2, sb⟩
      case measure => simp [intOf]; omega
    · obtain rfl : k = 255 := by omega
      rw [boxAt_all] at g1
      have hBL : (cells boxT).length = 256 := by rw [length_cells, boxT_len]
      have hZL : (cells Z256).length = 256 := by rw [length_cells, Z256_len]
      have HBL := Lib.hid hBL
      have HZL := Lib.hid hZL
      clear hBL hZL
      go_wp2_with (first
        | (with_reducible refine wpList_ld rfl 53 (.tmp 1) rfl (w.heap.size + 1) 0 rfl (cells boxT) (g1.v.range 0 _ (by simp)) (row256 HBL.out) ?_)
        | ((with_reducible refine wpList_st rfl 53 (.tmp 0) (.tmp 22) rfl w.heap.size 0 (cells boxT) rfl rfl 53 _ g0.v (by rw [HBL.out, HZL.out]; omega) (row256 HBL.out) (cells_one _) ?_); intro w5 hB5 ho5))
      rw [splice_all _ _ (by rw [HBL.out, HZL.out])] at hB5
      exact ret_row (by rfl) (by rfl) hB5 (row256 HBL.out) (by rfl) ⟨rfl, gb.trans (ho5.below (Nat.le_refl _))⟩
end Go.Proofs.Ytmfceenkndjjoaa
