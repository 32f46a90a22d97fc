/- Several texts in one: plain words and walks. No statement is proved here. -/
import Derived.Test.YtmkeioeodlidgaaGreatDoorZM8
import Derived.BigQuiet
namespace Go.Proofs.YtmkeioeodlidgaaGreatDoor
open Go.RowKit
set_option linter.unusedVariables false

theorem und_u8 : Tryz.prog.underlying 5 = some (.int .u8) := by kernel_rfl
theorem sz_u8 (w : World) : (sizeOf 5).run Tryz.prog w = .ok 1 w := by kernel_rfl
theorem index255 (k : Nat) (hk : k < 255) (w : World) : (Instr.index 194 (.agg (cells powT).toArray) (.int .i64 (k : Int))).run Tryz.prog w = .ok (.int .u8 ((pw k).toNat : Int)) w :=
 run_index_cells 194 5 255 (by kernel_rfl) und_u8 sz_u8 powT powT_len k hk w
set_option maxRecDepth 100000 in
set_option maxHeartbeats 1000000 in
theorem box_any (w : World) : Calls Tryz.prog 110 #[] w fun e w' => e = .returned (.agg (cells boxT).toArray) ∧ Below w.heap.size w w' := by
 have hz := zero256
 have hz2 := zero255
 have hmx := fun wx => mixed_any 0 0 wx rfl
 have HM := Lib.hid hmx
 have hset : (cells Z256).set 0 (.int .u8 ((mx 0).toNat : Int)) = cells (boxAt 0) := cells_set Z256 0 (mx 0)
 have HS := Lib.hid hset
 have k0 : Blk ((w.alloc (Obj.cells (cells Z256).toArray 179)).alloc (Obj.cells (cells (boxAt 0)).toArray 179)) w.heap.size 179 Z256 := (Blk.new _ _ _).alloc _
 have k1 : Blk ((w.alloc (Obj.cells (cells Z256).toArray 179)).alloc (Obj.cells (cells (boxAt 0)).toArray 179)) (w.heap.size + 1) 179 (boxAt 0) := Blk.new_at _ _ _ _ _ (by simp) rfl
 have kb : Below w.heap.size w ((w.alloc (Obj.cells (cells Z256).toArray 179)).alloc (Obj.cells (cells (boxAt 0)).toArray 179)) := ((Below.refl _ _).alloc (Nat.le_refl _) _).alloc (by simp) _
 obtain ⟨w2, hw2⟩ : ∃ w2, w2 = ((w.alloc (Obj.cells (cells Z256).toArray 179)).alloc (Obj.cells (cells (boxAt 0)).toArray 179)) := ⟨_, rfl⟩
 rw [← hw2] at k0 k1 kb
 have HW2 := Lib.hid hw2
 clear hmx hset hw2
 have hL : (cells powT).length = 255 := by rw [length_cells, powT_len]
 have HL := Lib.hid hL
 have hZ : (cells Z255).length = 255 := by rw [length_cells, Z255_len]
 have HZ := Lib.hid hZ
 clear hL hZ
 go_enter Tryz.func110, Tryz.ntmps110
 go_wp2_with (first
  | (go_at_call 118; ((with_reducible refine (Hid.out HM _).mono ?_); rintro e w' ⟨rfl, rfl⟩))
  | (go_at_call 119; rw [HS.out, ← HW2.out]; ((with_reducible refine (powers_any _).mono ?_); rintro e w3 ⟨rfl, hb3⟩; have j0 := (k0.below hb3 k0.lt).alloc (.cells (cells Z255).toArray 194); have j1 := (k1.below hb3 k1.lt).alloc (.cells (cells Z255).toArray 194); have jl := k1.lt; have jsz := hb3.size; have jb := (kb.trans (hb3.mono kb.size)).alloc (by have := kb.size; omega) (.cells (cells Z255).toArray 194); have j2 := Blk.new_at w3 w3.heap.size 194 Z255 _ rfl rfl))
  | ((with_reducible refine wpList_st rfl 194 (.tmp 2) (.tmp 7) rfl w3.heap.size 0 (cells powT) rfl rfl 194 _ j2.v (by rw [HL.out, HZ.out]; omega) (row255 HL.out) (cells_one _) ?_); intro w4 hB4 ho4; rw [splice_all _ _ (by rw [HL.out, HZ.out])] at hB4; have i0 := Blk.only j0 ho4 (by omega); have i1 := Blk.only j1 ho4 (by omega); have ib := jb.trans (ho4.below (by have := kb.size; omega)))
  | (with_reducible refine wpList_ld rfl 194 (.tmp 2) rfl w3.heap.size 0 rfl (cells powT) (hB4.range 0 _ (by simp)) (row255 HL.out) ?_))
 have hg3 : w.heap.size + 1 < w3.heap.size := by omega
 clear jb j0 j1 j2 jsz jl ho4 k0 k1 kb hb3 HW2 HS
 obtain ⟨g3, hg⟩ : ∃ g3, g3 = w3.heap.size := ⟨_, rfl⟩
 rw [← hg] at hB4 hg3 ⊢
 clear hg
 have hP : Blk w4 g3 194 powT := hB4
 clear hB4
 go_loopw [9] (fun vi wr => ∃ k : Nat, k ≤ 255 ∧ vi = .int .i64 k ∧ Blk wr w.heap.size 179 Z256 ∧ Blk wr (w.heap.size + 1) 179 (boxAt k) ∧ Blk wr g3 194 powT ∧ Below w.heap.size w wr) (fun i _ => 255 - (intOf i).toNat)
 case atStart => exact ⟨0, by omega, rfl, i0, i1, hP, ib⟩
 case round =>
  clear i0 i1 hP ib
  obtain ⟨k, hk, rfl, g0, g1, g2, gb⟩ := hrel
  by_cases hlt : k < 255
  · have hix := index255 k hlt
    obtain ⟨M, hM⟩ : ∃ M, M = (255 - k) % 255 := ⟨_, rfl⟩
    have hMc : (255 - (k : Int)) % 255 = (M : Int) := by omega
    have hMl : M < 255 := by omega
    have hcM := g2.cell (j := M) (by rw [powT_len]; exact hMl)
    have hpw : (powT.getD M 0) = pw M := rfl
    rw [hpw] at hcM
    have hmx := fun wx => mixed_any (pw M) ((pw M).toNat : Int) wx rfl
    have hnx : boxAt (k + 1) = (boxAt k).set (pw k).toNat (mx (pw M)) := by rw [boxAt, hM]
    have hpl := (pw k).toNat_lt
    have hcell := g1.cell (j := (pw k).toNat) (by rw [boxAt_len]; exact hpl)
    have hfr := g1.frozen (pw k).toNat
    have s1 := g1.set_ (pw k).toNat (mx (pw M))
    rw [← hnx] at s1
    have s0 := g0.far (p := ⟨w.heap.size + 1, (pw k).toNat, none⟩) (by simp) (.int .u8 ((mx (pw M)).toNat : Int))
    have s2 := g2.far (p := ⟨w.heap.size + 1, (pw k).toNat, none⟩) (by simp; omega) (.int .u8 ((mx (pw M)).toNat : Int))
    have sb := gb.setCell (p := ⟨w.heap.size + 1, (pw k).toNat, none⟩) (by simp) (.int .u8 ((mx (pw M)).toNat : Int))
    obtain ⟨y, hy⟩ : ∃ y : Int, y = (((boxAt k).getD (pw k).toNat 0).toNat : Int) := ⟨_, rfl⟩
    rw [← hy] at hcell
    obtain ⟨p, hp⟩ : ∃ p, p = (pw k).toNat := ⟨_, rfl⟩
    rw [← hp] at hcell hfr s1 s0 s2 sb hpl hix
    have HMX := Lib.hid hmx
    clear hmx hnx hy hp hpw hM
    go_wp2_with (first
     | (go_at_call 118; ((with_reducible refine (Hid.out HMX _).mono ?_); rintro e w' ⟨rfl, rfl⟩)))
    go_roundw
    case rel => exact ⟨k + 1, by omega, by go_num, s0, s1, s2, sb⟩
    case measure => simp [intOf]; omega
  · obtain rfl : k = 255 := by omega
    rw [boxAt_all] at g1
    have hBL : (cells boxT).length = 256 := by rw [length_cells, boxT_len]
    have hZL : (cells Z256).length = 256 := by rw [length_cells, Z256_len]
    have HBL := Lib.hid hBL
    have HZL := Lib.hid hZL
    clear hBL hZL
    go_wp2_with (first
     | (with_reducible refine wpList_ld rfl 179 (.tmp 1) rfl (w.heap.size + 1) 0 rfl (cells boxT) (g1.v.range 0 _ (by simp)) (row256 HBL.out) ?_)
     | ((with_reducible refine wpList_st rfl 179 (.tmp 0) (.tmp 22) rfl w.heap.size 0 (cells boxT) rfl rfl 179 _ g0.v (by rw [HBL.out, HZL.out]; omega) (row256 HBL.out) (cells_one _) ?_); intro w5 hB5 ho5))
    rw [splice_all _ _ (by rw [HBL.out, HZL.out])] at hB5
    exact ret_row (by rfl) (by rfl) hB5 (row256 HBL.out) (by rfl) ⟨rfl, gb.trans (ho5.below (Nat.le_refl _))⟩
def ciph (ks : List UInt8) : List Value := cells boxT ++ cells ks
theorem ciph_box {ks : List UInt8} {i : Nat} (h : i < 256) : (ciph ks)[i]? = some (.int .u8 ((boxT.getD i 0).toNat : Int)) := by
 unfold ciph
 rw [List.getElem?_append_left (by rw [length_cells, boxT_len]; exact h)]
 exact cells_at (by rw [boxT_len]; exact h)
theorem ciph_key {ks : List UInt8} {i : Nat} (h : i < ks.length) : (ciph ks)[256 + i]? = some (.int .u8 ((ks.getD i 0).toNat : Int)) := by
 unfold ciph
 rw [List.getElem?_append_right (by rw [length_cells, boxT_len]; omega), length_cells, boxT_len, show 256 + i - 256 = i by omega]
 exact cells_at h
theorem grown_drew {w w' : World} {row : Option Nat} (h : w.grownBy w' row) : w.grownBy w'.drew row := ⟨h.os, h.tape, h.output, h.size, h.block⟩
set_option maxRecDepth 100000 in
set_option maxHeartbeats 1000000 in
theorem takeKey_any (p g r : Nat) (e : TypeId) (ks s : List UInt8) (ri : Int) (w : World) (hr : r ≤ 10) (hri : ri = (r : Int)) (hk : ks.length = 176) (hs : s.length = 16) (hc : BlkV w p e (ciph ks)) (hb : Blk w g 22 s) (hpg : p ≠ g) :
 Calls Tryz.prog 112 #[.pointer (some ⟨p, 0, none⟩), .pointer (some ⟨g, 0, none⟩), .int .i64 ri] w fun e w' => e = .returned (.tuple #[]) ∧ Blk w' g 22 (addK ks r s) ∧ Only g w w' := by
 subst hri
 have HK := Lib.hid hk
 have HS := Lib.hid hs
 have h0 : Blk w g 22 (fillAt (addB ks r s) s 0) := by rw [fillAt_zero]; exact hb
 clear hk hs
 go_enter Tryz.func112, Tryz.ntmps112
 go_wp2
 go_loopw [7] (fun vi wr => ∃ k : Nat, k ≤ 16 ∧ vi = .int .i64 k ∧ Blk wr g 22 (fillAt (addB ks r s) s k) ∧ Only g w wr) (fun i _ => 16 - (intOf i).toNat)
 case atStart => exact ⟨0, by omega, rfl, h0, Only.refl _ _⟩
 case round =>
  clear h0 hb
  obtain ⟨k, hk, rfl, h1, ho⟩ := hrel
  by_cases hlt : k < 16
  · have hcell := h1.cell (j := k) (by rw [fillAt_len _ _ _ (by rw [HS.out]; omega), HS.out]; exact hlt)
    rw [fillAt_ge _ _ _ _ (Nat.le_refl _)] at hcell
    have hfr := h1.frozen k
    have hck := ((hc.only ho hpg).cell (256 + (16 * r + k))).trans (ciph_key (by rw [HK.out]; omega))
    have hst := h1.set_ k (addB ks r s k)
    rw [fillAt_step _ _ _ (by rw [HS.out]; exact hlt)] at hst
    have hoo := ho.trans (Only.set wr g k (.int .u8 ((addB ks r s k).toNat : Int)))
    have hx : bits BinOp.xor IntKind.u8 ((s.getD k 0).toNat : Int) ((ks.getD (16 * r + k) 0).toNat : Int) = ((addB ks r s k).toNat : Int) := xr8 _ _
    obtain ⟨y, hy⟩ : ∃ y : Int, y = ((s.getD k 0).toNat : Int) := ⟨_, rfl⟩
    obtain ⟨z, hz⟩ : ∃ z : Int, z = ((ks.getD (16 * r + k) 0).toNat : Int) := ⟨_, rfl⟩
    obtain ⟨v, hv⟩ : ∃ v : Int, v = ((addB ks r s k).toNat : Int) := ⟨_, rfl⟩
    rw [← hv] at hst hoo hx
    rw [← hy] at hcell hx
    rw [← hz] at hck hx
    clear hv hy hz
    obtain ⟨R, hR⟩ : ∃ R, R = 16 * r + k := ⟨_, rfl⟩
    rw [← hR] at hck
    have e1 : IntKind.i64.wrap ((r : Int) * 16) = (r : Int) * 16 := IntWalk.i64_in _ (by omega)
    have e2 : IntKind.i64.wrap ((r : Int) * 16 + (k : Int)) = (R : Int) := by
     rw [show (r : Int) * 16 + (k : Int) = (R : Int) by omega]; exact IntWalk.i64_in _ (by omega)
    have e3 : R < 176 := by omega
    have e4 : (R : Int) < 176 := by omega
    have e5 : (k : Int) < 16 := by omega
    have HC := Lib.hid hc
    clear hR hc
    go_wp2
    go_still_tail 17, (by kernel_rfl)
    change wpList _ _ _ _ _ wr.drew
    clear e1 e2 e3 e4 e5 hck
    go_wp2
    go_roundw
    case rel => exact ⟨k + 1, by omega, by go_num, hst, hoo.drew⟩
    case measure => simp [intOf]; omega
  · obtain rfl : k = 16 := by omega
    rw [fillAt_all _ _ _ HS.out] at h1
    go_wp2
    go_end0
    exact ⟨rfl, h1, ho⟩

set_option maxRecDepth 100000 in
set_option maxHeartbeats 1000000 in
theorem takeBox_any (p g : Nat) (e : TypeId) (ks s : List UInt8) (w : World) (hs : s.length = 16) (hc : BlkV w p e (ciph ks)) (hb : Blk w g 22 s) (hpg : p ≠ g) :
 Calls Tryz.prog 113 #[.pointer (some ⟨p, 0, none⟩), .pointer (some ⟨g, 0, none⟩)] w fun e w' => e = .returned (.tuple #[]) ∧ Blk w' g 22 (subR s) ∧ w.grownBy w' (some g) := by
 have hz := zero16
 have hpl := hc.lt
 have hgl := hb.lt
 have hg1 := hb.alloc (.cells (cells Z16).toArray 22)
 have hc1 := hc.alloc (.cells (cells Z16).toArray 22)
 have ht1 : BlkV (w.alloc (.cells (cells Z16).toArray 22)) w.heap.size 22 (cells Z16) := BlkV.new _ _ _
 have hSL : (cells s).length = 16 := by rw [length_cells, hs]
 have hZL : (cells Z16).length = 16 := by rw [length_cells, Z16_len]
 have HSL := Lib.hid hSL
 have HZL := Lib.hid hZL
 have HS := Lib.hid hs
 clear hSL hZL hs
 go_enter Tryz.func113, Tryz.ntmps113
 go_wp2_with (first
  | (with_reducible refine wpList_ld rfl 22 (.tmp 9) rfl g 0 rfl (cells s) (hb.v.range 0 _ (by simp)) (row16 HSL.out) ?_)
  | ((with_reducible refine wpList_st rfl 22 (.tmp 4) (.tmp 10) rfl w.heap.size 0 (cells s) rfl rfl 22 _ ht1 (by rw [HSL.out, HZL.out]; omega) (row16 HSL.out) (cells_one _) ?_); intro w2 hB2 ho2; rw [splice_all _ _ (by rw [HSL.out, HZL.out])] at hB2))
 have k1 : Blk w2 g 22 (fillAt (subB s) s (4 * 0)) := by rw [fillAt_zero]; exact Blk.only hg1 ho2 (by omega)
 have k2 : Blk w2 w.heap.size 22 s := hB2
 have k3 : w.grownBy w2 (some g) := grown_of_below (((Below.refl w.heap.size w).alloc (Nat.le_refl _) _).trans (ho2.below (Nat.le_refl _))) _
 clear hB2 ho2 ht1 hc1 hg1 hb
 go_loopw [11] (fun vi wr => ∃ c : Nat, c ≤ 4 ∧ vi = .int .i64 c ∧ Blk wr g 22 (fillAt (subB s) s (4 * c)) ∧ Blk wr w.heap.size 22 s ∧ w.grownBy wr (some g)) (fun i _ => 4 - (intOf i).toNat)
 case atStart => exact ⟨0, by omega, rfl, k1, k2, k3⟩
 case round =>
  clear k1 k2 k3
  obtain ⟨c, hc4, rfl, h1, h2, hg⟩ := hrel
  by_cases hlt : c < 4
  · have hcd : decide ((c : Int) < 4) = true := by simp; omega
    go_wp2
    clear hcd
    go_loopw [14] (fun vi wx => ∃ r : Nat, r ≤ 4 ∧ vi = .int .i64 r ∧ Blk wx g 22 (fillAt (subB s) s (4 * c + r)) ∧ Blk wx w.heap.size 22 s ∧ w.grownBy wx (some g)) (fun i _ => 4 - (intOf i).toNat)
    case atStart => exact ⟨0, by omega, rfl, h1, h2, hg⟩
    case round =>
     clear h1 h2 hg
     obtain ⟨r, hr4, rfl, h1, h2, hg⟩ := hrel
     by_cases hlt2 : r < 4
     · obtain ⟨I, hI⟩ : ∃ I, I = 4 * c + r := ⟨_, rfl⟩
       obtain ⟨q, hq⟩ : ∃ q, q = (c + r) % 4 := ⟨_, rfl⟩
       obtain ⟨F, hF⟩ : ∃ F, F = 4 * q + r := ⟨_, rfl⟩
       have hsub : subB s I = sb (s.getD F 0) := by
        unfold subB
        rw [hI, show (4 * c + r) / 4 = c by omega, show (4 * c + r) % 4 = r by omega, hF, hq]
       have hcell := h1.cell (j := I) (by rw [fillAt_len _ _ _ (by rw [HS.out]; omega), HS.out]; omega)
       have hfr := h1.frozen I
       have hcw := h2.cell (j := F) (by rw [HS.out]; omega)
       have hbx := ((hc.grown hg (by simp; exact hpg)).cell (s.getD F 0).toNat).trans (ciph_box (UInt8.toNat_lt _))
       have hst := h1.set_ I (subB s I)
       rw [hI, fillAt_step _ _ _ (by rw [HS.out]; omega), show 4 * c + r + 1 = 4 * c + (r + 1) by omega, ← hI] at hst
       have h2s := h2.far (p := ⟨g, I, none⟩) (by simp; omega) (.int .u8 ((subB s I).toNat : Int))
       have hgs := hg.trans (Only.set wr g I (.int .u8 ((subB s I).toNat : Int))).grown
       have hbd : boxT.getD (s.getD F 0).toNat 0 = sb (s.getD F 0) := rfl
       rw [hbd, ← hsub] at hbx
       have hyl := (s.getD F 0).toNat_lt
       obtain ⟨y, hy⟩ : ∃ y, y = (s.getD F 0).toNat := ⟨_, rfl⟩
       rw [← hy] at hcw hbx hyl
       obtain ⟨v, hv⟩ : ∃ v : Int, v = ((subB s I).toNat : Int) := ⟨_, rfl⟩
       rw [← hv] at hst h2s hgs hbx
       obtain ⟨u, hu⟩ : ∃ u : Int, u = (((fillAt (subB s) s (4 * c + r)).getD I 0).toNat : Int) := ⟨_, rfl⟩
       rw [← hu] at hcell
       have hmod : ((c : Int) + r) % 4 = (q : Int) := by omega
       have e1 : IntKind.i64.wrap ((c : Int) * 4) = (c : Int) * 4 := IntWalk.i64_in _ (by omega)
       have e2 : IntKind.i64.wrap ((c : Int) * 4 + (r : Int)) = (I : Int) := by
        rw [show (c : Int) * 4 + (r : Int) = (I : Int) by omega]; exact IntWalk.i64_in _ (by omega)
       have e3 : IntKind.i64.wrap ((q : Int) * 4) = (q : Int) * 4 := IntWalk.i64_in _ (by omega)
       have e4 : IntKind.i64.wrap ((q : Int) * 4 + (r : Int)) = (F : Int) := by
        rw [show (q : Int) * 4 + (r : Int) = (F : Int) by omega]; exact IntWalk.i64_in _ (by omega)
       have f1 : (I : Int) < 16 := by omega
       have f2 : I < 16 := by omega
       have f3 : (F : Int) < 16 := by omega
       have f4 : F < 16 := by omega
       have f5 : (y : Int) < 256 := by omega
       have HC := Lib.hid hc
       have HGR := Lib.hid hg
       clear hF hq hsub hbd hy hv hu hI hc hg
       go_wp2
       go_still_tail 18, (by kernel_rfl)
       change wpList _ _ _ _ _ wr.drew
       clear e1 e2 e3 e4 f1 f2 f3 f4 f5 hcw hbx hmod
       go_wp2
       go_roundw
       case rel => exact ⟨r + 1, by omega, by go_num, hst, h2s, grown_drew hgs⟩
       case measure => simp [intOf]; omega
     · obtain rfl : r = 4 := by omega
       go_wp2
       go_roundw
       case rel => exact ⟨c + 1, by omega, by go_num, by rw [show 4 * (c + 1) = 4 * c + 4 by omega]; exact h1, h2, hg⟩
       case measure => simp [intOf]; omega
  · obtain rfl : c = 4 := by omega
    rw [show 4 * 4 = 16 from rfl, fillAt_all _ _ _ HS.out] at h1
    go_wp2
    go_end0
    exact ⟨rfl, h1, hg⟩
theorem twice_i (x : UInt8) (xi yi : Int) (hx : xi = (x.toNat : Int)) (hy : yi = ((dbl x).toNat : Int)) (w : World) : Calls Tryz.prog 121 #[.int .u8 xi] w fun e w' => e = .returned (.int .u8 yi) ∧ w = w' := by
 subst hy
 exact twice_any x xi w hx
theorem u8_ex (x : UInt8) : ∃ i : Int, i = (x.toNat : Int) ∧ 0 ≤ i ∧ i < 256 := ⟨_, rfl, by omega, by have := x.toNat_lt; omega⟩
theorem xr8i {a b : UInt8} {i j k : Int} (hi : i = (a.toNat : Int)) (hj : j = (b.toNat : Int)) (hk : k = ((a ^^^ b).toNat : Int)) : bits BinOp.xor IntKind.u8 i j = k := by
 subst hi; subst hj; subst hk; exact xr8 a b
theorem col_step {w : World} {g k : Nat} {s : List UInt8} {f : Nat → UInt8} (hs : s.length = 16) (h : Blk w g 22 (fillAt f s k)) (hk : k < 16) (v : Int) (hv : v = ((f k).toNat : Int)) :
 (∃ u : Int, w.cell? ⟨g, k, none⟩ = some (.int .u8 u)) ∧ w.frozen? ⟨g, k, none⟩ = false ∧ Blk (w.setCell ⟨g, k, none⟩ (.int .u8 v)).drew g 22 (fillAt f s (k + 1)) ∧ Only g w (w.setCell ⟨g, k, none⟩ (.int .u8 v)).drew := by
 subst hv
 have hl := fillAt_len f s k (by omega)
 refine ⟨⟨_, h.cell (j := k) (by omega)⟩, h.frozen k, ?_, (Only.set w g k _).drew⟩
 have := h.set_ k (f k)
 rw [fillAt_step _ _ _ (by omega)] at this
 exact this

set_option maxRecDepth 100000 in
set_option maxHeartbeats 2000000 in
theorem multiply_any (g : Nat) (s : List UInt8) (w : World) (hs : s.length = 16) (hb : Blk w g 22 s) :
 Calls Tryz.prog 114 #[.pointer (some ⟨g, 0, none⟩)] w fun e w' => e = .returned (.tuple #[]) ∧ Blk w' g 22 (mulC s) ∧ Only g w w' := by
 have HS := Lib.hid hs
 have h0 : Blk w g 22 (fillAt (mulB s) s (4 * 0)) := by rw [fillAt_zero]; exact hb
 clear hs
 go_enter Tryz.func114, Tryz.ntmps114
 go_wp2
 go_loopw [9] (fun vi wr => ∃ c : Nat, c ≤ 4 ∧ vi = .int .i64 c ∧ Blk wr g 22 (fillAt (mulB s) s (4 * c)) ∧ Only g w wr) (fun i _ => 4 - (intOf i).toNat)
 case atStart => exact ⟨0, by omega, rfl, h0, Only.refl _ _⟩
 case round =>
  clear h0 hb
  obtain ⟨c, hc4, rfl, h1, ho⟩ := hrel
  by_cases hlt : c < 4
  · have m0 : mulB s (4 * c) = s.getD (4 * c) 0 ^^^ (s.getD (4 * c) 0 ^^^ s.getD (4 * c + 1) 0 ^^^ s.getD (4 * c + 2) 0 ^^^ s.getD (4 * c + 3) 0) ^^^ dbl (s.getD (4 * c) 0 ^^^ s.getD (4 * c + 1) 0) := by
     unfold mulB; rw [show (4 * c) / 4 = c by omega, show (4 * c) % 4 = 0 by omega]
    have m1 : mulB s (4 * c + 1) = s.getD (4 * c + 1) 0 ^^^ (s.getD (4 * c) 0 ^^^ s.getD (4 * c + 1) 0 ^^^ s.getD (4 * c + 2) 0 ^^^ s.getD (4 * c + 3) 0) ^^^ dbl (s.getD (4 * c + 1) 0 ^^^ s.getD (4 * c + 2) 0) := by
     unfold mulB; rw [show (4 * c + 1) / 4 = c by omega, show (4 * c + 1) % 4 = 1 by omega]
    have m2 : mulB s (4 * c + 2) = s.getD (4 * c + 2) 0 ^^^ (s.getD (4 * c) 0 ^^^ s.getD (4 * c + 1) 0 ^^^ s.getD (4 * c + 2) 0 ^^^ s.getD (4 * c + 3) 0) ^^^ dbl (s.getD (4 * c + 2) 0 ^^^ s.getD (4 * c + 3) 0) := by
     unfold mulB; rw [show (4 * c + 2) / 4 = c by omega, show (4 * c + 2) % 4 = 2 by omega]
    have m3 : mulB s (4 * c + 3) = s.getD (4 * c + 3) 0 ^^^ (s.getD (4 * c) 0 ^^^ s.getD (4 * c + 1) 0 ^^^ s.getD (4 * c + 2) 0 ^^^ s.getD (4 * c + 3) 0) ^^^ dbl (s.getD (4 * c + 3) 0 ^^^ s.getD (4 * c) 0) := by
     unfold mulB; rw [show (4 * c + 3) / 4 = c by omega, show (4 * c + 3) % 4 = 3 by omega]; rfl
    have hl := fillAt_len (mulB s) s (4 * c) (by rw [HS.out]; omega)
    have hl16 : (fillAt (mulB s) s (4 * c)).length = 16 := by rw [hl, HS.out]
    have c0 := h1.cell (j := 4 * c) (by omega)
    have c1 := h1.cell (j := 4 * c + 1) (by omega)
    have c2 := h1.cell (j := 4 * c + 2) (by omega)
    have c3 := h1.cell (j := 4 * c + 3) (by omega)
    rw [fillAt_ge _ _ _ _ (by omega)] at c0 c1 c2 c3
    obtain ⟨P, hP⟩ : ∃ P, P = s.getD (4 * c) 0 := ⟨_, rfl⟩
    obtain ⟨Q, hQ⟩ : ∃ P, P = s.getD (4 * c + 1) 0 := ⟨_, rfl⟩
    obtain ⟨R, hR⟩ : ∃ P, P = s.getD (4 * c + 2) 0 := ⟨_, rfl⟩
    obtain ⟨S, hSS⟩ : ∃ P, P = s.getD (4 * c + 3) 0 := ⟨_, rfl⟩
    rw [← hP, ← hQ, ← hR, ← hSS] at m0 m1 m2 m3
    rw [← hP] at c0
    rw [← hQ] at c1
    rw [← hR] at c2
    rw [← hSS] at c3
    clear hP hQ hR hSS hl hl16
    obtain ⟨p, hp, p1, p2⟩ := u8_ex P
    obtain ⟨q, hq, q1, q2⟩ := u8_ex Q
    obtain ⟨r, hr, r1, r2⟩ := u8_ex R
    obtain ⟨u, hu, u1, u2⟩ := u8_ex S
    rw [← hp] at c0
    rw [← hq] at c1
    rw [← hr] at c2
    rw [← hu] at c3
    obtain ⟨pq, hpq, pq1, pq2⟩ := u8_ex (P ^^^ Q)
    obtain ⟨pqr, hpqr, pqr1, pqr2⟩ := u8_ex (P ^^^ Q ^^^ R)
    obtain ⟨al, hal, al1, al2⟩ := u8_ex (P ^^^ Q ^^^ R ^^^ S)
    have b1 := xr8i hp hq hpq
    have b2 := xr8i hpq hr hpqr
    have b3 := xr8i hpqr hu hal
    obtain ⟨d0, hd0, d01, d02⟩ := u8_ex (dbl (P ^^^ Q))
    obtain ⟨pa, hpa, pa1, pa2⟩ := u8_ex (P ^^^ (P ^^^ Q ^^^ R ^^^ S))
    obtain ⟨v0, hv0, v01, v02⟩ := u8_ex (mulB s (4 * c))
    have b4 := xr8i hp hal hpa
    have b5 := xr8i (k := v0) hpa hd0 (by rw [← m0]; exact hv0)
    have t0 := fun wx => twice_i (P ^^^ Q) pq d0 hpq hd0 wx
    obtain ⟨qr, hqr, qr1, qr2⟩ := u8_ex (Q ^^^ R)
    obtain ⟨d1, hd1, d11, d12⟩ := u8_ex (dbl (Q ^^^ R))
    obtain ⟨qa, hqa, qa1, qa2⟩ := u8_ex (Q ^^^ (P ^^^ Q ^^^ R ^^^ S))
    obtain ⟨v1, hv1, v11, v12⟩ := u8_ex (mulB s (4 * c + 1))
    have b6 := xr8i hq hal hqa
    have b7 := xr8i (k := v1) hqa hd1 (by rw [← m1]; exact hv1)
    have b8 := xr8i hq hr hqr
    have t1 := fun wx => twice_i (Q ^^^ R) qr d1 hqr hd1 wx
    obtain ⟨ru, hru, ru1, ru2⟩ := u8_ex (R ^^^ S)
    obtain ⟨d2, hd2, d21, d22⟩ := u8_ex (dbl (R ^^^ S))
    obtain ⟨ra, hra, ra1, ra2⟩ := u8_ex (R ^^^ (P ^^^ Q ^^^ R ^^^ S))
    obtain ⟨v2, hv2, v21, v22⟩ := u8_ex (mulB s (4 * c + 2))
    have b9 := xr8i hr hal hra
    have b10 := xr8i (k := v2) hra hd2 (by rw [← m2]; exact hv2)
    have b11 := xr8i hr hu hru
    have t2 := fun wx => twice_i (R ^^^ S) ru d2 hru hd2 wx
    obtain ⟨up, hup, up1, up2⟩ := u8_ex (S ^^^ P)
    obtain ⟨d3, hd3, d31, d32⟩ := u8_ex (dbl (S ^^^ P))
    obtain ⟨ua, hua, ua1, ua2⟩ := u8_ex (S ^^^ (P ^^^ Q ^^^ R ^^^ S))
    obtain ⟨v3, hv3, v31, v32⟩ := u8_ex (mulB s (4 * c + 3))
    have b12 := xr8i hu hal hua
    have b13 := xr8i (k := v3) hua hd3 (by rw [← m3]; exact hv3)
    have b14 := xr8i hu hp hup
    have t3 := fun wx => twice_i (S ^^^ P) up d3 hup hd3 wx
    have HV0 := Lib.hid hv0
    have HV1 := Lib.hid hv1
    have HV2 := Lib.hid hv2
    have HV3 := Lib.hid hv3
    have T0 := Lib.hid t0
    have T1 := Lib.hid t1
    have T2 := Lib.hid t2
    have T3 := Lib.hid t3
    clear t0 t1 t2 t3 hv0 hv1 hv2 hv3 hp hq hr hu hpq hpqr hal hd0 hpa hqr hd1 hqa hru hd2 hra hup hd3 hua m0 m1 m2 m3
    obtain ⟨I, hI⟩ : ∃ I, I = 4 * c := ⟨_, rfl⟩
    have HI := Lib.hid hI
    have hat : (c : Int) * 4 = (I : Int) := by omega
    have i1 : IntKind.i64.wrap ((I : Int) + 1) = (I : Int) + 1 := IntWalk.i64_in _ (by omega)
    have i2 : IntKind.i64.wrap ((I : Int) + 2) = (I : Int) + 2 := IntWalk.i64_in _ (by omega)
    have i3 : IntKind.i64.wrap ((I : Int) + 3) = (I : Int) + 3 := IntWalk.i64_in _ (by omega)
    have j0 : (I : Int) < 16 := by omega
    have j1 : (I : Int) + 1 < 16 := by omega
    have j2 : (I : Int) + 2 < 16 := by omega
    have j3 : (I : Int) + 3 < 16 := by omega
    have l1 : 0 ≤ (I : Int) + 1 := by omega
    have l2 : 0 ≤ (I : Int) + 2 := by omega
    have l3 : 0 ≤ (I : Int) + 3 := by omega
    have n1 : ((I : Int) + 1).toNat = I + 1 := by omega
    have n2 : ((I : Int) + 2).toNat = I + 2 := by omega
    have n3 : ((I : Int) + 3).toNat = I + 3 := by omega
    rw [← hI] at h1 c0 c1 c2 c3 HV0 HV1 HV2 HV3
    have hI16 : I + 3 < 16 := by omega
    clear hI
    go_wp2
    go_quiet (fail)
    have h2 : Blk (wr.drewN nq) g 22 (fillAt (mulB s) s I) := h1
    have ho2 : Only g w (wr.drewN nq) := ⟨ho.os, ho.tape, ho.output, ho.size, ho.block⟩
    clear h1 ho c0 c1 c2 c3
    generalize wr.drewN nq = w2 at *
    go_wp2
    obtain ⟨⟨x0, k0⟩, f0, g0, o0⟩ := col_step HS.out h2 (by omega) v0 HV0.out
    have ho3 := ho2.trans o0
    clear ho2 o0 h2
    go_still_tail 12, (by kernel_rfl)
    still_call ((T0.out _).mono fun _ _ ⟨h, h2⟩ => ⟨h, h2.symm⟩)
    repeat still_step
    refine wpStill_nil ?_
    change wpList _ _ _ _ _ w2.drew
    go_wp2
    clear k0 f0
    generalize (w2.setCell ⟨g, I, none⟩ (.int .u8 v0)).drew = w3 at *
    have h3 := g0
    clear g0
    obtain ⟨⟨x1, k1⟩, f1, g1, o1⟩ := col_step HS.out h3 (by omega) v1 HV1.out
    have ho4 := ho3.trans o1
    clear ho3 o1 h3
    go_still_tail 13, (by kernel_rfl)
    still_call ((T1.out _).mono fun _ _ ⟨h, h2⟩ => ⟨h, h2.symm⟩)
    repeat still_step
    refine wpStill_nil ?_
    change wpList _ _ _ _ _ w3.drew
    go_wp2
    clear k1 f1
    generalize (w3.setCell ⟨g, I + 1, none⟩ (.int .u8 v1)).drew = w4 at *
    have h4 := g1
    clear g1
    obtain ⟨⟨x2, k2⟩, f2, g2, o2⟩ := col_step HS.out h4 (by omega) v2 HV2.out
    have ho5 := ho4.trans o2
    clear ho4 o2 h4
    go_still_tail 13, (by kernel_rfl)
    still_call ((T2.out _).mono fun _ _ ⟨h, h2⟩ => ⟨h, h2.symm⟩)
    repeat still_step
    refine wpStill_nil ?_
    change wpList _ _ _ _ _ w4.drew
    go_wp2
    clear k2 f2
    generalize (w4.setCell ⟨g, I + 2, none⟩ (.int .u8 v2)).drew = w5 at *
    have h5 := g2
    clear g2
    obtain ⟨⟨x3, k3⟩, f3, g3, o3⟩ := col_step HS.out h5 (by omega) v3 HV3.out
    have ho6 := ho5.trans o3
    clear ho5 o3 h5
    go_still_tail 13, (by kernel_rfl)
    still_call ((T3.out _).mono fun _ _ ⟨h, h2⟩ => ⟨h, h2.symm⟩)
    repeat still_step
    refine wpStill_nil ?_
    change wpList _ _ _ _ _ w5.drew
    go_wp2
    clear k3 f3
    generalize (w5.setCell ⟨g, I + 3, none⟩ (.int .u8 v3)).drew = w6 at *
    have h6 := g3
    clear g3
    go_roundw
    case rel => exact ⟨c + 1, by omega, by go_num, by rw [show 4 * (c + 1) = 4 * c + 4 by omega, ← HI.out]; exact h6, ho6⟩
    case measure => simp [intOf]; omega
  · obtain rfl : c = 4 := by omega
    rw [show 4 * 4 = 16 from rfl, fillAt_all _ _ _ HS.out] at h1
    go_wp2
    go_end0
    exact ⟨rfl, h1, ho⟩
def BoxRd (w : World) (p : Nat) : Prop := p < w.heap.size ∧ ∀ i, i < 256 → w.cell? ⟨p, i, none⟩ = some (.int .u8 ((boxT.getD i 0).toNat : Int))
theorem BoxRd.below {w w' : World} {p : Nat} (h : BoxRd w p) (hb : Below w.heap.size w w') : BoxRd w' p := ⟨Nat.lt_of_lt_of_le h.1 hb.size, fun i hi => (hb.cell (p := ⟨p, i, none⟩) h.1).trans (h.2 i hi)⟩
theorem BlkV.boxrd {w : World} {p : Nat} {e : TypeId} {ks : List UInt8} (h : BlkV w p e (ciph ks)) : BoxRd w p := ⟨h.lt, fun i hi => (h.cell i).trans (ciph_box hi)⟩
theorem Blk.boxrd {w : World} {p : Nat} {e : TypeId} (h : Blk w p e boxT) : BoxRd w p := ⟨h.lt, fun i hi => h.cell (by rw [boxT_len]; exact hi)⟩

theorem und_a176 : Tryz.prog.underlying 181 = some (.array (Tryz.prog.arrayLen 181) (Tryz.prog.elem 181)) := by kernel_rfl
theorem sz_a176 (w : World) : (sizeOf (Tryz.prog.elem 181)).run Tryz.prog w = .ok 1 w := by kernel_rfl
theorem len_a176 : Tryz.prog.arrayLen 181 = 176 := by kernel_rfl
theorem und_a4 : Tryz.prog.underlying 166 = some (.array 4 5) := by kernel_rfl
theorem u8_inf : (Tryz.prog.info? 5).map (fun i => (i.zero, i.size, i.bytes)) = some (some (.int .u8 0), 1, 1) := by kernel_rfl

set_option maxRecDepth 100000 in
set_option maxHeartbeats 1000000 in
theorem turned_any (p : Nat) (t : List UInt8) (c : UInt8) (ci : Int) (w : World) (ht : t.length = 4) (hci : ci = (c.toNat : Int)) (hbx : BoxRd w p) :
 Calls Tryz.prog 120 #[.pointer (some ⟨p, 0, none⟩), .agg (cells t).toArray, .int .u8 ci] w fun e w' => e = .returned (.agg (cells [sb (t.getD 1 0) ^^^ c, sb (t.getD 2 0), sb (t.getD 3 0), sb (t.getD 0 0)]).toArray) ∧ Below w.heap.size w w' := by
 have hz := zero4
 have hb0 : Below w.heap.size w ((w.alloc (Obj.cells (cells t).toArray 166)).alloc (Obj.cells (cells Z4).toArray 166)) := ((Below.refl _ _).alloc (Nat.le_refl _) _).alloc (by simp) _
 have h0 : Blk ((w.alloc (Obj.cells (cells t).toArray 166)).alloc (Obj.cells (cells Z4).toArray 166)) w.heap.size 166 t := (Blk.new _ _ _).alloc _
 have h1 : Blk ((w.alloc (Obj.cells (cells t).toArray 166)).alloc (Obj.cells (cells Z4).toArray 166)) (w.heap.size + 1) 166 Z4 := Blk.new_at _ _ _ _ _ (by simp) rfl
 have hbx1 := hbx.below hb0
 obtain ⟨w1, hw1⟩ : ∃ w1, w1 = ((w.alloc (Obj.cells (cells t).toArray 166)).alloc (Obj.cells (cells Z4).toArray 166)) := ⟨_, rfl⟩
 rw [← hw1] at hb0 h0 h1 hbx1
 have c0 := h0.cell (j := 0) (by omega)
 have c1 := h0.cell (j := 1) (by omega)
 have c2 := h0.cell (j := 2) (by omega)
 have c3 := h0.cell (j := 3) (by omega)
 obtain ⟨x0, hx0⟩ : ∃ x, x = t.getD 0 0 := ⟨_, rfl⟩
 obtain ⟨x1, hx1⟩ : ∃ x, x = t.getD 1 0 := ⟨_, rfl⟩
 obtain ⟨x2, hx2⟩ : ∃ x, x = t.getD 2 0 := ⟨_, rfl⟩
 obtain ⟨x3, hx3⟩ : ∃ x, x = t.getD 3 0 := ⟨_, rfl⟩
 rw [← hx0, ← hx1, ← hx2, ← hx3]
 rw [← hx0] at c0
 rw [← hx1] at c1
 rw [← hx2] at c2
 rw [← hx3] at c3
 have d0 := hbx1.2 x0.toNat x0.toNat_lt
 have d1 := hbx1.2 x1.toNat x1.toNat_lt
 have d2 := hbx1.2 x2.toNat x2.toNat_lt
 have d3 := hbx1.2 x3.toNat x3.toNat_lt
 have hsb : ∀ x : UInt8, boxT.getD x.toNat 0 = sb x := fun _ => rfl
 rw [hsb] at d0 d1 d2 d3
 obtain ⟨v0, hv0, v01, v02⟩ := u8_ex (sb x0)
 obtain ⟨v1, hv1, v11, v12⟩ := u8_ex (sb x1)
 obtain ⟨v2, hv2, v21, v22⟩ := u8_ex (sb x2)
 obtain ⟨v3, hv3, v31, v32⟩ := u8_ex (sb x3)
 obtain ⟨vc, hvc, vc1, vc2⟩ := u8_ex (sb x1 ^^^ c)
 have bx := xr8i hv1 hci hvc
 rw [← hv0] at d0
 rw [← hv1] at d1
 rw [← hv2] at d2
 rw [← hv3] at d3
 have hfin : cells [sb x1 ^^^ c, sb x2, sb x3, sb x0] = [.int .u8 vc, .int .u8 v2, .int .u8 v3, .int .u8 v0] := by simp only [cells, List.map_cons, List.map_nil, ← hvc, ← hv2, ← hv3, ← hv0]
 rw [hfin]
 obtain ⟨y0, hy0⟩ : ∃ y, y = x0.toNat := ⟨_, rfl⟩
 obtain ⟨y1, hy1⟩ : ∃ y, y = x1.toNat := ⟨_, rfl⟩
 obtain ⟨y2, hy2⟩ : ∃ y, y = x2.toNat := ⟨_, rfl⟩
 obtain ⟨y3, hy3⟩ : ∃ y, y = x3.toNat := ⟨_, rfl⟩
 have l0 : (y0 : Int) < 256 := by have := x0.toNat_lt; omega
 have l1 : (y1 : Int) < 256 := by have := x1.toNat_lt; omega
 have l2 : (y2 : Int) < 256 := by have := x2.toNat_lt; omega
 have l3 : (y3 : Int) < 256 := by have := x3.toNat_lt; omega
 rw [← hy0] at c0 d0
 rw [← hy1] at c1 d1
 rw [← hy2] at c2 d2
 rw [← hy3] at c3 d3
 have hZ : (cells Z4).length = 4 := by rw [length_cells, Z4_len]
 have HZ := Lib.hid hZ
 have HW := Lib.hid hw1
 clear hx0 hx1 hx2 hx3 hy0 hy1 hy2 hy3 hv0 hv1 hv2 hv3 hvc hci hfin hsb ht hbx hbx1 h0 hw1 hZ
 go_enter Tryz.func120, Tryz.ntmps120
 go_wp2
 rw [← HW.out]
 go_still_tail 26, (by kernel_rfl)
 change wpList _ _ _ _ _ w1.drew
 clear c0 c1 c2 c3 d0 d1 d2 d3
 have h1d : Blk w1.drew (w.heap.size + 1) 166 Z4 := h1
 have hbd : Below w.heap.size w w1.drew := hb0.drew
 generalize w1.drew = w2 at *
 go_wp2_with (first
  | ((with_reducible refine wpList_st rfl 166 (.tmp 6) (.tmp 33) rfl (w.heap.size + 1) 0 [.int .u8 vc, .int .u8 v2, .int .u8 v3, .int .u8 v0] rfl rfl 166 _ h1d.v (by rw [HZ.out]; simp) (row4 (by simp)) (by simp [Value.oneCell']) ?_); intro w3 hB3 ho3; rw [splice_all _ _ (by rw [HZ.out]; rfl)] at hB3))
 exact ret_row (by rfl) (by rfl) hB3 (row4 (by simp)) (by rfl) ⟨rfl, hbd.trans (ho3.below (by omega))⟩
end Go.Proofs.YtmkeioeodlidgaaGreatDoor
