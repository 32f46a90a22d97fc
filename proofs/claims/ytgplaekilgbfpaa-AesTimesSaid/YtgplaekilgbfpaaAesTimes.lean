/- AesTimes's walk: the product of any two bytes, and the box of any, are the document's, and no two boxes are the same. -/
import Derived.Test.YtgplaekilgbfpaaAesLaw
import Derived.Test.YtgplaekilgbfpaaAesR1
import Derived.BigQuiet
namespace Go.Proofs.Ytgplaekilgbfpaa
open Go.RowKit
set_option linter.unusedVariables false

theorem aesTimes_base (w : World) : Below w.heap.size w (w.alloc (Obj.cells (cells Z256).toArray 23)) ∧ BlkV (w.alloc (Obj.cells (cells Z256).toArray 23)) w.heap.size 23 (cells Z256) := ⟨(Below.refl _ _).alloc (Nat.le_refl _) _, BlkV.new _ _ _⟩

set_option maxRecDepth 100000 in
set_option maxHeartbeats 1000000 in
theorem aesTimes_u8 (x y : UInt8) (w : World) :
    Calls Try.prog 3 #[.int .u8 (x.toNat : Int), .int .u8 (y.toNat : Int)] w fun e w' => e = .returned (.bool true) ∧ Below w.heap.size w w' := by
  have hz := zero256
  have HAL := Lib.hid (alive_any w)
  have hBL : (cells boxT).length = 256 := by rw [length_cells, boxT_len]
  have HBL := Lib.hid hBL
  have hZL : (cells Z256).length = 256 := by rw [length_cells, Z256_len]
  have HZL := Lib.hid hZL
  have ht := fun wx => times_nat x.toNat y.toNat wx x.toNat_lt y.toNat_lt
  have hrt := fun wx => rtimes_nat x.toNat y.toNat wx x.toNat_lt y.toNat_lt
  have hbx := fun wx => rbox_any x (x.toNat : Int) wx rfl
  obtain ⟨T, hT⟩ : ∃ T, T = timesN x.toNat y.toNat := ⟨_, rfl⟩
  rw [← hT] at ht hrt
  have hsx : boxT.getD x.toNat 0 = sb x := rfl
  have hsy : boxT.getD y.toNat 0 = sb y := rfl
  have hcx : ∀ w2 : World, Blk w2 (w2.heap.size - 1) 23 boxT → True := fun _ _ => trivial
  have hxy : x ≠ y → (((sb x).toNat : Int) != ((sb y).toNat : Int)) = true := fun h => by
    have : (sb x).toNat ≠ (sb y).toNat := fun e => h (sb_inj (UInt8.toNat.inj e))
    simp; omega
  have hne : x ≠ y → ((x.toNat : Int) == (y.toNat : Int)) = false := fun h => by
    have : x.toNat ≠ y.toNat := fun e => h (UInt8.toNat.inj e)
    simp; omega
  have hlx := x.toNat_lt
  have hly := y.toNat_lt
  have hcell : ∀ (w2 : World) (g : Nat), Blk w2 g 23 boxT → w2.cell? ⟨g, x.toNat, none⟩ = some (.int .u8 ((sb x).toNat : Int)) ∧ w2.cell? ⟨g, y.toNat, none⟩ = some (.int .u8 ((sb y).toNat : Int)) := fun w2 g h =>
    ⟨h.cell (by rw [boxT_len]; exact hlx), h.cell (by rw [boxT_len]; exact hly)⟩
  by_cases hq : x = y
  · subst hq
    obtain ⟨m, hm⟩ : ∃ m, m = x.toNat := ⟨_, rfl⟩
    obtain ⟨u, hu⟩ : ∃ u : Int, u = ((sb x).toNat : Int) := ⟨_, rfl⟩
    simp only [← hm, ← hu] at ht hrt hbx hcell hlx ⊢
    have hmi : (m : Int) < 256 := by omega
    have H1 := Lib.hid ht
    have H2 := Lib.hid hrt
    have H3 := Lib.hid hbx
    have HC := Lib.hid hcell
    clear ht hrt hbx hT hsx hsy hxy hne hm hu hBL hZL hcx hly hcell
    go_enter Try.func3, Try.ntmps3
    go_wp2_with (first
      | (go_at_call 6; ((with_reducible refine (Hid.out HAL).mono ?_); rintro e w1 ⟨rfl, hb1⟩))
      | (go_at_call 7; ((with_reducible refine (box_any _).mono ?_); rintro e w2 ⟨rfl, hb2⟩; have hb2w := hb1.trans (hb2.mono hb1.size); obtain ⟨hb3, hB3⟩ := aesTimes_base w2))
      | ((with_reducible refine wpList_st rfl 23 (.tmp 5) (.tmp 8) rfl w2.heap.size 0 (cells boxT) rfl rfl 23 _ hB3 (by rw [HBL.out, HZL.out]; omega) (row256 HBL.out) (cells_one _) ?_); intro w4 hB4 ho4; rw [splice_all _ _ (by rw [HBL.out, HZL.out])] at hB4))
    have hb4 := hb2w.trans ((hb3.trans (ho4.below (Nat.le_refl _))).mono hb2w.size)
    obtain ⟨c1, -⟩ := HC.out w4 w2.heap.size hB4
    clear hb2 hb3 hB3 ho4 hb1 hb2w
    simp only [Act.put]
    go_quiet (first
      | (go_at_call 8; exact Calls.quiet_of_same ((Hid.out H1 _).mono fun _ _ ⟨h, h2⟩ => ⟨h, h2.symm⟩))
      | (go_at_call 9; exact Calls.quiet_of_same ((Hid.out H2 _).mono fun _ _ ⟨h, h2⟩ => ⟨h, h2.symm⟩))
      | (go_at_call 10; exact Calls.quiet_of_same ((Hid.out H3 _).mono fun _ _ ⟨h, h2⟩ => ⟨h, h2.symm⟩)))
    go_wp2
    go_ret
    exact ⟨rfl, hb4.os, hb4.tape, hb4.output, hb4.size, hb4.block⟩
  · have hx1 := hxy hq
    have hx2 := hne hq
    obtain ⟨m, hm⟩ : ∃ m, m = x.toNat := ⟨_, rfl⟩
    obtain ⟨n, hn⟩ : ∃ n, n = y.toNat := ⟨_, rfl⟩
    obtain ⟨u, hu⟩ : ∃ u : Int, u = ((sb x).toNat : Int) := ⟨_, rfl⟩
    obtain ⟨v, hv⟩ : ∃ u : Int, u = ((sb y).toNat : Int) := ⟨_, rfl⟩
    simp only [← hm, ← hn, ← hu, ← hv] at ht hrt hbx hcell hlx hly hx1 hx2 ⊢
    have hmi : (m : Int) < 256 := by omega
    have hni : (n : Int) < 256 := by omega
    have H1 := Lib.hid ht
    have H2 := Lib.hid hrt
    have H3 := Lib.hid hbx
    have HC := Lib.hid hcell
    clear ht hrt hbx hT hsx hsy hxy hne hm hn hu hv hBL hZL hcx hcell hq
    go_enter Try.func3, Try.ntmps3
    go_wp2_with (first
      | (go_at_call 6; ((with_reducible refine (Hid.out HAL).mono ?_); rintro e w1 ⟨rfl, hb1⟩))
      | (go_at_call 7; ((with_reducible refine (box_any _).mono ?_); rintro e w2 ⟨rfl, hb2⟩; have hb2w := hb1.trans (hb2.mono hb1.size); obtain ⟨hb3, hB3⟩ := aesTimes_base w2))
      | ((with_reducible refine wpList_st rfl 23 (.tmp 5) (.tmp 8) rfl w2.heap.size 0 (cells boxT) rfl rfl 23 _ hB3 (by rw [HBL.out, HZL.out]; omega) (row256 HBL.out) (cells_one _) ?_); intro w4 hB4 ho4; rw [splice_all _ _ (by rw [HBL.out, HZL.out])] at hB4))
    have hb4 := hb2w.trans ((hb3.trans (ho4.below (Nat.le_refl _))).mono hb2w.size)
    obtain ⟨c1, c2⟩ := HC.out w4 w2.heap.size hB4
    clear hb2 hb3 hB3 ho4 hb1 hb2w
    simp only [Act.put]
    go_quiet (first
      | (go_at_call 8; exact Calls.quiet_of_same ((Hid.out H1 _).mono fun _ _ ⟨h, h2⟩ => ⟨h, h2.symm⟩))
      | (go_at_call 9; exact Calls.quiet_of_same ((Hid.out H2 _).mono fun _ _ ⟨h, h2⟩ => ⟨h, h2.symm⟩))
      | (go_at_call 10; exact Calls.quiet_of_same ((Hid.out H3 _).mono fun _ _ ⟨h, h2⟩ => ⟨h, h2.symm⟩)))
    go_wp2
    go_ret
    exact ⟨rfl, hb4.os, hb4.tape, hb4.output, hb4.size, hb4.block⟩
theorem byte_of {a : Int} (h : (Lit.int .u8 a).wf = true) : ∃ x : UInt8, a = (x.toNat : Int) := by
  have := bounds_u8 h
  exact ⟨UInt8.ofNat a.toNat, by rw [UInt8.toNat_ofNat']; omega⟩
theorem aesTimes_walk (a b : Int) (w : World) (ha : (Lit.int .u8 a).wf = true) (hb : (Lit.int .u8 b).wf = true) :
    Calls Try.prog 3 #[.int .u8 a, .int .u8 b] w fun e w' => e = .returned (.bool true) ∧ Below w.heap.size w w' := by
  obtain ⟨x, rfl⟩ := byte_of ha
  obtain ⟨y, rfl⟩ := byte_of hb
  exact aesTimes_u8 x y w
end Go.Proofs.Ytgplaekilgbfpaa
