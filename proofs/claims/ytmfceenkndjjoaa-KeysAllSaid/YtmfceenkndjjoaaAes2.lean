/- Contracts of package aes: the powers of 3, the box. No statement is proved here. -/
import Derived.Test.YtmfceenkndjjoaaAes1
import Derived.Test.YtmfceenkndjjoaaAesKey
import Derived.Test.YtmfceenkndjjoaaMem
import Derived.StillTailTactics
import Derived.IntWalk
namespace Go.Proofs.Ytmfceenkndjjoaa
open Go.RowKit
set_option linter.unusedVariables false

theorem row256_ : RowTy Try.prog 53 256 := ⟨_, Try.underlying53, rfl, by kernel_rfl⟩
theorem row256 {n : Nat} (h : n = 256) : RowTy Try.prog 53 n := h ▸ row256_
theorem row255_ : RowTy Try.prog 65 255 := ⟨_, Try.underlying65, rfl, by kernel_rfl⟩
theorem row255 {n : Nat} (h : n = 255) : RowTy Try.prog 65 n := h ▸ row255_
theorem row176_ : RowTy Try.prog 55 176 := ⟨_, Try.underlying55, rfl, by kernel_rfl⟩
theorem row176 {n : Nat} (h : n = 176) : RowTy Try.prog 55 n := h ▸ row176_
theorem row16_ : RowTy Try.prog 22 16 := ⟨_, Try.underlying22, rfl, by kernel_rfl⟩
theorem row16 {n : Nat} (h : n = 16) : RowTy Try.prog 22 n := h ▸ row16_
theorem row4_ : RowTy Try.prog 52 4 := ⟨_, Try.underlying52, rfl, by kernel_rfl⟩
theorem row4 {n : Nat} (h : n = 4) : RowTy Try.prog 52 n := h ▸ row4_
/-- Zeros, by names that the walk leaves alone. -/
def Z256 : List UInt8 := List.replicate 256 0
def Z255 : List UInt8 := List.replicate 255 0
def Z176 : List UInt8 := List.replicate 176 0
def Z16 : List UInt8 := List.replicate 16 0
def Z4 : List UInt8 := List.replicate 4 0
theorem Z256_len : Z256.length = 256 := by rw [Z256, List.length_replicate]
theorem Z255_len : Z255.length = 255 := by rw [Z255, List.length_replicate]
theorem Z176_len : Z176.length = 176 := by rw [Z176, List.length_replicate]
theorem Z16_len : Z16.length = 16 := by rw [Z16, List.length_replicate]
theorem Z4_len : Z4.length = 4 := by rw [Z4, List.length_replicate]
theorem zero256 (w : World) : (zeroValue 53).run Try.prog w = .ok (.agg (cells Z256).toArray) w := by kernel_rfl
theorem zero255 (w : World) : (zeroValue 65).run Try.prog w = .ok (.agg (cells Z255).toArray) w := by kernel_rfl
theorem zero176 (w : World) : (zeroValue 55).run Try.prog w = .ok (.agg (cells Z176).toArray) w := by kernel_rfl
theorem zero16 (w : World) : (zeroValue 22).run Try.prog w = .ok (.agg (cells Z16).toArray) w := by kernel_rfl
theorem zero4 (w : World) : (zeroValue 52).run Try.prog w = .ok (.agg (cells Z4).toArray) w := by kernel_rfl

theorem xr8 (a x : UInt8) : bits BinOp.xor IntKind.u8 (a.toNat : Int) (x.toNat : Int) = ((a ^^^ x).toNat : Int) := by
  rw [u8_xor_nat _ _ a.toNat_lt x.toNat_lt, UInt8.toNat_xor]
theorem Blk.only {w w' : World} {g k : Nat} {e : TypeId} {bs : List UInt8} (h : Blk w g e bs) (hb : Only k w w') (hg : g ≠ k) : Blk w' g e bs := (hb.block g hg).trans h
theorem cells_arr (bs : List UInt8) (j : Nat) (h : j < bs.length) : (cells bs).toArray[j]? = some (.int .u8 ((bs.getD j 0).toNat : Int)) := by
  rw [List.getElem?_toArray]; exact cells_at h

set_option maxRecDepth 100000 in
set_option maxHeartbeats 1000000 in
theorem powers_any (w : World) : Calls Try.prog 32 #[] w fun e w' => e = .returned (.agg (cells powT).toArray) ∧ Below w.heap.size w w' := by
  have hz := zero255
  have h0 : Blk ((w.alloc (Obj.cells (cells Z255).toArray 65)).alloc (Obj.cells (cells Z255).toArray 65)) w.heap.size 65 Z255 := (Blk.new _ _ _).alloc _
  have h1 : Blk ((w.alloc (Obj.cells (cells Z255).toArray 65)).alloc (Obj.cells (cells Z255).toArray 65)) (w.heap.size + 1) 65 (fillAt pw Z255 0) := by
    rw [fillAt_zero]; exact Blk.new_at _ _ _ _ _ (by simp) rfl
  have hb0 : Below w.heap.size w ((w.alloc (Obj.cells (cells Z255).toArray 65)).alloc (Obj.cells (cells Z255).toArray 65)) := ((Below.refl _ _).alloc (Nat.le_refl _) _).alloc (by simp) _
  have hp0 : (1 : Int) = ((pw 0).toNat : Int) := by rw [pw_zero]; rfl
  have HP0 := Lib.hid hp0
  clear hp0
  go_enter Try.func32, Try.ntmps32
  go_wp2
  go_loopw [2, 4] (fun vp vi wr => ∃ k : Nat, k ≤ 255 ∧ (k < 255 → vp = .int .u8 ((pw k).toNat : Int)) ∧ (∃ p : Int, vp = .int .u8 p) ∧ vi = .int .i64 k ∧ Blk wr w.heap.size 65 Z255 ∧ Blk wr (w.heap.size + 1) 65 (fillAt pw Z255 k) ∧ Below w.heap.size w wr) (fun _ i _ => 255 - (intOf i).toNat)
  case atStart => exact ⟨0, by omega, fun _ => by rw [← HP0.out], ⟨1, rfl⟩, rfl, h0, h1, hb0⟩
  case round =>
    clear h0 h1 hb0
    obtain ⟨k, hk, hvp, ⟨p, hp⟩, rfl, h0, h1, hb⟩ := hrel
    by_cases hlt : k < 255
    · have := hvp hlt
      subst hp
      injection this with _ hpe
      subst hpe
      clear hvp
      have hl := fillAt_len pw Z255 k (by rw [Z255_len]; omega)
      have hcell := h1.cell (j := k) (by rw [hl, Z255_len]; exact hlt)
      have hfr := h1.frozen k
      have hs := h1.set_ k (pw k)
      rw [fillAt_step pw Z255 k (by rw [Z255_len]; exact hlt)] at hs
      have hs0 := h0.far (p := ⟨w.heap.size + 1, k, none⟩) (by simp) (.int .u8 ((pw k).toNat : Int))
      have hbs := hb.setCell (p := ⟨w.heap.size + 1, k, none⟩) (by simp) (.int .u8 ((pw k).toNat : Int))
      have hx := xr8 (pw k) (dbl (pw k))
      have hnx : k + 1 < 255 → pw (k + 1) = pw k ^^^ dbl (pw k) := fun h => pw_succ k (by omega)
      have htw := fun wx => twice_any (pw k) ((pw k).toNat : Int) wx rfl
      obtain ⟨P, hP⟩ : ∃ P, P = pw k := ⟨_, rfl⟩
      rw [← hP] at hs hs0 hbs hx hnx htw ⊢
      obtain ⟨y, hy⟩ : ∃ y : Int, y = (((fillAt pw Z255 k).getD k 0).toNat : Int) := ⟨_, rfl⟩
      rw [← hy] at hcell
      obtain ⟨D, hD⟩ : ∃ D, D = dbl P := ⟨_, rfl⟩
      rw [← hD] at hx hnx htw
      have HT := Lib.hid htw
      have HN := Lib.hid hnx
      have HX := Lib.hid hx
      have hPl := P.toNat_lt
      have hDl := D.toNat_lt
      clear htw hnx hx hl hP hy hD
      go_wp2_with (first
        | (go_at_call 34; ((with_reducible refine (Hid.out HT _).mono ?_); rintro e w' ⟨rfl, rfl⟩)))
      go_roundw
      case rel => exact ⟨k + 1, by omega, fun h => by rw [HN.out h, ← HX.out], ⟨_, rfl⟩, by go_num, hs0, hs, hbs⟩
      case measure => simp [intOf]; omega
    · obtain rfl : k = 255 := by omega
      have hpow : fillAt pw Z255 255 = powT := by rw [fillAt_all pw Z255 255 Z255_len]; exact list_tab powT powT_len
      rw [hpow] at h1
      have hL : (cells powT).length = 255 := by rw [length_cells, powT_len]
      have hZL : (cells Z255).length = 255 := by rw [length_cells, Z255_len]
      have HL := Lib.hid hL
      have HZL := Lib.hid hZL
      subst hp
      clear hpow hvp hL hZL
      go_wp2_with (first
        | (with_reducible refine wpList_ld rfl 65 (.tmp 1) rfl (w.heap.size + 1) 0 rfl (cells powT) (h1.v.range 0 _ (by simp)) (row255 HL.out) ?_)
        | ((with_reducible refine wpList_st rfl 65 (.tmp 0) (.tmp 15) rfl w.heap.size 0 (cells powT) rfl rfl 65 _ h0.v (by rw [HL.out, HZL.out]; omega) (row255 HL.out) (cells_one _) ?_); intro w2 hB2 ho2))
      rw [splice_all _ _ (by rw [HL.out, HZL.out])] at hB2
      exact ret_row (by rfl) (by rfl) hB2 (row255 HL.out) (by rfl) ⟨rfl, hb.trans (ho2.below (Nat.le_refl _))⟩
end Go.Proofs.Ytmfceenkndjjoaa
