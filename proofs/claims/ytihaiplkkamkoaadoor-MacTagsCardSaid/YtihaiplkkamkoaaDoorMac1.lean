/- Contracts of package mac: a key's block, and its bytes turned. No statement is proved here. -/
import Derived.Test.YtihaiplkkamkoaaDoorSha6
import Derived.Test.YtihaiplkkamkoaaDoorMacNum
namespace Go.Proofs.YtihaiplkkamkoaaDoor
open Go.RowKit
set_option linter.unusedVariables false

theorem xr_byte (a x : UInt8) : bits BinOp.xor IntKind.u8 (a.toNat : Int) (x.toNat : Int) = ((a ^^^ x).toNat : Int) := by
  rw [u8_xor_nat _ _ a.toNat_lt x.toNat_lt, UInt8.toNat_xor]

set_option maxHeartbeats 1000000 in
theorem turned_any (B : List UInt8) (x : UInt8) (xi : Int) (w : World) (hl : B.length = 64) (hx : xi = (x.toNat : Int)) :
    Calls Tryd.prog 15 #[.agg (cells B).toArray, .int .u8 xi] w fun e w' => e = .returned (.slice (some ⟨w.heap.size, 0, none⟩) 64 64) ∧ Blk w' w.heap.size 35 (xorB x B) ∧ Below w.heap.size w w' := by
  have HL := Lib.hid hl
  have HX := Lib.hid hx
  have hb0 : Below w.heap.size w (w.alloc (Obj.cells (cells B).toArray 35)) := (Below.refl _ _).alloc (Nat.le_refl _) _
  have h0 : Blk (w.alloc (Obj.cells (cells B).toArray 35)) w.heap.size 35 (turnAt x B 0) := by rw [turnAt_zero]; exact Blk.new _ _ B
  clear hl hx
  go_enter Tryd.func15, Tryd.ntmps15
  go_wp2
  go_loopw [6] (fun i wr => ∃ k : Nat, k ≤ 64 ∧ i = .int .i64 k ∧ Blk wr w.heap.size 35 (turnAt x B k) ∧ Below w.heap.size w wr) (fun i _ => 64 - (intOf i).toNat)
  case atStart => exact ⟨0, by omega, rfl, h0, hb0⟩
  case round =>
    clear h0 hb0
    obtain ⟨k, hk, rfl, h1, hb⟩ := hrel
    by_cases hlt : k < 64
    · have hcell := h1.cell (j := k) (by rw [turnAt_len _ _ _ (by rw [HL.out]; omega), HL.out]; exact hlt)
      rw [turnAt_get x B k (by rw [HL.out]; exact hlt)] at hcell
      have hfr := h1.frozen k
      have hs := h1.set_ k (B.getD k 0 ^^^ x)
      rw [turnAt_step x B k (by rw [HL.out]; exact hlt)] at hs
      have hbs := hb.setCell (p := ⟨w.heap.size, k, none⟩) (by simp) (.int .u8 ((B.getD k 0 ^^^ x).toNat : Int))
      have hxr := xr_byte (B.getD k 0) x
      rw [← HX.out] at hxr
      rw [← hxr] at hs hbs
      clear hxr
      obtain ⟨y, hy⟩ : ∃ y : Int, y = ((B.getD k 0).toNat : Int) := ⟨_, rfl⟩
      rw [← hy] at hcell hs hbs
      clear hy
      go_wp2
      go_roundw
      case rel => exact ⟨k + 1, by omega, by go_num, hs, hbs⟩
      case measure => simp [intOf]; omega
    · obtain rfl : k = 64 := by omega
      rw [turnAt_all x B 64 (by rw [HL.out]; exact Nat.le_refl _)] at h1
      go_wp2
      go_ret
      exact ⟨rfl, h1, hb⟩
end Go.Proofs.YtihaiplkkamkoaaDoor
