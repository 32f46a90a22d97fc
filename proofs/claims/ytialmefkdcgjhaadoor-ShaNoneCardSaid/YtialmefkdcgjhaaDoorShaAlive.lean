/- What the three laws of layer 3 share: that the document's examples come out. No statement is proved here. -/
import Derived.Test.YtialmefkdcgjhaaDoorSha6

import Derived.Lib.SlBytesConst
import Derived.Deep.RegionWith
namespace Go.Proofs.YtialmefkdcgjhaaDoor
open Go.RowKit
set_option linter.unusedVariables false

theorem eq20 (xs ys : List UInt8) (hx : xs.length = 20) (hy : ys.length = 20) (w : World) :
    (Op.equalIn 10000 24 (.agg (cells xs).toArray) (.agg (cells ys).toArray)).run Tryd.prog w = .ok (xs == ys) w := by
  refine run_equalIn_bytes w 9998 24 5 20 Tryd.underlying24 Tryd.underlying5 (fun w => ?_) xs ys hx hy
  kernel_rfl
theorem eq20_same (xs : List UInt8) (hx : xs.length = 20) (w : World) : (Op.equalIn 10000 24 (.agg (cells xs).toArray) (.agg (cells xs).toArray)).run Tryd.prog w = .ok true w := by
  rw [eq20 xs xs hx hx]; simp

theorem parts_none (w : World) : PartsRd w none 0 [] := ⟨rfl, fun h => absurd h (by omega)⟩
theorem parts_one {w : World} {A : Option Addr} {n c : Nat} {bs : List UInt8} (h : RdS w A n c bs) (e : TypeId) : PartsRd (w.alloc (.cells #[.slice A n c] e)) (some ⟨w.heap.size, 0, none⟩) 1 [bs] := by
  refine ⟨rfl, fun _ => ⟨w.heap.size, 0, rfl, by simp, fun j hj => ?_⟩⟩
  obtain rfl : j = 0 := by omega
  refine ⟨A, n, c, ?_, h.below ((Below.refl _ _).alloc (Nat.le_refl _) _)⟩
  have := (BlkV.new w e [.slice A n c]).cell 0
  exact this

theorem rd_abc (w : World) : RdS (w.alloc (.cells #[.int .u8 97, .int .u8 98, .int .u8 99] 5 (3, 4))) (some ⟨w.heap.size, 0, none⟩) 3 3 [97, 98, 99] := by
  refine ⟨rfl, Nat.le_refl _, by simp [maxLen], fun h => by simp at h, fun _ => ⟨w.heap.size, 0, rfl, by simp, fun j hj => ?_⟩⟩
  rw [Nat.zero_add, cell_of_row _ _ j _ 5 (3, 4) (heap_alloc_new w _)]
  show (cells [97, 98, 99]).toArray[j]? = _
  simpa using cells_at (bs := [97, 98, 99]) (j := j) (by simpa using hj)

theorem alive_any (w : World) (ht : Tab w) (hw : 0 < w.heap.size) : Calls Tryd.prog 6 #[] w fun e w' => e = .returned (.bool true) ∧ Below w.heap.size w w' := by
  have s1 := sum_any none 0 0 [] w ht hw (parts_none w) (by omega) (by simp)
  obtain ⟨D, hD⟩ : ∃ D, D = shaSum ([] : List (List UInt8)).flatten := ⟨_, rfl⟩
  rw [← hD] at s1
  have hDe : D = [218, 57, 163, 238, 94, 107, 75, 13, 50, 85, 191, 239, 149, 96, 24, 144, 175, 216, 7, 9] := hD.trans sha_nothing
  have q1 : ∀ w, (Op.equalIn 10000 24 (.agg (cells D).toArray) (.agg #[.int .u8 218, .int .u8 57, .int .u8 163, .int .u8 238, .int .u8 94, .int .u8 107, .int .u8 75, .int .u8 13, .int .u8 50, .int .u8 85, .int .u8 191, .int .u8 239, .int .u8 149, .int .u8 96, .int .u8 24, .int .u8 144, .int .u8 175, .int .u8 216, .int .u8 7, .int .u8 9])).run Tryd.prog w = .ok true w := by
    intro w
    have h := eq20 D [218, 57, 163, 238, 94, 107, 75, 13, 50, 85, 191, 239, 149, 96, 24, 144, 175, 216, 7, 9] (by rw [hDe]; rfl) rfl w
    rw [show (D == [218, 57, 163, 238, 94, 107, 75, 13, 50, 85, 191, 239, 149, 96, 24, 144, 175, 216, 7, 9]) = true by rw [hDe]; rfl] at h
    exact h
  have s2 := fun (w : World) (ht : Tab w) (hw : 0 < w.heap.size) => sum_any (some ⟨w.heap.size + 1, 0, none⟩) 1 1 [[97, 98, 99]] ((w.alloc (.cells #[.int .u8 97, .int .u8 98, .int .u8 99] 5 (3, 4))).alloc (.cells #[.slice (some ⟨w.heap.size, 0, none⟩) 3 3] 22))
    (tab_below (tab_below ht ((Below.refl _ _).alloc (Nat.le_refl _) _)) ((Below.refl _ _).alloc (Nat.le_refl _) _)) (by simp)
    (by
      have h2 := parts_one (rd_abc w) 22
      simpa using h2) (by omega) (by simp)
  obtain ⟨D2, hD2⟩ : ∃ D2, D2 = shaSum ([[97, 98, 99]] : List (List UInt8)).flatten := ⟨_, rfl⟩
  rw [← hD2] at s2
  have hDe2 : D2 = [169, 153, 62, 54, 71, 6, 129, 106, 186, 62, 37, 113, 120, 80, 194, 108, 156, 208, 216, 157] := hD2.trans sha_abc
  have q2 : ∀ w, (Op.equalIn 10000 24 (.agg (cells D2).toArray) (.agg #[.int .u8 169, .int .u8 153, .int .u8 62, .int .u8 54, .int .u8 71, .int .u8 6, .int .u8 129, .int .u8 106, .int .u8 186, .int .u8 62, .int .u8 37, .int .u8 113, .int .u8 120, .int .u8 80, .int .u8 194, .int .u8 108, .int .u8 156, .int .u8 208, .int .u8 216, .int .u8 157])).run Tryd.prog w = .ok true w := by
    intro w
    have h := eq20 D2 [169, 153, 62, 54, 71, 6, 129, 106, 186, 62, 37, 113, 120, 80, 194, 108, 156, 208, 216, 157] (by rw [hDe2]; rfl) rfl w
    rw [show (D2 == [169, 153, 62, 54, 71, 6, 129, 106, 186, 62, 37, 113, 120, 80, 194, 108, 156, 208, 216, 157]) = true by rw [hDe2]; rfl] at h
    exact h
  have S1 := Lib.hid s1
  have S2 := Lib.hid s2
  have HTB := Lib.hid ht
  clear s1 s2 hD hDe hD2 hDe2
  have kc := fun (w : World) (C : Array Value) (n c : Nat) => Lib.run_convert_bytes_const (P := Tryd.prog) w 22 5 C n c Tryd.underlying22 Tryd.underlying5
  go_enter Tryd.func6, Tryd.ntmps6
  go_wp2_with (first
    | (go_at_call_of 7 (Value.slice none 0 0); ((with_reducible refine (Hid.out S1).mono ?_); rintro e w1 ⟨rfl, hb1⟩; have ht1 := tab_below HTB.out hb1; have hz1 := Nat.lt_of_lt_of_le hw hb1.size; have s2' := S2.out w1 ht1 hz1; have S2' := Lib.hid s2'; clear s2'))
    | (go_at_call 7; ((with_reducible refine (Hid.out S2').mono ?_); rintro e w2 ⟨rfl, hb2⟩)))
  go_ret
  exact ⟨rfl, hb1.trans ((((Below.refl _ _).alloc (Nat.le_refl _) _).alloc (by simp) _).trans (hb2.mono (by simp; omega)) |>.mono hb1.size)⟩
end Go.Proofs.YtialmefkdcgjhaaDoor
