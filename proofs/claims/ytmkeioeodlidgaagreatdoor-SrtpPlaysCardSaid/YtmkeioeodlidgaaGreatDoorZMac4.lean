/- Several texts in one: plain words and walks. No statement is proved here. -/
import Derived.Test.YtmkeioeodlidgaaGreatDoorZM7
namespace Go.Proofs.YtmkeioeodlidgaaGreatDoor
open Go.RowKit
set_option linter.unusedVariables false

def cutN (n : Int) : Nat := if n < 1 then 0 else if 20 < n then 20 else n.toNat
def tagB (n : Int) (full : List UInt8) : List UInt8 := full.take (cutN n)
theorem cutN_low {n : Int} (h : n < 1) : cutN n = 0 := by simp [cutN, h]
theorem cutN_high {n : Int} (h : 20 < n) : cutN n = 20 := by unfold cutN; rw [if_neg (by omega), if_pos h]
theorem cutN_mid (n : Nat) (h : 1 ≤ n) (h2 : n ≤ 20) : cutN (n : Int) = n := by unfold cutN; rw [if_neg (by omega), if_neg (by omega)]; simp
theorem RdS.head {w : World} {A : Option Addr} {n c : Nat} {bs : List UInt8} (h : RdS w A n c bs) (m d : Nat) (hm : m ≤ n) (hd : m ≤ d) (hdc : d ≤ c) : RdS w A m d (bs.take m) := by
 obtain ⟨h1, h2, h3, h4, h5⟩ := h
 refine ⟨by rw [List.length_take]; omega, hd, by omega, fun h0 => by have := h4 h0; omega, fun hn => ?_⟩
 obtain ⟨b, off, hA, hlt, hc⟩ := h5 (by omega)
 refine ⟨b, off, hA, hlt, fun j hj => ?_⟩
 rw [hc j (by omega)]
 simp [List.getD, hj]

set_option maxHeartbeats 1000000 in
theorem tag_any (A : Option Addr) (nb c : Nat) (key : List UInt8) (n : Int) (ad : Addr) (k cp : Nat) (ps : List (List UInt8)) (w : World) (ht : TabH w) (hw : 0 < w.heap.size) (hr : RdS w A nb c key) (hle : nb ≤ 100000)
 (hn : -9223372036854775808 ≤ n ∧ n ≤ 9223372036854775807) (hp : PartsRd w (some ad) k ps) (hk : k ≤ 1000) (hpl : ps.flatten.length ≤ 100000) :
 Calls Tryz.prog 25 #[.slice A nb c, .int .i64 n, .slice (some ad) k cp] w fun e w' => ∃ A', e = .returned (.slice A' (cutN n) (cutN n)) ∧ RdS w' A' (cutN n) (cutN n) (tagB n (macFull key ps.flatten)) ∧ Below w.heap.size w w' := by
 have hwh := whole_any A nb c key ad k cp ps w ht hw hr hle hp hk hpl
 have hz2 := zero20b
 obtain ⟨F, hF⟩ : ∃ F, F = macFull key ps.flatten := ⟨_, rfl⟩
 have hFl : F.length = 20 := by rw [hF]; exact macFull_len _ _
 rw [← hF] at hwh ⊢
 have HW := Lib.hid hwh
 have HF := Lib.hid hFl
 clear hwh hF hFl
 by_cases h1 : n < 1
 · rw [cutN_low h1]
   have e : tagB n F = [] := by rw [tagB, cutN_low h1]; rfl
   rw [e]
   go_enter Tryz.func25, Tryz.ntmps25
   go_wp2
   go_ret
   exact ⟨none, rfl, RdS.nil w, Below.refl _ _⟩
 · by_cases h2 : 20 < n
   · rw [cutN_high h2]
     have e : tagB n F = F := by rw [tagB, cutN_high h2]; exact List.take_of_length_le (by rw [HF.out]; exact Nat.le_refl _)
     rw [e]
     go_enter Tryz.func25, Tryz.ntmps25
     go_wp2_with (first
      | (go_at_call 55; ((with_reducible refine (Hid.out HW).mono ?_); rintro e w2 ⟨rfl, hb2⟩; have hI2 := BlkV.new_at w2 w2.heap.size 47 (cells Z20) _ rfl rfl; have hb2a := hb2.alloc hb2.size (.cells (cells Z20).toArray 47)))
      | ((with_reducible refine wpList_st rfl 47 (.tmp 7) (.tmp 14) rfl w2.heap.size 0 (cells F) rfl rfl 47 _ hI2 (by rw [length_cells, length_cells, HF.out, Z20_len]; omega) (row20 (by rw [length_cells]; exact HF.out)) (cells_one _) ?_); intro w3 hB3 ho3; rw [splice_all _ _ (by rw [length_cells, length_cells, HF.out, Z20_len])] at hB3; have hb3 := hb2a.trans (ho3.below hb2.size); have hrd3 := (show Blk w3 w2.heap.size 47 F from hB3).rd (n := 20) (c := 20) HF.out (Nat.le_refl _) (by simp [maxLen])))
     go_ret
     exact ⟨_, rfl, hrd3, hb3⟩
   · obtain ⟨m, rfl⟩ := Int.eq_ofNat_of_zero_le (show 0 ≤ n by omega)
     rw [cutN_mid m (by omega) (by omega)]
     have e : tagB (m : Int) F = F.take m := by rw [tagB, cutN_mid m (by omega) (by omega)]
     rw [e]
     have hm : m ≤ 20 := by omega
     go_enter Tryz.func25, Tryz.ntmps25
     go_wp2_with (first
      | (go_at_call 55; ((with_reducible refine (Hid.out HW).mono ?_); rintro e w2 ⟨rfl, hb2⟩; have hI2 := BlkV.new_at w2 w2.heap.size 47 (cells Z20) _ rfl rfl; have hb2a := hb2.alloc hb2.size (.cells (cells Z20).toArray 47)))
      | ((with_reducible refine wpList_st rfl 47 (.tmp 7) (.tmp 14) rfl w2.heap.size 0 (cells F) rfl rfl 47 _ hI2 (by rw [length_cells, length_cells, HF.out, Z20_len]; omega) (row20 (by rw [length_cells]; exact HF.out)) (cells_one _) ?_); intro w3 hB3 ho3; rw [splice_all _ _ (by rw [length_cells, length_cells, HF.out, Z20_len])] at hB3; have hb3 := hb2a.trans (ho3.below hb2.size); have hrd3 := (show Blk w3 w2.heap.size 47 F from hB3).rd (n := 20) (c := 20) HF.out (Nat.le_refl _) (by simp [maxLen])))
     go_ret
     exact ⟨_, rfl, hrd3.head m m hm (Nat.le_refl _) hm, hb3⟩
end Go.Proofs.YtmkeioeodlidgaaGreatDoor
