/- BucketWaits's walk: behind so many ticks as are waited it has so much, and not behind fewer. -/
import Derived.Test.YtogffieknfbneaaBktLaw
namespace Go.Proofs.Ytogffieknfbneaa
open Go.RowKit
set_option linter.unusedVariables false

/-- What is there behind k ticks. -/
def hkB (r B h : Int) (k : Nat) : Int := lstB (h + k * r) B
theorem hk_zero (r B h : Int) (hh : h ≤ B) : hkB r B h 0 = h := by simp [hkB, lstB]; omega
theorem hk_step (r B h : Int) (k : Nat) (hr : 0 ≤ r ∧ r ≤ 255) (hB : 0 ≤ B ∧ B ≤ 255) (hh : 0 ≤ h) : givB B (hkB r B h k) r = hkB r B h (k + 1) := by
  have e : ((k + 1 : Nat) : Int) * r = k * r + r := by rw [Int.natCast_add, Int.natCast_one, Int.add_mul, Int.one_mul]
  have hp : 0 ≤ (k : Int) * r := Int.mul_nonneg (by omega) hr.1
  unfold givB hkB
  rw [e]
  obtain ⟨p, hpe⟩ : ∃ p, p = (k : Int) * r := ⟨_, rfl⟩
  rw [← hpe] at hp ⊢
  unfold satN lstB
  clear e hpe
  repeat' split
  all_goals omega
theorem hk_below (r B h n : Int) (k : Nat) (hr : 0 ≤ r) (hB : 0 ≤ B ∧ B ≤ 255) (hh : 0 ≤ h ∧ h ≤ B) (hw : wtB r B h n < 0 ∨ (k : Int) < wtB r B h n) : hkB r B h k < n := by
  unfold wtB at hw
  by_cases h1 : n ≤ h
  · rw [if_pos h1] at hw; omega
  · rw [if_neg h1] at hw
    unfold hkB
    by_cases h2 : B < n ∨ r = 0
    · rcases h2 with h2 | h2
      · unfold lstB; split <;> omega
      · subst h2; simp only [Int.mul_zero, Int.add_zero]; unfold lstB; split <;> omega
    · rw [if_neg h2] at hw
      have hd := div_le_i (n - h - 1) r (by omega) (by omega)
      have hm := Int.ediv_mul_le (n - h - 1) (show r ≠ 0 by omega)
      obtain ⟨q, hq⟩ : ∃ q, q = (n - h - 1) / r := ⟨_, rfl⟩
      rw [← hq] at hd hm hw
      have hk : (k : Int) ≤ q := by
        unfold lstB at hw; split at hw <;> omega
      have : (k : Int) * r ≤ q * r := Int.mul_le_mul_of_nonneg_right hk hr
      unfold lstB; split <;> omega
theorem hk_there (r B h n : Int) (k : Nat) (hr : 0 ≤ r) (hB : 0 ≤ B ∧ B ≤ 255) (hh : 0 ≤ h ∧ h ≤ B) (hn : n ≤ 65535) (hw : (k : Int) = wtB r B h n) : n ≤ hkB r B h k := by
  unfold wtB at hw
  by_cases h1 : n ≤ h
  · rw [if_pos h1] at hw
    obtain rfl : k = 0 := by omega
    rw [hk_zero _ _ _ hh.2]; exact h1
  · rw [if_neg h1] at hw
    unfold hkB
    by_cases h2 : B < n ∨ r = 0
    · rw [if_pos h2] at hw; omega
    · rw [if_neg h2] at hw
      have hd := div_le_i (n - h - 1) r (by omega) (by omega)
      have hm := Int.lt_ediv_add_one_mul_self (n - h - 1) (show 0 < r by omega)
      obtain ⟨q, hq⟩ : ∃ q, q = (n - h - 1) / r := ⟨_, rfl⟩
      rw [← hq] at hd hm hw
      have hk : (k : Int) = q + 1 := by
        unfold lstB at hw; split at hw <;> omega
      rw [hk]
      obtain ⟨p, hp⟩ : ∃ p, p = (q + 1) * r := ⟨_, rfl⟩
      rw [← hp] at hm ⊢
      unfold lstB; split <;> omega
theorem wt_small (r B h n : Int) (hr : 0 ≤ r) (hB : 0 ≤ B ∧ B ≤ 255) (hh : 0 ≤ h ∧ h ≤ B) : -1 ≤ wtB r B h n ∧ wtB r B h n ≤ 255 := by
  unfold wtB
  by_cases h1 : n ≤ h
  · rw [if_pos h1]; omega
  · rw [if_neg h1]
    by_cases h2 : B < n ∨ r = 0
    · rw [if_pos h2]; omega
    · rw [if_neg h2]
      have hd := div_le_i (n - h - 1) r (by omega) (by omega)
      obtain ⟨q, hq⟩ : ∃ q, q = (n - h - 1) / r := ⟨_, rfl⟩
      rw [← hq] at hd ⊢
      unfold lstB; split <;> omega

theorem be_take {w0 w : World} {g : Nat} {r B h n : Int} (k : BE w0 g r B h w) (h0 : 0 ≤ n) :
    Calls Try.prog 9 #[.pointer (some ⟨g, 0, none⟩), .int .u64 n] w fun e w' => e = .returned (.bool (decide (n ≤ h))) ∧ BE w0 g r B (if n ≤ h then h - n else h) w' := by
  by_cases hn : n ≤ h
  · rw [if_pos hn, decide_eq_true hn]; exact be_can k h0 hn
  · rw [if_neg hn, decide_eq_false hn]; exact be_not k (by omega)

set_option maxRecDepth 100000 in
theorem bucketWaits_walk (a0 a1 a2 a3 : Int) (w : World) (w0 : (Lit.int .u8 a0).wf = true) (w1 : (Lit.int .u8 a1).wf = true) (w2 : (Lit.int .u16 a2).wf = true) (w3 : (Lit.int .u16 a3).wf = true) :
    Calls Try.prog 4 #[.int .u8 a0, .int .u8 a1, .int .u16 a2, .int .u16 a3] w fun e w' => e = .returned (.bool true) ∧ Below w.heap.size w w' := by
  have HAL := Lib.hid (alive_any w)
  have b0 := bounds_u8 w0
  have b1 := bounds_u8 w1
  have b2 := bounds_u16 w2
  have b3 := bounds_u16 w3
  clear w0 w1 w2 w3
  obtain ⟨H, hH⟩ : ∃ H, H = if a2 ≤ a1 then a1 - a2 else a1 := ⟨_, rfl⟩
  have hHb : 0 ≤ H ∧ H ≤ a1 := by rw [hH]; split <;> omega
  have hws := wt_small a0 a1 H a3 b0.1 (by omega) hHb
  have F1 := Lib.hid (fun k => hk_below a0 a1 H a3 k b0.1 (by omega) hHb)
  have F2 := Lib.hid (fun k => hk_there a0 a1 H a3 k b0.1 (by omega) hHb b3.2)
  have F3 := Lib.hid (fun k => hk_step a0 a1 H k (by omega) (by omega) hHb.1)
  have F0 := Lib.hid (hk_zero a0 a1 H hHb.2)
  have HN : Hid (∀ w1, Below w.heap.size w w1 → Calls Try.prog 7 #[.int .u64 a0, .int .u64 a1] w1 fun e w' => e = .returned (.pointer (some ⟨w1.heap.size, 0, none⟩)) ∧ BE w w1.heap.size a0 a1 a1 w') := Lib.hid fun w1 h => be_new h ⟨by omega, by omega⟩ ⟨by omega, by omega⟩
  have HT : Hid (∀ g w1, BE w g a0 a1 a1 w1 → Calls Try.prog 9 #[.pointer (some ⟨g, 0, none⟩), .int .u64 a2] w1 fun e w' => e = .returned (.bool (decide (a2 ≤ a1))) ∧ BE w g a0 a1 H w') := Lib.hid fun g w1 k => by
    have := be_take k b2.1
    rw [← hH] at this; exact this
  have HW : Hid (∀ g w1, BE w g a0 a1 H w1 → Calls Try.prog 10 #[.pointer (some ⟨g, 0, none⟩), .int .u64 a3] w1 fun e w' => e = .returned (.int .i64 (wtB a0 a1 H a3)) ∧ BE w g a0 a1 H w') := Lib.hid fun g w1 k => be_wait k ⟨by omega, by omega⟩
  obtain ⟨W, hW⟩ : ∃ W, W = wtB a0 a1 H a3 := ⟨_, rfl⟩
  rw [← hW] at hws HW
  simp only [← hW] at F1 F2
  clear hH hHb hW
  go_enter Try.func4, Try.ntmps4
  go_wp2_with (first
    | (go_at_call 6; ((with_reducible refine (Hid.out HAL).mono ?_); rintro e w1 ⟨rfl, hb1⟩))
    | (go_at_call 7; ((with_reducible refine (Hid.out HN _ hb1).mono ?_); rintro e w2 ⟨rfl, h2⟩))
    | (go_at_call 9; ((with_reducible refine (Hid.out HT _ _ h2).mono ?_); rintro e w3 ⟨rfl, h3⟩))
    | (go_at_call 10; ((with_reducible refine (Hid.out HW _ _ h3).mono ?_); rintro e w4 ⟨rfl, h4⟩)))
  obtain ⟨g, hg⟩ : ∃ g, g = w1.heap.size := ⟨_, rfl⟩
  rw [← hg] at h4 ⊢
  rw [← F0.out] at h4
  have H4 := Lib.hid h4
  clear hg h4 h3 h2 hb1 HAL HN HT HW F0
  go_loopw [11] (fun vi wr => ∃ k : Nat, k ≤ 300 ∧ vi = .int .i64 k ∧ (W < 0 ∨ (k : Int) ≤ W) ∧ Hid (BE w g a0 a1 (hkB a0 a1 H k) wr)) (fun i _ => 300 - (intOf i).toNat)
  case atStart => exact ⟨0, by omega, rfl, by omega, H4⟩
  case round =>
    clear H4
    obtain ⟨k, hk, rfl, hor, hE⟩ := hrel
    by_cases hlt : k < 300
    · have hki : (k : Int) < 300 := by omega
      by_cases hgo : W < 0 ∨ (k : Int) < W
      · have hbl := F1.out k hgo
        have hst := F3.out k
        obtain ⟨X, hX⟩ : ∃ X, X = hkB a0 a1 H k := ⟨_, rfl⟩
        obtain ⟨Y, hY⟩ : ∃ Y, Y = hkB a0 a1 H (k + 1) := ⟨_, rfl⟩
        rw [← hX] at hbl hE hst
        rw [← hY] at hst
        have HTK := Lib.hid (be_tick hE.out)
        rw [hst] at HTK
        have HH := Lib.hid (be_have hE.out)
        have HY := Lib.hid hY
        clear hX hY hst
        rcases hgo with hneg | hpos
        · go_wp2_with (first
            | (go_at_call 11; ((with_reducible refine (Hid.out HH).mono ?_); rintro e w6 ⟨rfl, rfl⟩))
            | (go_at_call 8; ((with_reducible refine (Hid.out HTK).mono ?_); rintro e w7 ⟨rfl, h7⟩)))
          rw [HY.out] at h7
          go_roundw
          case rel => exact ⟨k + 1, by omega, by go_num, by omega, Lib.hid h7⟩
          case measure => simp [intOf]; omega
        · have hnn : 0 ≤ W := by omega
          go_wp2_with (first
            | (go_at_call 11; ((with_reducible refine (Hid.out HH).mono ?_); rintro e w6 ⟨rfl, rfl⟩))
            | (go_at_call 8; ((with_reducible refine (Hid.out HTK).mono ?_); rintro e w7 ⟨rfl, h7⟩)))
          rw [HY.out] at h7
          go_roundw
          case rel => exact ⟨k + 1, by omega, by go_num, by omega, Lib.hid h7⟩
          case measure => simp [intOf]; omega
      · have hnn : 0 ≤ W := by omega
        obtain hkW : (k : Int) = W := by omega
        subst hkW
        have hth := F2.out k rfl
        have HH := Lib.hid (be_have hE.out)
        obtain ⟨X, hX⟩ : ∃ X, X = hkB a0 a1 H k := ⟨_, rfl⟩
        rw [← hX] at hth HH hE
        clear hX hgo
        go_wp2_with (first
          | (go_at_call 11; ((with_reducible refine (Hid.out HH).mono ?_); rintro e w6 ⟨rfl, rfl⟩)))
        go_ret
        exact ⟨rfl, hE.out.b⟩
    · obtain rfl : k = 300 := by omega
      have hneg : W < 0 := by omega
      go_wp2
      go_ret
      exact ⟨rfl, hE.out.b⟩
end Go.Proofs.Ytogffieknfbneaa
