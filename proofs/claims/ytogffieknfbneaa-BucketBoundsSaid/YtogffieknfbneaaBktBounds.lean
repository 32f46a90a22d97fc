/- BucketBounds's walk: in so many ticks at most the burst and as many times the rate are taken. -/
import Derived.Test.YtogffieknfbneaaBktWaits
import Derived.Test.YtogffieknfbneaaFields
namespace Go.Proofs.Ytogffieknfbneaa
open Go.RowKit
set_option linter.unusedVariables false

theorem giv_le (B h n : Int) : givB B h n ≤ h + n := by
  unfold givB lstB satN; repeat' split
  all_goals omega

set_option maxRecDepth 100000 in
set_option maxHeartbeats 1000000 in
theorem bucketBounds_walk (a0 a1 : Int) (A : Option Addr) (n c : Nat) (rs : Nat → Nat → Value) (w : World) (w0 : (Lit.int .u16 a0).wf = true) (w1 : (Lit.int .u16 a1).wf = true) (hr : RdF [.int .u8, .int .u64] w A n rs) :
    Calls Try.prog 3 #[.int .u16 a0, .int .u16 a1, .slice A n c] w fun e w' => e = .returned (.bool true) ∧ Below w.heap.size w w' := by
  have HAL := Lib.hid (alive_any w)
  have b0 := bounds_u16 w0
  have b1 := bounds_u16 w1
  have hns := hr.small
  have HR := Lib.hid hr
  have HN : Hid (∀ w1, Below w.heap.size w w1 → Calls Try.prog 7 #[.int .u64 a0, .int .u64 a1] w1 fun e w' => e = .returned (.pointer (some ⟨w1.heap.size, 0, none⟩)) ∧ BE w w1.heap.size a0 a1 a1 w') := Lib.hid fun w1 h => be_new h ⟨by omega, by omega⟩ ⟨by omega, by omega⟩
  clear w0 w1 hr
  go_enter Try.func3, Try.ntmps3
  go_wp2_with (first
    | (go_at_call 6; ((with_reducible refine (Hid.out HAL).mono ?_); rintro e w1 ⟨rfl, hb1⟩))
    | (go_at_call 7; ((with_reducible refine (Hid.out HN _ hb1).mono ?_); rintro e w2 ⟨rfl, h2⟩)))
  obtain ⟨g, hg⟩ : ∃ g, g = w1.heap.size := ⟨_, rfl⟩
  rw [← hg] at h2 ⊢
  have H2 := Lib.hid h2
  clear hg h2 hb1 HAL HN
  go_loopw [8, 9, 10] (fun vt vk vi wr => ∃ (k K : Nat) (T h : Int), k ≤ n ∧ k ≤ 200 ∧ K ≤ k ∧ 0 ≤ T ∧ 0 ≤ h ∧ vt = .int .u64 T ∧ vk = .int .u64 K ∧ vi = .int .i64 k ∧ T + h ≤ a1 + K * a0 ∧ Hid (BE w g a0 a1 h wr)) (fun _ _ i _ => n - (intOf i).toNat)
  case atStart => exact ⟨0, 0, 0, a1, by omega, by omega, by omega, by omega, by omega, rfl, rfl, rfl, by omega, H2⟩
  case round =>
    clear H2
    obtain ⟨k, K, T, h, hk, hk2, hKk, hT, hh, rfl, rfl, rfl, hsum, hE⟩ := hrel
    by_cases hlt : k < n
    · by_cases h2 : k < 200
      · have hki : (k : Int) < (n : Int) := by omega
        have hk2i : (k : Int) < 200 := by omega
        obtain ⟨b, off, rfl, hcs⟩ := HR.out.at_ (by omega)
        obtain ⟨kd, hkd, wkd⟩ := HR.out.2.1 k hlt 0 _ rfl
        obtain ⟨N, hN, wN⟩ := HR.out.2.1 k hlt 1 _ rfl
        have hc0 := hcs wr hE.out.b k hlt 0 (by decide)
        have hc1 := hcs wr hE.out.b k hlt 1 (by decide)
        rw [hkd] at hc0
        rw [hN] at hc1
        have hc0 : wr.cell? ⟨b, off + k * 2, none⟩ = some (.int .u8 kd) := hc0
        have hc1 : wr.cell? ⟨b, off + k * 2 + 1, none⟩ = some (.int .u64 N) := hc1
        have bkd := bounds_u8 wkd
        have bN := bounds_u64 wN
        have hKi : (K : Int) ≤ 200 := by omega
        have hPm : (K : Int) * a0 ≤ 200 * 65535 := Int.mul_le_mul hKi b0.2 b0.1 (by omega)
        have hP0 : 0 ≤ (K : Int) * a0 := Int.mul_nonneg (by omega) b0.1
        have hPs : ((K + 1 : Nat) : Int) * a0 = K * a0 + a0 := by rw [Int.natCast_add, Int.natCast_one, Int.add_mul, Int.one_mul]
        obtain ⟨P, hP⟩ : ∃ P, P = (K : Int) * a0 := ⟨_, rfl⟩
        rw [← hP] at hPm hP0 hPs hsum
        obtain ⟨Z, hZ⟩ : ∃ Z, Z = N % 100000 := ⟨_, rfl⟩
        have hZb : 0 ≤ Z ∧ Z < 100000 := by omega
        have hZ1 : N % 100000 = Z := hZ.symm
        have HPS := Lib.hid hPs
        have HP := Lib.hid hP.symm
        clear hkd hN wkd wN hcs hPs hZ hP
        by_cases hkind : kd % 3 = 0
        · obtain ⟨h', hh'⟩ : ∃ h', h' = givB a1 h a0 := ⟨_, rfl⟩
          have hgl := giv_le a1 h a0
          have HT := Lib.hid (be_tick hE.out)
          rw [← hh'] at hgl HT
          have hp1 : IntKind.u64.wrap (((K : Int) + 1) * a0) = P + a0 := by
            have := HPS.out
            rw [show ((K + 1 : Nat) : Int) = (K : Int) + 1 by omega] at this
            rw [this]; exact IntWalk.u64_in _ (by omega)
          clear hh'
          go_wp2_with (first
            | (go_at_call 8; ((with_reducible refine (Hid.out HT).mono ?_); rintro e w7 ⟨rfl, h7⟩)))
          have hh7 := h7.at_.uh.1
          have hl : T + h' ≤ a1 + ((K + 1 : Nat) : Int) * a0 := by have := HPS.out; omega
          go_roundw
          case rel => exact ⟨k + 1, K + 1, T, h', by omega, by omega, by omega, by omega, hh7, rfl, by go_num, by go_num, hl, Lib.hid h7⟩
          case measure => simp [intOf]; omega
        · have hp0 : IntKind.u64.wrap ((K : Int) * a0) = P := by rw [HP.out]; exact IntWalk.u64_in _ (by omega)
          have hkind' : (kd % 3 == 0) = false := by simpa using hkind
          by_cases hcan : Z ≤ h
          · have HT := Lib.hid (be_can hE.out hZb.1 hcan)
            go_wp2_with (first
              | (go_at_call 9; ((with_reducible refine (Hid.out HT).mono ?_); rintro e w7 ⟨rfl, h7⟩)))
            go_roundw
            case rel => exact ⟨k + 1, K, T + Z, h - Z, by omega, by omega, by omega, by omega, by omega, by go_num, rfl, by go_num, by have := HP.out; omega, Lib.hid h7⟩
            case measure => simp [intOf]; omega
          · have HT := Lib.hid (be_not hE.out (n := Z) (by omega))
            go_wp2_with (first
              | (go_at_call 9; ((with_reducible refine (Hid.out HT).mono ?_); rintro e w7 ⟨rfl, h7⟩)))
            go_roundw
            case rel => exact ⟨k + 1, K, T, h, by omega, by omega, by omega, by omega, by omega, by go_num, rfl, by go_num, by have := HP.out; omega, Lib.hid h7⟩
            case measure => simp [intOf]; omega
      · obtain rfl : k = 200 := by omega
        have hki : (200 : Int) < (n : Int) := by omega
        go_wp2
        go_ret
        exact ⟨rfl, hE.out.b⟩
    · obtain rfl : k = n := by omega
      go_wp2
      go_ret
      exact ⟨rfl, hE.out.b⟩
end Go.Proofs.Ytogffieknfbneaa
