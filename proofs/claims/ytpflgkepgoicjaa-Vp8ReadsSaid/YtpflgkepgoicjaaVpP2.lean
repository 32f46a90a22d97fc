/- What package vp8's Read tells. No statement is proved here. -/
import Derived.Test.YtpflgkepgoicjaaVpP1
import Derived.Test.YtpflgkepgoicjaaVpNum4
import Derived.Test.YtpflgkepgoicjaaVpL1
import Derived.Deep.DeepCutAuto
namespace Go.Proofs.Ytpflgkepgoicjaa
open Go.RowKit
set_option linter.unusedVariables false

abbrev vs3 (bs : List UInt8) : Array Value := #[.bool false, .int .u8 0, .bool (s3H bs), .bool (s3W bs), .int .u16 (s3P bs : Int), .bool false, .int .i64 0]
theorem NxS.start (A : Option Addr) (n c : Nat) (bs : List UInt8) (w : World) (hr : RdS w A n c bs) : NxS w zerV 0 bs (V3 w zerV 0 (.slice A n c)) := ⟨A, c, n, hr.len.symm, rfl, hr⟩
theorem ix0 (wx : World) : (Instr.index 39 (.agg #[.int .u8 64, .int .u8 48]) (.int .i64 0)).run Try.prog wx = .ok (.int .u8 64) wx := by kernel_rfl
theorem ix1 (wx : World) : (Instr.index 39 (.agg #[.int .u8 64, .int .u8 48]) (.int .i64 1)).run Try.prog wx = .ok (.int .u8 48) wx := by kernel_rfl
set_option maxRecDepth 100000 in
set_option maxHeartbeats 2000000 in
theorem read13_any (A : Option Addr) (n c : Nat) (bs : List UInt8) (w : World) (hr : RdS w A n c bs) :
    Calls Try.prog 6 #[.slice A n c] w (P13 bs w) := by
  have hmf : ∀ (fn : Fn) (first cap : Array Value) (w : World), (Instr.makeFunc fn first cap).run Try.prog w = .ok (.func fn first cap) w := fun _ _ _ _ => rfl
  have hs := hr.small
  have HS0 := Lib.hid (NxS.start A n c bs w hr)
  have HL := Lib.hid hr.len
  have H72 := Lib.hid (fun vs q rs W h => next13_at 72 72 rfl w vs q rs W (by omega) h)
  have H15 := Lib.hid (fun vs q rs W h => next13_at 15 15 rfl w vs q rs W (by omega) h)
  have H00 := Lib.hid (fun vs q rs W h => next13_at 0 0 rfl w vs q rs W (by omega) h)
  have HNU := Lib.hid (fun vs q rs W h => number13_any w vs q rs W h)
  obtain ⟨F, eF⟩ : ∃ F, F = f1 bs := ⟨_, rfl⟩
  have lF : F < 256 := by rw [eF]; exact f1_lt _
  have HF := Lib.hid eF
  have a7 := and128 F lF
  clear hr eF
  go_enter Try.func6, Try.ntmps6
  go_upto_if 16 with (first
    | (go_at_call 10; ((with_reducible refine (H72.out _ _ _ _ HS0.out).mono ?_); rintro e w1 ⟨rfl, h1⟩; rw [show nxX 72 bs = F from HF.out.symm]; have HS1 := Lib.hid h1; clear h1)))
  go_cut [7] (fun s wx => s = .int .u8 (s2X bs : Int) ∧ NxS w zerV (s2C bs) (s2R bs) wx)
  case first =>
    by_cases hF : 128 ≤ F
    · have b1 := and128_1 lF hF
      have E : Hid (s2X bs = nxX 15 (nxR 72 bs) ∧ s2C bs = nxC 15 (nxC 72 0 bs) (nxR 72 bs) ∧ s2R bs = nxR 15 (nxR 72 bs)) := Lib.hid ⟨by unfold s2X; rw [← HF.out, if_pos hF]; rfl, by unfold s2C; rw [← HF.out, if_pos hF]; rfl, by unfold s2R; rw [← HF.out, if_pos hF]; rfl⟩
      clear a7
      go_wp2_with (first
        | (go_at_call 10; ((with_reducible refine (H15.out _ _ _ _ HS1.out).mono ?_); rintro e w2 ⟨rfl, h2⟩; rw [← E.out.1]; have HS2 := Lib.hid h2; clear h2)))
      go_meet
      exact ⟨rfl, by rw [E.out.2.1, E.out.2.2]; exact HS2.out⟩
    · have b1 := and128_0 lF hF
      have E : Hid (s2X bs = 0 ∧ s2C bs = nxC 72 0 bs ∧ s2R bs = nxR 72 bs) := Lib.hid ⟨by unfold s2X; rw [← HF.out, if_neg hF], by unfold s2C; rw [← HF.out, if_neg hF]; rfl, by unfold s2R; rw [← HF.out, if_neg hF]; rfl⟩
      clear a7
      go_wp2
      go_meet
      exact ⟨by rw [E.out.1]; rfl, by rw [E.out.2.1, E.out.2.2]; exact HS1.out⟩
  case rest =>
    obtain ⟨rfl, hN⟩ := hcut
    have HS2 := Lib.hid hN
    obtain ⟨S, eS⟩ : ∃ S, S = s2X bs := ⟨_, rfl⟩
    have lS : S < 256 := by rw [eS]; exact s2X_lt _
    rw [← eS]
    have HS := Lib.hid eS
    clear eS hN a7 HS1
    rename_i wq
    clear w1
    go_upto_if 21 with (fail)
    go_cut [] (fun wx => NxS w (vs3 bs) (s3C bs) (s3R bs) wx)
    case first =>
      by_cases hS : 128 ≤ S
      · have b1 := and128_1 lS hS
        have E : Hid (s3H bs = true ∧ s3P bs = numX (s2R bs) ∧ s3W bs = numW (s2R bs) ∧ s3C bs = numC (s2C bs) (s2R bs) ∧ s3R bs = numR (s2R bs)) := Lib.hid ⟨by unfold s3H; rw [← HS.out]; exact decide_eq_true hS, by unfold s3P; rw [← HS.out, if_pos hS], by unfold s3W; rw [← HS.out, if_pos hS], by unfold s3C; rw [← HS.out, if_pos hS], by unfold s3R; rw [← HS.out, if_pos hS]⟩
        obtain ⟨A2, c2, N2, hN2, rfl, hr2⟩ := HS2.out
        have HR2 : Hid (NxS w #[.bool false, .int .u8 0, .bool true, .bool false, .int .u16 0, .bool false, .int .i64 0] (s2C bs) (s2R bs) (V3 w #[.bool false, .int .u8 0, .bool true, .bool false, .int .u16 0, .bool false, .int .i64 0] (s2C bs) (.slice A2 N2 c2))) := Lib.hid ⟨A2, c2, N2, hN2, rfl, hr2⟩
        clear hN2 hr2 HS2
        go_wp2_with (first
          | (go_at_call 11; ((with_reducible refine (HNU.out _ _ _ _ HR2.out).mono ?_); rintro e w3 ⟨rfl, h3⟩; rw [← E.out.2.1, ← E.out.2.2.1]; obtain ⟨A3, c3, N3, hN3, rfl, hr3⟩ := h3; have HN3 := Lib.hid hN3; have HR3 := Lib.hid hr3; clear hN3 hr3)))
        go_meet
        unfold vs3
        rw [E.out.1, E.out.2.2.2.1, E.out.2.2.2.2]
        exact ⟨A3, c3, N3, HN3.out, rfl, HR3.out⟩
      · have b1 := and128_0 lS hS
        have E : Hid (s3H bs = false ∧ s3P bs = 0 ∧ s3W bs = false ∧ s3C bs = s2C bs ∧ s3R bs = s2R bs) := Lib.hid ⟨by unfold s3H; rw [← HS.out]; exact decide_eq_false hS, by unfold s3P; rw [← HS.out, if_neg hS], by unfold s3W; rw [← HS.out, if_neg hS], by unfold s3C; rw [← HS.out, if_neg hS], by unfold s3R; rw [← HS.out, if_neg hS]⟩
        go_wp2
        go_meet
        unfold vs3
        rw [E.out.1, E.out.2.1, E.out.2.2.1, E.out.2.2.2.1, E.out.2.2.2.2]
        exact HS2.out
    case rest =>
      have HS3 := Lib.hid hcut
      clear hcut HS2
      go_wp2
      go_loopw [31] (fun vi wr => ∃ i : Nat, i ≤ 2 ∧ vi = .int .i64 i ∧ NxS w (vs3 bs) (lvC bs i) (lvR bs i) wr) (fun i _ => 2 - (intOf i).toNat)
      case atStart => exact ⟨0, by omega, rfl, HS3.out⟩
      case round =>
        clear HS3
        obtain ⟨i, hi, rfl, hN⟩ := hrel
        have HSi := Lib.hid hN
        clear hN
        have a64 : bits .and .u8 (S : Int) 64 = ((S &&& 64 : Nat) : Int) := u8_and_nat S 64 lS (by omega)
        have a48 : bits .and .u8 (S : Int) 48 = ((S &&& 48 : Nat) : Int) := u8_and_nat S 48 lS (by omega)
        have hi0 := ix0
        have hi1 := ix1
        have hcs : i = 0 ∨ i = 1 ∨ i = 2 := by omega
        rcases hcs with rfl | rfl | rfl
        · by_cases hb : S &&& 64 = 0
          · have E : Hid (lvC bs 1 = lvC bs 0 ∧ lvR bs 1 = lvR bs 0) := Lib.hid ⟨if_pos (by rw [← HS.out]; exact hb), if_pos (by rw [← HS.out]; exact hb)⟩
            rw [hb] at a64
            clear a48 hb
            go_wp2
            go_roundw
            case rel => exact ⟨1, by omega, by go_num, by rw [E.out.1, E.out.2]; exact HSi.out⟩
            case measure => simp [intOf]
          · have E : Hid (lvC bs 1 = nxC 0 (lvC bs 0) (lvR bs 0) ∧ lvR bs 1 = nxR 0 (lvR bs 0)) := Lib.hid ⟨if_neg (by rw [← HS.out]; exact hb), if_neg (by rw [← HS.out]; exact hb)⟩
            have hb2 : ¬ ((S &&& 64 : Nat) : Int) = 0 := by omega
            generalize ((S &&& 64 : Nat) : Int) = B at a64 hb2
            clear a48 hb
            go_wp2_with (first
              | (go_at_call 10; ((with_reducible refine (H00.out _ _ _ _ HSi.out).mono ?_); rintro e w4 ⟨rfl, h4⟩; have HS4 := Lib.hid h4; clear h4)))
            go_roundw
            case rel => exact ⟨1, by omega, by go_num, by rw [E.out.1, E.out.2]; exact HS4.out⟩
            case measure => simp [intOf]
        · by_cases hb : S &&& 48 = 0
          · have E : Hid (lvC bs 2 = lvC bs 1 ∧ lvR bs 2 = lvR bs 1) := Lib.hid ⟨if_pos (by rw [← HS.out]; exact hb), if_pos (by rw [← HS.out]; exact hb)⟩
            rw [hb] at a48
            clear a64 hb
            go_wp2
            go_roundw
            case rel => exact ⟨2, by omega, by go_num, by rw [E.out.1, E.out.2]; exact HSi.out⟩
            case measure => simp [intOf]
          · have E : Hid (lvC bs 2 = nxC 0 (lvC bs 1) (lvR bs 1) ∧ lvR bs 2 = nxR 0 (lvR bs 1)) := Lib.hid ⟨if_neg (by rw [← HS.out]; exact hb), if_neg (by rw [← HS.out]; exact hb)⟩
            have hb2 : ¬ ((S &&& 48 : Nat) : Int) = 0 := by omega
            generalize ((S &&& 48 : Nat) : Int) = B at a48 hb2
            clear a64 hb
            go_wp2_with (first
              | (go_at_call 10; ((with_reducible refine (H00.out _ _ _ _ HSi.out).mono ?_); rintro e w4 ⟨rfl, h4⟩; have HS4 := Lib.hid h4; clear h4)))
            go_roundw
            case rel => exact ⟨2, by omega, by go_num, by rw [E.out.1, E.out.2]; exact HS4.out⟩
            case measure => simp [intOf]
        · clear a64 a48
          obtain ⟨A5, c5, N5, hN5, rfl, hr5⟩ := HSi.out
          have HN5 := Lib.hid hN5
          have HR5 := Lib.hid hr5
          obtain ⟨Q, hQ⟩ : ∃ Q, Q = lvC bs 2 := ⟨_, rfl⟩
          rw [← hQ]
          have HQ := Lib.hid hQ
          clear hQ hN5 hr5 HSi
          obtain ⟨we1, we2⟩ := way_end bs
          rw [← HQ.out] at we1
          have HW1 := Lib.hid we1
          have HW2 := Lib.hid we2
          clear we1 we2 hmf HQ
          by_cases q0 : (Q : Int) = 0
          · have hq : Q = 0 := by omega
            subst hq
            obtain ⟨hv, hle⟩ := HW2.out HW1.out.symm
            rw [← HF.out] at hv
            have HV := Lib.hid hv
            have hln : N5 ≤ n := by rw [HN5.out, ← HL.out]; exact hle
            have HWH : Hid (∀ W, Below w.heap.size w W → Calls Try.prog 12 #[.slice A5 N5 c5] W fun e w' => e = .returned (.bool (decide (0 < (lvR bs 2).length ∧ bV (lvR bs 2) 0 % 2 = 0))) ∧ w' = W) := Lib.hid (fun W hb => whole13_any A5 N5 c5 (lvR bs 2) W (HR5.out.below hb))
            clear hv hle HW2
            have b7 := and7 F lF
            have b16 := and16 F lF
            unfold V3 vs3
            generalize hH : s3H bs = H3
            generalize hW : s3W bs = W3
            generalize hP : s3P bs = P3
            rw [hH, hW, hP] at HV
            clear hH hW hP
            have HE : Hid (((bs.length - (lvR bs 2).length : Nat) : Int) = (n : Int) - (N5 : Int)) := Lib.hid (by rw [HL.out, ← HN5.out]; omega)
            by_cases st : F / 16 % 2 = 1
            · rw [if_pos st] at b16
              by_cases pt : F % 8 = 0
              · rw [pt] at b7
                go_wp2_with (first
                  | (go_at_call 12; ((with_reducible refine (HWH.out _ (threeBelow w _ _ _)).mono ?_); rintro e w6 ⟨rfl, hw6⟩; rw [hw6]; clear hw6)))
                refine ret_two rfl rfl rfl (firstB w [.bool true, .int .u8 0, .bool H3, .bool W3, .int .u16 (P3 : Int), .bool (decide (0 < (lvR bs 2).length) && decide (bV (lvR bs 2) 0 % 2 = 0)), .int .i64 ((n : Int) - (N5 : Int))] _ _ _) (rowVp rfl) ((V3.br w _ 0 _).cell 0) Try.underlying27 rfl ⟨?_, threeBelow _ _ _ _⟩
                rw [HV.out, ← HW1.out]
                simp only [vC, HE.out, st, pt, decide_true, true_and, and_self, Bool.decide_and]
                rfl
              · have pt2 : ¬ (F : Int) % 8 = 0 := by omega
                go_wp2
                refine ret_two rfl rfl rfl (firstB w [.bool true, .int .u8 ((F : Int) % 8), .bool H3, .bool W3, .int .u16 (P3 : Int), .bool false, .int .i64 ((n : Int) - (N5 : Int))] _ _ _) (rowVp rfl) ((V3.br w _ 0 _).cell 0) Try.underlying27 rfl ⟨?_, threeBelow _ _ _ _⟩
                rw [HV.out, ← HW1.out]
                simp only [vC, HE.out, st, pt, decide_true, and_false, false_and, decide_false]
                rfl
            · rw [if_neg st] at b16
              go_wp2
              refine ret_two rfl rfl rfl (firstB w [.bool false, .int .u8 ((F : Int) % 8), .bool H3, .bool W3, .int .u16 (P3 : Int), .bool false, .int .i64 ((n : Int) - (N5 : Int))] _ _ _) (rowVp rfl) ((V3.br w _ 0 _).cell 0) Try.underlying27 rfl ⟨?_, threeBelow _ _ _ _⟩
              rw [HV.out, ← HW1.out]
              simp only [vC, HE.out, st, decide_false, false_and]
              rfl
          · have hno : Hid (vpV bs = noV) := Lib.hid (by unfold vpV; rw [if_neg (by rw [← HW1.out]; omega)])
            clear HW2
            go_wp2
            unfold V3 vs3
            go_region
            go_wp2
            refine ret_two rfl rfl rfl (firstB w [.bool false, .int .u8 0, .bool false, .bool false, .int .u16 0, .bool false, .int .i64 0] _ _ _).drew (rowVp rfl) ((V3.br w _ Q _).cell 0) Try.underlying27 rfl ⟨?_, (threeBelow _ _ _ _).drew⟩
            rw [hno.out, ← HW1.out]
            rfl
end Go.Proofs.Ytpflgkepgoicjaa
