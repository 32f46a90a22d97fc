/- OctetsNums's walk: the number at any place of any bytes, what putting one makes, and that what was put is there: the law answers true, and nothing that was there is written. Condition: none beyond those of the statement. -/
import Derived.Test.YtpmmifbaoccajaaOctLaw
import Derived.Deep.RegionHeld3
import Derived.Deep.DeepCutAuto
namespace Go.Proofs.Ytpmmifbaoccajaa
open Go.RowKit
set_option linter.unusedVariables false

/-- What the two Nums and There answer at one place. -/
theorem nums_at (A : Option Addr) (nb c : Nat) (bs : List UInt8) (a n : Int) (hs : nb ≤ 300) (hn : -9223372036854775808 ≤ n ∧ n ≤ 9223372036854775807) (ha : -9223372036854775808 ≤ a ∧ a ≤ 9223372036854775807) :
    ∃ (ok : Bool) (Y : Int), (∀ W, RdS W A nb c bs → Calls Try.prog 7 #[.slice A nb c, .int .i64 a, .int .i64 n] W fun e w' => e = .returned (.tuple #[.int .u64 Y, .bool ok]) ∧ W = w') ∧
      (∀ W, Calls Try.prog 8 #[.slice A nb c, .int .i64 a, .int .i64 n] W fun e w' => e = .returned (.bool ok) ∧ W = w') ∧
      (ok = true → ∀ W, RdS W A nb c bs → Calls Try.prog 9 #[.slice A nb c, .int .i64 a, .int .i64 n] W fun e w' => e = .returned (.int .u64 Y) ∧ W = w') ∧ (ok = false → Y = 0) := by
  by_cases h : n < 1 ∨ 8 < n ∨ a < 0 ∨ (nb : Int) - n < a
  · exact ⟨false, 0, fun W hr => num_no A nb c bs a n W hr h, fun W => rthere_no A nb c a n W (by omega) hn ha h, fun h => by simp at h, fun _ => rfl⟩
  · obtain ⟨m, rfl⟩ := Int.eq_ofNat_of_zero_le (show 0 ≤ n by omega)
    obtain ⟨p, rfl⟩ := Int.eq_ofNat_of_zero_le (show 0 ≤ a by omega)
    exact ⟨true, numb ((bs.drop p).take m), fun W hr => num_yes A nb c bs p m W hr (by omega) (by omega) (by omega), fun W => rthere_yes A nb c p m W (by omega) (by omega) (by omega) (by omega) (by omega),
      fun _ W hr => rnum_yes A nb c bs p m W hr (by omega) (by omega) (by omega), fun h => by simp at h⟩

/-- What the two Puts make, and what is then there. -/
theorem puts_at (A : Option Addr) (nb c : Nat) (bs : List UInt8) (n : Int) (X : Nat) (hl : bs.length = nb) (hs : nb ≤ 300) (hX : X < 18446744073709551616) :
    ∃ (out : List UInt8) (ok : Bool) (Z : Int), out.length ≤ 308 ∧
      (∀ W, RdS W A nb c bs → Calls Try.prog 10 #[.slice A nb c, .int .i64 n, .int .u64 X] W fun e w' => ∃ g, e = .returned (.slice (some ⟨g, 0, none⟩) out.length out.length) ∧ Blk w' g 5 out ∧ Below W.heap.size W w') ∧
      (∀ W, RdS W A nb c bs → Calls Try.prog 11 #[.slice A nb c, .int .i64 n, .int .u64 X] W (Made W out)) ∧
      (∀ W A' c', RdS W A' out.length c' out → Calls Try.prog 7 #[.slice A' out.length c', .int .i64 nb, .int .i64 n] W fun e w' => e = .returned (.tuple #[.int .u64 Z, .bool ok]) ∧ W = w') ∧
      (n < 1 ∨ 8 < n → ok = false) ∧ (∀ m : Nat, n = m → 1 ≤ m → m ≤ 8 → ok = true ∧ Z = ((X % 256 ^ m : Nat) : Int)) := by
  by_cases h : n < 1 ∨ 8 < n
  · refine ⟨bs, false, 0, by omega, fun W hr => (put_none A nb c bs n X W hr h (by omega)).mono fun _ _ ⟨he, hB, hb⟩ => ⟨_, by rw [hl]; exact he, hB, hb⟩, fun W hr => rput_none A nb c bs n X W hr h (by omega), fun W A' c' hr => num_no A' _ c' bs nb n W hr (by omega), fun _ => rfl, fun m hm h1 h2 => by omega⟩
  · obtain ⟨m, rfl⟩ := Int.eq_ofNat_of_zero_le (show 0 ≤ n by omega)
    have hlen : (bs ++ beb m X).length = nb + m := by simp [hl, length_beb]
    have hnum : numb (((bs ++ beb m X).drop nb).take m) = X % 256 ^ m := by
      rw [← hl, List.drop_left, List.take_of_length_le (by rw [length_beb]; exact Nat.le_refl _), numb_beb]
    refine ⟨bs ++ beb m X, true, ((X % 256 ^ m : Nat) : Int), by omega, fun W hr => (put_some A nb c bs m X W hr (by omega) (by omega) hX (by omega)).mono fun _ _ ⟨he, hB, hb⟩ => ⟨_, by rw [hlen]; exact he, hB, hb⟩,
      fun W hr => rput_some A nb c bs m X W hr (by omega) (by omega) hX (by omega), fun W A' c' hr => ?_, fun h' => by omega, fun m' hm _ _ => ?_⟩
    · have := num_yes A' _ c' _ nb m W hr (by omega) (by omega) (by omega)
      rw [hnum] at this
      exact this
    · have : m' = m := by omega
      subst this
      exact ⟨rfl, rfl⟩

set_option maxRecDepth 100000 in
set_option maxHeartbeats 1000000 in
theorem octetsNums_walk (A : Option Addr) (nb c : Nat) (bs : List UInt8) (a n x : Int) (w : World) (hr : RdS w A nb c bs) (ha : (Lit.int .i64 a).wf = true) (hn : (Lit.int .i64 n).wf = true) (hx : (Lit.int .u64 x).wf = true) :
    Calls Try.prog 3 #[.slice A nb c, .int .i64 a, .int .i64 n, .int .u64 x] w fun e w' => e = .returned (.bool true) ∧ Below w.heap.size w w' := by
  have hs := hr.small
  have hab := bounds_i64 ha
  have hnb := bounds_i64 hn
  have hxb := bounds_u64 hx
  obtain ⟨X, rfl⟩ := Int.eq_ofNat_of_zero_le hxb.1
  clear ha hn hx
  by_cases h1 : 300 < nb
  · have hd1 : (300 : Int) < (nb : Int) := by omega
    go_enter Try.func3, Try.ntmps3
    go_wp2_with (go_at_call 6; refine (alive_any _).mono ?_; rintro e w1 ⟨rfl, hb1⟩)
    go_ret
    exact ⟨rfl, hb1⟩
  have hd1 : decide ((300 : Int) < (nb : Int)) = false := by simp; omega
  have hl := hr.len
  obtain ⟨ok, Y, H1, H8, H9, H0⟩ := nums_at A nb c bs a n (by omega) hnb hab
  obtain ⟨out, ok2, Z, hol, H10, H11, H7, HF, HT⟩ := puts_at A nb c bs n X hl (by omega) (by omega)
  have H1' := Lib.hid H1
  have H8' := Lib.hid H8
  have H10' := Lib.hid H10
  have H11' := Lib.hid H11
  have H7' := Lib.hid H7
  have HF' := Lib.hid HF
  have HT' := Lib.hid HT
  clear H1 H8 H10 H11 H7 HF HT hl
  obtain ⟨L, hL⟩ : ∃ L, L = out.length := ⟨_, rfl⟩
  rw [← hL] at H10' H7' hol
  have HL := Lib.hid hL
  clear hL
  have htxt := txt_toList
  cases ok
  · obtain rfl : Y = 0 := H0 rfl
    clear H0 H9
    go_enter Try.func3, Try.ntmps3
    go_wp2_with (first
      | (go_at_call 6; refine (alive_any _).mono ?_; rintro e w1 ⟨rfl, hb1⟩; have hr1 := hr.below hb1; have hcv1 := conv_rd hr1)
      | (go_at_call 7; ((with_reducible refine (Hid.out H1' _ hr1).mono ?_); rintro e w' ⟨rfl, rfl⟩))
      | (go_at_call 8; ((with_reducible refine (Hid.out H8' _).mono ?_); rintro e w' ⟨rfl, rfl⟩))
      | (go_at_call 9; ((with_reducible refine (Hid.out H9' _ hr1).mono ?_); rintro e w' ⟨rfl, rfl⟩))
      | (go_at_call 10; ((with_reducible refine (Hid.out H10' _ hr1).mono ?_); rintro e w2 ⟨g, rfl, hB, hb2⟩; have hr2 := hr1.below hb2; have hcv2 := conv_rd hr2; have hro := hB.rd (n := L) (c := L) (Hid.out HL).symm (Nat.le_refl _) (by simp [maxLen]; omega); have hcv3 := conv_rd hro)))
    clear hcv1
    go_cut [71] (fun s wx => s = .bool false ∧ RdS wx A nb c bs ∧ RdS wx (some ⟨g, 0, none⟩) L L out ∧ Below w2.heap.size w2 wx)
    case first =>
      refine wp_region_noPanic ?_
      go_region_held (fun wx => (convert 22 9 (.slice A nb c)).run Try.prog wx = .ok (.string (txt bs)) wx ∧ (convert 22 9 (.slice (some ⟨g, 0, none⟩) L L)).run Try.prog wx = .ok (.string (txt out)) wx ∧ RdS wx A nb c bs ∧ RdS wx (some ⟨g, 0, none⟩) L L out ∧ Below w2.heap.size w2 wx)
        (first | exact ⟨conv_rd (RdS.drew hr2), conv_rd (RdS.drew hro), RdS.drew hr2, RdS.drew hro, (Below.refl _ _).drew⟩ | exact ⟨conv_rd (hr2.below hb4), conv_rd (hro.below hb4), hr2.below hb4, hro.below hb4, hb4⟩ | assumption)
        (first | (go_at_call 11; go_split_ands; refine (Hid.out H11' _ (by assumption)).mono ?_; have hbW := ‹Below w2.heap.size w2 _›; rintro e w3 ⟨v3, rfl, ho3, hb3⟩; have hb4 := hbW.trans (hb3.mono hbW.size); have hcv4 := conv_own ho3))
      all_goals refine NoPanic.normal ?_
      all_goals (go_wp2_with fail; go_meet; exact ⟨rfl, RdS.below hr2 hb4, RdS.below hro hb4, hb4⟩)
    case rest =>
      obtain ⟨rfl, hrA, hrO, hb5⟩ := hcut
      have hw5 : Below w.heap.size w wc := (hb1.trans (hb2.mono hb1.size)).trans (hb5.mono (Nat.le_trans hb1.size hb2.size))
      by_cases hv : n < 1 ∨ 8 < n
      · have ho2 := Hid.out HF' hv
        subst ho2
        clear HT' HF' H10' H11' H1' H8' hcv2 hcv3
        have hd : n < 1 ∨ (1 ≤ n ∧ decide (8 < n) = true) := by
          rcases hv with h | h
          · exact .inl h
          · exact .inr ⟨by omega, by simpa using h⟩
        clear hv
        rcases hd with h | ⟨h, h'⟩
        all_goals
          go_wp2_with (go_at_call 7; ((with_reducible refine (Hid.out H7' _ _ _ hrO).mono ?_); rintro e w' ⟨rfl, rfl⟩))
          go_ret
          exact ⟨rfl, hw5⟩
      · obtain ⟨m, hmn⟩ := Int.eq_ofNat_of_zero_le (show 0 ≤ n by omega)
        have hm : (n = 8 ∧ m = 8) ∨ (n = 1 ∧ m = 1) ∨ (n = 2 ∧ m = 2) ∨ (n = 3 ∧ m = 3) ∨ (n = 4 ∧ m = 4) ∨ (n = 5 ∧ m = 5) ∨ (n = 6 ∧ m = 6) ∨ (n = 7 ∧ m = 7) := by omega
        obtain ⟨hok, hZ⟩ := Hid.out HT' m hmn (by omega) (by omega)
        subst hok
        clear HT' HF' H10' H11' H1' H8' hv hcv2 hcv3
        have hZ2 : Z = (X : Int) % (256 ^ m : Nat) := by rw [hZ]; simp
        clear hZ
        rcases hm with ⟨rfl, rfl⟩ | ⟨rfl, rfl⟩ | ⟨rfl, rfl⟩ | ⟨rfl, rfl⟩ | ⟨rfl, rfl⟩ | ⟨rfl, rfl⟩ | ⟨rfl, rfl⟩ | ⟨rfl, rfl⟩
        · have hZ' : Z = (X : Int) := by simp only [Nat.reducePow] at hZ2; omega
          subst hZ'
          clear hZ2 hmn
          go_wp2_with (go_at_call 7; ((with_reducible refine (Hid.out H7' _ _ _ hrO).mono ?_); rintro e w' ⟨rfl, rfl⟩))
          go_ret
          exact ⟨rfl, hw5⟩
        all_goals
          simp only [Nat.reducePow, Int.cast_ofNat_Int] at hZ2
          subst hZ2
          clear hmn
          go_wp2_with (go_at_call 7; ((with_reducible refine (Hid.out H7' _ _ _ hrO).mono ?_); rintro e w' ⟨rfl, rfl⟩))
          go_ret
          exact ⟨rfl, hw5⟩
  · clear H0
    have H9' := Lib.hid (H9 rfl)
    clear H9
    go_enter Try.func3, Try.ntmps3
    go_wp2_with (first
      | (go_at_call 6; refine (alive_any _).mono ?_; rintro e w1 ⟨rfl, hb1⟩; have hr1 := hr.below hb1; have hcv1 := conv_rd hr1)
      | (go_at_call 7; ((with_reducible refine (Hid.out H1' _ hr1).mono ?_); rintro e w' ⟨rfl, rfl⟩))
      | (go_at_call 8; ((with_reducible refine (Hid.out H8' _).mono ?_); rintro e w' ⟨rfl, rfl⟩))
      | (go_at_call 9; ((with_reducible refine (Hid.out H9' _ hr1).mono ?_); rintro e w' ⟨rfl, rfl⟩))
      | (go_at_call 10; ((with_reducible refine (Hid.out H10' _ hr1).mono ?_); rintro e w2 ⟨g, rfl, hB, hb2⟩; have hr2 := hr1.below hb2; have hcv2 := conv_rd hr2; have hro := hB.rd (n := L) (c := L) (Hid.out HL).symm (Nat.le_refl _) (by simp [maxLen]; omega); have hcv3 := conv_rd hro)))
    clear hcv1
    go_cut [71] (fun s wx => s = .bool false ∧ RdS wx A nb c bs ∧ RdS wx (some ⟨g, 0, none⟩) L L out ∧ Below w2.heap.size w2 wx)
    case first =>
      refine wp_region_noPanic ?_
      go_region_held (fun wx => (convert 22 9 (.slice A nb c)).run Try.prog wx = .ok (.string (txt bs)) wx ∧ (convert 22 9 (.slice (some ⟨g, 0, none⟩) L L)).run Try.prog wx = .ok (.string (txt out)) wx ∧ RdS wx A nb c bs ∧ RdS wx (some ⟨g, 0, none⟩) L L out ∧ Below w2.heap.size w2 wx)
        (first | exact ⟨conv_rd (RdS.drew hr2), conv_rd (RdS.drew hro), RdS.drew hr2, RdS.drew hro, (Below.refl _ _).drew⟩ | exact ⟨conv_rd (hr2.below hb4), conv_rd (hro.below hb4), hr2.below hb4, hro.below hb4, hb4⟩ | assumption)
        (first | (go_at_call 11; go_split_ands; refine (Hid.out H11' _ (by assumption)).mono ?_; have hbW := ‹Below w2.heap.size w2 _›; rintro e w3 ⟨v3, rfl, ho3, hb3⟩; have hb4 := hbW.trans (hb3.mono hbW.size); have hcv4 := conv_own ho3))
      all_goals refine NoPanic.normal ?_
      all_goals (go_wp2_with fail; go_meet; exact ⟨rfl, RdS.below hr2 hb4, RdS.below hro hb4, hb4⟩)
    case rest =>
      obtain ⟨rfl, hrA, hrO, hb5⟩ := hcut
      have hw5 : Below w.heap.size w wc := (hb1.trans (hb2.mono hb1.size)).trans (hb5.mono (Nat.le_trans hb1.size hb2.size))
      by_cases hv : n < 1 ∨ 8 < n
      · have ho2 := Hid.out HF' hv
        subst ho2
        clear HT' HF' H10' H11' H1' H8' H9' hcv2 hcv3
        have hd : n < 1 ∨ (1 ≤ n ∧ decide (8 < n) = true) := by
          rcases hv with h | h
          · exact .inl h
          · exact .inr ⟨by omega, by simpa using h⟩
        clear hv
        rcases hd with h | ⟨h, h'⟩
        all_goals
          go_wp2_with (go_at_call 7; ((with_reducible refine (Hid.out H7' _ _ _ hrO).mono ?_); rintro e w' ⟨rfl, rfl⟩))
          go_ret
          exact ⟨rfl, hw5⟩
      · obtain ⟨m, hmn⟩ := Int.eq_ofNat_of_zero_le (show 0 ≤ n by omega)
        have hm : (n = 8 ∧ m = 8) ∨ (n = 1 ∧ m = 1) ∨ (n = 2 ∧ m = 2) ∨ (n = 3 ∧ m = 3) ∨ (n = 4 ∧ m = 4) ∨ (n = 5 ∧ m = 5) ∨ (n = 6 ∧ m = 6) ∨ (n = 7 ∧ m = 7) := by omega
        obtain ⟨hok, hZ⟩ := Hid.out HT' m hmn (by omega) (by omega)
        subst hok
        clear HT' HF' H10' H11' H1' H8' H9' hv hcv2 hcv3
        have hZ2 : Z = (X : Int) % (256 ^ m : Nat) := by rw [hZ]; simp
        clear hZ
        rcases hm with ⟨rfl, rfl⟩ | ⟨rfl, rfl⟩ | ⟨rfl, rfl⟩ | ⟨rfl, rfl⟩ | ⟨rfl, rfl⟩ | ⟨rfl, rfl⟩ | ⟨rfl, rfl⟩ | ⟨rfl, rfl⟩
        · have hZ' : Z = (X : Int) := by simp only [Nat.reducePow] at hZ2; omega
          subst hZ'
          clear hZ2 hmn
          go_wp2_with (go_at_call 7; ((with_reducible refine (Hid.out H7' _ _ _ hrO).mono ?_); rintro e w' ⟨rfl, rfl⟩))
          go_ret
          exact ⟨rfl, hw5⟩
        all_goals
          simp only [Nat.reducePow, Int.cast_ofNat_Int] at hZ2
          subst hZ2
          clear hmn
          go_wp2_with (go_at_call 7; ((with_reducible refine (Hid.out H7' _ _ _ hrO).mono ?_); rintro e w' ⟨rfl, rfl⟩))
          go_ret
          exact ⟨rfl, hw5⟩
end Go.Proofs.Ytpmmifbaoccajaa
