/- OctetsOthers' walk: sums, bytes compared, bytes filled up: the law answers true, and nothing that was there is written. Condition: none beyond those of the statement. -/
import Derived.Test.YtpmmifbaoccajaaOctLaw
import Derived.Deep.RegionHeld3
namespace Go.Proofs.Ytpmmifbaoccajaa
open Go.RowKit
set_option linter.unusedVariables false

/-- What the two Fills make. -/
theorem fills_at (A : Option Addr) (nb c : Nat) (bs : List UInt8) (n : Int) (hl : bs.length = nb) (hs : nb ≤ 300) (hn : n ≤ 300) :
    ∃ (out : List UInt8), out.length ≤ 600 ∧
      (∀ W, RdS W A nb c bs → Calls Try.prog 15 #[.slice A nb c, .int .i64 n] W fun e w' => ∃ g, e = .returned (.slice (some ⟨g, 0, none⟩) out.length out.length) ∧ Blk w' g 5 out ∧ Below W.heap.size W w') ∧
      (∀ W, RdS W A nb c bs → Calls Try.prog 16 #[.slice A nb c, .int .i64 n] W (Made W out)) := by
  by_cases h : n < 1
  · exact ⟨bs, by omega, fun W hr => (fill_none A nb c bs n W hr h (by omega)).mono fun _ _ ⟨he, hB, hb⟩ => ⟨_, by rw [hl]; exact he, hB, hb⟩, fun W hr => rfill_none A nb c bs n W hr h (by omega)⟩
  · obtain ⟨m, rfl⟩ := Int.eq_ofNat_of_zero_le (show 0 ≤ n by omega)
    have hlk := lacks_lt nb m (by omega)
    have hlen : (bs ++ List.replicate (lacks nb m) (0 : UInt8)).length = nb + lacks nb m := by simp [hl]
    exact ⟨bs ++ List.replicate (lacks nb m) 0, by omega, fun W hr => (fill_some A nb c bs m W hr (by omega) (by omega) (by omega)).mono fun _ _ ⟨he, hB, hb⟩ => ⟨_, by rw [hlen]; exact he, hB, hb⟩,
      fun W hr => rfill_some A nb c bs m W hr (by omega) (by omega) (by omega)⟩

set_option maxRecDepth 100000 in
set_option maxHeartbeats 1000000 in
theorem octetsOthers_walk (a b : Int) (A : Option Addr) (na ca : Nat) (xs : List UInt8) (A' : Option Addr) (nb cb : Nat) (ys : List UInt8) (n : Int) (w : World) (ha : (Lit.int .u64 a).wf = true) (hb : (Lit.int .u64 b).wf = true) (hr : RdS w A na ca xs) (hr' : RdS w A' nb cb ys) (hn : (Lit.int .i64 n).wf = true) :
    Calls Try.prog 4 #[.int .u64 a, .int .u64 b, .slice A na ca, .slice A' nb cb, .int .i64 n] w fun e w' => e = .returned (.bool true) ∧ Below w.heap.size w w' := by
  have hs := hr.small
  have hs' := hr'.small
  have hab := bounds_u64 ha
  have hbb := bounds_u64 hb
  have hnb := bounds_i64 hn
  clear ha hb hn
  by_cases h1 : 300 < na
  · have hd1 : (300 : Int) < (na : Int) := by omega
    go_enter Try.func4, Try.ntmps4
    go_wp2_with (go_at_call 6; refine (alive_any _).mono ?_; rintro e w1 ⟨rfl, hb1⟩)
    go_ret
    exact ⟨rfl, hb1⟩
  have hd1 : decide ((300 : Int) < (na : Int)) = false := by simp; omega
  by_cases h2 : 300 < nb
  · have hd2 : (300 : Int) < (nb : Int) := by omega
    go_enter Try.func4, Try.ntmps4
    go_wp2_with (go_at_call 6; refine (alive_any _).mono ?_; rintro e w1 ⟨rfl, hb1⟩)
    go_ret
    exact ⟨rfl, hb1⟩
  have hd2 : decide ((300 : Int) < (nb : Int)) = false := by simp; omega
  by_cases h3 : 300 < n
  · go_enter Try.func4, Try.ntmps4
    go_wp2_with (go_at_call 6; refine (alive_any _).mono ?_; rintro e w1 ⟨rfl, hb1⟩)
    go_ret
    exact ⟨rfl, hb1⟩
  have hd3 : decide ((300 : Int) < n) = false := by simp; omega
  obtain ⟨out, hol, H15, H16⟩ := fills_at A na ca xs n hr.len (by omega) (by omega)
  obtain ⟨S, hS⟩ : ∃ S, S = satN a b := ⟨_, rfl⟩
  have H12 : ∀ W, Calls Try.prog 12 #[.int .u64 a, .int .u64 b] W fun e w' => e = .returned (.int .u64 S) ∧ W = w' := fun W => by rw [hS]; exact sat_any a b W (by omega) (by omega) (by omega) (by omega)
  have H13 : ∀ W, Calls Try.prog 13 #[.int .u64 a, .int .u64 b] W fun e w' => e = .returned (.int .u64 S) ∧ W = w' := fun W => by rw [hS]; exact rsat_any a b W (by omega) (by omega) (by omega) (by omega)
  obtain ⟨t, ht⟩ : ∃ t : Bool, t = decide (xs = ys) := ⟨_, rfl⟩
  have H14 : ∀ W, RdS W A na ca xs → RdS W A' nb cb ys → Calls Try.prog 14 #[.slice A na ca, .slice A' nb cb] W fun e w' => e = .returned (.bool t) ∧ W = w' := fun W h h' => same_any A na ca xs A' nb cb ys W h h' t ht
  have H14' : ∀ W, RdS W A na ca xs → Calls Try.prog 14 #[.slice A na ca, .slice A na ca] W fun e w' => e = .returned (.bool true) ∧ W = w' := fun W h => same_any A na ca xs A na ca xs W h h true (by simp)
  have hte : ((txt xs).toList == (txt ys).toList) = t := by rw [txt_toList, txt_toList, ht]; by_cases h : xs = ys <;> simp [h]
  have HO := Lib.hid (rfl : out.length = out.length)
  obtain ⟨L, hL⟩ : ∃ L, L = out.length := ⟨_, rfl⟩
  rw [← hL] at H15 hol
  have HL := Lib.hid hL
  have HH12 := Lib.hid H12
  have HH13 := Lib.hid H13
  have HH14 := Lib.hid H14
  have HH14' := Lib.hid H14'
  have HH15 := Lib.hid H15
  have HH16 := Lib.hid H16
  obtain ⟨s1, hs1⟩ : ∃ s1, s1 = txt xs := ⟨_, rfl⟩
  obtain ⟨s2, hs2⟩ : ∃ s2, s2 = txt ys := ⟨_, rfl⟩
  obtain ⟨s3, hs3⟩ : ∃ s3, s3 = txt out := ⟨_, rfl⟩
  rw [← hs1, ← hs2] at hte
  have HS1 := Lib.hid hs1
  have HS2 := Lib.hid hs2
  have HS3 := Lib.hid hs3
  have hse : (s3.toList == s3.toList) = true := by simp
  clear H12 H13 H14 H14' H15 H16 hL hS ht HO hs1 hs2 hs3
  go_enter Try.func4, Try.ntmps4
  go_wp2_with (go_at_call 6; refine (alive_any _).mono ?_; rintro e w1 ⟨rfl, hb1⟩; have hr1 := hr.below hb1; have hr1' := hr'.below hb1)
  have hlm : L ≤ maxLen := by simp [maxLen]; omega
  refine wp_region_noPanic ?_
  go_region_held (fun wx => (convert 22 9 (.slice A na ca)).run Try.prog wx = .ok (.string s1) wx ∧ (convert 22 9 (.slice A' nb cb)).run Try.prog wx = .ok (.string s2) wx ∧ RdS wx A na ca xs ∧ RdS wx A' nb cb ys ∧ Below w1.heap.size w1 wx)
    (first
      | exact ⟨conv_s (Hid.out HS1) (RdS.drew hr1), conv_s (Hid.out HS2) (RdS.drew hr1'), RdS.drew hr1, RdS.drew hr1', (Below.refl _ _).drew⟩
      | assumption
      | exact ⟨conv_s (Hid.out HS1) (RdS.below hr1 hb6'), conv_s (Hid.out HS2) (RdS.below hr1' hb6'), RdS.below hr1 hb6', RdS.below hr1' hb6', hb6'⟩
      | exact ⟨conv_s (Hid.out HS1) (RdS.below hr1 hb5'), conv_s (Hid.out HS2) (RdS.below hr1' hb5'), RdS.below hr1 hb5', RdS.below hr1' hb5', hb5'⟩)
    (first
      | (go_at_call 12; ((with_reducible refine (Hid.out HH12 _).mono ?_); rintro e w' ⟨rfl, rfl⟩))
      | (go_at_call 13; ((with_reducible refine (Hid.out HH13 _).mono ?_); rintro e w' ⟨rfl, rfl⟩))
      | (go_at_call 14; go_split_ands; ((with_reducible refine (Hid.out HH14 _ (by assumption) (by assumption)).mono ?_); rintro e w' ⟨rfl, rfl⟩))
      | (go_at_call 14; go_split_ands; ((with_reducible refine (Hid.out HH14' _ (by assumption)).mono ?_); rintro e w' ⟨rfl, rfl⟩))
      | (go_at_call 15; go_split_ands; ((with_reducible refine (Hid.out HH15 _ (by assumption)).mono ?_); have hbW := ‹Below w1.heap.size w1 _›; rintro e w5 ⟨g, rfl, hB5, hb5⟩; have hb5' := hbW.trans (hb5.mono hbW.size); have hcv5 := conv_s (Hid.out HS3) (hB5.rd (n := L) (c := L) (Hid.out HL).symm (Nat.le_refl _) hlm)))
      | (go_at_call 16; go_split_ands; ((with_reducible refine (Hid.out HH16 _ (by assumption)).mono ?_); rintro e w6 ⟨v6, rfl, ho6, hb6⟩; have hb6' := hb5'.trans (hb6.mono hb5'.size); have hcv6 := conv_so (Hid.out HS3) ho6; have hcv56 := conv_s (Hid.out HS3) ((hB5.below hb6 hB5.lt).rd (n := L) (c := L) (Hid.out HL).symm (Nat.le_refl _) hlm))))
  all_goals (refine NoPanic.normal ?_; go_wp2_with fail; go_ret; exact ⟨rfl, hb1.trans (hb6'.mono hb1.size)⟩)
end Go.Proofs.Ytpmmifbaoccajaa
