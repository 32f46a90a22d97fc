/- OctetsOwn's walk: whatever is put or filled behind the first bytes of a slice, the law answers true and nothing that was there is written. Condition: none beyond those of the statement. -/
import Derived.Test.YtpmmifbaoccajaaOctLaw
namespace Go.Proofs.Ytpmmifbaoccajaa
open Go.RowKit
set_option linter.unusedVariables false

theorem put_below (A : Option Addr) (nb c : Nat) (bs : List UInt8) (n : Int) (x : Nat) (w : World) (hr : RdS w A nb c bs) (hx : x < 18446744073709551616) (hs : nb ≤ 300) :
    Calls Try.prog 10 #[.slice A nb c, .int .i64 n, .int .u64 x] w fun e w' => ∃ v, e = .returned v ∧ Below w.heap.size w w' := by
  by_cases h : n < 1 ∨ 8 < n
  · exact (put_none A nb c bs n x w hr h (by omega)).mono fun _ _ ⟨he, _, hb⟩ => ⟨_, he, hb⟩
  · obtain ⟨m, rfl⟩ := Int.eq_ofNat_of_zero_le (show 0 ≤ n by omega)
    exact (put_some A nb c bs m x w hr (by omega) (by omega) hx (by omega)).mono fun _ _ ⟨he, _, hb⟩ => ⟨_, he, hb⟩
theorem fill_below (A : Option Addr) (nb c : Nat) (bs : List UInt8) (n : Int) (w : World) (hr : RdS w A nb c bs) (hn : n ≤ 300) (hs : nb ≤ 300) :
    Calls Try.prog 15 #[.slice A nb c, .int .i64 n] w fun e w' => ∃ v, e = .returned v ∧ Below w.heap.size w w' := by
  by_cases h : n < 1
  · exact (fill_none A nb c bs n w hr h (by omega)).mono fun _ _ ⟨he, _, hb⟩ => ⟨_, he, hb⟩
  · obtain ⟨m, rfl⟩ := Int.eq_ofNat_of_zero_le (show 0 ≤ n by omega)
    exact (fill_some A nb c bs m w hr (by omega) (by omega) (by omega)).mono fun _ _ ⟨he, _, hb⟩ => ⟨_, he, hb⟩

theorem RdS.take {w : World} {A : Option Addr} {n c : Nat} {bs : List UInt8} (h : RdS w A n c bs) (k : Nat) (hk : k ≤ n) : RdS w A k c (bs.take k) := by
  refine ⟨by rw [List.length_take, h.1]; omega, Nat.le_trans hk h.le, h.max, h.2.2.2.1, fun h0 => ?_⟩
  obtain ⟨b, off, hA, hl, hc⟩ := h.2.2.2.2 (by omega)
  refine ⟨b, off, hA, hl, fun j hj => ?_⟩
  rw [hc j (by omega)]
  simp [List.getD, hj]

theorem octetsOwn_walk (A : Option Addr) (nb c : Nat) (bs : List UInt8) (cut n x : Int) (w : World) (hr : RdS w A nb c bs) (hcut : (Lit.int .u8 cut).wf = true) (hn : (Lit.int .i64 n).wf = true) (hx : (Lit.int .u64 x).wf = true) :
    Calls Try.prog 5 #[.slice A nb c, .int .u8 cut, .int .i64 n, .int .u64 x] w fun e w' => e = .returned (.bool true) ∧ Below w.heap.size w w' := by
  have hs := hr.small
  have hcb := bounds_u8 hcut
  have hxb := bounds_u64 hx
  obtain ⟨q, rfl⟩ := Int.eq_ofNat_of_zero_le hcb.1
  obtain ⟨X, rfl⟩ := Int.eq_ofNat_of_zero_le hxb.1
  clear hcut hn hx
  by_cases h0 : nb = 0
  · have hd : ((nb : Int) == 0) = true := by simp; omega
    clear h0
    go_enter Try.func5, Try.ntmps5
    go_wp2_with (go_at_call 6; refine (alive_any _).mono ?_; rintro e w1 ⟨rfl, hb1⟩)
    go_ret
    exact ⟨rfl, hb1⟩
  have hd : ((nb : Int) == 0) = false := by simp; omega
  by_cases h1 : 300 < nb
  · have hd1 : decide ((300 : Int) < (nb : Int)) = true := by simp; omega
    go_enter Try.func5, Try.ntmps5
    go_wp2_with (go_at_call 6; refine (alive_any _).mono ?_; rintro e w1 ⟨rfl, hb1⟩)
    go_ret
    exact ⟨rfl, hb1⟩
  have hd1 : decide ((300 : Int) < (nb : Int)) = false := by simp; omega
  by_cases h2 : 300 < n
  · have hd2 : decide ((300 : Int) < n) = true := by simp; omega
    go_enter Try.func5, Try.ntmps5
    go_wp2_with (go_at_call 6; refine (alive_any _).mono ?_; rintro e w1 ⟨rfl, hb1⟩)
    go_ret
    exact ⟨rfl, hb1⟩
  have hd2 : decide ((300 : Int) < n) = false := by simp; omega
  have hlt : q % nb < nb := Nat.mod_lt _ (by omega)
  obtain ⟨k, hk⟩ : ∃ k, k = q % nb := ⟨_, rfl⟩
  rw [← hk] at hlt
  have e1 : ((q : Int) % (nb : Int)) = (k : Int) := by rw [hk]; simp
  clear hk h0
  obtain ⟨b, off, hA, hlt', hc⟩ := hr.2.2.2.2 (by omega)
  subst hA
  clear hc
  have hle := hr.le
  have ht : ((txt bs).toList == (txt bs).toList) = true := by simp
  go_enter Try.func5, Try.ntmps5
  go_wp2_with (first
    | (go_at_call 6; refine (alive_any _).mono ?_; rintro e w1 ⟨rfl, hb1⟩; have hr1 := hr.below hb1; have hcv1 := conv_rd hr1; have hrk := hr1.take k (by omega))
    | (go_at_call 10; refine (put_below _ k c (bs.take k) n X _ hrk (by omega) (by omega)).mono ?_; rintro e w2 ⟨v2, rfl, hb2⟩; have hr2 := hr1.below hb2; have hrk2 := hrk.below hb2)
    | (go_at_call 15; refine (fill_below _ k c (bs.take k) n _ hrk2 (by omega) (by omega)).mono ?_; rintro e w3 ⟨v3, rfl, hb3⟩; have hr3 := hr2.below hb3; have hcv3 := conv_rd hr3))
  go_ret
  exact ⟨rfl, (hb1.trans (hb2.mono hb1.size)).trans (hb3.mono (Nat.le_trans hb1.size hb2.size))⟩
end Go.Proofs.Ytpmmifbaoccajaa
