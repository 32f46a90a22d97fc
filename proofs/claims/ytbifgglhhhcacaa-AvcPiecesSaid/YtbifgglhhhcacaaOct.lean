/- What the functions of package octets answer, and what they leave of memory: contracts that the proofs of the statements use. No statement is proved here. -/
import Derived.Test.YtbifgglhhhcacaaProg
import Derived.Test.YtbifgglhhhcacaaBytes
import Derived.Test.YtbifgglhhhcacaaNums
import Derived.KernelRfl
import Derived.Lib.Hide
namespace Go.Proofs.Ytbifgglhhhcacaa
open Go.RowKit
set_option linter.unusedVariables false

theorem width_yes (n : Int) (w : World) (h1 : 1 ≤ n) (h2 : n ≤ 8) : Calls Try.prog 15 #[.int .i64 n] w fun e w' => e = .returned (.bool true) ∧ w = w' := by
  go_enter Try.func15, Try.ntmps15
  go_wp2
  go_ret
  exact ⟨rfl, rfl⟩
theorem width_no (n : Int) (w : World) (h : n < 1 ∨ 8 < n) : Calls Try.prog 15 #[.int .i64 n] w fun e w' => e = .returned (.bool false) ∧ w = w' := by
  rcases h with h | h
  · go_enter Try.func15, Try.ntmps15
    go_wp2
    go_ret
    exact ⟨rfl, rfl⟩
  · have h1 : 1 ≤ n := by omega
    have hd : decide (n ≤ 8) = false := by simp; omega
    go_enter Try.func15, Try.ntmps15
    go_wp2
    go_ret
    exact ⟨rfl, rfl⟩

theorem num_no (A : Option Addr) (nb c : Nat) (bs : List UInt8) (a n : Int) (w : World) (hr : RdS w A nb c bs) (h : n < 1 ∨ 8 < n ∨ a < 0 ∨ (nb : Int) - n < a) :
    Calls Try.prog 14 #[.slice A nb c, .int .i64 a, .int .i64 n] w fun e w' => e = .returned (.tuple #[.int .u64 0, .bool false]) ∧ w = w' := by
  have hs := hr.small
  by_cases h1 : n < 1 ∨ 8 < n
  · go_enter Try.func14, Try.ntmps14
    go_wp2_with (go_at_call 15; refine (width_no _ _ (by omega)).mono ?_; rintro e w' ⟨rfl, rfl⟩)
    go_ret2
    exact ⟨rfl, rfl⟩
  · have h2 : 1 ≤ n ∧ n ≤ 8 := by omega
    obtain ⟨h3, h4⟩ := h2
    by_cases h5 : a < 0
    · go_enter Try.func14, Try.ntmps14
      go_wp2_with (go_at_call 15; refine (width_yes _ _ (by omega) (by omega)).mono ?_; rintro e w' ⟨rfl, rfl⟩)
      go_ret2
      exact ⟨rfl, rfl⟩
    · have h6 : 0 ≤ a := by omega
      have h7 : (nb : Int) - n < a := by omega
      go_enter Try.func14, Try.ntmps14
      go_wp2_with (go_at_call 15; refine (width_yes _ _ (by omega) (by omega)).mono ?_; rintro e w' ⟨rfl, rfl⟩)
      go_ret2
      exact ⟨rfl, rfl⟩

theorem num_yes (A : Option Addr) (nb c : Nat) (bs : List UInt8) (p m : Nat) (w : World) (hr : RdS w A nb c bs) (h1 : 1 ≤ m) (h2 : m ≤ 8) (h3 : p + m ≤ nb) :
    Calls Try.prog 14 #[.slice A nb c, .int .i64 p, .int .i64 m] w fun e w' => e = .returned (.tuple #[.int .u64 (numb ((bs.drop p).take m)), .bool true]) ∧ w = w' := by
  have hs := hr.small
  have hlen := hr.len
  obtain ⟨b, off, rfl, hlt, hc⟩ := hr.2.2.2.2 (by omega)
  go_enter Try.func14, Try.ntmps14
  go_wp2_with (go_at_call 15; refine (width_yes _ _ (by omega) (by omega)).mono ?_; rintro e w' ⟨rfl, rfl⟩)
  go_loop [8, 26] (fun x i => ∃ k : Nat, k ≤ m ∧ i = .int .i64 k ∧ x = .int .u64 (numb ((bs.drop p).take k))) (fun _ i => m - (intOf i).toNat)
  case atStart => exact ⟨0, by omega, rfl, by simp [numb]⟩
  case round =>
    obtain ⟨k, hk, rfl, rfl⟩ := hrel
    by_cases hlt : k < m
    · have hcell := hc (p + k) (by omega)
      have hst := num_step (bs.drop p) k (by simp; omega) (by omega)
      have hg : (bs.drop p).getD k 0 = bs.getD (p + k) 0 := by simp [List.getD]
      rw [hg] at hst
      have HS := Lib.hid hst
      clear hst hg
      obtain ⟨y, hy⟩ : ∃ y : UInt8, y = bs.getD (p + k) 0 := ⟨_, rfl⟩
      rw [← hy] at hcell HS
      have HY := Lib.hid hy
      clear hy
      go_wp2
      go_round
      case rel => exact ⟨k + 1, by omega, by go_num, by rw [HS.out]⟩
      case measure => simp [intOf]; omega
    · have hkm : k = m := by omega
      subst hkm
      go_wp2
      go_ret2
      exact ⟨rfl, rfl⟩

theorem u8_info : (Try.prog.info? 5).map (fun i => (i.zero, i.size, i.bytes)) = some (some (.int .u8 0), 1, 1) := by kernel_rfl

end Go.Proofs.Ytbifgglhhhcacaa
