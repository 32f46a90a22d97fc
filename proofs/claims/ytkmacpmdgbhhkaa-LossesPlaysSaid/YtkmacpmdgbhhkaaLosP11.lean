/- Contracts of package losses: Report. No statement is proved here. -/
import Derived.Test.YtkmacpmdgbhhkaaLosP6
import Derived.Test.YtkmacpmdgbhhkaaLosRep2
import Derived.Laws.Bits64b
namespace Go.Proofs.Ytkmacpmdgbhhkaa
open Go.RowKit
set_option linter.unusedVariables false

theorem mask20 (a : Nat) (ha : a < 18446744073709551616) : bits .and .u64 (a : Int) 4294967295 = ((a % 4294967296 : Nat) : Int) := by
  have h := bits_and_u64_nat a 4294967295 ha (by omega)
  have e : a &&& 4294967295 = a % 4294967296 := Nat.and_two_pow_sub_one_eq_mod a 32
  rw [e] at h
  exact h
/-- bits.Mul64 by 256, where the product is small. -/
theorem mul256_any20 (x : Nat) (hx : x ≤ 8796093022208) (w : World) : Calls Try.prog 36 #[.int .u64 (x : Int), .int .u64 256] w fun e w' => e = .returned (.tuple #[.int .u64 0, .int .u64 ((x : Int) * 256)]) ∧ w' = w := by
  have m1 := mask20 x (by omega)
  have m2 : bits .and .u64 256 4294967295 = 256 := by have := mask20 256 (by omega); simpa using this
  obtain ⟨a, ha⟩ : ∃ a, a = x / 4294967296 * 256 := ⟨_, rfl⟩
  obtain ⟨b, hb⟩ : ∃ b, b = x % 4294967296 * 256 := ⟨_, rfl⟩
  obtain ⟨t, ht⟩ : ∃ t, t = a + b / 4294967296 := ⟨_, rfl⟩
  have ha2 : a ≤ 524288 := by omega
  have hb2 : b / 4294967296 ≤ 256 := by omega
  have wa : IntKind.u64.wrap ((x : Int) / 4294967296 * 256) = (a : Int) := by rw [IntKind.wrap_u64]; omega
  have wb : IntKind.u64.wrap ((x : Int) % 4294967296 * 256) = (b : Int) := by rw [IntKind.wrap_u64]; omega
  have wt : IntKind.u64.wrap ((a : Int) + (b : Int) / 4294967296) = (t : Int) := by rw [IntKind.wrap_u64]; omega
  have mt := mask20 t (by omega)
  have mt2 : bits .and .u64 (t : Int) 4294967295 = (t : Int) := by rw [mt]; omega
  have t0 : (t : Int) / 4294967296 = 0 := by omega
  have wt2 : IntKind.u64.wrap (t : Int) = (t : Int) := by rw [IntKind.wrap_u64]; omega
  clear ha hb ht mt
  go_enter Try.func36, Try.ntmps36
  go_wp2
  go_ret2
  exact ⟨rfl, rfl⟩
theorem div_any20 (y d : Nat) (hd : 0 < d) (hy : y < 18446744073709551616) (w : World) : Calls Try.prog 37 #[.int .u64 0, .int .u64 (y : Int), .int .u64 (d : Int)] w fun e w' => ∃ r, e = .returned (.tuple #[.int .u64 ((y / d : Nat) : Int), .int .u64 r]) ∧ ∃ n, w' = w.drewN n := by
  have h0 : ¬ (d : Int) = 0 := by omega
  have h1 : ¬ (d : Int) ≤ 0 := by omega
  have hle : y / d ≤ y := Nat.div_le_self _ _
  obtain ⟨q, hq⟩ : ∃ q, q = y / d := ⟨_, rfl⟩
  have e1 : (y : Int) / (d : Int) = (q : Int) := by rw [hq]; simp
  have e2 : IntKind.u64.wrap (q : Int) = (q : Int) := by rw [IntKind.wrap_u64]; omega
  rw [← hq]
  clear hq
  go_enter Try.func37, Try.ntmps37
  go_wp2
  go_quiet (fail)
  go_wp2
  go_ret2
  exact ⟨_, rfl, _, rfl⟩
theorem lost_any20 (bE bR bH : Int) (bV : Bool) (w : World) (h3 : -1099511627776 ≤ bE ∧ bE ≤ 1099511627776) (h4 : -1099511627776 ≤ bR ∧ bR ≤ 1099511627776) :
    Calls Try.prog 28 #[.agg #[.int .i64 bE, .int .i64 bR, .int .i64 bH, .bool bV]] w fun e w' => e = .returned (.int .i32 (lostK bE bR)) ∧ Below w.heap.size w w' := by
  have hb : ∀ o, Below w.heap.size w (w.alloc o) := fun o => (Below.refl _ _).alloc (Nat.le_refl _) _
  have HB := Lib.hid hb
  clear hb
  by_cases h : bE < bR
  · have HC := Lib.hid (fun wx => above_any20 bE bR (bR - bE) wx rfl (by omega) (by omega) (by omega))
    go_enter Try.func28, Try.ntmps28
    go_wp2_with (go_at_call 35; ((with_reducible refine (Hid.out HC _).mono ?_); rintro e w' ⟨rfl, rfl⟩))
    all_goals (
      go_ret
      refine ⟨congrArg (fun z => Ending.returned (Value.int .i32 z)) ?_, HB.out _⟩
      unfold lostK
      repeat' split
      all_goals omega)
  · have HC := Lib.hid (fun wx => above_any20 bR bE (bE - bR) wx rfl (by omega) (by omega) (by omega))
    go_enter Try.func28, Try.ntmps28
    go_wp2_with (go_at_call 35; ((with_reducible refine (Hid.out HC _).mono ?_); rintro e w' ⟨rfl, rfl⟩))
    all_goals (
      go_ret
      refine ⟨congrArg (fun z => Ending.returned (Value.int .i32 z)) ?_, HB.out _⟩
      unfold lostK
      repeat' split
      all_goals omega)
end Go.Proofs.Ytkmacpmdgbhhkaa
