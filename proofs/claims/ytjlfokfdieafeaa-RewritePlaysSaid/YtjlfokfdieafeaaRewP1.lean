/- Contracts of package rewrite: spots. No statement is proved here. -/
import Derived.Test.YtjlfokfdieafeaaProg
import Derived.Test.YtjlfokfdieafeaaRewNum2
import Derived.Test.YtjlfokfdieafeaaRewR3
import Derived.Test.YtjlfokfdieafeaaOnK
import Derived.WalkKit
import Derived.KernelRfl
import Derived.IntWalk
import Derived.LoopTactic
import Derived.Lib.Hide
import Derived.OpenShut
import Derived.BigQuiet
namespace Go.Proofs.Ytjlfokfdieafeaa
open Go.RowKit
set_option linter.unusedVariables false

/-- A spot as a value: its i is the count. -/
def spv (x : Mpd) : List Value := [.int .u64 x.i, .int .u32 x.st, .int .u16 x.pc]
theorem rowSp : RowTy Try.prog 28 3 := ⟨_, Try.underlying28, rfl, by kernel_rfl⟩
theorem twoN (w : World) (A : Obj) : Below w.heap.size w (w.alloc A) := (Below.refl _ _).alloc (Nat.le_refl _) _
theorem threeB (w : World) (A B C : Obj) : Below w.heap.size w (((w.alloc A).alloc B).alloc C) := (twoBelow w A B).alloc (by simp; omega) _
theorem pic_is {e x t : Int} (he : 0 ≤ e ∧ e < 32768) (hx : 0 ≤ x ∧ x < 65536) (ht : 0 ≤ t ∧ t < 65536) : (IntKind.u16.wrap (e + IntKind.u16.wrap (x - t))).tmod 32768 = (e + x - t) % 32768 := by
  have h1 : ∀ v : Int, IntKind.u16.wrap v = v % 65536 := fun v => by simp [IntKind.wrap, IntKind.signed, IntKind.bits]
  rw [h1, h1, Int.tmod_eq_emod_of_nonneg (by omega)]
  omega
theorem cnt_is {c : Int} (h : 0 ≤ c ∧ c ≤ 9223372036854775808) : wrap64 (IntKind.u64.wrap (c - 1)) = c - 1 := by
  have h1 : IntKind.u64.wrap (c - 1) = (c - 1) % 18446744073709551616 := by simp [IntKind.wrap, IntKind.signed, IntKind.bits]
  rw [h1]
  unfold wrap64
  omega
theorem spotOf_any (x : Mpd) (w : World) (h : 0 ≤ x.i ∧ x.i ≤ 9223372036854775807) :
    Calls Try.prog 15 #[.agg #[.int .i64 x.i, .int .u32 x.st, .int .u16 x.pc]] w fun e w' => e = .returned (.agg #[.int .u64 (x.i + 1), .int .u32 x.st, .int .u16 x.pc]) ∧ Hid (Below w.heap.size w w') := by
  obtain ⟨xi, xs, xp⟩ := x
  simp only at *
  go_enter Try.func15, Try.ntmps15
  go_wp2
  exact ret_row (by rfl) (by rfl) (BlkV.new_at _ (w.heap.size + 1) 28 [.int .u64 (xi + 1), .int .u32 xs, .int .u16 xp] _ (by simp) rfl) rowSp (by rfl) ⟨rfl, Lib.hid (twoBelow w _ _)⟩
theorem next_any22 (x : Mpd) (w : World) (h : (0 ≤ x.i ∧ x.i ≤ 9223372036854775808) ∧ (0 ≤ x.st ∧ x.st < 4294967296) ∧ 0 ≤ x.pc ∧ x.pc < 32768) :
    Calls Try.prog 20 #[.agg #[.int .u64 x.i, .int .u32 x.st, .int .u16 x.pc]] w fun e w' => e = .returned (.agg #[.int .u64 (x.i + 1), .int .u32 ((x.st + 3000) % 4294967296), .int .u16 ((x.pc + 1) % 32768)]) ∧ Hid (Below w.heap.size w w') := by
  obtain ⟨xi, xs, xp⟩ := x
  simp only at *
  obtain ⟨h1, h2, h3⟩ := h
  go_enter Try.func20, Try.ntmps20
  go_wp2
  exact ret_row (by rfl) (by rfl) (BlkV.new_at _ (w.heap.size + 1) 28 [.int .u64 (xi + 1), .int .u32 ((xs + 3000) % 4294967296), .int .u16 ((xp + 1) % 32768)] _ (by simp) rfl) rowSp (by rfl) ⟨rfl, Lib.hid (twoBelow w _ _)⟩
theorem mapped_any22 (x : Mpd) (w : World) (h : 0 ≤ x.i ∧ x.i ≤ 9223372036854775808) :
    Calls Try.prog 17 #[.agg #[.int .u64 x.i, .int .u32 x.st, .int .u16 x.pc]] w fun e w' => e = .returned (.agg #[.int .i64 (x.i - 1), .int .u32 x.st, .int .u16 x.pc]) ∧ Hid (Below w.heap.size w w') := by
  obtain ⟨xi, xs, xp⟩ := x
  simp only at *
  go_enter Try.func17, Try.ntmps17
  go_wp2
  rw [cnt_is h]
  exact ret_row (by rfl) (by rfl) (BlkV.new_at _ (w.heap.size + 1) 35 [.int .i64 (xi - 1), .int .u32 xs, .int .u16 xp] _ (by simp) rfl) rowM (by rfl) ⟨rfl, Lib.hid (twoBelow w _ _)⟩
theorem place_any22 (th he x : Mpd) (w : World) (h : (0 ≤ th.i ∧ th.i ≤ 9223372036854775808) ∧ (0 ≤ he.i ∧ he.i ≤ 9223372036854775808) ∧ (th.i ≤ x.i ∧ x.i ≤ 9223372036854775808) ∧ he.i + (x.i - th.i) ≤ 9223372036854775808) (hs : (0 ≤ th.st ∧ th.st < 4294967296) ∧ (0 ≤ he.st ∧ he.st < 4294967296) ∧ 0 ≤ x.st ∧ x.st < 4294967296) (hp : (0 ≤ th.pc ∧ th.pc < 65536) ∧ (0 ≤ he.pc ∧ he.pc < 32768) ∧ 0 ≤ x.pc ∧ x.pc < 65536) :
    Calls Try.prog 16 #[.agg #[.int .u64 th.i, .int .u32 th.st, .int .u16 th.pc, .int .u64 he.i, .int .u32 he.st, .int .u16 he.pc], .agg #[.int .u64 x.i, .int .u32 x.st, .int .u16 x.pc]] w fun e w' => e = .returned (.agg #[.int .u64 (he.i + (x.i - th.i)), .int .u32 ((he.st + (x.st - th.st)) % 4294967296), .int .u16 ((he.pc + x.pc - th.pc) % 32768)]) ∧ Hid (Below w.heap.size w w') := by
  obtain ⟨xi, xs, xp⟩ := x
  obtain ⟨ti, ts, tp⟩ := th
  obtain ⟨ei, es, ep⟩ := he
  simp only at *
  obtain ⟨h1, h2, h3, h4⟩ := h
  obtain ⟨s1, s2, s3⟩ := hs
  obtain ⟨p1, p2, p3⟩ := hp
  go_enter Try.func16, Try.ntmps16
  go_wp2
  rw [pic_is p2 p3 p1]
  exact ret_row (by rfl) (by rfl) (BlkV.new_at _ (w.heap.size + 1 + 1) 28 [.int .u64 (ei + (xi - ti)), .int .u32 ((es + (xs - ts)) % 4294967296), .int .u16 ((ep + xp - tp) % 32768)] _ (by simp) rfl) rowSp (by rfl) ⟨rfl, Lib.hid (threeB w _ _ _)⟩
end Go.Proofs.Ytjlfokfdieafeaa
