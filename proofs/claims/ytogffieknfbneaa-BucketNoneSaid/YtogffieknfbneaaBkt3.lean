/- Contracts of package bucket: in how many ticks. No statement is proved here. -/
import Derived.Test.YtogffieknfbneaaBkt2
namespace Go.Proofs.Ytogffieknfbneaa
open Go.RowKit
set_option linter.unusedVariables false

theorem div_le_i (x r : Int) (hx : 0 ≤ x) (hr : 0 < r) : 0 ≤ x / r ∧ x / r ≤ x :=
  ⟨Int.ediv_nonneg hx (by omega), Int.ediv_le_self _ hx⟩

set_option maxRecDepth 100000 in
theorem wait_any (g : Nat) (r B h n : Int) (w : World) (hb : BktAt w g r B h) (hn : U64 n) :
    Calls Try.prog 10 #[.pointer (some ⟨g, 0, none⟩), .int .u64 n] w fun e w' => e = .returned (.int .i64 (wtB r B h n)) ∧ Below w.heap.size w w' := by
  have c0 := hb.c0
  have c1 := hb.c1
  have c2 := hb.c2
  obtain ⟨r1, r2⟩ := hb.ur
  obtain ⟨B1, B2⟩ := hb.uB
  obtain ⟨h1, h2⟩ := hb.uh
  obtain ⟨n1, n2⟩ := hn
  have hb0 := Below.refl w.heap.size w
  clear hb
  by_cases hle : n ≤ h
  · have e : wtB r B h n = 0 := by simp [wtB, hle]
    rw [e]
    clear e
    go_enter Try.func10, Try.ntmps10
    go_wp2
    go_ret
    exact ⟨rfl, hb0⟩
  by_cases hB : B < n
  · have e : wtB r B h n = -1 := by simp [wtB, hle, hB]
    rw [e]
    have hle' : h < n := by omega
    clear e hle
    go_enter Try.func10, Try.ntmps10
    go_wp2
    go_ret
    exact ⟨rfl, hb0⟩
  have hle' : h < n := by omega
  have hB' : n ≤ B := by omega
  by_cases hr : r = 0
  · have e : wtB r B h n = -1 := by simp [wtB, hle, hr]
    rw [e]
    subst hr
    clear e hle hB
    go_enter Try.func10, Try.ntmps10
    go_wp2
    go_ret
    exact ⟨rfl, hb0⟩
  have e : wtB r B h n = lstB ((n - h - 1) / r + 1) 9223372036854775807 := by simp [wtB, hle, hB, hr]
  rw [e]
  have hd := div_le_i (n - h - 1) r (by omega) (by omega)
  have hr0 : (r == 0) = false := by simpa using hr
  have hr1 : (r = 0) = False := by simpa using hr
  have htd : Int.tdiv (n - h - 1) r = (n - h - 1) / r := Int.tdiv_eq_ediv_of_nonneg (by omega)
  have hw1 : IntKind.u64.wrap (n - h) = n - h := IntWalk.u64_in _ (by omega)
  have hw2 : IntKind.u64.wrap (n - h - 1) = n - h - 1 := IntWalk.u64_in _ (by omega)
  have hw3 : IntKind.u64.wrap ((n - h - 1) / r) = (n - h - 1) / r := IntWalk.u64_in _ (by omega)
  obtain ⟨q, hq⟩ : ∃ q, q = (n - h - 1) / r := ⟨_, rfl⟩
  rw [← hq] at hd htd hw3 ⊢
  have hq2 : q + 1 ≤ 18446744073709551615 := by omega
  obtain ⟨q0, _⟩ := hd
  have hw4 : IntKind.u64.wrap (q + 1) = q + 1 := IntWalk.u64_in _ (by omega)
  have hL : lstB (q + 1) 9223372036854775807 ≤ 9223372036854775807 ∧ 0 ≤ lstB (q + 1) 9223372036854775807 := by
    unfold lstB; split <;> omega
  have HL : Hid (∀ (b : Nat) wx, wx.cell? ⟨b, 0, none⟩ = some (.int .u64 9223372036854775807) → Calls Try.prog 14 #[.int .u64 (q + 1), .slice (some ⟨b, 0, none⟩) 1 1] wx fun e w' => e = .returned (.int .u64 (lstB (q + 1) 9223372036854775807)) ∧ wx = w') := Lib.hid fun b wx hc =>
    least_any (q + 1) 9223372036854775807 b wx hc ⟨by omega, by omega⟩ ⟨by omega, by omega⟩
  obtain ⟨L, hLe⟩ : ∃ L, L = lstB (q + 1) 9223372036854775807 := ⟨_, rfl⟩
  rw [← hLe] at hL HL ⊢
  obtain ⟨L1, L2⟩ := hL
  have hnew : ∀ wx : World, (wx.alloc (.cells #[.int .u64 9223372036854775807] 27)).cell? ⟨wx.heap.size, 0, none⟩ = some (.int .u64 9223372036854775807) := fun wx => ((BlkV.new wx 27 [.int .u64 9223372036854775807]).cell 0).trans rfl
  have HN := Lib.hid hnew
  clear hnew hLe hq e hle hB hr
  go_enter Try.func10, Try.ntmps10
  go_wp2
  go_quiet (fail)
  have hb2 : Below w.heap.size w (w.drewN nq) := ⟨rfl, rfl, rfl, Nat.le_refl _, fun _ _ => rfl⟩
  clear c0 c1 c2
  generalize w.drewN nq = w2 at *
  go_wp2_with (go_at_call 14; ((with_reducible refine (Hid.out HL _ _ (HN.out _)).mono ?_); rintro e w' ⟨rfl, rfl⟩))
  go_ret
  exact ⟨rfl, hb2.alloc hb2.size _⟩
end Go.Proofs.Ytogffieknfbneaa
