/- Contracts of package jitter: how far two ways differ, the sixteenfold behind a difference, what a gauge tells. No statement is proved here. -/
import Derived.Test.YtmajgnnljlkjhaaProg
import Derived.Test.YtmajgnnljlkjhaaJitNum
import Derived.WalkKit
import Derived.KernelRfl
import Derived.IntWalk
import Derived.LoopTactic
import Derived.Lib.Hide
import Derived.OpenShut
import Derived.Laws.StructEq
import Derived.Deep.RegionHeld3
import Derived.BigQuiet
namespace Go.Proofs.Ytmajgnnljlkjhaa
open Go.RowKit
set_option linter.unusedVariables false

/-- Block g is this gauge. -/
def GauAt (w : World) (g : Nat) (s : Ggd) : Prop := BlkV w g 29 s.cells
section
variable {w w' : World} {g : Nat} {s : Ggd}
theorem GauAt.lt (k : GauAt w g s) : g < w.heap.size := BlkV.lt k
theorem GauAt.below (k : GauAt w g s) (hb : Below w.heap.size w w') : GauAt w' g s := BlkV.below k hb k.lt
theorem GauAt.drew (k : GauAt w g s) : GauAt w.drew g s := k
theorem GauAt.only (k : GauAt w g s) {p : Nat} (hb : Only p w w') (hg : g ≠ p) : GauAt w' g s := BlkV.only k hb hg
theorem GauAt.alloc (k : GauAt w g s) (o : Obj) : GauAt (w.alloc o) g s := BlkV.alloc k o
theorem GauAt.c0 (k : GauAt w g s) : w.cell? ⟨g, 0, none⟩ = some (.int .u32 s.y) := (BlkV.cell k 0).trans rfl
theorem GauAt.c1 (k : GauAt w g s) : w.cell? ⟨g, 1, none⟩ = some (.int .u64 s.x) := (BlkV.cell k 1).trans rfl
theorem GauAt.c2 (k : GauAt w g s) : w.cell? ⟨g, 2, none⟩ = some (.int .i64 s.c) := (BlkV.cell k 2).trans rfl
theorem GauAt.fr (k : GauAt w g s) (j : Nat) : w.frozen? ⟨g, j, none⟩ = false := BlkV.frozen k j
end

theorem differ_anyJ (a b : Int) (w : World) (ha : 0 ≤ a) (ha' : a ≤ 4294967295) (hb : 0 ≤ b) (hb' : b ≤ 4294967295) :
    Calls Try.prog 13 #[.int .u32 a, .int .u32 b] w fun e w' => e = .returned (.int .u64 (difJ a b)) ∧ w = w' := by
  have HG := Lib.hid (gone_any a b w ha ha' hb hb')
  have hz := goneZ_bd a b
  unfold difJ
  obtain ⟨z, hzz⟩ : ∃ z, z = goneZ a b := ⟨_, rfl⟩
  rw [← hzz] at HG hz ⊢
  clear hzz
  by_cases h : z < 0
  · rw [if_pos h]
    go_enter Try.func13, Try.ntmps13
    go_wp2_with (go_at_call 15; ((with_reducible refine (Hid.out HG).mono ?_); rintro e w1 ⟨rfl, rfl⟩))
    go_ret
    exact ⟨ret_num (by omega), rfl⟩
  · rw [if_neg h]
    have h' : 0 ≤ z := by omega
    go_enter Try.func13, Try.ntmps13
    go_wp2_with (go_at_call 15; ((with_reducible refine (Hid.out HG).mono ?_); rintro e w1 ⟨rfl, rfl⟩))
    go_ret
    exact ⟨ret_num (by omega), rfl⟩

theorem smooth_anyJ (x d : Int) (w : World) (hx : 0 ≤ x) (hx' : x ≤ 4294967295) (hd : 0 ≤ d) (hd' : d ≤ 2147483648) :
    Calls Try.prog 12 #[.int .u64 x, .int .u64 d] w fun e w' => e = .returned (.int .u64 (smoJ x d)) ∧ w = w' := by
  have hs : smoJ x d = min (x + d - (x + 8) / 16) 4294967295 := by unfold smoJ; split <;> omega
  rw [hs]
  clear hs
  go_enter Try.func12, Try.ntmps12
  go_wp2
  all_goals (go_ret; exact ⟨ret_num (by omega), rfl⟩)

theorem sixteen_noneJ (w : World) :
    Calls Try.prog 9 #[.pointer none] w fun e w' => e = .returned (.int .u64 0) ∧ w = w' := by
  go_enter Try.func9, Try.ntmps9
  go_wp2
  go_ret
  exact ⟨rfl, rfl⟩
theorem sixteen_anyJ (g : Nat) (s : Ggd) (w : World) (hs : GauAt w g s) :
    Calls Try.prog 9 #[.pointer (some ⟨g, 0, none⟩)] w fun e w' => e = .returned (.int .u64 s.x) ∧ w = w' := by
  have c1 := hs.c1
  clear hs
  go_enter Try.func9, Try.ntmps9
  go_wp2
  go_ret
  exact ⟨rfl, rfl⟩
theorem count_noneJ (w : World) :
    Calls Try.prog 11 #[.pointer none] w fun e w' => e = .returned (.int .i64 0) ∧ w = w' := by
  go_enter Try.func11, Try.ntmps11
  go_wp2
  go_ret
  exact ⟨rfl, rfl⟩
theorem count_anyJ (g : Nat) (s : Ggd) (w : World) (hs : GauAt w g s) :
    Calls Try.prog 11 #[.pointer (some ⟨g, 0, none⟩)] w fun e w' => e = .returned (.int .i64 s.c) ∧ w = w' := by
  have c2 := hs.c2
  clear hs
  go_enter Try.func11, Try.ntmps11
  go_wp2
  go_ret
  exact ⟨rfl, rfl⟩
theorem now_noneJ (w : World) :
    Calls Try.prog 10 #[.pointer none] w fun e w' => e = .returned (.int .u32 0) ∧ w = w' := by
  have HS := Lib.hid (sixteen_noneJ w)
  go_enter Try.func10, Try.ntmps10
  go_wp2_with (go_at_call 9; ((with_reducible refine (Hid.out HS).mono ?_); rintro e w1 ⟨rfl, rfl⟩))
  go_ret
  exact ⟨rfl, rfl⟩
theorem now_anyJ (g : Nat) (s : Ggd) (w : World) (hs : GauAt w g s) (x0 : 0 ≤ s.x) (x1 : s.x ≤ 4294967295) :
    Calls Try.prog 10 #[.pointer (some ⟨g, 0, none⟩)] w fun e w' => e = .returned (.int .u32 (s.x / 16)) ∧ w = w' := by
  have HS := Lib.hid (sixteen_anyJ g s w hs)
  clear hs
  obtain ⟨x, hx⟩ : ∃ x, x = s.x := ⟨_, rfl⟩
  rw [← hx] at HS x0 x1 ⊢
  clear hx
  go_enter Try.func10, Try.ntmps10
  go_wp2_with (go_at_call 9; ((with_reducible refine (Hid.out HS).mono ?_); rintro e w1 ⟨rfl, rfl⟩))
  go_ret
  exact ⟨rfl, rfl⟩

/-- A gauge's numbers beside a new one's. -/
theorem numbers_new (w : World) : (binOp .neq 27 (.agg #[.int .u32 0, .int .u64 0, .int .i64 0]) (.agg #[.int .u32 0, .int .u64 0, .int .i64 0])).run Try.prog w = .ok (.bool false) w := by kernel_rfl
theorem numbers_had (y x c : Int) (hc : c ≠ 0) (w : World) : (binOp .neq 27 (.agg #[.int .u32 y, .int .u64 x, .int .i64 c]) (.agg #[.int .u32 0, .int .u64 0, .int .i64 0])).run Try.prog w = .ok (.bool true) w := by
  have hcb : (c == 0) = false := by simpa using hc
  by_cases hy : y = 0
  · subst hy
    by_cases hx : x = 0
    · subst hx
      rw [run_neq_struct]
      go_simp
    · have hxb : (x == 0) = false := by simpa using hx
      rw [run_neq_struct]
      go_simp
  · have hyb : (y == 0) = false := by simpa using hy
    rw [run_neq_struct]
    go_simp
end Go.Proofs.Ytmajgnnljlkjhaa
