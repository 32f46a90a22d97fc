/- Contracts of package window: what was there, the highest one, how many, and whether an index is fresh. No statement is proved here. -/
import Derived.Test.YtdemelbgdgfliaaProg
import Derived.Test.YtdemelbgdgfliaaMem
import Derived.Test.YtdemelbgdgfliaaWinNum
import Derived.KernelRfl
import Derived.Lib.Hide
import Derived.IntWalk
import Derived.Laws.Bits128
import Derived.BigQuiet
namespace Go.Proofs.Ytdemelbgdgfliaa
open Go.RowKit
set_option linter.unusedVariables false

theorem ret_i {k : IntKind} {a b : Int} (h : a = b) : Ending.returned (.int k a) = .returned (.int k b) := by rw [h]
theorem ret_b {a b : Bool} (h : a = b) : Ending.returned (.bool a) = .returned (.bool b) := by rw [h]

set_option maxRecDepth 100000 in
/-- How many bits of a number are set. -/
theorem ones_any (p : Nat) (w : World) (hp : p < 18446744073709551616) : Calls Try.prog 18 #[.int .u64 (p : Int)] w fun e w' => e = .returned (.int .i64 (bs 64 p : Nat)) ∧ w = w' := by
  have k1 := s1 32 p
  have k2 := s2 16 p
  have k3 := s3 8 p
  have t1 := c1_lt 32 p
  have t2 := c2_lt 16 p
  simp only [show m1 32 = 6148914691236517205 by decide] at k1
  simp only [show m2 16 = 3689348814741910323 by decide] at k2
  simp only [show m3 8 = 1085102592571150095 by decide] at k3
  rw [show 2 * 16 = 32 by rfl] at k2
  rw [show 2 * 8 = 16 by rfl] at k3
  obtain ⟨l1, l2, l3, l4, l5⟩ := last p _ _ _ _ rfl rfl rfl rfl
  obtain ⟨A1, hA1⟩ : ∃ A, A = (p / 2 &&& 6148914691236517205) := ⟨_, rfl⟩
  obtain ⟨B1, hB1⟩ : ∃ A, A = (p &&& 6148914691236517205) := ⟨_, rfl⟩
  have f1 : bits BinOp.and IntKind.u64 ((p : Int) / 2) 6148914691236517205 = (A1 : Int) := by
    have h := u64_and_nat (p / 2) 6148914691236517205 (by omega) (by omega)
    rw [← hA1] at h
    rw [← h]; rfl
  have f2 : bits BinOp.and IntKind.u64 (p : Int) 6148914691236517205 = (B1 : Int) := by
    have h := u64_and_nat p 6148914691236517205 hp (by omega)
    rw [← hB1] at h
    rw [← h]; rfl
  rw [← hA1, ← hB1] at k1
  obtain ⟨C1, hC1⟩ : ∃ C, C = c1 32 p := ⟨_, rfl⟩
  rw [← hC1] at k1 k2 t1
  obtain ⟨A2, hA2⟩ : ∃ A, A = (C1 / 4 &&& 3689348814741910323) := ⟨_, rfl⟩
  obtain ⟨B2, hB2⟩ : ∃ A, A = (C1 &&& 3689348814741910323) := ⟨_, rfl⟩
  rw [← hA2, ← hB2] at k2
  have t1' : C1 < 18446744073709551616 := by
    have : (4 : Nat) ^ 32 = 18446744073709551616 := by decide
    omega
  have f3 : bits BinOp.and IntKind.u64 (((A1 : Int) + (B1 : Int)) / 4) 3689348814741910323 = (A2 : Int) := by
    have h := u64_and_nat (C1 / 4) 3689348814741910323 (by omega) (by omega)
    rw [← hA2] at h
    rw [← h, ← k1]; rfl
  have f4 : bits BinOp.and IntKind.u64 ((A1 : Int) + (B1 : Int)) 3689348814741910323 = (B2 : Int) := by
    have h := u64_and_nat C1 3689348814741910323 t1' (by omega)
    rw [← hB2] at h
    rw [← h, ← k1]; rfl
  have k1' : A1 + B1 < 18446744073709551616 := by omega
  obtain ⟨C2, hC2⟩ : ∃ C, C = c2 16 p := ⟨_, rfl⟩
  rw [← hC2] at k2 k3 t2
  obtain ⟨C3, hC3⟩ : ∃ C, C = c3 8 p := ⟨_, rfl⟩
  rw [← hC3] at k3 l1 l2 l3 l4 l5
  have t2' : 15 * C2 + 4 ≤ 73786976294838206464 := by
    have : 4 * (16 : Nat) ^ 16 = 73786976294838206464 := by decide
    omega
  have f5 : bits BinOp.and IntKind.u64 (((A2 : Int) + (B2 : Int)) / 16 + ((A2 : Int) + (B2 : Int))) 1085102592571150095 = (C3 : Int) := by
    have h := u64_and_nat (C2 / 16 + C2) 1085102592571150095 (by omega) (by omega)
    rw [k3] at h
    rw [← h, ← k2]; rfl
  have k2' : A2 + B2 = C2 := k2
  obtain ⟨R, hR⟩ : ∃ R, R = bs 64 p := ⟨_, rfl⟩
  rw [← hR] at l5 ⊢
  have f6 : bits BinOp.and IntKind.i64 ((C3 : Int) + (C3 : Int) / 256 + ((C3 : Int) + (C3 : Int) / 256) / 65536 + ((C3 : Int) + (C3 : Int) / 256 + ((C3 : Int) + (C3 : Int) / 256) / 65536) / 4294967296) 127 = (R : Int) := by
    refine (i64_and127 _).trans ?_
    rw [← l5]; rfl
  have hp' : (p : Int) ≤ 18446744073709551615 := by omega
  have k1i : (A1 : Int) + (B1 : Int) ≤ 18446744073709551615 := by omega
  have k2i : (A2 : Int) + (B2 : Int) ≤ 4919131752989213764 := by omega
  have l1i : (C3 : Int) ≤ 600000000000000000 := by omega
  clear k1 k2 k3 t1 t2 t1' t2' l2 l3 l4 l5 hA1 hB1 hA2 hB2 hC1 hC2 hC3 k1' k2' hR l1 hp
  go_enter Try.func18, Try.ntmps18
  go_wp2
  go_ret
  exact ⟨rfl, rfl⟩

/-- The block of a window. -/
def winC (h : Int) (p : Nat) : List Value := [.int .i64 h, .int .u64 (p : Int)]
/-- Block g is a window in which just these indices were there. -/
def WinAt (w : World) (g : Nat) (L : List Int) : Prop := ∃ h p, WinS L h p ∧ BlkV w g 27 (winC h p)
section
variable {w w' : World} {g : Nat} {L : List Int}
theorem WinAt.lt (h : WinAt w g L) : g < w.heap.size := by obtain ⟨_, _, _, hB⟩ := h; exact hB.lt
theorem WinAt.below (h : WinAt w g L) (hb : Below w.heap.size w w') : WinAt w' g L := by obtain ⟨x, p, hW, hB⟩ := h; exact ⟨x, p, hW, hB.below hb hB.lt⟩
theorem WinAt.drew (h : WinAt w g L) : WinAt w.drew g L := h
theorem WinAt.only (h : WinAt w g L) {k : Nat} (hb : Only k w w') (hg : g ≠ k) : WinAt w' g L := by obtain ⟨x, p, hW, hB⟩ := h; exact ⟨x, p, hW, hB.only hb hg⟩
theorem WinAt.grown (h : WinAt w g L) {row : Option Nat} (hb : w.grownBy w' row) (hg : some g ≠ row) : WinAt w' g L := by obtain ⟨x, p, hW, hB⟩ := h; exact ⟨x, p, hW, hB.grown hb hg⟩
end

theorem told_some (g : Nat) (h : Int) (p : Nat) (w : World) (hB : BlkV w g 27 (winC h p)) :
    Calls Try.prog 16 #[.pointer (some ⟨g, 0, none⟩)] w fun e w' => e = .returned (.int .u64 (p : Int)) ∧ w = w' := by
  have hc : w.cell? ⟨g, 1, none⟩ = some (.int .u64 (p : Int)) := (hB.cell 1).trans rfl
  clear hB
  go_enter Try.func16, Try.ntmps16
  go_wp2
  go_ret
  exact ⟨rfl, rfl⟩
theorem told_none (w : World) :
    Calls Try.prog 16 #[.pointer none] w fun e w' => e = .returned (.int .u64 0) ∧ w = w' := by
  go_enter Try.func16, Try.ntmps16
  go_wp2
  go_ret
  exact ⟨rfl, rfl⟩
theorem high_any (g : Nat) (L : List Int) (w : World) (hW : WinAt w g L) :
    Calls Try.prog 12 #[.pointer (some ⟨g, 0, none⟩)] w fun e w' => e = .returned (.int .i64 (hiL L)) ∧ w = w' := by
  obtain ⟨h, p, hS, hB⟩ := hW
  have hc : w.cell? ⟨g, 0, none⟩ = some (.int .i64 h) := (hB.cell 0).trans rfl
  have hh := hS.high
  have HT := Lib.hid (told_some g h p w hB)
  obtain ⟨H, hH⟩ : ∃ H, H = hiL L := ⟨_, rfl⟩
  rw [← hH] at hh ⊢
  clear hH hB hS
  by_cases h0 : p = 0
  · rw [if_pos h0] at hh
    subst hh
    subst h0
    go_enter Try.func12, Try.ntmps12
    go_wp2_with (go_at_call 16; ((with_reducible refine (Hid.out HT).mono ?_); rintro e w' ⟨rfl, rfl⟩))
    go_ret
    exact ⟨rfl, rfl⟩
  · rw [if_neg h0] at hh
    subst hh
    have hd : ((p : Int) == 0) = false := by simp; omega
    go_enter Try.func12, Try.ntmps12
    go_wp2_with (go_at_call 16; ((with_reducible refine (Hid.out HT).mono ?_); rintro e w' ⟨rfl, rfl⟩))
    go_ret
    exact ⟨rfl, rfl⟩
theorem high_none (w : World) :
    Calls Try.prog 12 #[.pointer none] w fun e w' => e = .returned (.int .i64 (-1)) ∧ w = w' := by
  go_enter Try.func12, Try.ntmps12
  go_wp2_with (go_at_call 16; ((with_reducible refine (told_none _).mono ?_); rintro e w' ⟨rfl, rfl⟩))
  go_ret
  exact ⟨rfl, rfl⟩
theorem count_any (g : Nat) (L : List Int) (w : World) (hW : WinAt w g L) :
    Calls Try.prog 14 #[.pointer (some ⟨g, 0, none⟩)] w fun e w' => e = .returned (.int .i64 (ctL L : Nat)) ∧ w = w' := by
  obtain ⟨h, p, hS, hB⟩ := hW
  have hc := hS.count
  rw [← bs_cnt] at hc
  have ho := fun w => ones_any p w hS.lt
  rw [hc] at ho
  have HT := Lib.hid (told_some g h p w hB)
  have HO := Lib.hid ho
  clear hc ho hS hB
  go_enter Try.func14, Try.ntmps14
  go_wp2_with (first
    | (go_at_call 16; ((with_reducible refine (Hid.out HT).mono ?_); rintro e w' ⟨rfl, rfl⟩))
    | (go_at_call 18; ((with_reducible refine (Hid.out HO _).mono ?_); rintro e w' ⟨rfl, rfl⟩)))
  go_ret
  exact ⟨rfl, rfl⟩
theorem count_none (w : World) :
    Calls Try.prog 14 #[.pointer none] w fun e w' => e = .returned (.int .i64 0) ∧ w = w' := by
  have HO : Hid (∀ w, Calls Try.prog 18 #[.int .u64 0] w fun e w' => e = .returned (.int .i64 0) ∧ w = w') := Lib.hid fun w => ones_any 0 w (by omega)
  go_enter Try.func14, Try.ntmps14
  go_wp2_with (first
    | (go_at_call 16; ((with_reducible refine (told_none _).mono ?_); rintro e w' ⟨rfl, rfl⟩))
    | (go_at_call 18; ((with_reducible refine (Hid.out HO _).mono ?_); rintro e w' ⟨rfl, rfl⟩)))
  go_ret
  exact ⟨rfl, rfl⟩
theorem has_any (p n : Nat) (b : Bool) (w : World) (hp : p < 18446744073709551616) (hn : n < 64) (hb : p.testBit n = b) :
    Calls Try.prog 17 #[.int .u64 (p : Int), .int .i64 (n : Int)] w fun e w' => e = .returned (.bool b) ∧ w = w' := by
  have h1 : (p : Int) / 2 ^ n = ((p / 2 ^ n : Nat) : Int) := by simp
  have h2 : p / 2 ^ n ≤ p := Nat.div_le_self _ _
  have h3 : (p / 2 ^ n) % 2 = if b = true then 1 else 0 := by
    rw [← hb, Nat.testBit_eq_decide_div_mod_eq]
    have := Nat.mod_two_eq_zero_or_one (p / 2 ^ n)
    rcases this with h | h <;> simp [h]
  obtain ⟨q, hq⟩ : ∃ q, q = p / 2 ^ n := ⟨_, rfl⟩
  rw [← hq] at h1 h2 h3
  have h4 : bits BinOp.and IntKind.u64 (q : Int) 1 = ((if b = true then 1 else 0 : Nat) : Int) := by
    have h := u64_and_nat q 1 (by omega) (by omega)
    rw [Nat.and_one_is_mod, h3] at h
    exact h
  clear h3 hb hq
  have hn' : (n : Int) < 64 := by omega
  cases b
  · simp only [Bool.false_eq_true, if_false] at h4
    go_enter Try.func17, Try.ntmps17
    go_wp2
    go_ret
    exact ⟨rfl, rfl⟩
  · simp only [if_true] at h4
    go_enter Try.func17, Try.ntmps17
    go_wp2
    go_ret
    exact ⟨rfl, rfl⟩
end Go.Proofs.Ytdemelbgdgfliaa
