/- Contracts of package window: Fresh, Mark. No statement is proved here. -/
import Derived.Test.YtdemelbgdgfliaaWin1
import Derived.StillTailTactics
namespace Go.Proofs.Ytdemelbgdgfliaa
open Go.RowKit
set_option linter.unusedVariables false

theorem fresh_none (i : Int) (w : World) :
    Calls Try.prog 8 #[.pointer none, .int .i64 i] w fun e w' => e = .returned (.bool false) ∧ w = w' := by
  go_enter Try.func8, Try.ntmps8
  go_wp2
  go_ret
  exact ⟨rfl, rfl⟩
theorem mark_none (i : Int) (w : World) :
    Calls Try.prog 10 #[.pointer none, .int .i64 i] w fun e w' => e = .returned (.int .i64 5) ∧ w = w' := by
  go_enter Try.func10, Try.ntmps10
  go_wp2_with (go_at_call 8; ((with_reducible refine (fresh_none _ _).mono ?_); rintro e w' ⟨rfl, rfl⟩))
  go_ret
  exact ⟨rfl, rfl⟩

theorem fresh_any (g : Nat) (L : List Int) (i : Int) (w : World) (hW : WinAt w g L) (hi : i ≤ 9223372036854775807) (ht : hiL L ≤ 9223372036854775807) :
    Calls Try.prog 8 #[.pointer (some ⟨g, 0, none⟩), .int .i64 i] w fun e w' => e = .returned (.bool (frL L i)) ∧ w = w' := by
  have hlow := hiL_low L
  have HH := Lib.hid (high_any g L w hW)
  by_cases h0 : i < 0
  · rw [fr_neg h0]
    clear hW hlow HH
    go_enter Try.func8, Try.ntmps8
    go_wp2
    go_ret
    exact ⟨rfl, rfl⟩
  have h0' : 0 ≤ i := by omega
  clear h0
  by_cases h1 : hiL L < i
  · rw [fr_above h0' h1]
    obtain ⟨H, hH⟩ : ∃ H, H = hiL L := ⟨_, rfl⟩
    rw [← hH] at h1 hlow ht HH
    clear hH hW
    go_enter Try.func8, Try.ntmps8
    go_wp2_with (go_at_call 12; ((with_reducible refine (Hid.out HH).mono ?_); rintro e w' ⟨rfl, rfl⟩))
    go_ret
    exact ⟨rfl, rfl⟩
  have h1' : i ≤ hiL L := by omega
  clear h1
  obtain ⟨x, p, hS, hB⟩ := hW
  have HT := Lib.hid (told_some g x p w hB)
  have hmf : ∀ (fn : Fn) (first cap : Array Value) (w : World), (Instr.makeFunc fn first cap).run Try.prog w = .ok (.func fn first cap) w := fun _ _ _ _ => rfl
  by_cases h2 : 64 ≤ hiL L - i
  · rw [fr_far h2]
    obtain ⟨H, hH⟩ : ∃ H, H = hiL L := ⟨_, rfl⟩
    rw [← hH] at h1' h2 hlow ht HH
    clear hH hS hB
    go_enter Try.func8, Try.ntmps8
    go_wp2_with (first
      | (go_at_call 12; ((with_reducible refine (Hid.out HH).mono ?_); rintro e w' ⟨rfl, rfl⟩))
      | (go_at_call 16; ((with_reducible refine (Hid.out HT).mono ?_); rintro e w' ⟨rfl, rfl⟩)))
    go_ret
    exact ⟨rfl, rfl⟩
  · obtain ⟨n, hn⟩ := Int.eq_ofNat_of_zero_le (show 0 ≤ hiL L - i by omega)
    have hb := hS.near h0' h1' n hn (by omega)
    obtain ⟨b, hbb⟩ : ∃ b, b = p.testBit n := ⟨_, rfl⟩
    have HA := Lib.hid (fun w => has_any p n b w hS.lt (by omega) hbb.symm)
    rw [hb, ← hbb]
    have h2' : (n : Int) < 64 := by omega
    obtain ⟨H, hH⟩ : ∃ H, H = hiL L := ⟨_, rfl⟩
    rw [← hH] at h1' h2 hlow ht HH hn
    clear hH hS hB hb hbb h2
    go_enter Try.func8, Try.ntmps8
    go_wp2_with (first
      | (go_at_call 12; ((with_reducible refine (Hid.out HH).mono ?_); rintro e w' ⟨rfl, rfl⟩))
      | (go_at_call 16; ((with_reducible refine (Hid.out HT).mono ?_); rintro e w' ⟨rfl, rfl⟩))
      | (go_at_call 17; ((with_reducible refine (Hid.out HA _).mono ?_); rintro e w' ⟨rfl, rfl⟩)))
    go_ret
    exact ⟨rfl, rfl⟩

theorem Only.drew {g : Nat} {w w' : World} (h : Only g w w') : Only g w w'.drew := ⟨h.os, h.tape, h.output, h.size, h.block⟩
theorem shl_bits (p d : Nat) : Op.shift .shl .u64 (p : Int) .i64 (d : Int) = pure (.int .u64 ((p * 2 ^ d % 18446744073709551616 : Nat) : Int)) := by
  have h0 : ¬ ((d : Int) < 0) := by omega
  unfold Op.shift
  rw [if_neg h0]
  simp only [Int.toNat_natCast, IntKind.bits]
  by_cases h : d ≤ 64
  · rw [Nat.min_eq_left h, IntKind.wrap_u64]
    simp
  · rw [Nat.min_eq_right (by omega), IntKind.wrap_u64]
    obtain ⟨c, rfl⟩ : ∃ c, d = 64 + c := ⟨d - 64, by omega⟩
    have e : p * 2 ^ (64 + c) % 18446744073709551616 = 0 := by
      rw [Nat.pow_add, show (2 : Nat) ^ 64 = 18446744073709551616 by decide, ← Nat.mul_assoc, Nat.mul_comm p, Nat.mul_assoc]
      exact Nat.mul_mod_right _ _
    rw [e]
    congr 2
    have : (2 : Int) ^ 64 = 18446744073709551616 := by decide
    rw [this]
    omega

set_option maxRecDepth 100000 in
theorem mark_any (g : Nat) (L : List Int) (i : Int) (w : World) (hW : WinAt w g L) (hi : i ≤ 9223372036854775807) (ht : hiL L ≤ 9223372036854775807) :
    Calls Try.prog 10 #[.pointer (some ⟨g, 0, none⟩), .int .i64 i] w fun e w' => e = .returned (.int .i64 (if frL L i = true then 0 else 5)) ∧ WinAt w' g (mkL L i) ∧ Only g w w' := by
  have hfr := fresh_any g L i w hW hi ht
  cases hf : frL L i
  · rw [hf] at hfr
    rw [mkL_not hf]
    have HF := Lib.hid hfr
    have HW := Lib.hid hW
    clear hfr hf hW
    simp only [Bool.false_eq_true, if_false]
    go_enter Try.func10, Try.ntmps10
    go_wp2_with (go_at_call 8; ((with_reducible refine (Hid.out HF).mono ?_); rintro e w' ⟨rfl, rfl⟩))
    go_ret
    exact ⟨rfl, HW.out, Only.refl _ _⟩
  rw [hf] at hfr
  have hf0 := ((frL_iff L i).1 hf).1
  obtain ⟨x, p, hS, hB⟩ := hW
  have hxp := hS.hpos
  simp only [if_true]
  have HF := Lib.hid hfr
  have hc0 : w.cell? ⟨g, 0, none⟩ = some (.int .i64 x) := (hB.cell 0).trans rfl
  have hc1 : w.cell? ⟨g, 1, none⟩ = some (.int .u64 (p : Int)) := (hB.cell 1).trans rfl
  have hr0 := hB.frozen 0
  have hr1 := hB.frozen 1
  by_cases hx : x < i
  · obtain ⟨d, hd⟩ := Int.eq_ofNat_of_zero_le (show 0 ≤ i - x by omega)
    have hU := hS.up hx d hd
    have hsh := shl_bits p d
    obtain ⟨P, hP⟩ : ∃ P, P = p * 2 ^ d % 18446744073709551616 := ⟨_, rfl⟩
    rw [← hP] at hU hsh
    have hor : bits .or .u64 (P : Int) 1 = ((P ||| 1 : Nat) : Int) := u64_or_nat P 1 (by omega) (by omega)
    obtain ⟨Q, hQ⟩ : ∃ Q, Q = P ||| 1 := ⟨_, rfl⟩
    rw [← hQ] at hU hor
    have hw1 : IntKind.i64.wrap (d : Int) = (d : Int) := IntWalk.i64_in _ (by omega)
    have hO0 := (Only.refl g w).drew
    have hBd := hB.drew
    have HU := Lib.hid hU
    have HB := Lib.hid (And.intro hBd hO0)
    clear hU hP hQ hS hfr hf hBd hO0 hB
    go_enter Try.func10, Try.ntmps10
    go_wp2_with (go_at_call 8; ((with_reducible refine (Hid.out HF).mono ?_); rintro e w' ⟨rfl, rfl⟩))
    go_still_tail 13, (by kernel_rfl)
    change wpList _ _ _ _ _ (World.drew w)
    clear hc0 hc1 hr0 hr1 HF
    generalize w.drew = w2 at *
    have HB := HB.out
    have hc0 : w2.cell? ⟨g, 0, none⟩ = some (.int .i64 x) := (HB.1.cell 0).trans rfl
    have hc1 : w2.cell? ⟨g, 1, none⟩ = some (.int .u64 (p : Int)) := (HB.1.cell 1).trans rfl
    have hr0 := HB.1.frozen 0
    have hr1 := HB.1.frozen 1
    have hB2 := (HB.1.set_ 1 (.int .u64 (P : Int))).set_ 0 (.int .i64 i)
    have hO2 := HB.2.trans ((Only.set w2 g 1 (.int .u64 (P : Int))).trans (Only.set _ g 0 (.int .i64 i)))
    have HB2 := Lib.hid (And.intro hB2 hO2)
    clear HB hB2 hO2
    go_wp2
    generalize (w2.setCell ⟨g, 1, none⟩ (.int .u64 (P : Int))).setCell ⟨g, 0, none⟩ (.int .i64 i) = w3 at *
    clear hc0 hc1 hr0 hr1
    have hc0 : w3.cell? ⟨g, 0, none⟩ = some (.int .i64 i) := (HB2.out.1.cell 0).trans rfl
    have hc1 : w3.cell? ⟨g, 1, none⟩ = some (.int .u64 (P : Int)) := (HB2.out.1.cell 1).trans rfl
    have hii : IntKind.i64.wrap 0 = 0 := IntWalk.i64_in _ (by omega)
    have hiu : IntKind.u64.wrap 1 = 1 := IntWalk.u64_in _ (by omega)
    have hsh1 : Op.shift .shl .u64 1 .i64 0 = pure (.int .u64 1) := shl_bits 1 0
    go_still_tail 14, (by kernel_rfl)
    change wpList _ _ _ _ _ (World.drew w3)
    have hB3 := HB2.out.1.drew
    have hO3 := HB2.out.2.drew
    clear hc0 hc1
    generalize w3.drew = w4 at *
    have hr1 := hB3.frozen 1
    have hc1 : w4.cell? ⟨g, 1, none⟩ = some (.int .u64 (P : Int)) := (hB3.cell 1).trans rfl
    have hB4 := hB3.set_ 1 (.int .u64 (Q : Int))
    have hO4 := hO3.trans (Only.set _ g 1 (.int .u64 (Q : Int)))
    clear hB3 hO3
    go_wp2
    go_ret
    exact ⟨rfl, ⟨i, Q, HU.out, hB4⟩, hO4⟩
  · obtain ⟨d, hd⟩ := Int.eq_ofNat_of_zero_le (show 0 ≤ x - i by omega)
    obtain ⟨hU, hd6⟩ := hS.in (by omega) hf d hd
    have hsh : Op.shift .shl .u64 1 .i64 (d : Int) = pure (.int .u64 ((2 ^ d : Nat) : Int)) := by
      have h := shl_bits 1 d
      rw [Nat.one_mul, Nat.mod_eq_of_lt (by rw [two64]; exact Nat.pow_lt_pow_right (by decide) hd6)] at h
      exact h
    have hpl : 2 ^ d < 18446744073709551616 := by rw [two64]; exact Nat.pow_lt_pow_right (by decide) hd6
    have he : (2 : Int) ^ d = ((2 ^ d : Nat) : Int) := by simp
    obtain ⟨R, hR⟩ : ∃ R, R = 2 ^ d := ⟨_, rfl⟩
    rw [← hR] at hU hsh hpl he
    have hpw : IntKind.u64.wrap (2 ^ d) = (R : Int) := by rw [he]; exact IntWalk.u64_in _ (by omega)
    clear he
    have hor := u64_or_nat p R hS.lt hpl
    obtain ⟨Q, hQ⟩ : ∃ Q, Q = p ||| R := ⟨_, rfl⟩
    rw [← hQ] at hU hor
    have hw1 : IntKind.i64.wrap (d : Int) = (d : Int) := IntWalk.i64_in _ (by omega)
    have HU := Lib.hid hU
    have hBd := hB.drew
    have hO0 := (Only.refl g w).drew
    have HB := Lib.hid (And.intro hBd hO0)
    clear hU hQ hR hS hfr hf hBd hO0 hB hpl
    go_enter Try.func10, Try.ntmps10
    go_wp2_with (go_at_call 8; ((with_reducible refine (Hid.out HF).mono ?_); rintro e w' ⟨rfl, rfl⟩))
    go_still_tail 14, (by kernel_rfl)
    change wpList _ _ _ _ _ (World.drew w)
    clear hc0 hc1 hr0 hr1 HF
    generalize w.drew = w4 at *
    have hB3 := HB.out.1
    have hO3 := HB.out.2
    have hr1 := hB3.frozen 1
    have hc1 : w4.cell? ⟨g, 1, none⟩ = some (.int .u64 (p : Int)) := (hB3.cell 1).trans rfl
    have hB4 := hB3.set_ 1 (.int .u64 (Q : Int))
    have hO4 := hO3.trans (Only.set _ g 1 (.int .u64 (Q : Int)))
    clear hB3 hO3 HB
    go_wp2
    go_ret
    exact ⟨rfl, ⟨x, Q, HU.out, hB4⟩, hO4⟩
end Go.Proofs.Ytdemelbgdgfliaa
