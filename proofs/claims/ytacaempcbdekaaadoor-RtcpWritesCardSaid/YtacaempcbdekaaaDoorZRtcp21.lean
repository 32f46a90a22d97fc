/- Contracts of package rtcp: is a packet blank? No statement is proved here. -/
import Derived.Test.YtacaempcbdekaaaDoorZRtcp19
namespace Go.Proofs.YtacaempcbdekaaaDoor
open Go.RowKit
set_option linter.unusedVariables false

/-- A packet that has nothing but its kind. -/
def blankC (c : Ctl) : Prop := c.so = 0 ∧ c.me = 0 ∧ c.st = 0 ∧ c.pa = 0 ∧ c.oc = 0 ∧ c.ti = 0 ∧ c.ra = 0 ∧ longN c = 0

theorem or_zero (a b : Nat) : a ||| b = 0 ↔ a = 0 ∧ b = 0 := by
  constructor
  · intro h
    constructor
    · apply Nat.eq_of_testBit_eq; intro i
      have := congrArg (fun n => Nat.testBit n i) h
      simp at this; simp [this.1]
    · apply Nat.eq_of_testBit_eq; intro i
      have := congrArg (fun n => Nat.testBit n i) h
      simp at this; simp [this.2]
  · rintro ⟨rfl, rfl⟩; rfl
theorem or_lt32 {a b : Nat} (ha : a < 4294967296) (hb : b < 4294967296) : a ||| b < 4294967296 := Nat.or_lt_two_pow (n := 32) ha hb
theorem or_five (a b c d e : Nat) (h1 : a < 4294967296) (h2 : b < 4294967296) (h3 : c < 4294967296) (h4 : d < 4294967296) (h5 : e < 4294967296) :
    bits BinOp.or IntKind.u32 (bits BinOp.or IntKind.u32 (bits BinOp.or IntKind.u32 (bits BinOp.or IntKind.u32 (a : Int) (b : Int)) (c : Int)) (d : Int)) (e : Int) = ((a ||| b ||| c ||| d ||| e : Nat) : Int) := by
  rw [u32_or_nat _ _ h1 h2, u32_or_nat _ _ (or_lt32 h1 h2) h3, u32_or_nat _ _ (or_lt32 (or_lt32 h1 h2) h3) h4, u32_or_nat _ _ (or_lt32 (or_lt32 (or_lt32 h1 h2) h3) h4) h5]

set_option maxRecDepth 100000 in
set_option maxHeartbeats 1000000 in
theorem isBlank_any (cs : List Value) (c : Ctl) (w : World) (h : CtRd w cs c) (hf : c.fit) (bb : Bool) (hbb : bb = true ↔ blankC c) :
    Calls Tryd.prog 29 #[.agg cs.toArray] w fun r w' => r = .returned (.bool bb) ∧ Below w.heap.size w w' := by
  have HL : Hid (∀ W, CtRd W cs c → Calls Tryd.prog 38 #[.agg cs.toArray] W fun r w' => r = .returned (.int .i64 (longN c : Int)) ∧ Below W.heap.size W w') := Lib.hid fun W hW => longest_any cs c W hW
  obtain ⟨_, C0, b0⟩ := box_facts w cs c h
  obtain ⟨A, a, B, b', C, c', D, d, E, e, h0, _⟩ := h
  subst h0
  unfold ctlC at C0 HL b0 ⊢
  unfold blankC at hbb
  obtain ⟨-, f1, f2, f3, f4, f5, f6, -⟩ := hf
  have hO := or_five c.so c.me c.st c.pa c.oc f1 f2 f4 f5 f6
  have hz : c.so ||| c.me ||| c.st ||| c.pa ||| c.oc = 0 ↔ c.so = 0 ∧ c.me = 0 ∧ c.st = 0 ∧ c.pa = 0 ∧ c.oc = 0 := by
    rw [or_zero, or_zero, or_zero, or_zero]
    constructor
    · rintro ⟨⟨⟨⟨a1, a2⟩, a3⟩, a4⟩, a5⟩; exact ⟨a1, a2, a3, a4, a5⟩
    · rintro ⟨a1, a2, a3, a4, a5⟩; exact ⟨⟨⟨⟨a1, a2⟩, a3⟩, a4⟩, a5⟩
  obtain ⟨L, hL⟩ : ∃ L, L = longN c := ⟨_, rfl⟩
  obtain ⟨O, hOn⟩ : ∃ O, O = c.so ||| c.me ||| c.st ||| c.pa ||| c.oc := ⟨_, rfl⟩
  rw [← hOn] at hO hz
  replace hbb : bb = true ↔ O = 0 ∧ c.ti = 0 ∧ c.ra = 0 ∧ L = 0 := by
    rw [hbb, hz, hL]
    constructor
    · rintro ⟨a1, a2, a3, a4, a5, a6, a7, a8⟩; exact ⟨⟨a1, a2, a3, a4, a5⟩, a6, a7, a8⟩
    · rintro ⟨⟨a1, a2, a3, a4, a5⟩, a6, a7, a8⟩; exact ⟨a1, a2, a3, a4, a5, a6, a7, a8⟩
  obtain ⟨TI, hTI⟩ : ∃ n : Int, n = (c.ti : Int) := ⟨_, rfl⟩
  obtain ⟨RA, hRA⟩ : ∃ n : Int, n = (c.ra : Int) := ⟨_, rfl⟩
  obtain ⟨OI, hOI⟩ : ∃ n : Int, n = (O : Int) := ⟨_, rfl⟩
  obtain ⟨LI, hLI⟩ : ∃ n : Int, n = (L : Int) := ⟨_, rfl⟩
  rw [← hL, ← hLI] at HL
  rw [← hTI, ← hRA] at C0 HL b0 ⊢
  rw [← hOI] at hO
  have hbi : bb = true ↔ OI = 0 ∧ TI = 0 ∧ RA = 0 ∧ LI = 0 := by
    rw [hbb]
    constructor
    · rintro ⟨a1, a2, a3, a4⟩; omega
    · rintro ⟨a1, a2, a3, a4⟩; omega
  clear hbb hz hOn hTI hRA hOI hLI hL f1 f2 f3 f4 f5 f6
  by_cases g1 : OI = 0
  · by_cases g2 : TI = 0
    · by_cases g3 : RA = 0
      · have hl : bb = (LI == 0) := by
          rw [Bool.eq_iff_iff, hbi]; simp [g1, g2, g3]
        subst hl
        subst g1; subst g2; subst g3
        clear hbi
        go_enter Tryd.func29, Tryd.ntmps29
        go_wp2_with (go_at_call 38; ((with_reducible refine (Hid.out HL _ C0).mono ?_); rintro r wx ⟨rfl, b1⟩))
        go_ret
        exact ⟨rfl, b0.trans (b1.mono b0.size)⟩
      · have hl : bb = false := by
          cases bb with
          | false => rfl
          | true => exact absurd (hbi.1 rfl).2.2.1 g3
        subst hl; subst g1; subst g2
        have g3' : (RA == 0) = false := by simp [g3]
        clear hbi HL
        go_enter Tryd.func29, Tryd.ntmps29
        go_wp2
        go_ret
        exact ⟨rfl, b0⟩
    · have hl : bb = false := by
        cases bb with
        | false => rfl
        | true => exact absurd (hbi.1 rfl).2.1 g2
      subst hl; subst g1
      have g2' : (TI == 0) = false := by simp [g2]
      clear hbi HL
      go_enter Tryd.func29, Tryd.ntmps29
      go_wp2
      go_ret
      exact ⟨rfl, b0⟩
  · have hl : bb = false := by
      cases bb with
      | false => rfl
      | true => exact absurd (hbi.1 rfl).1 g1
    subst hl
    have g1' : (OI == 0) = false := by simp [g1]
    clear hbi HL
    go_enter Tryd.func29, Tryd.ntmps29
    go_wp2
    go_ret
    exact ⟨rfl, b0⟩
end Go.Proofs.YtacaempcbdekaaaDoor
