/- Several texts in one: plain words and walks. No statement is proved here. -/
import Derived.Test.YtheefckohnaceaaGreatDoorZM17
import Derived.Laws.ResultCell
namespace Go.Proofs.YtheefckohnaceaaGreatDoor
open Go.RowKit
set_option linter.unusedVariables false

set_option maxRecDepth 100000 in
set_option maxHeartbeats 1000000 in
theorem besides_200 (so me ti st pa oc ra : Int) (A B C D E : Option Addr) (n1 n2 n3 n4 n5 a b c d e : Nat) (w : World) :
 Calls Tryz.prog 48 #[.agg #[.int .i64 200, .int .u32 so, .int .u32 me, .int .u64 ti, .int .u32 st, .int .u32 pa, .int .u32 oc, .slice A n1 a, .slice B n2 b, .slice C n3 c, .slice D n4 d, .slice E n5 e, .int .u64 ra]] w fun r w' =>
  r = .returned (.tuple #[.agg #[.int .i64 200, .int .u32 0, .int .u32 me, .int .u64 0, .int .u32 0, .int .u32 0, .int .u32 0, .slice none 0 0, .slice B n2 b, .slice C n3 c, .slice D n4 d, .slice E n5 e, .int .u64 ra], .bool true]) ∧ Below w.heap.size w w' := by
 go_enter Tryz.func48, Tryz.ntmps48
 go_wp2
 exact ret_row2 rfl rfl (twoB w _ [.int .i64 200, .int .u32 0, .int .u32 me, .int .u64 0, .int .u32 0, .int .u32 0, .int .u32 0, .slice none 0 0, .slice B n2 b, .slice C n3 c, .slice D n4 d, .slice E n5 e, .int .u64 ra] _) (rowCtl rfl) rfl ⟨rfl, twoBelow _ _ _⟩
set_option maxRecDepth 100000 in
set_option maxHeartbeats 1000000 in
theorem besides_201 (so me ti st pa oc ra : Int) (A B C D E : Option Addr) (n1 n2 n3 n4 n5 a b c d e : Nat) (w : World) :
 Calls Tryz.prog 48 #[.agg #[.int .i64 201, .int .u32 so, .int .u32 me, .int .u64 ti, .int .u32 st, .int .u32 pa, .int .u32 oc, .slice A n1 a, .slice B n2 b, .slice C n3 c, .slice D n4 d, .slice E n5 e, .int .u64 ra]] w fun r w' =>
  r = .returned (.tuple #[.agg #[.int .i64 201, .int .u32 0, .int .u32 me, .int .u64 ti, .int .u32 st, .int .u32 pa, .int .u32 oc, .slice none 0 0, .slice B n2 b, .slice C n3 c, .slice D n4 d, .slice E n5 e, .int .u64 ra], .bool true]) ∧ Below w.heap.size w w' := by
 go_enter Tryz.func48, Tryz.ntmps48
 go_wp2
 exact ret_row2 rfl rfl (twoB w _ [.int .i64 201, .int .u32 0, .int .u32 me, .int .u64 ti, .int .u32 st, .int .u32 pa, .int .u32 oc, .slice none 0 0, .slice B n2 b, .slice C n3 c, .slice D n4 d, .slice E n5 e, .int .u64 ra] _) (rowCtl rfl) rfl ⟨rfl, twoBelow _ _ _⟩
set_option maxRecDepth 100000 in
set_option maxHeartbeats 1000000 in
theorem besides_202 (so me ti st pa oc ra : Int) (A B C D E : Option Addr) (n1 n2 n3 n4 n5 a b c d e : Nat) (w : World) :
 Calls Tryz.prog 48 #[.agg #[.int .i64 202, .int .u32 so, .int .u32 me, .int .u64 ti, .int .u32 st, .int .u32 pa, .int .u32 oc, .slice A n1 a, .slice B n2 b, .slice C n3 c, .slice D n4 d, .slice E n5 e, .int .u64 ra]] w fun r w' =>
  r = .returned (.tuple #[.agg #[.int .i64 202, .int .u32 so, .int .u32 me, .int .u64 ti, .int .u32 st, .int .u32 pa, .int .u32 oc, .slice A n1 a, .slice none 0 0, .slice C n3 c, .slice D n4 d, .slice E n5 e, .int .u64 ra], .bool true]) ∧ Below w.heap.size w w' := by
 go_enter Tryz.func48, Tryz.ntmps48
 go_wp2
 exact ret_row2 rfl rfl (twoB w _ [.int .i64 202, .int .u32 so, .int .u32 me, .int .u64 ti, .int .u32 st, .int .u32 pa, .int .u32 oc, .slice A n1 a, .slice none 0 0, .slice C n3 c, .slice D n4 d, .slice E n5 e, .int .u64 ra] _) (rowCtl rfl) rfl ⟨rfl, twoBelow _ _ _⟩
set_option maxRecDepth 100000 in
set_option maxHeartbeats 1000000 in
theorem besides_203 (so me ti st pa oc ra : Int) (A B C D E : Option Addr) (n1 n2 n3 n4 n5 a b c d e : Nat) (w : World) :
 Calls Tryz.prog 48 #[.agg #[.int .i64 203, .int .u32 so, .int .u32 me, .int .u64 ti, .int .u32 st, .int .u32 pa, .int .u32 oc, .slice A n1 a, .slice B n2 b, .slice C n3 c, .slice D n4 d, .slice E n5 e, .int .u64 ra]] w fun r w' =>
  r = .returned (.tuple #[.agg #[.int .i64 203, .int .u32 so, .int .u32 me, .int .u64 ti, .int .u32 st, .int .u32 pa, .int .u32 oc, .slice A n1 a, .slice B n2 b, .slice none 0 0, .slice D n4 d, .slice E n5 e, .int .u64 ra], .bool true]) ∧ Below w.heap.size w w' := by
 go_enter Tryz.func48, Tryz.ntmps48
 go_wp2
 exact ret_row2 rfl rfl (twoB w _ [.int .i64 203, .int .u32 so, .int .u32 me, .int .u64 ti, .int .u32 st, .int .u32 pa, .int .u32 oc, .slice A n1 a, .slice B n2 b, .slice none 0 0, .slice D n4 d, .slice E n5 e, .int .u64 ra] _) (rowCtl rfl) rfl ⟨rfl, twoBelow _ _ _⟩
set_option maxRecDepth 100000 in
set_option maxHeartbeats 1000000 in
theorem besides_1 (so me ti st pa oc ra : Int) (A B C D E : Option Addr) (n1 n2 n3 n4 n5 a b c d e : Nat) (w : World) :
 Calls Tryz.prog 48 #[.agg #[.int .i64 1, .int .u32 so, .int .u32 me, .int .u64 ti, .int .u32 st, .int .u32 pa, .int .u32 oc, .slice A n1 a, .slice B n2 b, .slice C n3 c, .slice D n4 d, .slice E n5 e, .int .u64 ra]] w fun r w' =>
  r = .returned (.tuple #[.agg #[.int .i64 1, .int .u32 0, .int .u32 0, .int .u64 ti, .int .u32 st, .int .u32 pa, .int .u32 oc, .slice A n1 a, .slice B n2 b, .slice C n3 c, .slice none 0 0, .slice E n5 e, .int .u64 ra], .bool true]) ∧ Below w.heap.size w w' := by
 go_enter Tryz.func48, Tryz.ntmps48
 go_wp2
 exact ret_row2 rfl rfl (twoB w _ [.int .i64 1, .int .u32 0, .int .u32 0, .int .u64 ti, .int .u32 st, .int .u32 pa, .int .u32 oc, .slice A n1 a, .slice B n2 b, .slice C n3 c, .slice none 0 0, .slice E n5 e, .int .u64 ra] _) (rowCtl rfl) rfl ⟨rfl, twoBelow _ _ _⟩
set_option maxRecDepth 100000 in
set_option maxHeartbeats 1000000 in
theorem besides_2 (so me ti st pa oc ra : Int) (A B C D E : Option Addr) (n1 n2 n3 n4 n5 a b c d e : Nat) (w : World) :
 Calls Tryz.prog 48 #[.agg #[.int .i64 2, .int .u32 so, .int .u32 me, .int .u64 ti, .int .u32 st, .int .u32 pa, .int .u32 oc, .slice A n1 a, .slice B n2 b, .slice C n3 c, .slice D n4 d, .slice E n5 e, .int .u64 ra]] w fun r w' =>
  r = .returned (.tuple #[.agg #[.int .i64 2, .int .u32 0, .int .u32 0, .int .u64 ti, .int .u32 st, .int .u32 pa, .int .u32 oc, .slice A n1 a, .slice B n2 b, .slice C n3 c, .slice D n4 d, .slice E n5 e, .int .u64 ra], .bool true]) ∧ Below w.heap.size w w' := by
 go_enter Tryz.func48, Tryz.ntmps48
 go_wp2
 exact ret_row2 rfl rfl (twoB w _ [.int .i64 2, .int .u32 0, .int .u32 0, .int .u64 ti, .int .u32 st, .int .u32 pa, .int .u32 oc, .slice A n1 a, .slice B n2 b, .slice C n3 c, .slice D n4 d, .slice E n5 e, .int .u64 ra] _) (rowCtl rfl) rfl ⟨rfl, twoBelow _ _ _⟩
set_option maxRecDepth 100000 in
set_option maxHeartbeats 1000000 in
theorem besides_3 (so me ti st pa oc ra : Int) (A B C D E : Option Addr) (n1 n2 n3 n4 n5 a b c d e : Nat) (w : World) :
 Calls Tryz.prog 48 #[.agg #[.int .i64 3, .int .u32 so, .int .u32 me, .int .u64 ti, .int .u32 st, .int .u32 pa, .int .u32 oc, .slice A n1 a, .slice B n2 b, .slice C n3 c, .slice D n4 d, .slice E n5 e, .int .u64 ra]] w fun r w' =>
  r = .returned (.tuple #[.agg #[.int .i64 3, .int .u32 0, .int .u32 me, .int .u64 ti, .int .u32 st, .int .u32 pa, .int .u32 oc, .slice A n1 a, .slice B n2 b, .slice C n3 c, .slice D n4 d, .slice none 0 0, .int .u64 ra], .bool true]) ∧ Below w.heap.size w w' := by
 go_enter Tryz.func48, Tryz.ntmps48
 go_wp2
 exact ret_row2 rfl rfl (twoB w _ [.int .i64 3, .int .u32 0, .int .u32 me, .int .u64 ti, .int .u32 st, .int .u32 pa, .int .u32 oc, .slice A n1 a, .slice B n2 b, .slice C n3 c, .slice D n4 d, .slice none 0 0, .int .u64 ra] _) (rowCtl rfl) rfl ⟨rfl, twoBelow _ _ _⟩
set_option maxRecDepth 100000 in
set_option maxHeartbeats 1000000 in
theorem besides_4 (so me ti st pa oc ra : Int) (A B C D E : Option Addr) (n1 n2 n3 n4 n5 a b c d e : Nat) (w : World) :
 Calls Tryz.prog 48 #[.agg #[.int .i64 4, .int .u32 so, .int .u32 me, .int .u64 ti, .int .u32 st, .int .u32 pa, .int .u32 oc, .slice A n1 a, .slice B n2 b, .slice C n3 c, .slice D n4 d, .slice E n5 e, .int .u64 ra]] w fun r w' =>
  r = .returned (.tuple #[.agg #[.int .i64 4, .int .u32 0, .int .u32 me, .int .u64 ti, .int .u32 st, .int .u32 pa, .int .u32 oc, .slice A n1 a, .slice B n2 b, .slice none 0 0, .slice D n4 d, .slice E n5 e, .int .u64 0], .bool true]) ∧ Below w.heap.size w w' := by
 go_enter Tryz.func48, Tryz.ntmps48
 go_wp2
 exact ret_row2 rfl rfl (twoB w _ [.int .i64 4, .int .u32 0, .int .u32 me, .int .u64 ti, .int .u32 st, .int .u32 pa, .int .u32 oc, .slice A n1 a, .slice B n2 b, .slice none 0 0, .slice D n4 d, .slice E n5 e, .int .u64 0] _) (rowCtl rfl) rfl ⟨rfl, twoBelow _ _ _⟩
set_option maxRecDepth 100000 in
set_option maxHeartbeats 1000000 in
theorem besides_none (k : Int) (h200 : ¬ k = 200) (h201 : ¬ k = 201) (h202 : ¬ k = 202) (h203 : ¬ k = 203) (h1 : ¬ k = 1) (h2 : ¬ k = 2) (h3 : ¬ k = 3) (h4 : ¬ k = 4) (so me ti st pa oc ra : Int) (A B C D E : Option Addr) (n1 n2 n3 n4 n5 a b c d e : Nat) (w : World) :
 Calls Tryz.prog 48 #[.agg #[.int .i64 k, .int .u32 so, .int .u32 me, .int .u64 ti, .int .u32 st, .int .u32 pa, .int .u32 oc, .slice A n1 a, .slice B n2 b, .slice C n3 c, .slice D n4 d, .slice E n5 e, .int .u64 ra]] w fun r w' =>
  r = .returned (.tuple #[.agg #[.int .i64 0, .int .u32 0, .int .u32 0, .int .u64 0, .int .u32 0, .int .u32 0, .int .u32 0, .slice none 0 0, .slice none 0 0, .slice none 0 0, .slice none 0 0, .slice none 0 0, .int .u64 0], .bool false]) ∧ Below w.heap.size w w' := by
 go_enter Tryz.func48, Tryz.ntmps48
 go_wp2
 exact ret_row2 rfl rfl (twoB w _ [.int .i64 0, .int .u32 0, .int .u32 0, .int .u64 0, .int .u32 0, .int .u32 0, .int .u32 0, .slice none 0 0, .slice none 0 0, .slice none 0 0, .slice none 0 0, .slice none 0 0, .int .u64 0] _) (rowCtl rfl) rfl ⟨rfl, twoBelow _ _ _⟩
def blankC (c : Ctl) : Prop := c.so = 0 ∧ c.me = 0 ∧ c.st = 0 ∧ c.pa = 0 ∧ c.oc = 0 ∧ c.ti = 0 ∧ c.ra = 0 ∧ longN c = 0

theorem or_zero (a b : Nat) : a ||| b = 0 ↔ a = 0 ∧ b = 0 := by
 constructor
 · intro h
   constructor
   · apply Nat.eq_of_testBit_eq; intro i
     have := congrArg (fun n => Nat.testBit n i) h
     simp at this; simp [this.1]
   · apply Nat.eq_of_testBit_eq; intro i
     have := congrArg (fun n => Nat.testBit n i) h
     simp at this; simp [this.2]
 · rintro ⟨rfl, rfl⟩; rfl
theorem or_lt32 {a b : Nat} (ha : a < 4294967296) (hb : b < 4294967296) : a ||| b < 4294967296 := Nat.or_lt_two_pow (n := 32) ha hb
theorem or_five (a b c d e : Nat) (h1 : a < 4294967296) (h2 : b < 4294967296) (h3 : c < 4294967296) (h4 : d < 4294967296) (h5 : e < 4294967296) :
 bits BinOp.or IntKind.u32 (bits BinOp.or IntKind.u32 (bits BinOp.or IntKind.u32 (bits BinOp.or IntKind.u32 (a : Int) (b : Int)) (c : Int)) (d : Int)) (e : Int) = ((a ||| b ||| c ||| d ||| e : Nat) : Int) := by
 rw [u32_or_nat _ _ h1 h2, u32_or_nat _ _ (or_lt32 h1 h2) h3, u32_or_nat _ _ (or_lt32 (or_lt32 h1 h2) h3) h4, u32_or_nat _ _ (or_lt32 (or_lt32 (or_lt32 h1 h2) h3) h4) h5]

set_option maxRecDepth 100000 in
set_option maxHeartbeats 1000000 in
theorem isBlank_any (cs : List Value) (c : Ctl) (w : World) (h : CtRd w cs c) (hf : c.fit) (bb : Bool) (hbb : bb = true ↔ blankC c) :
 Calls Tryz.prog 49 #[.agg cs.toArray] w fun r w' => r = .returned (.bool bb) ∧ Below w.heap.size w w' := by
 have HL : Hid (∀ W, CtRd W cs c → Calls Tryz.prog 70 #[.agg cs.toArray] W fun r w' => r = .returned (.int .i64 (longN c : Int)) ∧ Below W.heap.size W w') := Lib.hid fun W hW => longest_any cs c W hW
 obtain ⟨_, C0, b0⟩ := box_facts w cs c h
 obtain ⟨A, a, B, b', C, c', D, d, E, e, h0, _⟩ := h
 subst h0
 unfold ctlC at C0 HL b0 ⊢
 unfold blankC at hbb
 obtain ⟨-, f1, f2, f3, f4, f5, f6, -⟩ := hf
 have hO := or_five c.so c.me c.st c.pa c.oc f1 f2 f4 f5 f6
 have hz : c.so ||| c.me ||| c.st ||| c.pa ||| c.oc = 0 ↔ c.so = 0 ∧ c.me = 0 ∧ c.st = 0 ∧ c.pa = 0 ∧ c.oc = 0 := by
  rw [or_zero, or_zero, or_zero, or_zero]
  constructor
  · rintro ⟨⟨⟨⟨a1, a2⟩, a3⟩, a4⟩, a5⟩; exact ⟨a1, a2, a3, a4, a5⟩
  · rintro ⟨a1, a2, a3, a4, a5⟩; exact ⟨⟨⟨⟨a1, a2⟩, a3⟩, a4⟩, a5⟩
 obtain ⟨L, hL⟩ : ∃ L, L = longN c := ⟨_, rfl⟩
 obtain ⟨O, hOn⟩ : ∃ O, O = c.so ||| c.me ||| c.st ||| c.pa ||| c.oc := ⟨_, rfl⟩
 rw [← hOn] at hO hz
 replace hbb : bb = true ↔ O = 0 ∧ c.ti = 0 ∧ c.ra = 0 ∧ L = 0 := by
  rw [hbb, hz, hL]
  constructor
  · rintro ⟨a1, a2, a3, a4, a5, a6, a7, a8⟩; exact ⟨⟨a1, a2, a3, a4, a5⟩, a6, a7, a8⟩
  · rintro ⟨⟨a1, a2, a3, a4, a5⟩, a6, a7, a8⟩; exact ⟨a1, a2, a3, a4, a5, a6, a7, a8⟩
 obtain ⟨TI, hTI⟩ : ∃ n : Int, n = (c.ti : Int) := ⟨_, rfl⟩
 obtain ⟨RA, hRA⟩ : ∃ n : Int, n = (c.ra : Int) := ⟨_, rfl⟩
 obtain ⟨OI, hOI⟩ : ∃ n : Int, n = (O : Int) := ⟨_, rfl⟩
 obtain ⟨LI, hLI⟩ : ∃ n : Int, n = (L : Int) := ⟨_, rfl⟩
 rw [← hL, ← hLI] at HL
 rw [← hTI, ← hRA] at C0 HL b0 ⊢
 rw [← hOI] at hO
 have hbi : bb = true ↔ OI = 0 ∧ TI = 0 ∧ RA = 0 ∧ LI = 0 := by
  rw [hbb]
  constructor
  · rintro ⟨a1, a2, a3, a4⟩; omega
  · rintro ⟨a1, a2, a3, a4⟩; omega
 clear hbb hz hOn hTI hRA hOI hLI hL f1 f2 f3 f4 f5 f6
 by_cases g1 : OI = 0
 · by_cases g2 : TI = 0
   · by_cases g3 : RA = 0
     · have hl : bb = (LI == 0) := by
        rw [Bool.eq_iff_iff, hbi]; simp [g1, g2, g3]
       subst hl
       subst g1; subst g2; subst g3
       clear hbi
       go_enter Tryz.func49, Tryz.ntmps49
       go_wp2_with (go_at_call 70; ((with_reducible refine (Hid.out HL _ C0).mono ?_); rintro r wx ⟨rfl, b1⟩))
       go_ret
       exact ⟨rfl, b0.trans (b1.mono b0.size)⟩
     · have hl : bb = false := by
        cases bb with
        | false => rfl
        | true => exact absurd (hbi.1 rfl).2.2.1 g3
       subst hl; subst g1; subst g2
       have g3' : (RA == 0) = false := by simp [g3]
       clear hbi HL
       go_enter Tryz.func49, Tryz.ntmps49
       go_wp2
       go_ret
       exact ⟨rfl, b0⟩
   · have hl : bb = false := by
      cases bb with
      | false => rfl
      | true => exact absurd (hbi.1 rfl).2.1 g2
     subst hl; subst g1
     have g2' : (TI == 0) = false := by simp [g2]
     clear hbi HL
     go_enter Tryz.func49, Tryz.ntmps49
     go_wp2
     go_ret
     exact ⟨rfl, b0⟩
 · have hl : bb = false := by
    cases bb with
    | false => rfl
    | true => exact absurd (hbi.1 rfl).1 g1
   subst hl
   have g1' : (OI == 0) = false := by simp [g1]
   clear hbi HL
   go_enter Tryz.func49, Tryz.ntmps49
   go_wp2
   go_ret
   exact ⟨rfl, b0⟩
def listsC (c : Ctl) : Prop := longN c ≤ 16 ∧ ¬ (c.k = 1 ∧ c.loss.length = 0) ∧ ¬ (c.k = 3 ∧ c.firs.length = 0) ∧ (∀ x ∈ c.reps, x.ok) ∧ ∀ x ∈ c.nams, nameP (txt x.2)

def ListsTold (c : Ctl) (e : Ending) : Prop := ∃ b : Bool, e = .returned (.bool b) ∧ (b = true ↔ listsC c)
theorem ListsTold.no {c : Ctl} (h : ¬ listsC c) : ListsTold c (.returned (.bool false)) := ⟨false, rfl, by simp [h]⟩
theorem ListsTold.yes {c : Ctl} (h : listsC c) : ListsTold c (.returned (.bool true)) := ⟨true, rfl, by simp [h]⟩
theorem all_snoc {α : Type} {p : α → Prop} {L : List α} {k : Nat} (hk : k < L.length) (h : ∀ x ∈ L.take k, p x) (hx : p L[k]) : ∀ x ∈ L.take (k + 1), p x := by
 intro x hm
 rw [List.take_succ_eq_append_getElem hk] at hm
 rcases List.mem_append.1 hm with hm | hm
 · exact h x hm
 · rw [List.mem_singleton.1 hm]; exact hx

set_option maxRecDepth 100000 in
set_option maxHeartbeats 1000000 in
theorem listsMayBe_any (cs : List Value) (c : Ctl) (w : World) (h : CtRd w cs c) :
 Calls Tryz.prog 50 #[.agg cs.toArray] w fun r w' => ListsTold c r ∧ Below w.heap.size w w' := by
 have HL : Hid (∀ W, CtRd W cs c → Calls Tryz.prog 70 #[.agg cs.toArray] W fun r w' => r = .returned (.int .i64 (longN c : Int)) ∧ Below W.heap.size W w') := Lib.hid fun W hW => longest_any cs c W hW
 obtain ⟨hB0, C0, b0⟩ := box_facts w cs c h
 have V0 := Lib.hid hB0
 have B0 := Lib.hid b0
 clear hB0 b0
 obtain ⟨A, a, B, b', C, c', D, d, E, e, h0, h1, h2, -, -, -⟩ := h
 have HR := Lib.hid h1
 have HN := Lib.hid h2
 clear h1 h2
 subst h0
 unfold ctlC at C0 HL V0 B0 ⊢
 have HC : Hid (listsC c ↔ longN c ≤ 16 ∧ ¬ (c.k = 1 ∧ c.loss.length = 0) ∧ ¬ (c.k = 3 ∧ c.firs.length = 0) ∧ (∀ x ∈ c.reps, x.ok) ∧ ∀ x ∈ c.nams, nameP (txt x.2)) := Lib.hid Iff.rfl
 obtain ⟨K, hK⟩ : ∃ K, K = c.k := ⟨_, rfl⟩
 rw [← hK] at C0 HL V0 B0 HC ⊢
 have l1 : c.reps.length ≤ longN c := by unfold longN; omega
 have l2 : c.nams.length ≤ longN c := by unfold longN; omega
 obtain ⟨L, hL⟩ : ∃ L, L = longN c := ⟨_, rfl⟩
 rw [← hL] at HL HC l1 l2
 clear hK hL
 have ARM : Hid (∀ wx, Below (w.alloc (.cells #[.int .i64 K, .int .u32 (c.so : Int), .int .u32 (c.me : Int), .int .u64 (c.ti : Int), .int .u32 (c.st : Int), .int .u32 (c.pa : Int), .int .u32 (c.oc : Int), .slice A c.reps.length a, .slice B c.nams.length b', .slice C c.srcs.length c', .slice D c.loss.length d, .slice E c.firs.length e, .int .u64 (c.ra : Int)] 58)).heap.size (w.alloc (.cells #[.int .i64 K, .int .u32 (c.so : Int), .int .u32 (c.me : Int), .int .u64 (c.ti : Int), .int .u32 (c.st : Int), .int .u32 (c.pa : Int), .int .u32 (c.oc : Int), .slice A c.reps.length a, .slice B c.nams.length b', .slice C c.srcs.length c', .slice D c.loss.length d, .slice E c.firs.length e, .int .u64 (c.ra : Int)] 58)) wx → BlkV wx w.heap.size 58 [.int .i64 K, .int .u32 (c.so : Int), .int .u32 (c.me : Int), .int .u64 (c.ti : Int), .int .u32 (c.st : Int), .int .u32 (c.pa : Int), .int .u32 (c.oc : Int), .slice A c.reps.length a, .slice B c.nams.length b', .slice C c.srcs.length c', .slice D c.loss.length d, .slice E c.firs.length e, .int .u64 (c.ra : Int)] ∧ Below w.heap.size w wx) := Lib.hid fun wx hb => ⟨V0.out.below hb V0.out.lt, B0.out.trans (hb.mono B0.out.size)⟩
 by_cases g16 : 16 < L
 · clear l1 l2
   have g : (16 : Int) < (L : Int) := by omega
   go_enter Tryz.func50, Tryz.ntmps50
   go_wp2_with (go_at_call 70; ((with_reducible refine (Hid.out HL _ C0).mono ?_); rintro r wx ⟨rfl, b1⟩))
   go_ret
   exact ⟨ListsTold.no (by rw [HC.out]; intro hh; have := hh.1; omega), (ARM.out _ b1).2⟩
 · have g : ¬ (16 : Int) < (L : Int) := by omega
   have hcase : (K = 1 ∧ c.loss.length = 0) ∨ (K = 3 ∧ c.firs.length = 0) ∨ (K = 1 ∧ ¬ c.loss.length = 0) ∨ (K = 3 ∧ ¬ c.firs.length = 0) ∨ (¬ K = 1 ∧ ¬ K = 3) := by omega
   obtain ⟨n4, h4⟩ : ∃ n4, n4 = c.loss.length := ⟨_, rfl⟩
   obtain ⟨n5, h5⟩ : ∃ n5, n5 = c.firs.length := ⟨_, rfl⟩
   rw [← h4, ← h5] at C0 HL V0 B0 HC hcase ARM ⊢
   obtain ⟨n1, h1⟩ : ∃ n1, n1 = c.reps.length := ⟨_, rfl⟩
   obtain ⟨n2, h2⟩ : ∃ n2, n2 = c.nams.length := ⟨_, rfl⟩
   rw [← h1, ← h2] at C0 HL V0 B0 ARM ⊢
   rw [← h1] at l1
   rw [← h2] at l2
   have l3 : n1 ≤ 16 := by omega
   have l4 : n2 ≤ 16 := by omega
   clear l1 l2
   have H1 := Lib.hid h1
   have H2 := Lib.hid h2
   clear h1 h2 h4 h5
   have G16 : Hid (L ≤ 16) := Lib.hid (by omega)
   clear g16
   rcases hcase with ⟨q1, q2⟩ | ⟨q1, q2⟩ | ⟨q1, q2⟩ | ⟨q1, q2⟩ | ⟨q1, q2⟩
   · subst q1
     subst q2
     go_enter Tryz.func50, Tryz.ntmps50
     go_wp2_with (go_at_call 70; ((with_reducible refine (Hid.out HL _ C0).mono ?_); rintro r wx ⟨rfl, b1⟩; have VX := Lib.hid (ARM.out _ b1).1; have BX := Lib.hid (ARM.out _ b1).2; have k0 : wx.cell? ⟨w.heap.size, 0, none⟩ = some (.int .i64 1) := (VX.out.cell 0).trans rfl; have k7 : wx.cell? ⟨w.heap.size, 7, none⟩ = some (.slice A n1 a) := (VX.out.cell 7).trans rfl; have k10 : wx.cell? ⟨w.heap.size, 10, none⟩ = some (.slice D 0 d) := (VX.out.cell 10).trans rfl; have k11 : wx.cell? ⟨w.heap.size, 11, none⟩ = some (.slice E n5 e) := (VX.out.cell 11).trans rfl; clear b1))
     go_ret
     exact ⟨ListsTold.no (by rw [HC.out]; simp), BX.out⟩
   · subst q1
     subst q2
     go_enter Tryz.func50, Tryz.ntmps50
     go_wp2_with (go_at_call 70; ((with_reducible refine (Hid.out HL _ C0).mono ?_); rintro r wx ⟨rfl, b1⟩; have VX := Lib.hid (ARM.out _ b1).1; have BX := Lib.hid (ARM.out _ b1).2; have k0 : wx.cell? ⟨w.heap.size, 0, none⟩ = some (.int .i64 3) := (VX.out.cell 0).trans rfl; have k7 : wx.cell? ⟨w.heap.size, 7, none⟩ = some (.slice A n1 a) := (VX.out.cell 7).trans rfl; have k10 : wx.cell? ⟨w.heap.size, 10, none⟩ = some (.slice D n4 d) := (VX.out.cell 10).trans rfl; have k11 : wx.cell? ⟨w.heap.size, 11, none⟩ = some (.slice E 0 e) := (VX.out.cell 11).trans rfl; clear b1))
     go_ret
     exact ⟨ListsTold.no (by rw [HC.out]; simp), BX.out⟩
   · subst q1
     have z4 : ((n4 : Int) == 0) = false := by
      simp; omega
     go_enter Tryz.func50, Tryz.ntmps50
     go_wp2_with (go_at_call 70; ((with_reducible refine (Hid.out HL _ C0).mono ?_); rintro r wx ⟨rfl, b1⟩; have VX := Lib.hid (ARM.out _ b1).1; have BX := Lib.hid (ARM.out _ b1).2; have k0 : wx.cell? ⟨w.heap.size, 0, none⟩ = some (.int .i64 1) := (VX.out.cell 0).trans rfl; have k7 : wx.cell? ⟨w.heap.size, 7, none⟩ = some (.slice A n1 a) := (VX.out.cell 7).trans rfl; have k10 : wx.cell? ⟨w.heap.size, 10, none⟩ = some (.slice D n4 d) := (VX.out.cell 10).trans rfl; have k11 : wx.cell? ⟨w.heap.size, 11, none⟩ = some (.slice E n5 e) := (VX.out.cell 11).trans rfl; clear b1))
     go_loopw [33] (fun i wr => ∃ (k : Nat), k ≤ n1 ∧ i = .int .i64 k ∧ Hid (Below w.heap.size w wr) ∧ Hid (BlkV wr w.heap.size 58 [.int .i64 1, .int .u32 (c.so : Int), .int .u32 (c.me : Int), .int .u64 (c.ti : Int), .int .u32 (c.st : Int), .int .u32 (c.pa : Int), .int .u32 (c.oc : Int), .slice A n1 a, .slice B n2 b', .slice C c.srcs.length c', .slice D n4 d, .slice E n5 e, .int .u64 (c.ra : Int)]) ∧ Hid (∀ x ∈ c.reps.take k, x.ok)) (fun i _ => n1 - (intOf i).toNat)
     case atStart => exact ⟨0, by omega, rfl, BX, VX, Lib.hid (by simp)⟩
     case round =>
      obtain ⟨k, hk, rfl, HB, HV, HA⟩ := hrel
      by_cases hkn : k < n1
      · have hkl : k < c.reps.length := by rw [← H1.out]; exact hkn
        obtain ⟨b, off, rfl, hat⟩ := HR.out.at_ hkl
        have HG := Lib.hid (hat wr HB.out)
        have HS := Lib.hid (all_snoc (p := fun x => x.ok) hkl HA.out)
        have HM := Lib.hid (List.getElem_mem hkl)
        obtain ⟨x, hx⟩ : ∃ x, x = c.reps[k] := ⟨_, rfl⟩
        rw [← hx] at HG HS HM
        clear hx hat
        obtain ⟨so, fr, lo, hi, ji, la, de⟩ := x
        have hlo : lo < -8388608 ∨ 8388607 < lo ∨ (-8388608 ≤ lo ∧ lo ≤ 8388607) := by omega
        rcases hlo with hlo | hlo | hlo
        · go_wp2_with (first
           | (with_reducible refine wpList_ld rfl 102 (.tmp 35) rfl b (off + k * 7) rfl (cRep ⟨so, fr, lo, hi, ji, la, de⟩) HG.out (rowRep rfl) ?_)
           | ((refine wpList_st rfl 102 (.tmp 4) (.tmp 36) rfl wr.heap.size 0 (cRep ⟨so, fr, lo, hi, ji, la, de⟩) rfl (by with_unfolding_all rfl) 102 zRep (BlkV.new wr _ _) (Nat.le_refl 7) (rowRep rfl) (cRep_one _) ?_); intro w1 hB1 ho1; rw [splice_all _ _ (by rfl)] at hB1; have k2 : w1.cell? ⟨wr.heap.size, 2, none⟩ = some (.int .i32 lo) := (hB1.cell 2).trans rfl; have hb1 := ((Below.refl _ wr).alloc (Nat.le_refl _) _).trans (ho1.below (Nat.le_refl _)); have B1 := Lib.hid (HB.out.trans (hb1.mono HB.out.size)); have W1 := Lib.hid (HV.out.below hb1 HV.out.lt); clear hB1 ho1 hb1))
          go_ret
          exact ⟨ListsTold.no (by rw [HC.out]; intro hh; have := hh.2.2.2.1 _ HM.out; unfold Rep.ok at this; simp only at this; omega), B1.out⟩
        · have hlo2 : ¬ lo < -8388608 := by omega
          go_wp2_with (first
           | (with_reducible refine wpList_ld rfl 102 (.tmp 35) rfl b (off + k * 7) rfl (cRep ⟨so, fr, lo, hi, ji, la, de⟩) HG.out (rowRep rfl) ?_)
           | ((refine wpList_st rfl 102 (.tmp 4) (.tmp 36) rfl wr.heap.size 0 (cRep ⟨so, fr, lo, hi, ji, la, de⟩) rfl (by with_unfolding_all rfl) 102 zRep (BlkV.new wr _ _) (Nat.le_refl 7) (rowRep rfl) (cRep_one _) ?_); intro w1 hB1 ho1; rw [splice_all _ _ (by rfl)] at hB1; have k2 : w1.cell? ⟨wr.heap.size, 2, none⟩ = some (.int .i32 lo) := (hB1.cell 2).trans rfl; have hb1 := ((Below.refl _ wr).alloc (Nat.le_refl _) _).trans (ho1.below (Nat.le_refl _)); have B1 := Lib.hid (HB.out.trans (hb1.mono HB.out.size)); have W1 := Lib.hid (HV.out.below hb1 HV.out.lt); clear hB1 ho1 hb1))
          go_ret
          exact ⟨ListsTold.no (by rw [HC.out]; intro hh; have := hh.2.2.2.1 _ HM.out; unfold Rep.ok at this; simp only at this; omega), B1.out⟩
        · have hlo2 : ¬ lo < -8388608 := by omega
          have hlo3 : ¬ 8388607 < lo := by omega
          go_wp2_with (first
           | (with_reducible refine wpList_ld rfl 102 (.tmp 35) rfl b (off + k * 7) rfl (cRep ⟨so, fr, lo, hi, ji, la, de⟩) HG.out (rowRep rfl) ?_)
           | ((refine wpList_st rfl 102 (.tmp 4) (.tmp 36) rfl wr.heap.size 0 (cRep ⟨so, fr, lo, hi, ji, la, de⟩) rfl (by with_unfolding_all rfl) 102 zRep (BlkV.new wr _ _) (Nat.le_refl 7) (rowRep rfl) (cRep_one _) ?_); intro w1 hB1 ho1; rw [splice_all _ _ (by rfl)] at hB1; have k2 : w1.cell? ⟨wr.heap.size, 2, none⟩ = some (.int .i32 lo) := (hB1.cell 2).trans rfl; have hb1 := ((Below.refl _ wr).alloc (Nat.le_refl _) _).trans (ho1.below (Nat.le_refl _)); have B1 := Lib.hid (HB.out.trans (hb1.mono HB.out.size)); have W1 := Lib.hid (HV.out.below hb1 HV.out.lt); clear hB1 ho1 hb1))
          go_roundw
          case rel => exact ⟨k + 1, by omega, by go_num, B1, W1, Lib.hid (HS.out hlo)⟩
          case measure => simp [intOf]; omega
      · obtain rfl : k = n1 := by omega
        have HALL : Hid (∀ x ∈ c.reps, x.ok) := Lib.hid (by have := HA.out; rw [H1.out, List.take_length] at this; exact this)
        have k8 : wr.cell? ⟨w.heap.size, 8, none⟩ = some (.slice B n2 b') := (HV.out.cell 8).trans rfl
        obtain ⟨wy, hwy⟩ : ∃ wy, wy = wr := ⟨_, rfl⟩
        go_wp2
        go_loopw [49] (fun i wr => ∃ (k : Nat), k ≤ n2 ∧ i = .int .i64 k ∧ Hid (Below w.heap.size w wr) ∧ Hid (∀ x ∈ c.nams.take k, nameP (txt x.2))) (fun i _ => n2 - (intOf i).toNat)
        case atStart => exact ⟨0, by omega, rfl, HB, Lib.hid (by simp)⟩
        case round =>
         obtain ⟨k, hk, rfl, HB, HA⟩ := hrel
         by_cases hkn : k < n2
         · have hkl : k < c.nams.length := by rw [← H2.out]; exact hkn
           obtain ⟨b, off, rfl, hat⟩ := HN.out.at_ hkl
           have HG := Lib.hid (hat wr HB.out)
           have HS := Lib.hid (all_snoc (p := fun x => nameP (txt x.2)) hkl HA.out)
           have HM := Lib.hid (List.getElem_mem hkl)
           obtain ⟨x, hx⟩ : ∃ x, x = c.nams[k] := ⟨_, rfl⟩
           rw [← hx] at HG HS HM
           clear hx hat
           obtain ⟨s, t⟩ := x
           by_cases hnm : nameP (txt t)
           · have HNM := Lib.hid hnm
             clear hnm
             go_wp2_with (first
              | (with_reducible refine wpList_ld rfl 62 (.tmp 51) rfl b (off + k * 2) rfl (cNam (s, t)) HG.out (rowNam rfl) ?_)
              | ((refine wpList_st rfl 62 (.tmp 6) (.tmp 52) rfl wr.heap.size 0 (cNam (s, t)) rfl (by with_unfolding_all rfl) 62 zNam (BlkV.new wr _ _) (Nat.le_refl 2) (rowNam rfl) (cNam_one _) ?_); intro w1 hB1 ho1; rw [splice_all _ _ (by rfl)] at hB1; have k1 : w1.cell? ⟨wr.heap.size, 1, none⟩ = some (.string (txt t)) := (hB1.cell 1).trans rfl; have hb1 := ((Below.refl _ wr).alloc (Nat.le_refl _) _).trans (ho1.below (Nat.le_refl _)); have B1 := Lib.hid (HB.out.trans (hb1.mono HB.out.size)); clear hB1 ho1 hb1)
              | (go_at_call 71; ((with_reducible refine (isname_any _ _).mono ?_); rintro e w2 ⟨⟨bb, rfl, h1⟩, hb2⟩; have B2 := Lib.hid (B1.out.trans (hb2.mono B1.out.size)); obtain rfl : bb = true := h1.2 HNM.out; clear h1 hb2)))
             go_roundw
             case rel => exact ⟨k + 1, by omega, by go_num, B2, Lib.hid (HS.out HNM.out)⟩
             case measure => simp [intOf]; omega
           · have HNM := Lib.hid hnm
             clear hnm
             go_wp2_with (first
              | (with_reducible refine wpList_ld rfl 62 (.tmp 51) rfl b (off + k * 2) rfl (cNam (s, t)) HG.out (rowNam rfl) ?_)
              | ((refine wpList_st rfl 62 (.tmp 6) (.tmp 52) rfl wr.heap.size 0 (cNam (s, t)) rfl (by with_unfolding_all rfl) 62 zNam (BlkV.new wr _ _) (Nat.le_refl 2) (rowNam rfl) (cNam_one _) ?_); intro w1 hB1 ho1; rw [splice_all _ _ (by rfl)] at hB1; have k1 : w1.cell? ⟨wr.heap.size, 1, none⟩ = some (.string (txt t)) := (hB1.cell 1).trans rfl; have hb1 := ((Below.refl _ wr).alloc (Nat.le_refl _) _).trans (ho1.below (Nat.le_refl _)); have B1 := Lib.hid (HB.out.trans (hb1.mono HB.out.size)); clear hB1 ho1 hb1)
              | (go_at_call 71; ((with_reducible refine (isname_any _ _).mono ?_); rintro e w2 ⟨⟨bb, rfl, h1⟩, hb2⟩; have B2 := Lib.hid (B1.out.trans (hb2.mono B1.out.size)); obtain rfl : bb = false := (by cases bb with | false => rfl | true => exact absurd (h1.1 rfl) HNM.out); clear h1 hb2)))
             go_ret
             exact ⟨ListsTold.no (by rw [HC.out]; intro hh; exact HNM.out (hh.2.2.2.2 _ HM.out)), B2.out⟩
         · obtain rfl : k = n2 := by omega
           go_wp2
           go_ret
           exact ⟨ListsTold.yes (by rw [HC.out]; exact ⟨G16.out, by omega, by omega, HALL.out, by have := HA.out; rw [H2.out, List.take_length] at this; exact this⟩), HB.out⟩
   · subst q1
     have z5 : ((n5 : Int) == 0) = false := by
      simp; omega
     go_enter Tryz.func50, Tryz.ntmps50
     go_wp2_with (go_at_call 70; ((with_reducible refine (Hid.out HL _ C0).mono ?_); rintro r wx ⟨rfl, b1⟩; have VX := Lib.hid (ARM.out _ b1).1; have BX := Lib.hid (ARM.out _ b1).2; have k0 : wx.cell? ⟨w.heap.size, 0, none⟩ = some (.int .i64 3) := (VX.out.cell 0).trans rfl; have k7 : wx.cell? ⟨w.heap.size, 7, none⟩ = some (.slice A n1 a) := (VX.out.cell 7).trans rfl; have k10 : wx.cell? ⟨w.heap.size, 10, none⟩ = some (.slice D n4 d) := (VX.out.cell 10).trans rfl; have k11 : wx.cell? ⟨w.heap.size, 11, none⟩ = some (.slice E n5 e) := (VX.out.cell 11).trans rfl; clear b1))
     go_loopw [33] (fun i wr => ∃ (k : Nat), k ≤ n1 ∧ i = .int .i64 k ∧ Hid (Below w.heap.size w wr) ∧ Hid (BlkV wr w.heap.size 58 [.int .i64 3, .int .u32 (c.so : Int), .int .u32 (c.me : Int), .int .u64 (c.ti : Int), .int .u32 (c.st : Int), .int .u32 (c.pa : Int), .int .u32 (c.oc : Int), .slice A n1 a, .slice B n2 b', .slice C c.srcs.length c', .slice D n4 d, .slice E n5 e, .int .u64 (c.ra : Int)]) ∧ Hid (∀ x ∈ c.reps.take k, x.ok)) (fun i _ => n1 - (intOf i).toNat)
     case atStart => exact ⟨0, by omega, rfl, BX, VX, Lib.hid (by simp)⟩
     case round =>
      obtain ⟨k, hk, rfl, HB, HV, HA⟩ := hrel
      by_cases hkn : k < n1
      · have hkl : k < c.reps.length := by rw [← H1.out]; exact hkn
        obtain ⟨b, off, rfl, hat⟩ := HR.out.at_ hkl
        have HG := Lib.hid (hat wr HB.out)
        have HS := Lib.hid (all_snoc (p := fun x => x.ok) hkl HA.out)
        have HM := Lib.hid (List.getElem_mem hkl)
        obtain ⟨x, hx⟩ : ∃ x, x = c.reps[k] := ⟨_, rfl⟩
        rw [← hx] at HG HS HM
        clear hx hat
        obtain ⟨so, fr, lo, hi, ji, la, de⟩ := x
        have hlo : lo < -8388608 ∨ 8388607 < lo ∨ (-8388608 ≤ lo ∧ lo ≤ 8388607) := by omega
        rcases hlo with hlo | hlo | hlo
        · go_wp2_with (first
           | (with_reducible refine wpList_ld rfl 102 (.tmp 35) rfl b (off + k * 7) rfl (cRep ⟨so, fr, lo, hi, ji, la, de⟩) HG.out (rowRep rfl) ?_)
           | ((refine wpList_st rfl 102 (.tmp 4) (.tmp 36) rfl wr.heap.size 0 (cRep ⟨so, fr, lo, hi, ji, la, de⟩) rfl (by with_unfolding_all rfl) 102 zRep (BlkV.new wr _ _) (Nat.le_refl 7) (rowRep rfl) (cRep_one _) ?_); intro w1 hB1 ho1; rw [splice_all _ _ (by rfl)] at hB1; have k2 : w1.cell? ⟨wr.heap.size, 2, none⟩ = some (.int .i32 lo) := (hB1.cell 2).trans rfl; have hb1 := ((Below.refl _ wr).alloc (Nat.le_refl _) _).trans (ho1.below (Nat.le_refl _)); have B1 := Lib.hid (HB.out.trans (hb1.mono HB.out.size)); have W1 := Lib.hid (HV.out.below hb1 HV.out.lt); clear hB1 ho1 hb1))
          go_ret
          exact ⟨ListsTold.no (by rw [HC.out]; intro hh; have := hh.2.2.2.1 _ HM.out; unfold Rep.ok at this; simp only at this; omega), B1.out⟩
        · have hlo2 : ¬ lo < -8388608 := by omega
          go_wp2_with (first
           | (with_reducible refine wpList_ld rfl 102 (.tmp 35) rfl b (off + k * 7) rfl (cRep ⟨so, fr, lo, hi, ji, la, de⟩) HG.out (rowRep rfl) ?_)
           | ((refine wpList_st rfl 102 (.tmp 4) (.tmp 36) rfl wr.heap.size 0 (cRep ⟨so, fr, lo, hi, ji, la, de⟩) rfl (by with_unfolding_all rfl) 102 zRep (BlkV.new wr _ _) (Nat.le_refl 7) (rowRep rfl) (cRep_one _) ?_); intro w1 hB1 ho1; rw [splice_all _ _ (by rfl)] at hB1; have k2 : w1.cell? ⟨wr.heap.size, 2, none⟩ = some (.int .i32 lo) := (hB1.cell 2).trans rfl; have hb1 := ((Below.refl _ wr).alloc (Nat.le_refl _) _).trans (ho1.below (Nat.le_refl _)); have B1 := Lib.hid (HB.out.trans (hb1.mono HB.out.size)); have W1 := Lib.hid (HV.out.below hb1 HV.out.lt); clear hB1 ho1 hb1))
          go_ret
          exact ⟨ListsTold.no (by rw [HC.out]; intro hh; have := hh.2.2.2.1 _ HM.out; unfold Rep.ok at this; simp only at this; omega), B1.out⟩
        · have hlo2 : ¬ lo < -8388608 := by omega
          have hlo3 : ¬ 8388607 < lo := by omega
          go_wp2_with (first
           | (with_reducible refine wpList_ld rfl 102 (.tmp 35) rfl b (off + k * 7) rfl (cRep ⟨so, fr, lo, hi, ji, la, de⟩) HG.out (rowRep rfl) ?_)
           | ((refine wpList_st rfl 102 (.tmp 4) (.tmp 36) rfl wr.heap.size 0 (cRep ⟨so, fr, lo, hi, ji, la, de⟩) rfl (by with_unfolding_all rfl) 102 zRep (BlkV.new wr _ _) (Nat.le_refl 7) (rowRep rfl) (cRep_one _) ?_); intro w1 hB1 ho1; rw [splice_all _ _ (by rfl)] at hB1; have k2 : w1.cell? ⟨wr.heap.size, 2, none⟩ = some (.int .i32 lo) := (hB1.cell 2).trans rfl; have hb1 := ((Below.refl _ wr).alloc (Nat.le_refl _) _).trans (ho1.below (Nat.le_refl _)); have B1 := Lib.hid (HB.out.trans (hb1.mono HB.out.size)); have W1 := Lib.hid (HV.out.below hb1 HV.out.lt); clear hB1 ho1 hb1))
          go_roundw
          case rel => exact ⟨k + 1, by omega, by go_num, B1, W1, Lib.hid (HS.out hlo)⟩
          case measure => simp [intOf]; omega
      · obtain rfl : k = n1 := by omega
        have HALL : Hid (∀ x ∈ c.reps, x.ok) := Lib.hid (by have := HA.out; rw [H1.out, List.take_length] at this; exact this)
        have k8 : wr.cell? ⟨w.heap.size, 8, none⟩ = some (.slice B n2 b') := (HV.out.cell 8).trans rfl
        obtain ⟨wy, hwy⟩ : ∃ wy, wy = wr := ⟨_, rfl⟩
        go_wp2
        go_loopw [49] (fun i wr => ∃ (k : Nat), k ≤ n2 ∧ i = .int .i64 k ∧ Hid (Below w.heap.size w wr) ∧ Hid (∀ x ∈ c.nams.take k, nameP (txt x.2))) (fun i _ => n2 - (intOf i).toNat)
        case atStart => exact ⟨0, by omega, rfl, HB, Lib.hid (by simp)⟩
        case round =>
         obtain ⟨k, hk, rfl, HB, HA⟩ := hrel
         by_cases hkn : k < n2
         · have hkl : k < c.nams.length := by rw [← H2.out]; exact hkn
           obtain ⟨b, off, rfl, hat⟩ := HN.out.at_ hkl
           have HG := Lib.hid (hat wr HB.out)
           have HS := Lib.hid (all_snoc (p := fun x => nameP (txt x.2)) hkl HA.out)
           have HM := Lib.hid (List.getElem_mem hkl)
           obtain ⟨x, hx⟩ : ∃ x, x = c.nams[k] := ⟨_, rfl⟩
           rw [← hx] at HG HS HM
           clear hx hat
           obtain ⟨s, t⟩ := x
           by_cases hnm : nameP (txt t)
           · have HNM := Lib.hid hnm
             clear hnm
             go_wp2_with (first
              | (with_reducible refine wpList_ld rfl 62 (.tmp 51) rfl b (off + k * 2) rfl (cNam (s, t)) HG.out (rowNam rfl) ?_)
              | ((refine wpList_st rfl 62 (.tmp 6) (.tmp 52) rfl wr.heap.size 0 (cNam (s, t)) rfl (by with_unfolding_all rfl) 62 zNam (BlkV.new wr _ _) (Nat.le_refl 2) (rowNam rfl) (cNam_one _) ?_); intro w1 hB1 ho1; rw [splice_all _ _ (by rfl)] at hB1; have k1 : w1.cell? ⟨wr.heap.size, 1, none⟩ = some (.string (txt t)) := (hB1.cell 1).trans rfl; have hb1 := ((Below.refl _ wr).alloc (Nat.le_refl _) _).trans (ho1.below (Nat.le_refl _)); have B1 := Lib.hid (HB.out.trans (hb1.mono HB.out.size)); clear hB1 ho1 hb1)
              | (go_at_call 71; ((with_reducible refine (isname_any _ _).mono ?_); rintro e w2 ⟨⟨bb, rfl, h1⟩, hb2⟩; have B2 := Lib.hid (B1.out.trans (hb2.mono B1.out.size)); obtain rfl : bb = true := h1.2 HNM.out; clear h1 hb2)))
             go_roundw
             case rel => exact ⟨k + 1, by omega, by go_num, B2, Lib.hid (HS.out HNM.out)⟩
             case measure => simp [intOf]; omega
           · have HNM := Lib.hid hnm
             clear hnm
             go_wp2_with (first
              | (with_reducible refine wpList_ld rfl 62 (.tmp 51) rfl b (off + k * 2) rfl (cNam (s, t)) HG.out (rowNam rfl) ?_)
              | ((refine wpList_st rfl 62 (.tmp 6) (.tmp 52) rfl wr.heap.size 0 (cNam (s, t)) rfl (by with_unfolding_all rfl) 62 zNam (BlkV.new wr _ _) (Nat.le_refl 2) (rowNam rfl) (cNam_one _) ?_); intro w1 hB1 ho1; rw [splice_all _ _ (by rfl)] at hB1; have k1 : w1.cell? ⟨wr.heap.size, 1, none⟩ = some (.string (txt t)) := (hB1.cell 1).trans rfl; have hb1 := ((Below.refl _ wr).alloc (Nat.le_refl _) _).trans (ho1.below (Nat.le_refl _)); have B1 := Lib.hid (HB.out.trans (hb1.mono HB.out.size)); clear hB1 ho1 hb1)
              | (go_at_call 71; ((with_reducible refine (isname_any _ _).mono ?_); rintro e w2 ⟨⟨bb, rfl, h1⟩, hb2⟩; have B2 := Lib.hid (B1.out.trans (hb2.mono B1.out.size)); obtain rfl : bb = false := (by cases bb with | false => rfl | true => exact absurd (h1.1 rfl) HNM.out); clear h1 hb2)))
             go_ret
             exact ⟨ListsTold.no (by rw [HC.out]; intro hh; exact HNM.out (hh.2.2.2.2 _ HM.out)), B2.out⟩
         · obtain rfl : k = n2 := by omega
           go_wp2
           go_ret
           exact ⟨ListsTold.yes (by rw [HC.out]; exact ⟨G16.out, by omega, by omega, HALL.out, by have := HA.out; rw [H2.out, List.take_length] at this; exact this⟩), HB.out⟩
   · have z1 : (K == 1) = false := by simp [q1]
     have z3 : (K == 3) = false := by simp [q2]
     go_enter Tryz.func50, Tryz.ntmps50
     go_wp2_with (go_at_call 70; ((with_reducible refine (Hid.out HL _ C0).mono ?_); rintro r wx ⟨rfl, b1⟩; have VX := Lib.hid (ARM.out _ b1).1; have BX := Lib.hid (ARM.out _ b1).2; have k0 : wx.cell? ⟨w.heap.size, 0, none⟩ = some (.int .i64 K) := (VX.out.cell 0).trans rfl; have k7 : wx.cell? ⟨w.heap.size, 7, none⟩ = some (.slice A n1 a) := (VX.out.cell 7).trans rfl; have k10 : wx.cell? ⟨w.heap.size, 10, none⟩ = some (.slice D n4 d) := (VX.out.cell 10).trans rfl; have k11 : wx.cell? ⟨w.heap.size, 11, none⟩ = some (.slice E n5 e) := (VX.out.cell 11).trans rfl; clear b1))
     go_loopw [33] (fun i wr => ∃ (k : Nat), k ≤ n1 ∧ i = .int .i64 k ∧ Hid (Below w.heap.size w wr) ∧ Hid (BlkV wr w.heap.size 58 [.int .i64 K, .int .u32 (c.so : Int), .int .u32 (c.me : Int), .int .u64 (c.ti : Int), .int .u32 (c.st : Int), .int .u32 (c.pa : Int), .int .u32 (c.oc : Int), .slice A n1 a, .slice B n2 b', .slice C c.srcs.length c', .slice D n4 d, .slice E n5 e, .int .u64 (c.ra : Int)]) ∧ Hid (∀ x ∈ c.reps.take k, x.ok)) (fun i _ => n1 - (intOf i).toNat)
     case atStart => exact ⟨0, by omega, rfl, BX, VX, Lib.hid (by simp)⟩
     case round =>
      obtain ⟨k, hk, rfl, HB, HV, HA⟩ := hrel
      by_cases hkn : k < n1
      · have hkl : k < c.reps.length := by rw [← H1.out]; exact hkn
        obtain ⟨b, off, rfl, hat⟩ := HR.out.at_ hkl
        have HG := Lib.hid (hat wr HB.out)
        have HS := Lib.hid (all_snoc (p := fun x => x.ok) hkl HA.out)
        have HM := Lib.hid (List.getElem_mem hkl)
        obtain ⟨x, hx⟩ : ∃ x, x = c.reps[k] := ⟨_, rfl⟩
        rw [← hx] at HG HS HM
        clear hx hat
        obtain ⟨so, fr, lo, hi, ji, la, de⟩ := x
        have hlo : lo < -8388608 ∨ 8388607 < lo ∨ (-8388608 ≤ lo ∧ lo ≤ 8388607) := by omega
        rcases hlo with hlo | hlo | hlo
        · go_wp2_with (first
           | (with_reducible refine wpList_ld rfl 102 (.tmp 35) rfl b (off + k * 7) rfl (cRep ⟨so, fr, lo, hi, ji, la, de⟩) HG.out (rowRep rfl) ?_)
           | ((refine wpList_st rfl 102 (.tmp 4) (.tmp 36) rfl wr.heap.size 0 (cRep ⟨so, fr, lo, hi, ji, la, de⟩) rfl (by with_unfolding_all rfl) 102 zRep (BlkV.new wr _ _) (Nat.le_refl 7) (rowRep rfl) (cRep_one _) ?_); intro w1 hB1 ho1; rw [splice_all _ _ (by rfl)] at hB1; have k2 : w1.cell? ⟨wr.heap.size, 2, none⟩ = some (.int .i32 lo) := (hB1.cell 2).trans rfl; have hb1 := ((Below.refl _ wr).alloc (Nat.le_refl _) _).trans (ho1.below (Nat.le_refl _)); have B1 := Lib.hid (HB.out.trans (hb1.mono HB.out.size)); have W1 := Lib.hid (HV.out.below hb1 HV.out.lt); clear hB1 ho1 hb1))
          go_ret
          exact ⟨ListsTold.no (by rw [HC.out]; intro hh; have := hh.2.2.2.1 _ HM.out; unfold Rep.ok at this; simp only at this; omega), B1.out⟩
        · have hlo2 : ¬ lo < -8388608 := by omega
          go_wp2_with (first
           | (with_reducible refine wpList_ld rfl 102 (.tmp 35) rfl b (off + k * 7) rfl (cRep ⟨so, fr, lo, hi, ji, la, de⟩) HG.out (rowRep rfl) ?_)
           | ((refine wpList_st rfl 102 (.tmp 4) (.tmp 36) rfl wr.heap.size 0 (cRep ⟨so, fr, lo, hi, ji, la, de⟩) rfl (by with_unfolding_all rfl) 102 zRep (BlkV.new wr _ _) (Nat.le_refl 7) (rowRep rfl) (cRep_one _) ?_); intro w1 hB1 ho1; rw [splice_all _ _ (by rfl)] at hB1; have k2 : w1.cell? ⟨wr.heap.size, 2, none⟩ = some (.int .i32 lo) := (hB1.cell 2).trans rfl; have hb1 := ((Below.refl _ wr).alloc (Nat.le_refl _) _).trans (ho1.below (Nat.le_refl _)); have B1 := Lib.hid (HB.out.trans (hb1.mono HB.out.size)); have W1 := Lib.hid (HV.out.below hb1 HV.out.lt); clear hB1 ho1 hb1))
          go_ret
          exact ⟨ListsTold.no (by rw [HC.out]; intro hh; have := hh.2.2.2.1 _ HM.out; unfold Rep.ok at this; simp only at this; omega), B1.out⟩
        · have hlo2 : ¬ lo < -8388608 := by omega
          have hlo3 : ¬ 8388607 < lo := by omega
          go_wp2_with (first
           | (with_reducible refine wpList_ld rfl 102 (.tmp 35) rfl b (off + k * 7) rfl (cRep ⟨so, fr, lo, hi, ji, la, de⟩) HG.out (rowRep rfl) ?_)
           | ((refine wpList_st rfl 102 (.tmp 4) (.tmp 36) rfl wr.heap.size 0 (cRep ⟨so, fr, lo, hi, ji, la, de⟩) rfl (by with_unfolding_all rfl) 102 zRep (BlkV.new wr _ _) (Nat.le_refl 7) (rowRep rfl) (cRep_one _) ?_); intro w1 hB1 ho1; rw [splice_all _ _ (by rfl)] at hB1; have k2 : w1.cell? ⟨wr.heap.size, 2, none⟩ = some (.int .i32 lo) := (hB1.cell 2).trans rfl; have hb1 := ((Below.refl _ wr).alloc (Nat.le_refl _) _).trans (ho1.below (Nat.le_refl _)); have B1 := Lib.hid (HB.out.trans (hb1.mono HB.out.size)); have W1 := Lib.hid (HV.out.below hb1 HV.out.lt); clear hB1 ho1 hb1))
          go_roundw
          case rel => exact ⟨k + 1, by omega, by go_num, B1, W1, Lib.hid (HS.out hlo)⟩
          case measure => simp [intOf]; omega
      · obtain rfl : k = n1 := by omega
        have HALL : Hid (∀ x ∈ c.reps, x.ok) := Lib.hid (by have := HA.out; rw [H1.out, List.take_length] at this; exact this)
        have k8 : wr.cell? ⟨w.heap.size, 8, none⟩ = some (.slice B n2 b') := (HV.out.cell 8).trans rfl
        obtain ⟨wy, hwy⟩ : ∃ wy, wy = wr := ⟨_, rfl⟩
        go_wp2
        go_loopw [49] (fun i wr => ∃ (k : Nat), k ≤ n2 ∧ i = .int .i64 k ∧ Hid (Below w.heap.size w wr) ∧ Hid (∀ x ∈ c.nams.take k, nameP (txt x.2))) (fun i _ => n2 - (intOf i).toNat)
        case atStart => exact ⟨0, by omega, rfl, HB, Lib.hid (by simp)⟩
        case round =>
         obtain ⟨k, hk, rfl, HB, HA⟩ := hrel
         by_cases hkn : k < n2
         · have hkl : k < c.nams.length := by rw [← H2.out]; exact hkn
           obtain ⟨b, off, rfl, hat⟩ := HN.out.at_ hkl
           have HG := Lib.hid (hat wr HB.out)
           have HS := Lib.hid (all_snoc (p := fun x => nameP (txt x.2)) hkl HA.out)
           have HM := Lib.hid (List.getElem_mem hkl)
           obtain ⟨x, hx⟩ : ∃ x, x = c.nams[k] := ⟨_, rfl⟩
           rw [← hx] at HG HS HM
           clear hx hat
           obtain ⟨s, t⟩ := x
           by_cases hnm : nameP (txt t)
           · have HNM := Lib.hid hnm
             clear hnm
             go_wp2_with (first
              | (with_reducible refine wpList_ld rfl 62 (.tmp 51) rfl b (off + k * 2) rfl (cNam (s, t)) HG.out (rowNam rfl) ?_)
              | ((refine wpList_st rfl 62 (.tmp 6) (.tmp 52) rfl wr.heap.size 0 (cNam (s, t)) rfl (by with_unfolding_all rfl) 62 zNam (BlkV.new wr _ _) (Nat.le_refl 2) (rowNam rfl) (cNam_one _) ?_); intro w1 hB1 ho1; rw [splice_all _ _ (by rfl)] at hB1; have k1 : w1.cell? ⟨wr.heap.size, 1, none⟩ = some (.string (txt t)) := (hB1.cell 1).trans rfl; have hb1 := ((Below.refl _ wr).alloc (Nat.le_refl _) _).trans (ho1.below (Nat.le_refl _)); have B1 := Lib.hid (HB.out.trans (hb1.mono HB.out.size)); clear hB1 ho1 hb1)
              | (go_at_call 71; ((with_reducible refine (isname_any _ _).mono ?_); rintro e w2 ⟨⟨bb, rfl, h1⟩, hb2⟩; have B2 := Lib.hid (B1.out.trans (hb2.mono B1.out.size)); obtain rfl : bb = true := h1.2 HNM.out; clear h1 hb2)))
             go_roundw
             case rel => exact ⟨k + 1, by omega, by go_num, B2, Lib.hid (HS.out HNM.out)⟩
             case measure => simp [intOf]; omega
           · have HNM := Lib.hid hnm
             clear hnm
             go_wp2_with (first
              | (with_reducible refine wpList_ld rfl 62 (.tmp 51) rfl b (off + k * 2) rfl (cNam (s, t)) HG.out (rowNam rfl) ?_)
              | ((refine wpList_st rfl 62 (.tmp 6) (.tmp 52) rfl wr.heap.size 0 (cNam (s, t)) rfl (by with_unfolding_all rfl) 62 zNam (BlkV.new wr _ _) (Nat.le_refl 2) (rowNam rfl) (cNam_one _) ?_); intro w1 hB1 ho1; rw [splice_all _ _ (by rfl)] at hB1; have k1 : w1.cell? ⟨wr.heap.size, 1, none⟩ = some (.string (txt t)) := (hB1.cell 1).trans rfl; have hb1 := ((Below.refl _ wr).alloc (Nat.le_refl _) _).trans (ho1.below (Nat.le_refl _)); have B1 := Lib.hid (HB.out.trans (hb1.mono HB.out.size)); clear hB1 ho1 hb1)
              | (go_at_call 71; ((with_reducible refine (isname_any _ _).mono ?_); rintro e w2 ⟨⟨bb, rfl, h1⟩, hb2⟩; have B2 := Lib.hid (B1.out.trans (hb2.mono B1.out.size)); obtain rfl : bb = false := (by cases bb with | false => rfl | true => exact absurd (h1.1 rfl) HNM.out); clear h1 hb2)))
             go_ret
             exact ⟨ListsTold.no (by rw [HC.out]; intro hh; exact HNM.out (hh.2.2.2.2 _ HM.out)), B2.out⟩
         · obtain rfl : k = n2 := by omega
           go_wp2
           go_ret
           exact ⟨ListsTold.yes (by rw [HC.out]; exact ⟨G16.out, by omega, by omega, HALL.out, by have := HA.out; rw [H2.out, List.take_length] at this; exact this⟩), HB.out⟩
end Go.Proofs.YtheefckohnaceaaGreatDoor
