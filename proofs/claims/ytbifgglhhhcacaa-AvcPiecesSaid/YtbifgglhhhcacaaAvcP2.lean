/- Contracts of package avc: a piece's unit, Units, and whether a whole picture begins (Key). No statement is proved here. -/
import Derived.Test.YtbifgglhhhcacaaAvcP1
import Derived.Test.YtbifgglhhhcacaaAvcR3
import Derived.Test.YtbifgglhhhcacaaAvcL2
namespace Go.Proofs.Ytbifgglhhhcacaa
open Go.RowKit
set_option linter.unusedVariables false

theorem and128V (x : Nat) (h : x < 256) : bits .and .u8 (x : Int) 128 = if 128 ≤ x then 128 else 0 := by
  have e : ∀ x : Fin 256, x.val &&& 128 = if 128 ≤ x.val then 128 else 0 := by decide +kernel
  rw [show (128 : Int) = ((128 : Nat) : Int) from rfl, u8_and_nat _ _ h (by omega), e ⟨x, h⟩]
  split <;> rfl
theorem and64V (x : Nat) (h : x < 256) : bits .and .u8 (x : Int) 64 = if x / 64 % 2 = 1 then 64 else 0 := by
  have e : ∀ x : Fin 256, x.val &&& 64 = if x.val / 64 % 2 = 1 then 64 else 0 := by decide +kernel
  rw [show (64 : Int) = ((64 : Nat) : Int) from rfl, u8_and_nat _ _ h (by omega), e ⟨x, h⟩]
  split <;> rfl
theorem and32V (x : Nat) (h : x < 256) : bits .and .u8 (x : Int) 32 = if x / 32 % 2 = 1 then 32 else 0 := by
  have e : ∀ x : Fin 256, x.val &&& 32 = if x.val / 32 % 2 = 1 then 32 else 0 := by decide +kernel
  rw [show (32 : Int) = ((32 : Nat) : Int) from rfl, u8_and_nat _ _ h (by omega), e ⟨x, h⟩]
  split <;> rfl
theorem drewN_below (w : World) (k : Nat) : Below w.heap.size w (w.drewN k) := ⟨rfl, rfl, rfl, Nat.le_refl _, fun _ _ => rfl⟩
set_option maxRecDepth 100000 in
set_option maxHeartbeats 2000000 in
theorem piece14_any (A : Option Addr) (n c : Nat) (bs : List UInt8) (w : World) (hr : RdS w A n c (bs.drop 1)) (hL : bs.length = n + 1) (h28 : bV bs 0 % 32 = 28) :
    Calls Try.prog 12 #[.slice A n c] w (U14 bs w) := by
  have HL := Lib.hid hL
  have hs := hr.small
  by_cases h1 : (n : Int) < 2
  · have hu := Lib.hid (un_short (bs := bs) (by omega) h28 (by omega))
    clear hr hL h28
    go_enter Try.func12, Try.ntmps12
    go_wp2
    go_ret2
    exact U14.no hu.out (Below.refl _ _)
  · obtain ⟨b, off, rfl, hlt, hcs⟩ := hr.2.2.2.2 (by omega)
    have c0 : w.cell? ⟨b, off, none⟩ = some (.int .u8 (bV (bs.drop 1) 0 : Int)) := hcs 0 (by omega)
    rw [bV_drop] at c0
    have HB := Lib.hid (fun h3 => un_bad (bs := bs) (by omega) h28 (by omega) h3)
    have HP := Lib.hid (fun h3 => un_piece (bs := bs) (by omega) h28 (by omega) h3)
    obtain ⟨x, e1⟩ : ∃ x, x = bV bs (1 + 0) := ⟨_, rfl⟩
    have lx : x < 256 := by rw [e1]; exact bV_lt _ _
    have e1' : x = bV bs 1 := e1
    rw [← e1] at c0
    rw [← e1'] at HB HP
    clear e1 e1' hr hL h28 hcs hlt
    have a128 := and128V x lx
    have a64 := and64V x lx
    have a32 := and32V x lx
    have HT : Hid (∀ W : World, Calls Try.prog 7 #[.int .u8 (x : Int)] W fun e w' => e = .returned (.int .i64 ((x % 32 : Nat) : Int)) ∧ W = w') := Lib.hid (fun W => type14_any x W lx)
    obtain ⟨z, hz⟩ : ∃ z, z = x % 32 := ⟨_, rfl⟩
    rw [← hz] at HT
    have HZ := Lib.hid hz
    have lz : z < 32 := by omega
    have HI : Hid (∀ W : World, Calls Try.prog 10 #[.int .i64 (z : Int)] W fun e w' => e = .returned (.bool (decide (1 ≤ z ∧ z ≤ 23))) ∧ W = w') := Lib.hid (fun W => isUnit14_any z W lz)
    clear hz
    have hnz : (0 : Int) < (n : Int) := by omega
    by_cases g1 : 128 ≤ x
    · rw [if_pos g1] at a128
      by_cases g2 : x / 64 % 2 = 1
      · rw [if_pos g2] at a64
        have hu := Lib.hid (HB.out (.inr (.inl (by omega))))
        go_enter Try.func12, Try.ntmps12
        go_wp2_with fail
        go_quiet ((go_at_call 7; exact Calls.quiet_of_same ((HT.out _).mono fun _ _ ⟨h, h2⟩ => ⟨h, h2.symm⟩)))
        go_wp2
        go_ret2
        exact U14.no hu.out (drewN_below _ _)
      · rw [if_neg g2] at a64
        by_cases g3 : x / 32 % 2 = 1
        · rw [if_pos g3] at a32
          have hu := Lib.hid (HB.out (.inl g3))
          go_enter Try.func12, Try.ntmps12
          go_wp2_with fail
          go_quiet ((go_at_call 7; exact Calls.quiet_of_same ((HT.out _).mono fun _ _ ⟨h, h2⟩ => ⟨h, h2.symm⟩)))
          go_wp2
          go_ret2
          exact U14.no hu.out (drewN_below _ _)
        · rw [if_neg g3] at a32
          by_cases g4 : 1 ≤ z ∧ z ≤ 23
          · rw [decide_eq_true g4] at HI
            have hu := Lib.hid (HP.out (by have := HZ.out; omega))
            rw [← HZ.out] at hu
            go_enter Try.func12, Try.ntmps12
            go_wp2_with fail
            go_quiet ((go_at_call 7; exact Calls.quiet_of_same ((HT.out _).mono fun _ _ ⟨h, h2⟩ => ⟨h, h2.symm⟩)))
            go_wp2_with (go_at_call 10; ((with_reducible refine (HI.out _).mono ?_); rintro e w1 ⟨rfl, rfl⟩))
            go_ret2
            exact U14.one hu.out lz (drewN_below _ _)
          · rw [decide_eq_false g4] at HI
            have hu := Lib.hid (HB.out (by have := HZ.out; omega))
            go_enter Try.func12, Try.ntmps12
            go_wp2_with fail
            go_quiet ((go_at_call 7; exact Calls.quiet_of_same ((HT.out _).mono fun _ _ ⟨h, h2⟩ => ⟨h, h2.symm⟩)))
            go_wp2_with (go_at_call 10; ((with_reducible refine (HI.out _).mono ?_); rintro e w1 ⟨rfl, rfl⟩))
            go_ret2
            exact U14.no hu.out (drewN_below _ _)
    · rw [if_neg g1] at a128
      have hb : ((0 : Int) != 0) = false := rfl
      by_cases g3 : x / 32 % 2 = 1
      · rw [if_pos g3] at a32
        have hu := Lib.hid (HB.out (.inl g3))
        go_enter Try.func12, Try.ntmps12
        go_wp2_with fail
        go_quiet ((go_at_call 7; exact Calls.quiet_of_same ((HT.out _).mono fun _ _ ⟨h, h2⟩ => ⟨h, h2.symm⟩)))
        go_wp2
        go_ret2
        exact U14.no hu.out (drewN_below _ _)
      · rw [if_neg g3] at a32
        by_cases g4 : 1 ≤ z ∧ z ≤ 23
        · rw [decide_eq_true g4] at HI
          have hu := Lib.hid (HP.out (by have := HZ.out; omega))
          rw [← HZ.out] at hu
          go_enter Try.func12, Try.ntmps12
          go_wp2_with fail
          go_quiet ((go_at_call 7; exact Calls.quiet_of_same ((HT.out _).mono fun _ _ ⟨h, h2⟩ => ⟨h, h2.symm⟩)))
          go_wp2_with (go_at_call 10; ((with_reducible refine (HI.out _).mono ?_); rintro e w1 ⟨rfl, rfl⟩))
          go_ret2
          exact U14.one hu.out lz (drewN_below _ _)
        · rw [decide_eq_false g4] at HI
          have hu := Lib.hid (HB.out (by have := HZ.out; omega))
          go_enter Try.func12, Try.ntmps12
          go_wp2_with fail
          go_quiet ((go_at_call 7; exact Calls.quiet_of_same ((HT.out _).mono fun _ _ ⟨h, h2⟩ => ⟨h, h2.symm⟩)))
          go_wp2_with (go_at_call 10; ((with_reducible refine (HI.out _).mono ?_); rintro e w1 ⟨rfl, rfl⟩))
          go_ret2
          exact U14.no hu.out (drewN_below _ _)
end Go.Proofs.Ytbifgglhhhcacaa
