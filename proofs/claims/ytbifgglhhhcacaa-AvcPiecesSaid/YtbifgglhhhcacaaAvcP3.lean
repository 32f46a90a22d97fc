/- Contracts of package avc: Units, and whether a whole picture begins (Key). No statement is proved here. -/
import Derived.Test.YtbifgglhhhcacaaAvcP2
namespace Go.Proofs.Ytbifgglhhhcacaa
open Go.RowKit
set_option linter.unusedVariables false

set_option maxRecDepth 100000 in
set_option maxHeartbeats 2000000 in
theorem units14_any (A : Option Addr) (n c : Nat) (bs : List UInt8) (w : World) (hr : RdS w A n c bs) (hn : n ≤ 100000) :
    Calls Try.prog 6 #[.slice A n c] w (U14 bs w) := by
  have hl := hr.len
  have hs := hr.small
  by_cases h1 : (n : Int) = 0
  · have hu := Lib.hid (un_none (bs := bs) (by omega))
    obtain rfl : n = 0 := by omega
    clear hr hl
    go_enter Try.func6, Try.ntmps6
    go_wp2
    go_ret2
    exact U14.no hu.out (Below.refl _ _)
  · obtain ⟨A2, hs1, hs2, hrd⟩ := run_lo A n c 1 1 rfl (by omega) hr.le hr.max
    have HR1 := hrd w bs hr
    have HSV : Hid (bV bs 0 % 32 = 24 → Calls Try.prog 11 #[.slice A2 (n - 1) (c - 1)] w (U14 bs w)) := Lib.hid (fun h => several14_any A2 (n - 1) (c - 1) bs w HR1 (by omega) (by omega) (un_many (by omega) h))
    have HPC : Hid (bV bs 0 % 32 = 28 → Calls Try.prog 12 #[.slice A2 (n - 1) (c - 1)] w (U14 bs w)) := Lib.hid (fun h => piece14_any A2 (n - 1) (c - 1) bs w HR1 (by omega) h)
    have HONE : Hid (1 ≤ bV bs 0 % 32 ∧ bV bs 0 % 32 ≤ 23 → unitsA bs = ([bV bs 0 % 32], 0)) := Lib.hid (fun h => un_one (by omega) h)
    have HOTH : Hid (¬ (1 ≤ bV bs 0 % 32 ∧ bV bs 0 % 32 ≤ 23) → ¬ bV bs 0 % 32 = 28 → bV bs 0 % 32 ≠ 24 → unitsA bs = ([], 3)) := Lib.hid (fun h h2 h3 => un_other (by omega) h h2 h3)
    clear hrd HR1
    obtain ⟨b, off, rfl, hlt, hcs⟩ := hr.2.2.2.2 (by omega)
    have c0 : w.cell? ⟨b, off, none⟩ = some (.int .u8 (bV bs 0 : Int)) := hcs 0 (by omega)
    obtain ⟨x, e1⟩ : ∃ x, x = bV bs 0 := ⟨_, rfl⟩
    have lx : x < 256 := by rw [e1]; exact bV_lt _ _
    rw [← e1] at c0 HSV HPC HONE HOTH
    clear e1 hr hl hcs hlt
    have HT : Hid (∀ W : World, Calls Try.prog 7 #[.int .u8 (x : Int)] W fun e w' => e = .returned (.int .i64 ((x % 32 : Nat) : Int)) ∧ W = w') := Lib.hid (fun W => type14_any x W lx)
    obtain ⟨z, hz⟩ : ∃ z, z = x % 32 := ⟨_, rfl⟩
    rw [← hz] at HT HSV HPC HONE HOTH
    have lz : z < 32 := by omega
    have HI : Hid (∀ W : World, Calls Try.prog 10 #[.int .i64 (z : Int)] W fun e w' => e = .returned (.bool (decide (1 ≤ z ∧ z ≤ 23))) ∧ W = w') := Lib.hid (fun W => isUnit14_any z W lz)
    clear hz
    have hnz : (0 : Int) < (n : Int) := by omega
    have hnz1 : (1 : Int) ≤ (n : Int) := by omega
    by_cases g1 : 1 ≤ z ∧ z ≤ 23
    · rw [decide_eq_true g1] at HI
      have hu := Lib.hid (HONE.out g1)
      clear g1
      go_enter Try.func6, Try.ntmps6
      go_wp2_with (first
        | (go_at_call 7; ((with_reducible refine (HT.out _).mono ?_); rintro e w1 ⟨rfl, rfl⟩))
        | (go_at_call 10; ((with_reducible refine (HI.out _).mono ?_); rintro e w1 ⟨rfl, rfl⟩)))
      go_ret2
      exact U14.one hu.out lz (Below.refl _ _)
    · rw [decide_eq_false g1] at HI
      by_cases g2 : (z : Int) = 24
      · have HC := Lib.hid (HSV.out (by omega))
        rw [g2] at HI
        clear g1
        go_enter Try.func6, Try.ntmps6
        go_wp2_with (first
          | (go_at_call 7; ((with_reducible refine (HT.out _).mono ?_); rintro e w1 ⟨rfl, rfl⟩))
          | (go_at_call 10; ((with_reducible refine (HI.out _).mono ?_); rintro e w1 ⟨rfl, rfl⟩))
          | (go_at_call 11; ((with_reducible refine HC.out.mono ?_); rintro e w1 ⟨A', c', N, h3, rfl, h4, h5⟩; have HF := Lib.hid (And.intro h3 (And.intro h4 h5)); clear h3 h4 h5)))
        go_ret2
        exact ⟨A', c', N, HF.out.1, rfl, HF.out.2⟩
      · by_cases g3 : (z : Int) = 28
        · have HC := Lib.hid (HPC.out (by omega))
          rw [g3] at HI
          clear g1
          go_enter Try.func6, Try.ntmps6
          go_wp2_with (first
            | (go_at_call 7; ((with_reducible refine (HT.out _).mono ?_); rintro e w1 ⟨rfl, rfl⟩))
            | (go_at_call 10; ((with_reducible refine (HI.out _).mono ?_); rintro e w1 ⟨rfl, rfl⟩))
            | (go_at_call 12; ((with_reducible refine HC.out.mono ?_); rintro e w1 ⟨A', c', N, h3, rfl, h4, h5⟩; have HF := Lib.hid (And.intro h3 (And.intro h4 h5)); clear h3 h4 h5)))
          go_ret2
          exact ⟨A', c', N, HF.out.1, rfl, HF.out.2⟩
        · have hu := Lib.hid (HOTH.out g1 (by omega) (by omega))
          clear g1
          go_enter Try.func6, Try.ntmps6
          go_wp2_with (first
            | (go_at_call 7; ((with_reducible refine (HT.out _).mono ?_); rintro e w1 ⟨rfl, rfl⟩))
            | (go_at_call 10; ((with_reducible refine (HI.out _).mono ?_); rintro e w1 ⟨rfl, rfl⟩)))
          go_ret2
          exact U14.no hu.out (Below.refl _ _)
set_option maxRecDepth 100000 in
set_option maxHeartbeats 2000000 in
theorem index14_any (A : Option Addr) (N c : Nat) (L : List Nat) (w : World) (hr : RdI w A N (nI L)) :
    Calls Try.prog 13 #[.slice A N c, .func (.func 9) #[] #[]] w fun e w' => ∃ r : Int, e = .returned (.int .i64 r) ∧ decide (r ≥ 0) = decide (∃ u ∈ L, u = 5 ∨ u = 7 ∨ u = 8) ∧ w = w' := by
  have hNL : L.length = N := by have := hr.len; simp [nI] at this; exact this
  have hNs := hr.small
  have HRI := Lib.hid hr
  have HNL := Lib.hid hNL
  clear hr hNL
  go_enter Try.func13, Try.ntmps13
  go_wp2
  go_loop [8] (fun vi => ∃ k : Nat, k ≤ N ∧ Hid (∀ y ∈ L.take k, ¬ (y = 5 ∨ y = 7 ∨ y = 8)) ∧ vi = .int .i64 k) (fun i => N - (intOf i).toNat)
  case atStart => exact ⟨0, by omega, Lib.hid (by simp), rfl⟩
  case round =>
    obtain ⟨k, hk, hno, rfl⟩ := hrel
    by_cases hlt : k < N
    · obtain ⟨g, o, rfl, _, hcell⟩ := HRI.out.2.2.2 (by omega)
      have hck := hcell k hlt
      rw [nI_getD] at hck
      have hkL : k < L.length := by rw [HNL.out]; exact hlt
      have hst : L.take (k + 1) = L.take k ++ [L.getD k 0] := by rw [List.take_succ_eq_append_getElem hkL]; simp [List.getD, hkL]
      have hmem : L.getD k 0 ∈ L := by simp [List.getD, hkL]
      obtain ⟨u, hu⟩ : ∃ u, u = L.getD k 0 := ⟨_, rfl⟩
      rw [← hu] at hck hst hmem
      have hki : (k : Int) < (N : Int) := by omega
      have HNO' : Hid (¬ (u = 5 ∨ u = 7 ∨ u = 8) → ∀ y ∈ L.take (k + 1), ¬ (y = 5 ∨ y = 7 ∨ y = 8)) := Lib.hid (fun hne y hy => by
        rw [hst] at hy
        rcases List.mem_append.1 hy with h | h
        · exact hno.out y h
        · rw [List.mem_singleton.1 h]; exact hne)
      have HYES : Hid ((u = 5 ∨ u = 7 ∨ u = 8) → decide (∃ u ∈ L, u = 5 ∨ u = 7 ∨ u = 8) = true) := Lib.hid (fun h => decide_eq_true ⟨u, hmem, h⟩)
      have HB : Hid (∀ W : World, Calls Try.prog 9 #[.int .i64 (u : Int)] W fun e w' => e = .returned (.bool (decide (u = 5 ∨ u = 7 ∨ u = 8))) ∧ W = w') := Lib.hid (fun W => begins14_any u W)
      clear hcell hu hst hmem hno hkL
      by_cases h5 : u = 5 ∨ u = 7 ∨ u = 8
      · rw [decide_eq_true h5] at HB
        have e := Lib.hid (HYES.out h5)
        clear h5
        go_wp2_with (go_at_call 9; ((with_reducible refine (HB.out _).mono ?_); rintro e w1 ⟨rfl, rfl⟩))
        go_ret
        exact ⟨_, rfl, by rw [e.out]; simp, rfl⟩
      · rw [decide_eq_false h5] at HB
        have HN2 := Lib.hid (HNO'.out h5)
        clear h5
        go_wp2_with (go_at_call 9; ((with_reducible refine (HB.out _).mono ?_); rintro e w1 ⟨rfl, rfl⟩))
        go_round
        case rel => exact ⟨k + 1, by omega, HN2, by go_num⟩
        case measure => simp [intOf]; omega
    · obtain rfl : k = N := by omega
      have e : Hid (decide (∃ u ∈ L, u = 5 ∨ u = 7 ∨ u = 8) = false) := Lib.hid (decide_eq_false (fun ⟨y, hy, h2⟩ => hno.out y (by rw [List.take_of_length_le (by rw [HNL.out]; exact Nat.le_refl _)]; exact hy) h2))
      clear hno
      go_wp2
      go_ret
      exact ⟨_, rfl, by first | (rw [e.out]; rfl) | exact ⟨fun h => absurd h (by decide), fun h => absurd (decide_eq_true h) (by rw [e.out]; decide)⟩ | exact decide_eq_decide.2 ⟨fun h => absurd h (by decide), fun h => absurd (decide_eq_true h) (by rw [e.out]; decide)⟩, rfl⟩
theorem contains14_any (A : Option Addr) (N c : Nat) (L : List Nat) (w : World) (hr : RdI w A N (nI L)) :
    Calls Try.prog 8 #[.slice A N c, .func (.func 9) #[] #[]] w fun e w' => e = .returned (.bool (decide (∃ u ∈ L, u = 5 ∨ u = 7 ∨ u = 8))) ∧ w = w' := by
  have HI := Lib.hid (index14_any A N c L w hr)
  clear hr
  go_enter Try.func8, Try.ntmps8
  go_wp2_with (go_at_call 13; ((with_reducible refine HI.out.mono ?_); rintro e w1 ⟨r, rfl, hd, rfl⟩; have HD := Lib.hid hd; clear hd))
  go_ret
  exact ⟨by rw [← HD.out]; rfl, rfl⟩
end Go.Proofs.Ytbifgglhhhcacaa
