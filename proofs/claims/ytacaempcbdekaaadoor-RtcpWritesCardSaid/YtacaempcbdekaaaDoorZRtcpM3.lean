/- What the document's answer for layer 11 tells of which packets may be: REMB. No statement is proved here. -/
import Derived.Test.YtacaempcbdekaaaDoorZRtcpM1
namespace Go.Proofs.YtacaempcbdekaaaDoor
open Go.RowKit
set_option linter.unusedVariables false

set_option maxRecDepth 100000 in
set_option maxHeartbeats 1000000 in
theorem may_4_rate (cs : List Value) (c : Ctl) (w : World) (h : CtRd w cs c) (hk : c.k = 4) (hra : c.ra < 18446744073709551616) (hrc : ¬ (c.ra < 9223372036854775808 ∧ rM c.ra * 2 ^ rE c.ra = c.ra)) :
    Calls Tryd.prog 20 #[.agg cs.toArray] w fun r w' => r = .returned (.bool false) ∧ Below w.heap.size w w' := by
  obtain ⟨A, a, B, b', C, c', D, d, E, e, h0, r7, r8, r9, r10, r11⟩ := h
  subst h0
  unfold ctlC
  rw [hk]
  have HRC := Lib.hid hrc
  have HRT : Hid (∀ W, Calls Tryd.prog 21 #[.int .u64 (c.ra : Int)] W fun r w' => r = .returned (.tuple #[.int .u64 (rM c.ra : Int), .int .i64 (rE c.ra : Int)]) ∧ W = w') := Lib.hid (fun W => (rrate_any c.ra W hra).mono (by
    rintro r w' ⟨⟨e, rfl, h1, h2⟩, rfl⟩
    obtain rfl := rE_unique c.ra e hra h1 h2
    exact ⟨rfl, rfl⟩))
  have hRM := rM_le c.ra
  have hxE := rE_lt c.ra hra
  obtain ⟨x, hx⟩ : ∃ x, x = rE c.ra := ⟨_, rfl⟩
  obtain ⟨m, hm⟩ : ∃ m, m = rM c.ra := ⟨_, rfl⟩
  rw [← hx, ← hm] at HRT hRM HRC
  rw [← hx] at hxE
  obtain ⟨R, hR⟩ : ∃ R, R = m * 2 ^ x := ⟨_, rfl⟩
  rw [← hR] at hRM HRC
  have HR := Lib.hid hR
  have HRL : Hid (R < 18446744073709551616) := Lib.hid (by omega)
  clear hx hm hR hRM
  clear hrc
  clear r7 r8 r9 r10 r11 hk
  go_enter Tryd.func20, Tryd.ntmps20
  go_wp2_with (first
    | (go_at_call 21; ((with_reducible refine (Hid.out HRT _).mono ?_); rintro r wx ⟨rfl, rfl⟩)))
  go_loopw [5, 7] (fun vm vi wr => wr = ((w.alloc (.cells #[.int .i64 4, .int .u32 (c.so : Int), .int .u32 (c.me : Int), .int .u64 (c.ti : Int), .int .u32 (c.st : Int), .int .u32 (c.pa : Int), .int .u32 (c.oc : Int), .slice A c.reps.length a, .slice B c.nams.length b', .slice C c.srcs.length c', .slice D c.loss.length d, .slice E c.firs.length e, .int .u64 (c.ra : Int)] 50)).alloc (.cells #[.int .i64 4, .int .u32 (c.so : Int), .int .u32 0, .int .u64 0, .int .u32 0, .int .u32 0, .int .u32 0, .slice none 0 0, .slice none 0 0, .slice C c.srcs.length c', .slice none 0 0, .slice none 0 0, .int .u64 (c.ra : Int)] 50)) ∧ ∃ (i y : Nat), i ≤ x ∧ vi = .int .i64 i ∧ vm = .int .u64 (y : Int) ∧ Hid (y = m * 2 ^ i)) (fun _ vi _ => x - (intOf vi).toNat)
  case atStart => exact ⟨rfl, 0, m, by omega, rfl, rfl, Lib.hid (by simp)⟩
  case round =>
    obtain ⟨rfl, i, y, hi, rfl, rfl, HY⟩ := hrel
    by_cases hix : i < x
    · have HY2 : Hid (y * 2 = m * 2 ^ (i + 1)) := Lib.hid (by rw [HY.out, Nat.pow_succ, Nat.mul_assoc])
      have hle : y * 2 ≤ R := by
        rw [HY2.out, HR.out]
        exact Nat.mul_le_mul_left m (Nat.pow_le_pow_right (by omega) (by omega))
      have hRR := HRL.out
      obtain ⟨Y, hY⟩ : ∃ Y, Y = y * 2 := ⟨_, rfl⟩
      have e5 : IntKind.u64.wrap ((y : Int) * 2) = (Y : Int) := by rw [IntKind.wrap_u64, hY]; omega
      rw [← hY] at HY2
      clear hY hle hRR
      go_wp2
      go_roundw
      case rel => exact ⟨by trivial, i + 1, Y, by omega, by go_num, rfl, HY2⟩
      case measure => simp [intOf]; omega
    · obtain rfl : i = x := by omega
      have hyR : y = R := by rw [HY.out, HR.out]
      subst hyR
      clear HY hi hix
      by_cases g1 : y = c.ra
      · have g2 : (9223372036854775808 : Int) ≤ (c.ra : Int) := by have h1 := HRC.out; have : ¬ c.ra < 9223372036854775808 := fun h => h1 ⟨h, g1⟩; omega
        have g3 : ((y : Int) == (c.ra : Int)) = true := by rw [g1]; simp
        have g4 : (y : Int) = (c.ra : Int) := by omega
        clear g1 HR HRL HRC
        go_wp2
        go_ret
        exact ⟨rfl, twoBelow _ _ _⟩
      · have g3 : ((y : Int) == (c.ra : Int)) = false := by simp; omega
        have g4 : ¬ (y : Int) = (c.ra : Int) := by omega
        clear g1 HR HRL HRC
        go_wp2
        go_ret
        exact ⟨rfl, twoBelow _ _ _⟩
set_option maxRecDepth 100000 in
set_option maxHeartbeats 1000000 in
theorem may_4_big (cs : List Value) (c : Ctl) (w : World) (h : CtRd w cs c) (hk : c.k = 4) (hn : 16 < c.srcs.length) (hra : c.ra < 18446744073709551616) (hrc : c.ra < 9223372036854775808 ∧ rM c.ra * 2 ^ rE c.ra = c.ra) :
    Calls Tryd.prog 20 #[.agg cs.toArray] w fun r w' => r = .returned (.bool false) ∧ Below w.heap.size w w' := by
  obtain ⟨A, a, B, b', C, c', D, d, E, e, h0, r7, r8, r9, r10, r11⟩ := h
  subst h0
  unfold ctlC
  rw [hk]
  obtain ⟨n, hnn⟩ : ∃ n, n = c.srcs.length := ⟨_, rfl⟩
  rw [← hnn] at hn ⊢
  clear hnn
  have HRC := Lib.hid hrc
  have HRT : Hid (∀ W, Calls Tryd.prog 21 #[.int .u64 (c.ra : Int)] W fun r w' => r = .returned (.tuple #[.int .u64 (rM c.ra : Int), .int .i64 (rE c.ra : Int)]) ∧ W = w') := Lib.hid (fun W => (rrate_any c.ra W hra).mono (by
    rintro r w' ⟨⟨e, rfl, h1, h2⟩, rfl⟩
    obtain rfl := rE_unique c.ra e hra h1 h2
    exact ⟨rfl, rfl⟩))
  have hRM := rM_le c.ra
  have hxE := rE_lt c.ra hra
  obtain ⟨x, hx⟩ : ∃ x, x = rE c.ra := ⟨_, rfl⟩
  obtain ⟨m, hm⟩ : ∃ m, m = rM c.ra := ⟨_, rfl⟩
  rw [← hx, ← hm] at HRT hRM HRC
  rw [← hx] at hxE
  obtain ⟨R, hR⟩ : ∃ R, R = m * 2 ^ x := ⟨_, rfl⟩
  rw [← hR] at hRM HRC
  have HR := Lib.hid hR
  have HRL : Hid (R < 18446744073709551616) := Lib.hid (by omega)
  clear hx hm hR hRM
  have g1 : R = c.ra := HRC.out.2
  have g2 : (c.ra : Int) < 9223372036854775808 := by have := HRC.out.1; omega
  have g3 : ((R : Int) == (c.ra : Int)) = true := by rw [g1]; simp
  have G1 := Lib.hid g1
  clear g1 hrc HRC hra
  clear r7 r8 r9 r10 r11 hk
  go_enter Tryd.func20, Tryd.ntmps20
  go_wp2_with (first
    | (go_at_call 21; ((with_reducible refine (Hid.out HRT _).mono ?_); rintro r wx ⟨rfl, rfl⟩)))
  go_loopw [5, 7] (fun vm vi wr => wr = ((w.alloc (.cells #[.int .i64 4, .int .u32 (c.so : Int), .int .u32 (c.me : Int), .int .u64 (c.ti : Int), .int .u32 (c.st : Int), .int .u32 (c.pa : Int), .int .u32 (c.oc : Int), .slice A c.reps.length a, .slice B c.nams.length b', .slice C n c', .slice D c.loss.length d, .slice E c.firs.length e, .int .u64 (c.ra : Int)] 50)).alloc (.cells #[.int .i64 4, .int .u32 (c.so : Int), .int .u32 0, .int .u64 0, .int .u32 0, .int .u32 0, .int .u32 0, .slice none 0 0, .slice none 0 0, .slice C n c', .slice none 0 0, .slice none 0 0, .int .u64 (c.ra : Int)] 50)) ∧ ∃ (i y : Nat), i ≤ x ∧ vi = .int .i64 i ∧ vm = .int .u64 (y : Int) ∧ Hid (y = m * 2 ^ i)) (fun _ vi _ => x - (intOf vi).toNat)
  case atStart => exact ⟨rfl, 0, m, by omega, rfl, rfl, Lib.hid (by simp)⟩
  case round =>
    obtain ⟨rfl, i, y, hi, rfl, rfl, HY⟩ := hrel
    by_cases hix : i < x
    · have HY2 : Hid (y * 2 = m * 2 ^ (i + 1)) := Lib.hid (by rw [HY.out, Nat.pow_succ, Nat.mul_assoc])
      have hle : y * 2 ≤ R := by
        rw [HY2.out, HR.out]
        exact Nat.mul_le_mul_left m (Nat.pow_le_pow_right (by omega) (by omega))
      have hRR := HRL.out
      obtain ⟨Y, hY⟩ : ∃ Y, Y = y * 2 := ⟨_, rfl⟩
      have e5 : IntKind.u64.wrap ((y : Int) * 2) = (Y : Int) := by rw [IntKind.wrap_u64, hY]; omega
      rw [← hY] at HY2
      clear hY hle hRR
      go_wp2
      go_roundw
      case rel => exact ⟨by trivial, i + 1, Y, by omega, by go_num, rfl, HY2⟩
      case measure => simp [intOf]; omega
    · obtain rfl : i = x := by omega
      have hyR : y = R := by rw [HY.out, HR.out]
      subst hyR
      clear HY hi hix
      have g4 : (y : Int) = (c.ra : Int) := by rw [G1.out]
      clear G1 HR HRL g3
      obtain ⟨X, hX⟩ : ∃ X : Int, X = (c.ra : Int) := ⟨_, rfl⟩
      rw [← hX] at g4 g2 ⊢
      clear hX
      go_wp2
      go_ret
      exact ⟨rfl, twoBelow _ _ _⟩
set_option maxRecDepth 100000 in
set_option maxHeartbeats 1000000 in
theorem may_4_diff (cs : List Value) (c : Ctl) (w : World) (h : CtRd w cs c) (hk : c.k = 4) (hne : ¬ c = mkRE 4 c.so c.srcs c.ra) (hn : c.srcs.length ≤ 16) (hra : c.ra < 18446744073709551616) (hrc : c.ra < 9223372036854775808 ∧ rM c.ra * 2 ^ rE c.ra = c.ra) :
    Calls Tryd.prog 20 #[.agg cs.toArray] w fun r w' => r = .returned (.bool false) ∧ Below w.heap.size w w' := by
  have hCS := h
  obtain ⟨A, a, B, b', C, c', D, d, E, e, h0, r7, r8, r9, r10, r11⟩ := h
  subst h0
  unfold ctlC at hCS ⊢
  rw [hk] at hCS ⊢
  have SM : Hid (Calls Tryd.prog 26 #[.agg #[.int .i64 4, .int .u32 (c.so : Int), .int .u32 (c.me : Int), .int .u64 (c.ti : Int), .int .u32 (c.st : Int), .int .u32 (c.pa : Int), .int .u32 (c.oc : Int), .slice A c.reps.length a, .slice B c.nams.length b', .slice C c.srcs.length c', .slice D c.loss.length d, .slice E c.firs.length e, .int .u64 (c.ra : Int)], .agg #[.int .i64 4, .int .u32 (c.so : Int), .int .u32 0, .int .u64 0, .int .u32 0, .int .u32 0, .int .u32 0, .slice none 0 0, .slice none 0 0, .slice C c.srcs.length c', .slice none 0 0, .slice none 0 0, .int .u64 (c.ra : Int)]] ((w.alloc (.cells #[.int .i64 4, .int .u32 (c.so : Int), .int .u32 (c.me : Int), .int .u64 (c.ti : Int), .int .u32 (c.st : Int), .int .u32 (c.pa : Int), .int .u32 (c.oc : Int), .slice A c.reps.length a, .slice B c.nams.length b', .slice C c.srcs.length c', .slice D c.loss.length d, .slice E c.firs.length e, .int .u64 (c.ra : Int)] 50)).alloc (.cells #[.int .i64 4, .int .u32 (c.so : Int), .int .u32 0, .int .u64 0, .int .u32 0, .int .u32 0, .int .u32 0, .slice none 0 0, .slice none 0 0, .slice C c.srcs.length c', .slice none 0 0, .slice none 0 0, .int .u64 (c.ra : Int)] 50)) fun r w' => r = .returned (.bool false) ∧ Below ((w.alloc (.cells #[.int .i64 4, .int .u32 (c.so : Int), .int .u32 (c.me : Int), .int .u64 (c.ti : Int), .int .u32 (c.st : Int), .int .u32 (c.pa : Int), .int .u32 (c.oc : Int), .slice A c.reps.length a, .slice B c.nams.length b', .slice C c.srcs.length c', .slice D c.loss.length d, .slice E c.firs.length e, .int .u64 (c.ra : Int)] 50)).alloc (.cells #[.int .i64 4, .int .u32 (c.so : Int), .int .u32 0, .int .u64 0, .int .u32 0, .int .u32 0, .int .u32 0, .slice none 0 0, .slice none 0 0, .slice C c.srcs.length c', .slice none 0 0, .slice none 0 0, .int .u64 (c.ra : Int)] 50)).heap.size ((w.alloc (.cells #[.int .i64 4, .int .u32 (c.so : Int), .int .u32 (c.me : Int), .int .u64 (c.ti : Int), .int .u32 (c.st : Int), .int .u32 (c.pa : Int), .int .u32 (c.oc : Int), .slice A c.reps.length a, .slice B c.nams.length b', .slice C c.srcs.length c', .slice D c.loss.length d, .slice E c.firs.length e, .int .u64 (c.ra : Int)] 50)).alloc (.cells #[.int .i64 4, .int .u32 (c.so : Int), .int .u32 0, .int .u64 0, .int .u32 0, .int .u32 0, .int .u32 0, .slice none 0 0, .slice none 0 0, .slice C c.srcs.length c', .slice none 0 0, .slice none 0 0, .int .u64 (c.ra : Int)] 50)) w') := Lib.hid (by
    have hD : CtRd w [.int .i64 4, .int .u32 (c.so : Int), .int .u32 0, .int .u64 0, .int .u32 0, .int .u32 0, .int .u32 0, .slice none 0 0, .slice none 0 0, .slice C c.srcs.length c', .slice none 0 0, .slice none 0 0, .int .u64 (c.ra : Int)] (mkRE 4 c.so c.srcs c.ra) := ⟨none, 0, none, 0, C, c', none, 0, none, 0, rfl, nilG _ _, nilG _ _, r9, nilG _ _, nilG _ _⟩
    exact same_no [.int .i64 4, .int .u32 (c.so : Int), .int .u32 (c.me : Int), .int .u64 (c.ti : Int), .int .u32 (c.st : Int), .int .u32 (c.pa : Int), .int .u32 (c.oc : Int), .slice A c.reps.length a, .slice B c.nams.length b', .slice C c.srcs.length c', .slice D c.loss.length d, .slice E c.firs.length e, .int .u64 (c.ra : Int)] [.int .i64 4, .int .u32 (c.so : Int), .int .u32 0, .int .u64 0, .int .u32 0, .int .u32 0, .int .u32 0, .slice none 0 0, .slice none 0 0, .slice C c.srcs.length c', .slice none 0 0, .slice none 0 0, .int .u64 (c.ra : Int)] c (mkRE 4 c.so c.srcs c.ra) _ (hCS.below (twoBelow _ _ _)) (hD.below (twoBelow _ _ _)) (fun he => hne (eqH_4 c he)))
  clear hCS hne
  obtain ⟨n, hnn⟩ : ∃ n, n = c.srcs.length := ⟨_, rfl⟩
  rw [← hnn] at hn SM ⊢
  clear hnn
  have HRC := Lib.hid hrc
  have HRT : Hid (∀ W, Calls Tryd.prog 21 #[.int .u64 (c.ra : Int)] W fun r w' => r = .returned (.tuple #[.int .u64 (rM c.ra : Int), .int .i64 (rE c.ra : Int)]) ∧ W = w') := Lib.hid (fun W => (rrate_any c.ra W hra).mono (by
    rintro r w' ⟨⟨e, rfl, h1, h2⟩, rfl⟩
    obtain rfl := rE_unique c.ra e hra h1 h2
    exact ⟨rfl, rfl⟩))
  have hRM := rM_le c.ra
  have hxE := rE_lt c.ra hra
  obtain ⟨x, hx⟩ : ∃ x, x = rE c.ra := ⟨_, rfl⟩
  obtain ⟨m, hm⟩ : ∃ m, m = rM c.ra := ⟨_, rfl⟩
  rw [← hx, ← hm] at HRT hRM HRC
  rw [← hx] at hxE
  obtain ⟨R, hR⟩ : ∃ R, R = m * 2 ^ x := ⟨_, rfl⟩
  rw [← hR] at hRM HRC
  have HR := Lib.hid hR
  have HRL : Hid (R < 18446744073709551616) := Lib.hid (by omega)
  clear hx hm hR hRM
  have g1 : R = c.ra := HRC.out.2
  have g2 : (c.ra : Int) < 9223372036854775808 := by have := HRC.out.1; omega
  have g3 : ((R : Int) == (c.ra : Int)) = true := by rw [g1]; simp
  have G1 := Lib.hid g1
  clear g1 hrc HRC hra
  clear r7 r8 r9 r10 r11 hk
  go_enter Tryd.func20, Tryd.ntmps20
  go_wp2_with (first
    | (go_at_call 21; ((with_reducible refine (Hid.out HRT _).mono ?_); rintro r wx ⟨rfl, rfl⟩)))
  go_loopw [5, 7] (fun vm vi wr => wr = ((w.alloc (.cells #[.int .i64 4, .int .u32 (c.so : Int), .int .u32 (c.me : Int), .int .u64 (c.ti : Int), .int .u32 (c.st : Int), .int .u32 (c.pa : Int), .int .u32 (c.oc : Int), .slice A c.reps.length a, .slice B c.nams.length b', .slice C n c', .slice D c.loss.length d, .slice E c.firs.length e, .int .u64 (c.ra : Int)] 50)).alloc (.cells #[.int .i64 4, .int .u32 (c.so : Int), .int .u32 0, .int .u64 0, .int .u32 0, .int .u32 0, .int .u32 0, .slice none 0 0, .slice none 0 0, .slice C n c', .slice none 0 0, .slice none 0 0, .int .u64 (c.ra : Int)] 50)) ∧ ∃ (i y : Nat), i ≤ x ∧ vi = .int .i64 i ∧ vm = .int .u64 (y : Int) ∧ Hid (y = m * 2 ^ i)) (fun _ vi _ => x - (intOf vi).toNat)
  case atStart => exact ⟨rfl, 0, m, by omega, rfl, rfl, Lib.hid (by simp)⟩
  case round =>
    obtain ⟨rfl, i, y, hi, rfl, rfl, HY⟩ := hrel
    by_cases hix : i < x
    · have HY2 : Hid (y * 2 = m * 2 ^ (i + 1)) := Lib.hid (by rw [HY.out, Nat.pow_succ, Nat.mul_assoc])
      have hle : y * 2 ≤ R := by
        rw [HY2.out, HR.out]
        exact Nat.mul_le_mul_left m (Nat.pow_le_pow_right (by omega) (by omega))
      have hRR := HRL.out
      obtain ⟨Y, hY⟩ : ∃ Y, Y = y * 2 := ⟨_, rfl⟩
      have e5 : IntKind.u64.wrap ((y : Int) * 2) = (Y : Int) := by rw [IntKind.wrap_u64, hY]; omega
      rw [← hY] at HY2
      clear hY hle hRR
      go_wp2
      go_roundw
      case rel => exact ⟨by trivial, i + 1, Y, by omega, by go_num, rfl, HY2⟩
      case measure => simp [intOf]; omega
    · obtain rfl : i = x := by omega
      have hyR : y = R := by rw [HY.out, HR.out]
      subst hyR
      clear HY hi hix
      have g4 : (y : Int) = (c.ra : Int) := by rw [G1.out]
      clear G1 HR HRL g3
      obtain ⟨X, hX⟩ : ∃ X : Int, X = (c.ra : Int) := ⟨_, rfl⟩
      rw [← hX] at g4 g2 SM ⊢
      clear hX
      go_wp2_with (go_at_call 26; ((with_reducible refine (Hid.out SM).mono ?_); rintro r w4 ⟨rfl, hb⟩; have B4 := Lib.hid ((twoBelow w _ _).trans (hb.mono (twoBelow w _ _).size)); clear hb))
      go_ret
      exact ⟨rfl, B4.out⟩
set_option maxRecDepth 100000 in
set_option maxHeartbeats 2000000 in
theorem may_4_yes (cs : List Value) (so ra : Nat) (L : List Nat) (n : Nat) (w : World) (h : CtRd w cs (mkRE 4 so L ra)) (l0 : L.length = n) (hn : n ≤ 16) (hra : ra < 18446744073709551616) (hrc : ra < 9223372036854775808 ∧ rM ra * 2 ^ rE ra = ra) :
    Calls Tryd.prog 20 #[.agg cs.toArray] w fun r w' => r = .returned (.bool true) ∧ Below w.heap.size w w' := by
  have hCS := h
  obtain ⟨A, a, B, b', C, c', D, d, E, e, h0, r7, r8, r9, r10, r11⟩ := h
  subst h0
  unfold ctlC at hCS ⊢
  simp only [mkRE, List.length_nil, l0] at hCS r7 r8 r9 r10 r11 ⊢
  change Calls Tryd.prog 20 #[.agg #[.int .i64 4, .int .u32 (so : Int), .int .u32 0, .int .u64 0, .int .u32 0, .int .u32 0, .int .u32 0, .slice A 0 a, .slice B 0 b', .slice C n c', .slice D 0 d, .slice E 0 e, .int .u64 (ra : Int)]] w _
  replace hCS : CtRd w [.int .i64 4, .int .u32 (so : Int), .int .u32 0, .int .u64 0, .int .u32 0, .int .u32 0, .int .u32 0, .slice A 0 a, .slice B 0 b', .slice C n c', .slice D 0 d, .slice E 0 e, .int .u64 (ra : Int)] (mkRE 4 so L ra) := hCS
  have hD : CtRd w [.int .i64 4, .int .u32 (so : Int), .int .u32 0, .int .u64 0, .int .u32 0, .int .u32 0, .int .u32 0, .slice none 0 0, .slice none 0 0, .slice C n c', .slice none 0 0, .slice none 0 0, .int .u64 (ra : Int)] (mkRE 4 so L ra) := ⟨none, 0, none, 0, C, c', none, 0, none, 0, by (simp only [ctlC, mkRE, List.length_nil, l0]; rfl), nilG _ _, nilG _ _, r9, nilG _ _, nilG _ _⟩
  have HSH : Hid (smallL (mkRE 4 so L ra)) := Lib.hid (by simp [smallL, mkRE]; omega)
  have SM : Hid (Calls Tryd.prog 26 #[.agg #[.int .i64 4, .int .u32 (so : Int), .int .u32 0, .int .u64 0, .int .u32 0, .int .u32 0, .int .u32 0, .slice A 0 a, .slice B 0 b', .slice C n c', .slice D 0 d, .slice E 0 e, .int .u64 (ra : Int)], .agg #[.int .i64 4, .int .u32 (so : Int), .int .u32 0, .int .u64 0, .int .u32 0, .int .u32 0, .int .u32 0, .slice none 0 0, .slice none 0 0, .slice C n c', .slice none 0 0, .slice none 0 0, .int .u64 (ra : Int)]] ((w.alloc (.cells #[.int .i64 4, .int .u32 (so : Int), .int .u32 0, .int .u64 0, .int .u32 0, .int .u32 0, .int .u32 0, .slice A 0 a, .slice B 0 b', .slice C n c', .slice D 0 d, .slice E 0 e, .int .u64 (ra : Int)] 50)).alloc (.cells #[.int .i64 4, .int .u32 (so : Int), .int .u32 0, .int .u64 0, .int .u32 0, .int .u32 0, .int .u32 0, .slice none 0 0, .slice none 0 0, .slice C n c', .slice none 0 0, .slice none 0 0, .int .u64 (ra : Int)] 50)) fun r w' => r = .returned (.bool true) ∧ Below ((w.alloc (.cells #[.int .i64 4, .int .u32 (so : Int), .int .u32 0, .int .u64 0, .int .u32 0, .int .u32 0, .int .u32 0, .slice A 0 a, .slice B 0 b', .slice C n c', .slice D 0 d, .slice E 0 e, .int .u64 (ra : Int)] 50)).alloc (.cells #[.int .i64 4, .int .u32 (so : Int), .int .u32 0, .int .u64 0, .int .u32 0, .int .u32 0, .int .u32 0, .slice none 0 0, .slice none 0 0, .slice C n c', .slice none 0 0, .slice none 0 0, .int .u64 (ra : Int)] 50)).heap.size ((w.alloc (.cells #[.int .i64 4, .int .u32 (so : Int), .int .u32 0, .int .u64 0, .int .u32 0, .int .u32 0, .int .u32 0, .slice A 0 a, .slice B 0 b', .slice C n c', .slice D 0 d, .slice E 0 e, .int .u64 (ra : Int)] 50)).alloc (.cells #[.int .i64 4, .int .u32 (so : Int), .int .u32 0, .int .u64 0, .int .u32 0, .int .u32 0, .int .u32 0, .slice none 0 0, .slice none 0 0, .slice C n c', .slice none 0 0, .slice none 0 0, .int .u64 (ra : Int)] 50)) w') := Lib.hid (same_yes [.int .i64 4, .int .u32 (so : Int), .int .u32 0, .int .u64 0, .int .u32 0, .int .u32 0, .int .u32 0, .slice A 0 a, .slice B 0 b', .slice C n c', .slice D 0 d, .slice E 0 e, .int .u64 (ra : Int)] [.int .i64 4, .int .u32 (so : Int), .int .u32 0, .int .u64 0, .int .u32 0, .int .u32 0, .int .u32 0, .slice none 0 0, .slice none 0 0, .slice C n c', .slice none 0 0, .slice none 0 0, .int .u64 (ra : Int)] (mkRE 4 so L ra) _ (CtRd.below (by exact hCS) (twoBelow _ _ _)) (hD.below (twoBelow _ _ _)) HSH.out.1 HSH.out.2.1 HSH.out.2.2.1 HSH.out.2.2.2.1 HSH.out.2.2.2.2)
  have TWO : Hid (∀ w4, Below ((w.alloc (.cells #[.int .i64 4, .int .u32 (so : Int), .int .u32 0, .int .u64 0, .int .u32 0, .int .u32 0, .int .u32 0, .slice A 0 a, .slice B 0 b', .slice C n c', .slice D 0 d, .slice E 0 e, .int .u64 (ra : Int)] 50)).alloc (.cells #[.int .i64 4, .int .u32 (so : Int), .int .u32 0, .int .u64 0, .int .u32 0, .int .u32 0, .int .u32 0, .slice none 0 0, .slice none 0 0, .slice C n c', .slice none 0 0, .slice none 0 0, .int .u64 (ra : Int)] 50)).heap.size ((w.alloc (.cells #[.int .i64 4, .int .u32 (so : Int), .int .u32 0, .int .u64 0, .int .u32 0, .int .u32 0, .int .u32 0, .slice A 0 a, .slice B 0 b', .slice C n c', .slice D 0 d, .slice E 0 e, .int .u64 (ra : Int)] 50)).alloc (.cells #[.int .i64 4, .int .u32 (so : Int), .int .u32 0, .int .u64 0, .int .u32 0, .int .u32 0, .int .u32 0, .slice none 0 0, .slice none 0 0, .slice C n c', .slice none 0 0, .slice none 0 0, .int .u64 (ra : Int)] 50)) w4 → Below w.heap.size w w4 ∧ BlkV w4 w.heap.size 50 [.int .i64 4, .int .u32 (so : Int), .int .u32 0, .int .u64 0, .int .u32 0, .int .u32 0, .int .u32 0, .slice A 0 a, .slice B 0 b', .slice C n c', .slice D 0 d, .slice E 0 e, .int .u64 (ra : Int)]) := Lib.hid (fun w4 hb => ⟨(twoBelow w _ _).trans (hb.mono (twoBelow w _ _).size), (oneB2 w [.int .i64 4, .int .u32 (so : Int), .int .u32 0, .int .u64 0, .int .u32 0, .int .u32 0, .int .u32 0, .slice A 0 a, .slice B 0 b', .slice C n c', .slice D 0 d, .slice E 0 e, .int .u64 (ra : Int)] 50 _).below hb (oneB2 w [.int .i64 4, .int .u32 (so : Int), .int .u32 0, .int .u64 0, .int .u32 0, .int .u32 0, .int .u32 0, .slice A 0 a, .slice B 0 b', .slice C n c', .slice D 0 d, .slice E 0 e, .int .u64 (ra : Int)] 50 _).lt⟩)
  have RL := Lib.hid r9
  have HN := Lib.hid l0
  have HRC := Lib.hid hrc
  have HRT : Hid (∀ W, Calls Tryd.prog 21 #[.int .u64 (ra : Int)] W fun r w' => r = .returned (.tuple #[.int .u64 (rM ra : Int), .int .i64 (rE ra : Int)]) ∧ W = w') := Lib.hid (fun W => (rrate_any ra W hra).mono (by
    rintro r w' ⟨⟨e, rfl, h1, h2⟩, rfl⟩
    obtain rfl := rE_unique ra e hra h1 h2
    exact ⟨rfl, rfl⟩))
  have hRM := rM_le ra
  have hxE := rE_lt ra hra
  obtain ⟨x, hx⟩ : ∃ x, x = rE ra := ⟨_, rfl⟩
  obtain ⟨m, hm⟩ : ∃ m, m = rM ra := ⟨_, rfl⟩
  rw [← hx, ← hm] at HRT hRM HRC
  rw [← hx] at hxE
  obtain ⟨R, hR⟩ : ∃ R, R = m * 2 ^ x := ⟨_, rfl⟩
  rw [← hR] at hRM HRC
  have HR := Lib.hid hR
  have HRL : Hid (R < 18446744073709551616) := Lib.hid (by omega)
  clear hx hm hR hRM
  have g1 : R = ra := HRC.out.2
  have g2 : (ra : Int) < 9223372036854775808 := by have := HRC.out.1; omega
  have G1 := Lib.hid g1
  clear g1 hrc HRC hra
  clear hCS hD r7 r8 r9 r10 r11 HSH l0
  go_enter Tryd.func20, Tryd.ntmps20
  go_wp2_with (go_at_call 21; ((with_reducible refine (Hid.out HRT _).mono ?_); rintro r wx ⟨rfl, rfl⟩))
  go_loopw [5, 7] (fun vm vi wr => wr = ((w.alloc (.cells #[.int .i64 4, .int .u32 (so : Int), .int .u32 0, .int .u64 0, .int .u32 0, .int .u32 0, .int .u32 0, .slice A 0 a, .slice B 0 b', .slice C n c', .slice D 0 d, .slice E 0 e, .int .u64 (ra : Int)] 50)).alloc (.cells #[.int .i64 4, .int .u32 (so : Int), .int .u32 0, .int .u64 0, .int .u32 0, .int .u32 0, .int .u32 0, .slice none 0 0, .slice none 0 0, .slice C n c', .slice none 0 0, .slice none 0 0, .int .u64 (ra : Int)] 50)) ∧ ∃ (i y : Nat), i ≤ x ∧ vi = .int .i64 i ∧ vm = .int .u64 (y : Int) ∧ Hid (y = m * 2 ^ i)) (fun _ vi _ => x - (intOf vi).toNat)
  case atStart => exact ⟨rfl, 0, m, by omega, rfl, rfl, Lib.hid (by simp)⟩
  case round =>
    obtain ⟨rfl, i, y, hi, rfl, rfl, HY⟩ := hrel
    by_cases hix : i < x
    · have HY2 : Hid (y * 2 = m * 2 ^ (i + 1)) := Lib.hid (by rw [HY.out, Nat.pow_succ, Nat.mul_assoc])
      have hle : y * 2 ≤ R := by
        rw [HY2.out, HR.out]
        exact Nat.mul_le_mul_left m (Nat.pow_le_pow_right (by omega) (by omega))
      have hRR := HRL.out
      obtain ⟨Y, hY⟩ : ∃ Y, Y = y * 2 := ⟨_, rfl⟩
      have e5 : IntKind.u64.wrap ((y : Int) * 2) = (Y : Int) := by rw [IntKind.wrap_u64, hY]; omega
      rw [← hY] at HY2
      clear hY hle hRR
      go_wp2
      go_roundw
      case rel => exact ⟨by trivial, i + 1, Y, by omega, by go_num, rfl, HY2⟩
      case measure => simp [intOf]; omega
    · obtain rfl : i = x := by omega
      have hyR : y = R := by rw [HY.out, HR.out]
      subst hyR
      clear HY hi hix
      have g4 : (y : Int) = (ra : Int) := by rw [G1.out]
      clear G1 HR HRL
      obtain ⟨X, hX⟩ : ∃ X : Int, X = (ra : Int) := ⟨_, rfl⟩
      rw [← hX] at g4 g2 SM TWO ⊢
      clear hX
      go_wp2_with (go_at_call 26; ((with_reducible refine (Hid.out SM).mono ?_); rintro r w4 ⟨rfl, hb⟩; have B4 := Lib.hid (TWO.out w4 hb).1; have V4 := Lib.hid (TWO.out w4 hb).2; clear hb))
      go_loopw [8] (fun i wr => i = .int .i64 0 ∧ Hid (Below w4.heap.size w4 wr)) (fun i _ => 0)
      case atStart => exact ⟨rfl, Lib.hid (Below.refl _ _)⟩
      case round =>
        obtain ⟨rfl, HB⟩ := hrel
        have V5 := Lib.hid (V4.out.below HB.out V4.out.lt)
        have B5 := Lib.hid (B4.out.trans (HB.out.mono B4.out.size))
        have y8 : wr.cell? ⟨w.heap.size, 8, none⟩ = some (.slice B 0 b') := (V5.out.cell 8).trans rfl
        have y7 : wr.cell? ⟨w.heap.size, 7, none⟩ = some (.slice A 0 a) := (V5.out.cell 7).trans rfl
        go_wp2
        go_loopw [9] (fun i wx => i = .int .i64 0 ∧ Hid (Below wr.heap.size wr wx)) (fun i _ => 0)
        case atStart => exact ⟨rfl, Lib.hid (Below.refl _ _)⟩
        case round =>
          clear y7 y8
          obtain ⟨rfl, HB9⟩ := hrel
          have V6 := Lib.hid (V5.out.below HB9.out V5.out.lt)
          have B6 := Lib.hid (B5.out.trans (HB9.out.mono B5.out.size))
          have y7 : wr.cell? ⟨w.heap.size, 7, none⟩ = some (.slice A 0 a) := (V6.out.cell 7).trans rfl
          go_wp2
          go_ret
          exact ⟨rfl, B6.out⟩
end Go.Proofs.YtacaempcbdekaaaDoor
