/- Contracts of the document's answer of layer 5: products, mixed bits, the box of a byte. No statement is proved here. -/
import Derived.Test.YtmfceenkndjjoaaAes1
import Derived.Laws.BitsAllLaws
namespace Go.Proofs.Ytmfceenkndjjoaa
open Go.RowKit
set_option linter.unusedVariables false

theorem ofInt_i64 (a : Nat) (ha : a < 9223372036854775808) : (BitVec.ofInt 64 (a : Int)).toNat = a := by
  rw [BitVec.ofInt_natCast, BitVec.toNat_ofNat]; exact Nat.mod_eq_of_lt (by omega)
theorem i64_xor_nat (a b : Nat) (ha : a < 65536) (hb : b < 65536) : bits BinOp.xor IntKind.i64 (a : Int) (b : Int) = ((a ^^^ b : Nat) : Int) := by
  have hx : a ^^^ b < 2 ^ 16 := Nat.xor_lt_two_pow (by omega) (by omega)
  show IntKind.i64.wrap ((BitVec.ofInt 64 (a : Int) ^^^ BitVec.ofInt 64 (b : Int)).toNat : Int) = _
  rw [BitVec.toNat_xor, ofInt_i64 a (by omega), ofInt_i64 b (by omega)]
  exact IntWalk.i64_in _ (by omega)
theorem i64_and_one (a : Nat) (ha : a < 65536) : bits BinOp.and IntKind.i64 (a : Int) 1 = ((a % 2 : Nat) : Int) := by
  have hx : a % 2 < 2 := Nat.mod_lt _ (by omega)
  show IntKind.i64.wrap ((BitVec.ofInt 64 (a : Int) &&& BitVec.ofInt 64 ((1 : Nat) : Int)).toNat : Int) = _
  rw [BitVec.toNat_and, ofInt_i64 a (by omega), ofInt_i64 1 (by omega), Nat.and_one_is_mod]
  exact IntWalk.i64_in _ (by omega)
theorem wrap64_small (n : Nat) (h : n < 65536) : wrap64 (n : Int) = (n : Int) := by unfold wrap64; omega
theorem pow_le7 (k : Nat) (hk : k < 8) : 2 ^ k ≤ 128 := Nat.pow_le_pow_right (n := 2) (i := k) (j := 7) (by omega) (by omega)
set_option maxHeartbeats 400000 in
theorem rtimes_nat (a b : Nat) (w : World) (ha : a < 256) (hb : b < 256) : Calls Try.prog 24 #[.int .u8 a, .int .u8 b] w fun e w' => e = .returned (.int .u8 (timesN a b : Nat)) ∧ w = w' := by
  unfold timesN
  obtain ⟨R, hR⟩ : ∃ R, R = rt1 8 b a 0 := ⟨_, rfl⟩
  rw [← hR]
  obtain ⟨X0, hX0⟩ : ∃ X0, X0 = rt2 7 R := ⟨_, rfl⟩
  rw [← hX0]
  have HR := Lib.hid hR
  have HX0 := Lib.hid hX0
  clear hR hX0
  go_enter Try.func24, Try.ntmps24
  go_wp2
  go_loop [5, 6] (fun vx vi => ∃ k x : Nat, k ≤ 8 ∧ x < 65536 ∧ Hid (rt1 (8 - k) (b / 2 ^ k) (a * 2 ^ k) x = R) ∧ vx = .int .i64 x ∧ vi = .int .i64 k) (fun _ i => 8 - (intOf i).toNat)
  case atStart => exact ⟨0, 0, by omega, by omega, Lib.hid (by simpa using HR.out.symm), rfl, rfl⟩
  case round =>
    obtain ⟨k, x, hk, hx, hH, rfl, rfl⟩ := hrel
    by_cases hlt : k < 8
    · have hB : b / 2 ^ k < 256 := Nat.lt_of_le_of_lt (Nat.div_le_self _ _) hb
      have hcast := u8_and_one (b / 2 ^ k) hB
      have hc2 : ((b / 2 ^ k : Nat) : Int) = (b : Int) / 2 ^ k := by simp
      rw [hc2] at hcast
      clear hc2
      have hS : a * 2 ^ k < 65536 := by
        have := pow_le7 k hlt
        have := Nat.mul_le_mul (Nat.le_of_lt_succ ha) this
        omega
      have hw : wrap64 ((a : Int) * 2 ^ k) = ((a * 2 ^ k : Nat) : Int) := by
        have : (a : Int) * 2 ^ k = ((a * 2 ^ k : Nat) : Int) := by simp
        rw [this]; exact wrap64_small _ hS
      have hnx : rt1 (8 - k) (b / 2 ^ k) (a * 2 ^ k) x = rt1 (8 - (k + 1)) (b / 2 ^ (k + 1)) (a * 2 ^ (k + 1)) (if b / 2 ^ k % 2 = 1 then x ^^^ a * 2 ^ k else x) := by
        rw [show 8 - k = (8 - (k + 1)) + 1 by omega, rt1, Nat.div_div_eq_div_mul, ← Nat.pow_succ, show 2 * (a * 2 ^ k) = a * 2 ^ (k + 1) by rw [Nat.pow_succ, Nat.mul_comm 2, Nat.mul_assoc]]
      rw [hH.out] at hnx
      have hxo := i64_xor_nat x (a * 2 ^ k) hx hS
      rw [← hw] at hxo
      have hxl : x ^^^ a * 2 ^ k < 65536 := Nat.xor_lt_two_pow (n := 16) hx hS
      have HX := Lib.hid hxo
      clear hxo hw hH hB hS
      rcases Nat.mod_two_eq_zero_or_one (b / 2 ^ k) with hm | hm
      · rw [hm] at hcast hnx
        have HN := Lib.hid hnx
        clear hnx hm hxl
        go_wp2
        go_round
        case rel => exact ⟨k + 1, x, by omega, hx, Lib.hid HN.out.symm, rfl, by go_num⟩
        case measure => simp [intOf]; omega
      · rw [hm] at hcast hnx
        have HN := Lib.hid hnx
        clear hnx hm
        go_wp2
        go_round
        case rel => exact ⟨k + 1, x ^^^ a * 2 ^ k, by omega, hxl, Lib.hid HN.out.symm, by rw [← HX.out], by go_num⟩
        case measure => simp [intOf]; omega
    · obtain rfl : k = 8 := by omega
      have hfin : x = R := hH.out
      have HX1 : Hid (rt2 7 x = X0) := Lib.hid (by rw [hfin]; exact HX0.out.symm)
      clear hfin hH HX0 HR
      go_wp2
      go_loop [5, 7] (fun vx vi => ∃ n x : Nat, n ≤ 7 ∧ x < 65536 ∧ Hid (rt2 n x = X0) ∧ vx = .int .i64 x ∧ vi = .int .i64 ((n : Int) + 7)) (fun _ i => (intOf i).toNat)
      case atStart => exact ⟨7, x, by omega, hx, HX1, rfl, rfl⟩
      case round =>
        clear hx HX1
        obtain ⟨n, x, hn, hx, hH, rfl, rfl⟩ := hrel
        rcases Nat.eq_zero_or_pos n with hz | hp
        · subst hz
          have hfin : x = X0 := hH.out
          subst hfin
          clear hH
          go_wp2
          go_ret
          exact ⟨rfl, rfl⟩
        · obtain ⟨m, rfl⟩ : ∃ m, n = m + 1 := ⟨n - 1, by omega⟩
          have hB : x / 2 ^ (m + 8) < 65536 := Nat.lt_of_le_of_lt (Nat.div_le_self _ _) hx
          have han := i64_and_one (x / 2 ^ (m + 8)) hB
          have hc2 : ((x / 2 ^ (m + 8) : Nat) : Int) = (x : Int) / 2 ^ (m + 1 + 7) := by simp
          rw [hc2] at han
          have hS : 283 * 2 ^ m < 65536 := by
            have := pow_le7 m (by omega)
            omega
          have hw : wrap64 (283 * 2 ^ m) = ((283 * 2 ^ m : Nat) : Int) := by
            have : (283 : Int) * 2 ^ m = ((283 * 2 ^ m : Nat) : Int) := by simp
            rw [this]; exact wrap64_small _ hS
          have hxo := i64_xor_nat x (283 * 2 ^ m) hx hS
          rw [← hw] at hxo
          have hxl : x ^^^ 283 * 2 ^ m < 65536 := Nat.xor_lt_two_pow (n := 16) hx hS
          have HX := Lib.hid hxo
          have hnx : rt2 m (if x / 2 ^ (m + 8) % 2 = 1 then x ^^^ 283 * 2 ^ m else x) = X0 := hH.out
          clear hxo hw hH hB hS hc2
          rcases Nat.mod_two_eq_zero_or_one (x / 2 ^ (m + 8)) with hm | hm
          · rw [hm] at han hnx
            have HN := Lib.hid hnx
            clear hnx hm hxl
            go_wp2
            go_round
            case rel => exact ⟨m, x, by omega, hx, HN, rfl, by go_num⟩
            case measure => simp [intOf]; omega
          · rw [hm] at han hnx
            have HN := Lib.hid hnx
            clear hnx hm
            go_wp2
            go_round
            case rel => exact ⟨m, x ^^^ 283 * 2 ^ m, by omega, hxl, HN, by rw [← HX.out], by go_num⟩
            case measure => simp [intOf]; omega

theorem rtimes_any (x y : UInt8) (xi yi : Int) (w : World) (hx : xi = (x.toNat : Int)) (hy : yi = (y.toNat : Int)) : Calls Try.prog 24 #[.int .u8 xi, .int .u8 yi] w fun e w' => e = .returned (.int .u8 (timesN x.toNat y.toNat : Nat)) ∧ w = w' := by
  subst hx; subst hy
  exact rtimes_nat _ _ w x.toNat_lt y.toNat_lt

theorem pow_lt8 (k : Nat) (hk : k ≤ 8) : 2 ^ k ≤ 256 := Nat.pow_le_pow_right (n := 2) (i := k) (j := 8) (by omega) (by omega)
set_option maxHeartbeats 400000 in
theorem rmix_nat (v : Nat) (w : World) (hv : v < 256) : Calls Try.prog 30 #[.int .u8 v] w fun e w' => e = .returned (.int .u8 (mixN v : Nat)) ∧ w = w' := by
  rw [← mix_same v hv]
  go_enter Try.func30, Try.ntmps30
  go_wp2
  go_loop [3, 4] (fun vo vi => ∃ i : Nat, i ≤ 8 ∧ vo = .int .u8 ((os v i : Nat) : Int) ∧ vi = .int .i64 i) (fun _ i => 8 - (intOf i).toNat)
  case atStart => exact ⟨0, by omega, rfl, rfl⟩
  case round =>
    obtain ⟨i, hi, rfl, rfl⟩ := hrel
    by_cases hlt : i < 8
    · have ho := os_lt v i
      have hp := pow_lt8 i hi
      obtain ⟨O, hO⟩ : ∃ O, O = os v i := ⟨_, rfl⟩
      have hO8 : O < 256 := by omega
      have hnext : os v (i + 1) = O + ns v i 4 % 2 * 2 ^ i := by rw [os, hO]
      have h99 : 99 / 2 ^ i < 256 := Nat.lt_of_le_of_lt (Nat.div_le_self _ _) (by omega)
      have hvi : v / 2 ^ i < 256 := Nat.lt_of_le_of_lt (Nat.div_le_self _ _) hv
      have ha := u8_and_one _ h99
      have hb := u8_and_one _ hvi
      have hc1 : ((99 / 2 ^ i : Nat) : Int) = 99 / 2 ^ i := by simp
      have hc2 : ((v / 2 ^ i : Nat) : Int) = (v : Int) / 2 ^ i := by simp
      rw [hc1] at ha
      rw [hc2] at hb
      rw [← hO]
      clear hO hc1 hc2
      go_wp2
      go_loop [5, 6] (fun vn vk => ∃ j : Nat, j ≤ 4 ∧ vn = .int .u8 ((ns v i j : Nat) : Int) ∧ vk = .int .i64 ((j : Int) + 4)) (fun _ k => 8 - (intOf k).toNat)
      case atStart => exact ⟨0, by omega, by simp [ns], rfl⟩
      case round =>
        obtain ⟨j, hj, rfl, rfl⟩ := hrel
        have hN := ns_le v i j
        by_cases hlt2 : j < 4
        · have hnn : ns v i (j + 1) = ns v i j + v / 2 ^ ((i + (j + 4)) % 8) % 2 := by rw [ns]
          obtain ⟨N, hNe⟩ : ∃ N, N = ns v i j := ⟨_, rfl⟩
          rw [← hNe] at hN hnn ⊢
          clear hNe
          obtain ⟨M, hM⟩ : ∃ M, M = (i + (j + 4)) % 8 := ⟨_, rfl⟩
          rw [← hM] at hnn
          have hM8 : M < 8 := by omega
          have hvm : v / 2 ^ M < 256 := Nat.lt_of_le_of_lt (Nat.div_le_self _ _) hv
          have hc := u8_and_one _ hvm
          have hc1 : ((v / 2 ^ M : Nat) : Int) = (v : Int) / 2 ^ M := by simp
          rw [hc1] at hc
          have hmod : ((i : Int) + ((j : Int) + 4)) % 8 = (M : Int) := by omega
          clear hM hc1
          have HNN := Lib.hid hnn
          clear hnn
          go_wp2
          go_round
          case rel => exact ⟨j + 1, by omega, by rw [HNN.out]; simp, by go_num⟩
          case measure => simp [intOf]; omega
        · obtain rfl : j = 4 := by omega
          have hO2 := os_lt v (i + 1)
          have hp2 := pow_lt8 (i + 1) (by omega)
          obtain ⟨N, hNe⟩ : ∃ N, N = ns v i 4 := ⟨_, rfl⟩
          rw [← hNe] at hN hnext ⊢
          clear hNe
          obtain ⟨E, hE⟩ : ∃ E, E = N % 2 * 2 ^ i := ⟨_, rfl⟩
          have hEc : (N : Int) % 2 * 2 ^ i = (E : Int) := by rw [hE]; simp
          rw [← hE] at hnext
          rw [hnext] at hO2
          have hE8 : E < 256 := by omega
          have hOE : O + E < 256 := by omega
          clear hE
          have HN := Lib.hid hnext
          clear hnext
          go_wp2
          go_round
          case rel => exact ⟨i + 1, by omega, by rw [HN.out]; simp, by go_num⟩
          case measure => simp [intOf]; omega
    · obtain rfl : i = 8 := by omega
      go_wp2
      go_ret
      exact ⟨rfl, rfl⟩
theorem rmix_any (x : UInt8) (xi : Int) (w : World) (hx : xi = (x.toNat : Int)) : Calls Try.prog 30 #[.int .u8 xi] w fun e w' => e = .returned (.int .u8 ((mx x).toNat : Int)) ∧ w = w' := by
  subst hx
  rw [mx_nat]
  exact rmix_nat x.toNat w x.toNat_lt

end Go.Proofs.Ytmfceenkndjjoaa
