/- Contracts of package aes's functions of bytes. No statement is proved here. -/
import Derived.Test.YtgplaekilgbfpaaProg
import Derived.Test.YtgplaekilgbfpaaBytes
import Derived.Test.YtgplaekilgbfpaaAesNum
import Derived.KernelRfl
import Derived.Lib.Hide
import Derived.IntWalk
namespace Go.Proofs.Ytgplaekilgbfpaa
open Go.RowKit
set_option linter.unusedVariables false

theorem u8_and_one (a : Nat) (ha : a < 256) : bits BinOp.and IntKind.u8 (a : Int) 1 = ((a % 2 : Nat) : Int) := by
  have h := u8_and_nat a 1 ha (by omega)
  rw [Nat.and_one_is_mod] at h
  exact h
theorem twice_any (x : UInt8) (xi : Int) (w : World) (hx : xi = (x.toNat : Int)) : Calls Try.prog 19 #[.int .u8 xi] w fun e w' => e = .returned (.int .u8 ((dbl x).toNat : Int)) ∧ w = w' := by
  have hl := x.toNat_lt
  rw [dbl_nat]
  obtain ⟨n, hn⟩ : ∃ n, n = x.toNat := ⟨_, rfl⟩
  rw [← hn] at hl hx ⊢
  clear hn
  subst hx
  have h1 := u8_xor_nat (n * 2 % 256) (n / 128 * 27) (by omega) (by omega)
  have hb : bits BinOp.xor IntKind.u8 ((n : Int) * 2 % 256) ((n : Int) / 128 * 27) = (dblN n : Nat) := by
    unfold dblN; rw [← h1]; simp
  have H := Lib.hid hb
  clear h1 hb
  have hi : (n : Int) ≤ 255 := by omega
  go_enter Try.func19, Try.ntmps19
  go_wp2
  rw [H.out]
  go_ret
  exact ⟨rfl, rfl⟩
theorem rotl8_4 (x : Nat) (w : World) (hx : x < 256) : Calls Try.prog 26 #[.int .u8 x, .int .i64 4] w fun e w' => e = .returned (.int .u8 (rot8 4 x : Nat)) ∧ w = w' := by
  have h := u8_or_nat (x * 2 ^ 4 % 256) (x / 2 ^ (8 - 4)) (Nat.mod_lt _ (by omega)) (by simp; omega)
  have hb : bits BinOp.or IntKind.u8 ((x : Int) * 16 % 256) ((x : Int) / 16) = (rot8 4 x : Nat) := by
    unfold rot8; rw [← h]; simp
  have hi : (x : Int) ≤ 255 := by omega
  have hk : bits BinOp.and IntKind.u64 4 7 = 4 := by decide
  have HB := Lib.hid hb
  clear h hb
  go_enter Try.func26, Try.ntmps26
  go_wp2
  rw [HB.out]
  go_ret
  exact ⟨rfl, rfl⟩
theorem rotl8_3 (x : Nat) (w : World) (hx : x < 256) : Calls Try.prog 26 #[.int .u8 x, .int .i64 3] w fun e w' => e = .returned (.int .u8 (rot8 3 x : Nat)) ∧ w = w' := by
  have h := u8_or_nat (x * 2 ^ 3 % 256) (x / 2 ^ (8 - 3)) (Nat.mod_lt _ (by omega)) (by simp; omega)
  have hb : bits BinOp.or IntKind.u8 ((x : Int) * 8 % 256) ((x : Int) / 32) = (rot8 3 x : Nat) := by
    unfold rot8; rw [← h]; simp
  have hi : (x : Int) ≤ 255 := by omega
  have hk : bits BinOp.and IntKind.u64 3 7 = 3 := by decide
  have HB := Lib.hid hb
  clear h hb
  go_enter Try.func26, Try.ntmps26
  go_wp2
  rw [HB.out]
  go_ret
  exact ⟨rfl, rfl⟩
theorem rotl8_2 (x : Nat) (w : World) (hx : x < 256) : Calls Try.prog 26 #[.int .u8 x, .int .i64 2] w fun e w' => e = .returned (.int .u8 (rot8 2 x : Nat)) ∧ w = w' := by
  have h := u8_or_nat (x * 2 ^ 2 % 256) (x / 2 ^ (8 - 2)) (Nat.mod_lt _ (by omega)) (by simp; omega)
  have hb : bits BinOp.or IntKind.u8 ((x : Int) * 4 % 256) ((x : Int) / 64) = (rot8 2 x : Nat) := by
    unfold rot8; rw [← h]; simp
  have hi : (x : Int) ≤ 255 := by omega
  have hk : bits BinOp.and IntKind.u64 2 7 = 2 := by decide
  have HB := Lib.hid hb
  clear h hb
  go_enter Try.func26, Try.ntmps26
  go_wp2
  rw [HB.out]
  go_ret
  exact ⟨rfl, rfl⟩
theorem rotl8_1 (x : Nat) (w : World) (hx : x < 256) : Calls Try.prog 26 #[.int .u8 x, .int .i64 1] w fun e w' => e = .returned (.int .u8 (rot8 1 x : Nat)) ∧ w = w' := by
  have h := u8_or_nat (x * 2 ^ 1 % 256) (x / 2 ^ (8 - 1)) (Nat.mod_lt _ (by omega)) (by simp; omega)
  have hb : bits BinOp.or IntKind.u8 ((x : Int) * 2 % 256) ((x : Int) / 128) = (rot8 1 x : Nat) := by
    unfold rot8; rw [← h]; simp
  have hi : (x : Int) ≤ 255 := by omega
  have hk : bits BinOp.and IntKind.u64 1 7 = 1 := by decide
  have HB := Lib.hid hb
  clear h hb
  go_enter Try.func26, Try.ntmps26
  go_wp2
  rw [HB.out]
  go_ret
  exact ⟨rfl, rfl⟩
theorem mixed_nat (n : Nat) (w : World) (hl : n < 256) : Calls Try.prog 17 #[.int .u8 n] w fun e w' => e = .returned (.int .u8 (mixN n : Nat)) ∧ w = w' := by
  have h4 := rotl8_4 n w hl
  have h3 := rotl8_3 n w hl
  have h2 := rotl8_2 n w hl
  have h1 := rotl8_1 n w hl
  have l4 := rot8_lt 4 n (by omega) hl
  have l3 := rot8_lt 3 n (by omega) hl
  have l2 := rot8_lt 2 n (by omega) hl
  have l1 := rot8_lt 1 n (by omega) hl
  have hm : mixN n = n ^^^ rot8 4 n ^^^ rot8 3 n ^^^ rot8 2 n ^^^ rot8 1 n ^^^ 99 := rfl
  obtain ⟨a, ha⟩ : ∃ a, a = rot8 4 n := ⟨_, rfl⟩
  obtain ⟨b, hb⟩ : ∃ a, a = rot8 3 n := ⟨_, rfl⟩
  obtain ⟨c, hc⟩ : ∃ a, a = rot8 2 n := ⟨_, rfl⟩
  obtain ⟨d, hd⟩ : ∃ a, a = rot8 1 n := ⟨_, rfl⟩
  rw [← ha] at h4 l4 hm
  rw [← hb] at h3 l3 hm
  rw [← hc] at h2 l2 hm
  rw [← hd] at h1 l1 hm
  clear ha hb hc hd
  have x8 : ∀ {a b : Nat}, a < 256 → b < 256 → a ^^^ b < 256 := fun ha hb => Nat.xor_lt_two_pow (n := 8) ha hb
  have hx : bits BinOp.xor IntKind.u8 (bits BinOp.xor IntKind.u8 (bits BinOp.xor IntKind.u8 (bits BinOp.xor IntKind.u8 (bits BinOp.xor IntKind.u8 (n : Int) (a : Int)) (b : Int)) (c : Int)) (d : Int)) 99 = (mixN n : Nat) := by
    rw [u8_xor_nat _ _ hl l4, u8_xor_nat _ _ (x8 hl l4) l3, u8_xor_nat _ _ (x8 (x8 hl l4) l3) l2, u8_xor_nat _ _ (x8 (x8 (x8 hl l4) l3) l2) l1]
    have := u8_xor_nat (n ^^^ a ^^^ b ^^^ c ^^^ d) 99 (x8 (x8 (x8 (x8 hl l4) l3) l2) l1) (by omega)
    rw [hm]
    exact this
  have HX := Lib.hid hx
  have H4 := Lib.hid h4
  have H3 := Lib.hid h3
  have H2 := Lib.hid h2
  have H1 := Lib.hid h1
  clear hx h4 h3 h2 h1 hm x8 l4 l3 l2 l1
  go_enter Try.func17, Try.ntmps17
  go_wp2_with (first
    | (go_at_call 26; ((with_reducible refine (Hid.out H4).mono ?_); rintro e w' ⟨rfl, rfl⟩))
    | (go_at_call 26; ((with_reducible refine (Hid.out H3).mono ?_); rintro e w' ⟨rfl, rfl⟩))
    | (go_at_call 26; ((with_reducible refine (Hid.out H2).mono ?_); rintro e w' ⟨rfl, rfl⟩))
    | (go_at_call 26; ((with_reducible refine (Hid.out H1).mono ?_); rintro e w' ⟨rfl, rfl⟩)))
  rw [HX.out]
  go_ret
  exact ⟨rfl, rfl⟩
theorem mixed_any (x : UInt8) (xi : Int) (w : World) (hx : xi = (x.toNat : Int)) : Calls Try.prog 17 #[.int .u8 xi] w fun e w' => e = .returned (.int .u8 ((mx x).toNat : Int)) ∧ w = w' := by
  subst hx
  rw [mx_nat]
  exact mixed_nat x.toNat w x.toNat_lt
theorem x8 {a b : Nat} (ha : a < 256) (hb : b < 256) : a ^^^ b < 256 := Nat.xor_lt_two_pow (n := 8) ha hb

set_option maxHeartbeats 400000 in
theorem times_nat (a b : Nat) (w : World) (ha : a < 256) (hb : b < 256) : Calls Try.prog 8 #[.int .u8 a, .int .u8 b] w fun e w' => e = .returned (.int .u8 (timesN a b : Nat)) ∧ w = w' := by
  rw [← times_same a b ha hb]
  go_enter Try.func8, Try.ntmps8
  go_wp2
  go_loop [0, 5, 7] (fun va vp vi => ∃ k A P : Nat, k ≤ 8 ∧ A < 256 ∧ P < 256 ∧ Hid (tmF (8 - k) (b / 2 ^ k) A P = tmF 8 b a 0) ∧ va = .int .u8 A ∧ vp = .int .u8 P ∧ vi = .int .i64 k) (fun _ _ i => 8 - (intOf i).toNat)
  case atStart => exact ⟨0, a, 0, by omega, ha, by omega, Lib.hid (by simp), rfl, rfl, rfl⟩
  case round =>
    obtain ⟨k, A, P, hk, hA, hP, hH, rfl, rfl, rfl⟩ := hrel
    by_cases hlt : k < 8
    · have htw := fun wx => twice_any (UInt8.ofNat A) A wx (by rw [UInt8.toNat_ofNat']; omega)
      have hdb : ((dbl (UInt8.ofNat A)).toNat : Int) = ((dblN A : Nat) : Int) := by rw [dbl_nat, UInt8.toNat_ofNat', Nat.mod_eq_of_lt hA]
      simp only [hdb] at htw
      have hdl := dblN_lt A hA
      obtain ⟨D, hD⟩ : ∃ D, D = dblN A := ⟨_, rfl⟩
      have hB : b / 2 ^ k < 256 := Nat.lt_of_le_of_lt (Nat.div_le_self _ _) hb
      have han := u8_and_one (b / 2 ^ k) hB
      have hcast : ((b / 2 ^ k : Nat) : Int) = (b : Int) / 2 ^ k := by simp
      rw [hcast] at han
      have hnx : tmF (8 - k) (b / 2 ^ k) A P = tmF (8 - (k + 1)) (b / 2 ^ (k + 1)) D (if b / 2 ^ k % 2 = 1 then P ^^^ A else P) := by
        rw [show 8 - k = (8 - (k + 1)) + 1 by omega, tmF, hD, Nat.div_div_eq_div_mul, ← Nat.pow_succ]
      rw [hH.out] at hnx
      rw [← hD] at htw hdl
      have HT := Lib.hid htw
      have hxo := u8_xor_nat P A hP hA
      have hxl := x8 hP hA
      clear htw hdb hD hcast hH hB
      rcases Nat.mod_two_eq_zero_or_one (b / 2 ^ k) with hm | hm
      · rw [hm] at han hnx
        have HN := Lib.hid hnx
        have HA := Lib.hid han
        clear hnx hm hxo han
        have han := HA.out
        go_wp2_with (first
          | (go_at_call 19; ((with_reducible refine (Hid.out HT _).mono ?_); rintro e w' ⟨rfl, rfl⟩)))
        go_round
        case rel => exact ⟨k + 1, D, P, by omega, hdl, hP, Lib.hid HN.out.symm, rfl, rfl, by go_num⟩
        case measure => simp [intOf]; omega
      · rw [hm] at han hnx
        have HN := Lib.hid hnx
        obtain ⟨Z, hZ⟩ : ∃ Z, Z = P ^^^ A := ⟨_, rfl⟩
        rw [← hZ] at hxo hxl HN
        clear hnx hm hZ
        go_wp2_with (first
          | (go_at_call 19; ((with_reducible refine (Hid.out HT _).mono ?_); rintro e w' ⟨rfl, rfl⟩)))
        go_round
        case rel => exact ⟨k + 1, D, Z, by omega, hdl, hxl, Lib.hid HN.out.symm, rfl, rfl, by go_num⟩
        case measure => simp [intOf]; omega
    · obtain rfl : k = 8 := by omega
      have hfin : P = tmF 8 b a 0 := hH.out
      clear hH
      go_wp2
      go_ret
      exact ⟨rfl, rfl⟩
end Go.Proofs.Ytgplaekilgbfpaa
