/- Contracts of package aes's functions of bytes. No statement is proved here. -/
import Derived.Test.YtmfceenkndjjoaaProg
import Derived.Test.YtmfceenkndjjoaaBytes
import Derived.Test.YtmfceenkndjjoaaAesNum
import Derived.KernelRfl
import Derived.Lib.Hide
import Derived.IntWalk
namespace Go.Proofs.Ytmfceenkndjjoaa
open Go.RowKit
set_option linter.unusedVariables false

theorem u8_and_one (a : Nat) (ha : a < 256) : bits BinOp.and IntKind.u8 (a : Int) 1 = ((a % 2 : Nat) : Int) := by
  have h := u8_and_nat a 1 ha (by omega)
  rw [Nat.and_one_is_mod] at h
  exact h
theorem twice_any (x : UInt8) (xi : Int) (w : World) (hx : xi = (x.toNat : Int)) : Calls Try.prog 34 #[.int .u8 xi] w fun e w' => e = .returned (.int .u8 ((dbl x).toNat : Int)) ∧ w = w' := by
  have hl := x.toNat_lt
  rw [dbl_nat]
  obtain ⟨n, hn⟩ : ∃ n, n = x.toNat := ⟨_, rfl⟩
  rw [← hn] at hl hx ⊢
  clear hn
  subst hx
  have h1 := u8_xor_nat (n * 2 % 256) (n / 128 * 27) (by omega) (by omega)
  have hb : bits BinOp.xor IntKind.u8 ((n : Int) * 2 % 256) ((n : Int) / 128 * 27) = (dblN n : Nat) := by
    unfold dblN; rw [← h1]; simp
  have H := Lib.hid hb
  clear h1 hb
  have hi : (n : Int) ≤ 255 := by omega
  go_enter Try.func34, Try.ntmps34
  go_wp2
  rw [H.out]
  go_ret
  exact ⟨rfl, rfl⟩
theorem rotl8_4 (x : Nat) (w : World) (hx : x < 256) : Calls Try.prog 35 #[.int .u8 x, .int .i64 4] w fun e w' => e = .returned (.int .u8 (rot8 4 x : Nat)) ∧ w = w' := by
  have h := u8_or_nat (x * 2 ^ 4 % 256) (x / 2 ^ (8 - 4)) (Nat.mod_lt _ (by omega)) (by simp; omega)
  have hb : bits BinOp.or IntKind.u8 ((x : Int) * 16 % 256) ((x : Int) / 16) = (rot8 4 x : Nat) := by
    unfold rot8; rw [← h]; simp
  have hi : (x : Int) ≤ 255 := by omega
  have hk : bits BinOp.and IntKind.u64 4 7 = 4 := by decide
  have HB := Lib.hid hb
  clear h hb
  go_enter Try.func35, Try.ntmps35
  go_wp2
  rw [HB.out]
  go_ret
  exact ⟨rfl, rfl⟩
theorem rotl8_3 (x : Nat) (w : World) (hx : x < 256) : Calls Try.prog 35 #[.int .u8 x, .int .i64 3] w fun e w' => e = .returned (.int .u8 (rot8 3 x : Nat)) ∧ w = w' := by
  have h := u8_or_nat (x * 2 ^ 3 % 256) (x / 2 ^ (8 - 3)) (Nat.mod_lt _ (by omega)) (by simp; omega)
  have hb : bits BinOp.or IntKind.u8 ((x : Int) * 8 % 256) ((x : Int) / 32) = (rot8 3 x : Nat) := by
    unfold rot8; rw [← h]; simp
  have hi : (x : Int) ≤ 255 := by omega
  have hk : bits BinOp.and IntKind.u64 3 7 = 3 := by decide
  have HB := Lib.hid hb
  clear h hb
  go_enter Try.func35, Try.ntmps35
  go_wp2
  rw [HB.out]
  go_ret
  exact ⟨rfl, rfl⟩
theorem rotl8_2 (x : Nat) (w : World) (hx : x < 256) : Calls Try.prog 35 #[.int .u8 x, .int .i64 2] w fun e w' => e = .returned (.int .u8 (rot8 2 x : Nat)) ∧ w = w' := by
  have h := u8_or_nat (x * 2 ^ 2 % 256) (x / 2 ^ (8 - 2)) (Nat.mod_lt _ (by omega)) (by simp; omega)
  have hb : bits BinOp.or IntKind.u8 ((x : Int) * 4 % 256) ((x : Int) / 64) = (rot8 2 x : Nat) := by
    unfold rot8; rw [← h]; simp
  have hi : (x : Int) ≤ 255 := by omega
  have hk : bits BinOp.and IntKind.u64 2 7 = 2 := by decide
  have HB := Lib.hid hb
  clear h hb
  go_enter Try.func35, Try.ntmps35
  go_wp2
  rw [HB.out]
  go_ret
  exact ⟨rfl, rfl⟩
theorem rotl8_1 (x : Nat) (w : World) (hx : x < 256) : Calls Try.prog 35 #[.int .u8 x, .int .i64 1] w fun e w' => e = .returned (.int .u8 (rot8 1 x : Nat)) ∧ w = w' := by
  have h := u8_or_nat (x * 2 ^ 1 % 256) (x / 2 ^ (8 - 1)) (Nat.mod_lt _ (by omega)) (by simp; omega)
  have hb : bits BinOp.or IntKind.u8 ((x : Int) * 2 % 256) ((x : Int) / 128) = (rot8 1 x : Nat) := by
    unfold rot8; rw [← h]; simp
  have hi : (x : Int) ≤ 255 := by omega
  have hk : bits BinOp.and IntKind.u64 1 7 = 1 := by decide
  have HB := Lib.hid hb
  clear h hb
  go_enter Try.func35, Try.ntmps35
  go_wp2
  rw [HB.out]
  go_ret
  exact ⟨rfl, rfl⟩
theorem mixed_nat (n : Nat) (w : World) (hl : n < 256) : Calls Try.prog 31 #[.int .u8 n] w fun e w' => e = .returned (.int .u8 (mixN n : Nat)) ∧ w = w' := by
  have h4 := rotl8_4 n w hl
  have h3 := rotl8_3 n w hl
  have h2 := rotl8_2 n w hl
  have h1 := rotl8_1 n w hl
  have l4 := rot8_lt 4 n (by omega) hl
  have l3 := rot8_lt 3 n (by omega) hl
  have l2 := rot8_lt 2 n (by omega) hl
  have l1 := rot8_lt 1 n (by omega) hl
  have hm : mixN n = n ^^^ rot8 4 n ^^^ rot8 3 n ^^^ rot8 2 n ^^^ rot8 1 n ^^^ 99 := rfl
  obtain ⟨a, ha⟩ : ∃ a, a = rot8 4 n := ⟨_, rfl⟩
  obtain ⟨b, hb⟩ : ∃ a, a = rot8 3 n := ⟨_, rfl⟩
  obtain ⟨c, hc⟩ : ∃ a, a = rot8 2 n := ⟨_, rfl⟩
  obtain ⟨d, hd⟩ : ∃ a, a = rot8 1 n := ⟨_, rfl⟩
  rw [← ha] at h4 l4 hm
  rw [← hb] at h3 l3 hm
  rw [← hc] at h2 l2 hm
  rw [← hd] at h1 l1 hm
  clear ha hb hc hd
  have x8 : ∀ {a b : Nat}, a < 256 → b < 256 → a ^^^ b < 256 := fun ha hb => Nat.xor_lt_two_pow (n := 8) ha hb
  have hx : bits BinOp.xor IntKind.u8 (bits BinOp.xor IntKind.u8 (bits BinOp.xor IntKind.u8 (bits BinOp.xor IntKind.u8 (bits BinOp.xor IntKind.u8 (n : Int) (a : Int)) (b : Int)) (c : Int)) (d : Int)) 99 = (mixN n : Nat) := by
    rw [u8_xor_nat _ _ hl l4, u8_xor_nat _ _ (x8 hl l4) l3, u8_xor_nat _ _ (x8 (x8 hl l4) l3) l2, u8_xor_nat _ _ (x8 (x8 (x8 hl l4) l3) l2) l1]
    have := u8_xor_nat (n ^^^ a ^^^ b ^^^ c ^^^ d) 99 (x8 (x8 (x8 (x8 hl l4) l3) l2) l1) (by omega)
    rw [hm]
    exact this
  have HX := Lib.hid hx
  have H4 := Lib.hid h4
  have H3 := Lib.hid h3
  have H2 := Lib.hid h2
  have H1 := Lib.hid h1
  clear hx h4 h3 h2 h1 hm x8 l4 l3 l2 l1
  go_enter Try.func31, Try.ntmps31
  go_wp2_with (first
    | (go_at_call 35; ((with_reducible refine (Hid.out H4).mono ?_); rintro e w' ⟨rfl, rfl⟩))
    | (go_at_call 35; ((with_reducible refine (Hid.out H3).mono ?_); rintro e w' ⟨rfl, rfl⟩))
    | (go_at_call 35; ((with_reducible refine (Hid.out H2).mono ?_); rintro e w' ⟨rfl, rfl⟩))
    | (go_at_call 35; ((with_reducible refine (Hid.out H1).mono ?_); rintro e w' ⟨rfl, rfl⟩)))
  rw [HX.out]
  go_ret
  exact ⟨rfl, rfl⟩
theorem mixed_any (x : UInt8) (xi : Int) (w : World) (hx : xi = (x.toNat : Int)) : Calls Try.prog 31 #[.int .u8 xi] w fun e w' => e = .returned (.int .u8 ((mx x).toNat : Int)) ∧ w = w' := by
  subst hx
  rw [mx_nat]
  exact mixed_nat x.toNat w x.toNat_lt
theorem x8 {a b : Nat} (ha : a < 256) (hb : b < 256) : a ^^^ b < 256 := Nat.xor_lt_two_pow (n := 8) ha hb

end Go.Proofs.Ytmfceenkndjjoaa
