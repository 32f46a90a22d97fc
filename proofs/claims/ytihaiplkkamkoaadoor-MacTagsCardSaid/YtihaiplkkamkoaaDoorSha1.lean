/- Contracts of package sha's small functions, and of the document's answer's own turn to the left. No statement is proved here. -/
import Derived.Test.YtihaiplkkamkoaaDoorProg
import Derived.Test.YtihaiplkkamkoaaDoorBytes
import Derived.Test.YtihaiplkkamkoaaDoorShaNum
import Derived.KernelRfl
import Derived.Lib.Hide
namespace Go.Proofs.YtihaiplkkamkoaaDoor
open Go.RowKit
set_option linter.unusedVariables false

theorem max_xor (b : Nat) (hb : b < 4294967296) : bits BinOp.xor IntKind.u32 IntKind.u32.max (b : Int) = ((4294967295 - b : Nat) : Int) := by
  show IntKind.u32.wrap ((BitVec.ofInt 32 ((4294967295 : Nat) : Int) ^^^ BitVec.ofInt 32 (b : Int)).toNat : Int) = _
  have e : BitVec.ofInt 32 ((4294967295 : Nat) : Int) = BitVec.allOnes 32 := by decide
  rw [e, BitVec.allOnes_xor, BitVec.toNat_not, ofInt_u32 b hb, IntKind.wrap_u32']
  omega

theorem rotl5 (x : Nat) (w : World) (hx : x < 4294967296) : Calls Tryd.prog 28 #[.int .u32 x, .int .i64 5] w fun e w' => e = .returned (.int .u32 (rot 5 x : Nat)) ∧ w = w' := by
  have h := rot_or 5 x (by omega) hx
  have hb : bits BinOp.or IntKind.u32 ((x : Int) * 32 % 4294967296) ((x : Int) / 134217728) = (rot 5 x : Nat) := by
    have e1 : (x : Int) * 32 % 4294967296 = ((x * 2 ^ 5 % 4294967296 : Nat) : Int) := by omega
    have e2 : (x : Int) / 134217728 = ((x / 2 ^ (32 - 5) : Nat) : Int) := by omega
    rw [e1, e2, u32_or_nat _ _ (by omega) (by omega), h]
  have hx' : (x : Int) ≤ 4294967295 := by omega
  have hk : bits BinOp.and IntKind.u64 5 31 = 5 := by decide
  have HB := Lib.hid hb
  clear h hb
  go_enter Tryd.func28, Tryd.ntmps28
  go_wp2
  rw [HB.out]
  go_ret
  exact ⟨rfl, rfl⟩
theorem rotl1 (x : Nat) (w : World) (hx : x < 4294967296) : Calls Tryd.prog 28 #[.int .u32 x, .int .i64 1] w fun e w' => e = .returned (.int .u32 (rot 1 x : Nat)) ∧ w = w' := by
  have h := rot_or 1 x (by omega) hx
  have hb : bits BinOp.or IntKind.u32 ((x : Int) * 2 % 4294967296) ((x : Int) / 2147483648) = (rot 1 x : Nat) := by
    have e1 : (x : Int) * 2 % 4294967296 = ((x * 2 ^ 1 % 4294967296 : Nat) : Int) := by omega
    have e2 : (x : Int) / 2147483648 = ((x / 2 ^ (32 - 1) : Nat) : Int) := by omega
    rw [e1, e2, u32_or_nat _ _ (by omega) (by omega), h]
  have hx' : (x : Int) ≤ 4294967295 := by omega
  have hk : bits BinOp.and IntKind.u64 1 31 = 1 := by decide
  have HB := Lib.hid hb
  clear h hb
  go_enter Tryd.func28, Tryd.ntmps28
  go_wp2
  rw [HB.out]
  go_ret
  exact ⟨rfl, rfl⟩
theorem rotl30 (x : Nat) (w : World) (hx : x < 4294967296) : Calls Tryd.prog 28 #[.int .u32 x, .int .i64 30] w fun e w' => e = .returned (.int .u32 (rot 30 x : Nat)) ∧ w = w' := by
  have h := rot_or 30 x (by omega) hx
  have hb : bits BinOp.or IntKind.u32 ((x : Int) * 1073741824 % 4294967296) ((x : Int) / 4) = (rot 30 x : Nat) := by
    have e1 : (x : Int) * 1073741824 % 4294967296 = ((x * 2 ^ 30 % 4294967296 : Nat) : Int) := by omega
    have e2 : (x : Int) / 4 = ((x / 2 ^ (32 - 30) : Nat) : Int) := by omega
    rw [e1, e2, u32_or_nat _ _ (by omega) (by omega), h]
  have hx' : (x : Int) ≤ 4294967295 := by omega
  have hk : bits BinOp.and IntKind.u64 30 31 = 30 := by decide
  have HB := Lib.hid hb
  clear h hb
  go_enter Tryd.func28, Tryd.ntmps28
  go_wp2
  rw [HB.out]
  go_ret
  exact ⟨rfl, rfl⟩
theorem rot_is (k x : Nat) (hk : k = 1 ∨ k = 5 ∨ k = 30) : ((rot k x : Nat) : Int) = (x : Int) * 2 ^ k % 4294967296 + (x : Int) / 2 ^ (32 - k) := by
  unfold rot
  rcases hk with rfl | rfl | rfl <;> simp
theorem left5 (x : Nat) (w : World) (hx : x < 4294967296) : Calls Tryd.prog 18 #[.int .u32 x, .int .u64 5] w fun e w' => e = .returned (.int .u32 (rot 5 x : Nat)) ∧ w = w' := by
  have hx' : (x : Int) ≤ 4294967295 := by omega
  have h := rot_is 5 x (by omega)
  simp only [Int.reducePow, Nat.reduceSub] at h
  have H := Lib.hid h
  clear h
  go_enter Tryd.func18, Tryd.ntmps18
  go_wp2
  rw [← H.out]
  go_ret
  exact ⟨rfl, rfl⟩
theorem left1 (x : Nat) (w : World) (hx : x < 4294967296) : Calls Tryd.prog 18 #[.int .u32 x, .int .u64 1] w fun e w' => e = .returned (.int .u32 (rot 1 x : Nat)) ∧ w = w' := by
  have hx' : (x : Int) ≤ 4294967295 := by omega
  have h := rot_is 1 x (by omega)
  simp only [Int.reducePow, Nat.reduceSub] at h
  have H := Lib.hid h
  clear h
  go_enter Tryd.func18, Tryd.ntmps18
  go_wp2
  rw [← H.out]
  go_ret
  exact ⟨rfl, rfl⟩
theorem left30 (x : Nat) (w : World) (hx : x < 4294967296) : Calls Tryd.prog 18 #[.int .u32 x, .int .u64 30] w fun e w' => e = .returned (.int .u32 (rot 30 x : Nat)) ∧ w = w' := by
  have hx' : (x : Int) ≤ 4294967295 := by omega
  have h := rot_is 30 x (by omega)
  simp only [Int.reducePow, Nat.reduceSub] at h
  have H := Lib.hid h
  clear h
  go_enter Tryd.func18, Tryd.ntmps18
  go_wp2
  rw [← H.out]
  go_ret
  exact ⟨rfl, rfl⟩

/-- The bits of f, as the program has them. -/
theorem ff20 (t b c d : Nat) (ht : t < 20) (hb : b < 4294967296) (hc : c < 4294967296) (hd : d < 4294967296) :
    bits BinOp.or IntKind.u32 (bits BinOp.and IntKind.u32 b c) (bits BinOp.and IntKind.u32 ((4294967295 - b : Nat) : Int) d) = ((ff t b c d : Nat) : Int) := by
  rw [u32_and_nat _ _ hb hc, u32_and_nat _ _ (by omega) hd, u32_or_nat _ _ (and32 hb) (and32 (by omega))]
  simp [ff, ht]
theorem ff40 (t b c d : Nat) (ht : (20 ≤ t ∧ t < 40) ∨ 60 ≤ t) (hb : b < 4294967296) (hc : c < 4294967296) (hd : d < 4294967296) :
    bits BinOp.xor IntKind.u32 (bits BinOp.xor IntKind.u32 b c) d = ((ff t b c d : Nat) : Int) := by
  rw [u32_xor_nat _ _ hb hc, u32_xor_nat _ _ (xor32 hb hc) hd]
  unfold ff
  rcases ht with ⟨h1, h2⟩ | h
  · rw [if_neg (by omega), if_pos h2]
  · rw [if_neg (by omega), if_neg (by omega), if_neg (by omega)]
theorem ff60 (t b c d : Nat) (ht : 40 ≤ t ∧ t < 60) (hb : b < 4294967296) (hc : c < 4294967296) (hd : d < 4294967296) :
    bits BinOp.or IntKind.u32 (bits BinOp.or IntKind.u32 (bits BinOp.and IntKind.u32 b c) (bits BinOp.and IntKind.u32 b d)) (bits BinOp.and IntKind.u32 c d) = ((ff t b c d : Nat) : Int) := by
  rw [u32_and_nat _ _ hb hc, u32_and_nat _ _ hb hd, u32_and_nat _ _ hc hd, u32_or_nat _ _ (and32 hb) (and32 hb), u32_or_nat _ _ (or32 (and32 hb) (and32 hb)) (and32 hc)]
  unfold ff
  rw [if_neg (by omega), if_neg (by omega), if_pos ht.2]
theorem kk20 {t : Nat} (h : t < 20) : kk t = 1518500249 := by simp [kk, h]
theorem kk40 {t : Nat} (h : 20 ≤ t) (h2 : t < 40) : kk t = 1859775393 := by unfold kk; rw [if_neg (by omega), if_pos h2]
theorem kk60 {t : Nat} (h : 40 ≤ t) (h2 : t < 60) : kk t = 2400959708 := by unfold kk; rw [if_neg (by omega), if_neg (by omega), if_pos h2]
theorem kk80 {t : Nat} (h : 60 ≤ t) : kk t = 3395469782 := by unfold kk; rw [if_neg (by omega), if_neg (by omega), if_neg (by omega)]

theorem mix_any (t b c d : Nat) (w : World) (ht : t < 80) (hb : b < 4294967296) (hc : c < 4294967296) (hd : d < 4294967296) :
    Calls Tryd.prog 27 #[.int .i64 t, .int .u32 b, .int .u32 c, .int .u32 d] w fun e w' => e = .returned (.tuple #[.int .u32 (ff t b c d : Nat), .int .u32 (kk t : Nat)]) ∧ w = w' := by
  rcases Nat.lt_or_ge t 20 with h1 | h1
  · have HF := Lib.hid (ff20 t b c d h1 hb hc hd)
    have HK := Lib.hid (kk20 h1)
    have hm := max_xor b hb
    have hs : IntKind.u32.signed = false := rfl
    have HM := Lib.hid hm
    clear hm
    go_enter Tryd.func27, Tryd.ntmps27
    go_wp2
    rw [HM.out, HF.out]
    go_ret2
    exact ⟨by rw [HK.out]; rfl, rfl⟩
  rcases Nat.lt_or_ge t 40 with h2 | h2
  · have HF := Lib.hid (ff40 t b c d (by omega) hb hc hd)
    have HK := Lib.hid (kk40 h1 h2)
    go_enter Tryd.func27, Tryd.ntmps27
    go_wp2
    rw [HF.out]
    go_ret2
    exact ⟨by rw [HK.out]; rfl, rfl⟩
  rcases Nat.lt_or_ge t 60 with h3 | h3
  · have HF := Lib.hid (ff60 t b c d (by omega) hb hc hd)
    have HK := Lib.hid (kk60 h2 h3)
    go_enter Tryd.func27, Tryd.ntmps27
    go_wp2
    rw [HF.out]
    go_ret2
    exact ⟨by rw [HK.out]; rfl, rfl⟩
  · have HF := Lib.hid (ff40 t b c d (by omega) hb hc hd)
    have HK := Lib.hid (kk80 h3)
    go_enter Tryd.func27, Tryd.ntmps27
    go_wp2
    rw [HF.out]
    go_ret2
    exact ⟨by rw [HK.out]; rfl, rfl⟩
end Go.Proofs.YtihaiplkkamkoaaDoor
