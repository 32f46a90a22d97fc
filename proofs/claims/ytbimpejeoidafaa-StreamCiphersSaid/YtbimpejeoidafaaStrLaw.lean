/- What the three laws of layer 6 share: that the document's example comes out. No statement is proved here. -/
import Derived.Test.YtbimpejeoidafaaStrR3
namespace Go.Proofs.Ytbimpejeoidafaa
open Go.RowKit
set_option linter.unusedVariables false

def exSK : List UInt8 := [0x2b, 0x7e, 0x15, 0x16, 0x28, 0xae, 0xd2, 0xa6, 0xab, 0xf7, 0x15, 0x88, 0x09, 0xcf, 0x4f, 0x3c]
def exSC : List UInt8 := [0xf0, 0xf1, 0xf2, 0xf3, 0xf4, 0xf5, 0xf6, 0xf7, 0xf8, 0xf9, 0xfa, 0xfb, 0xfc, 0xfd, 0, 0]
def exSO : List UInt8 := [0xe0, 0x3e, 0xad, 0x09, 0x35, 0xc9, 0x5e, 0x80, 0xe1, 0x66, 0xb1, 0x6d, 0xd9, 0x2b, 0x4e, 0xb4]
theorem strm_one (key c : List UInt8) (hc : c.length = 16) : strm key c 16 = enc (kall key) c := by
  apply list_eq (n := 16)
  · exact strm_len _ _ _
  · exact enc_len _ _
  · intro i hi
    rw [strm, tab_get _ _ _ hi, ksB, show i / 16 = 0 by omega, show i % 16 = i by omega, plusC_zero _ hc]
theorem exS_enc : enc (kall exSK) exSC = exSO := by decide +kernel
theorem exS_is : strm exSK exSC 16 = exSO := (strm_one _ _ rfl).trans exS_enc
theorem conv_rdS {w : World} {A : Option Addr} {n c : Nat} {bs : List UInt8} (h : RdS w A n c bs) : (convert 31 9 (.slice A n c)).run Try.prog w = .ok (.string (txt bs)) w :=
  run_conv h 31 9 5 Try.underlying31 Try.underlying5 Try.underlying9
theorem eq16S (xs ys : List UInt8) (hx : xs.length = 16) (hy : ys.length = 16) (w : World) :
    (Op.equalIn 10000 25 (.agg (cells xs).toArray) (.agg (cells ys).toArray)).run Try.prog w = .ok (xs == ys) w := by
  refine run_equalIn_bytes w 9998 25 5 16 Try.underlying25 Try.underlying5 (fun w => ?_) xs ys hx hy
  kernel_rfl

theorem exSK_arr : (cells exSK).toArray = #[.int .u8 43, .int .u8 126, .int .u8 21, .int .u8 22, .int .u8 40, .int .u8 174, .int .u8 210, .int .u8 166, .int .u8 171, .int .u8 247, .int .u8 21, .int .u8 136, .int .u8 9, .int .u8 207, .int .u8 79, .int .u8 60] := by kernel_rfl
theorem exSC_arr : (cells exSC).toArray = #[.int .u8 240, .int .u8 241, .int .u8 242, .int .u8 243, .int .u8 244, .int .u8 245, .int .u8 246, .int .u8 247, .int .u8 248, .int .u8 249, .int .u8 250, .int .u8 251, .int .u8 252, .int .u8 253, .int .u8 0, .int .u8 0] := by kernel_rfl
/-- The example's bytes, as the law asks for them. -/
theorem bytes_ex (wx : World) : Calls Try.prog 13 #[.agg (cells exSK).toArray, .agg (cells exSC).toArray, .int .i64 16] wx fun e w' => ∃ g : Nat, e = .returned (.slice (some ⟨g, 0, none⟩) 16 16) ∧ (convert 31 9 (.slice (some ⟨g, 0, none⟩) 16 16)).run Try.prog w' = .ok (.string (txt exSO)) w' ∧ Below wx.heap.size wx w' := by
  have h := bytes_any exSK exSC 16 wx rfl rfl (by omega) (by omega)
  rw [exS_is] at h
  exact h.mono fun e w' ⟨g, he, _, hB, hb⟩ => ⟨g, he, conv_rdS (hB.rd (n := 16) (c := 16) rfl (Nat.le_refl _) (by simp [maxLen])), hb⟩
theorem ex_boxes (w : World) : Below w.heap.size w ((w.alloc (Obj.cells #[.int .u8 43, .int .u8 126, .int .u8 21, .int .u8 22, .int .u8 40, .int .u8 174, .int .u8 210, .int .u8 166, .int .u8 171, .int .u8 247, .int .u8 21, .int .u8 136, .int .u8 9, .int .u8 207, .int .u8 79, .int .u8 60] 25)).alloc (Obj.cells #[.int .u8 240, .int .u8 241, .int .u8 242, .int .u8 243, .int .u8 244, .int .u8 245, .int .u8 246, .int .u8 247, .int .u8 248, .int .u8 249, .int .u8 250, .int .u8 251, .int .u8 252, .int .u8 253, .int .u8 0, .int .u8 0] 25)) ∧
    Blk ((w.alloc (Obj.cells #[.int .u8 43, .int .u8 126, .int .u8 21, .int .u8 22, .int .u8 40, .int .u8 174, .int .u8 210, .int .u8 166, .int .u8 171, .int .u8 247, .int .u8 21, .int .u8 136, .int .u8 9, .int .u8 207, .int .u8 79, .int .u8 60] 25)).alloc (Obj.cells #[.int .u8 240, .int .u8 241, .int .u8 242, .int .u8 243, .int .u8 244, .int .u8 245, .int .u8 246, .int .u8 247, .int .u8 248, .int .u8 249, .int .u8 250, .int .u8 251, .int .u8 252, .int .u8 253, .int .u8 0, .int .u8 0] 25)) w.heap.size 25 exSK ∧
    Blk ((w.alloc (Obj.cells #[.int .u8 43, .int .u8 126, .int .u8 21, .int .u8 22, .int .u8 40, .int .u8 174, .int .u8 210, .int .u8 166, .int .u8 171, .int .u8 247, .int .u8 21, .int .u8 136, .int .u8 9, .int .u8 207, .int .u8 79, .int .u8 60] 25)).alloc (Obj.cells #[.int .u8 240, .int .u8 241, .int .u8 242, .int .u8 243, .int .u8 244, .int .u8 245, .int .u8 246, .int .u8 247, .int .u8 248, .int .u8 249, .int .u8 250, .int .u8 251, .int .u8 252, .int .u8 253, .int .u8 0, .int .u8 0] 25)) (w.heap.size + 1) 25 exSC := by
  rw [← exSK_arr, ← exSC_arr]
  exact boxes2 w exSK exSC

set_option maxRecDepth 100000 in
set_option maxHeartbeats 1000000 in
theorem aliveS_any (w : World) : Calls Try.prog 6 #[] w fun e w' => e = .returned (.bool true) ∧ Below w.heap.size w w' := by
  obtain ⟨hb0, h0, h1⟩ := ex_boxes w
  have hKL : (cells exSK).length = 16 := rfl
  have hCL : (cells exSC).length = 16 := rfl
  have hbe := bytes_ex
  have hq : ((txt exSO).toList == [224, 62, 173, 9, 53, 201, 94, 128, 225, 102, 177, 109, 217, 43, 78, 180]) = true := by rw [txt_toList]; rfl
  obtain ⟨O, hO⟩ : ∃ O, O = txt exSO := ⟨_, rfl⟩
  rw [← hO] at hq
  simp only [← hO] at hbe
  obtain ⟨K, hK⟩ : ∃ K, K = exSK := ⟨_, rfl⟩
  obtain ⟨C, hC⟩ : ∃ C, C = exSC := ⟨_, rfl⟩
  simp only [← hK, ← hC] at hbe h0 h1 hKL hCL
  have HBE := Lib.hid hbe
  have HKL := Lib.hid hKL
  have HCL := Lib.hid hCL
  clear hO hbe hK hC hKL hCL
  go_enter Try.func6, Try.ntmps6
  go_wp2_with (first
    | (with_reducible refine wpList_ld rfl 25 (.tmp 1) rfl w.heap.size 0 rfl (cells K) (h0.v.range 0 _ (by simp)) (row16 HKL.out) ?_)
    | (with_reducible refine wpList_ld rfl 25 (.tmp 2) rfl (w.heap.size + 1) 0 rfl (cells C) (h1.v.range 0 _ (by simp)) (row16 HCL.out) ?_)
    | (go_at_call 13; ((with_reducible refine (HBE.out _).mono ?_); rintro e w1 ⟨g, rfl, hcv, hb1⟩)))
  go_ret
  exact ⟨rfl, hb0.trans (hb1.mono hb0.size)⟩
end Go.Proofs.Ytbimpejeoidafaa
