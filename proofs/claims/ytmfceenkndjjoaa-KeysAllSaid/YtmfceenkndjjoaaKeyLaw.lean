/- What the two laws of layer 7 share: that the document's example comes out. No statement is proved here. -/
import Derived.Test.YtmfceenkndjjoaaKeyR2
namespace Go.Proofs.Ytmfceenkndjjoaa
open Go.RowKit
set_option linter.unusedVariables false

section
variable {P : Program} {w : World} {ops : Array Oper} {rest : List Oper} {op : Oper} {a : Act} {Q : Exit → Act → World → Prop}
/-- A struct or an array made of two parts. -/
theorem wpList_built2 (hgd : op.guard = none) (t : TypeId) (i j : Nat) (x y : Operand) (ho : op.op = .build t #[(i, x), (j, y)]) (u u2 v : Value) (hx : a.eval x = u) (hy : a.eval y = u2) (hr : (Instr.build t #[(i, u), (j, u2)]).run P w = .ok v w)
    (hK : wpList P ops Q rest (a.put op.dst v) w) : wpList P ops Q (op :: rest) a w := by
  refine wpList_plain hgd fun K hK2 => ?_
  unfold Oper.wp execOp
  simp only [ho, List.map_toArray, List.map_cons, List.map_nil, hx, hy, Sem.run_bind, hr, Result.andThen_ok, Sem.run_pure]
  exact hK2 _ _ hK
/-- A whole array is read, wherever it lies, by a load that a guard lets by. -/
theorem wpList_ldG (hw : Region.wanted op (yielded ops a.tmps) = true) (ty : TypeId) (x : Operand) (ho : op.op = .load ty x) (b o : Nat) (hx : a.eval x = .pointer (some ⟨b, o, none⟩)) (cs : List Value) (hc : w.rangeAt b o cs) (hT : RowTy P ty cs.length)
    (h : wpList P ops Q rest (a.put op.dst (.agg cs.toArray)) w) : wpList P ops Q (op :: rest) a w := by
  obtain ⟨d, h1, h2, h3⟩ := hT
  exact wpList_step fun K hK => by rw [if_pos hw]; exact wp_load_mid ty x ho b o hx cs d hc h1 h2 h3 (hK _ _ h)
end
def Z30 : List UInt8 := List.replicate 30 0
theorem Z30_len : Z30.length = 30 := by rw [Z30, List.length_replicate]
theorem zero30 (w : World) : (zeroValue 25).run Try.prog w = .ok (.agg (cells Z30).toArray) w := by kernel_rfl
theorem built_m (w : World) : (Instr.build 25 #[(0, .agg #[.int .u8 225, .int .u8 249, .int .u8 122, .int .u8 13, .int .u8 62, .int .u8 1, .int .u8 139, .int .u8 224, .int .u8 214, .int .u8 79, .int .u8 163, .int .u8 44, .int .u8 6, .int .u8 222, .int .u8 65, .int .u8 57]), (1, .agg #[.int .u8 14, .int .u8 198, .int .u8 117, .int .u8 173, .int .u8 73, .int .u8 138, .int .u8 254, .int .u8 235, .int .u8 182, .int .u8 150, .int .u8 11, .int .u8 58, .int .u8 171, .int .u8 230])]).run Try.prog w = .ok (.agg (cells (mst exKK exKS)).toArray) w := by kernel_rfl
theorem exKA_arr : (cells exKA).toArray = #[.int .u8 198, .int .u8 30, .int .u8 122, .int .u8 147, .int .u8 116, .int .u8 79, .int .u8 57, .int .u8 238, .int .u8 16, .int .u8 115, .int .u8 74, .int .u8 254, .int .u8 63, .int .u8 247, .int .u8 160, .int .u8 135] := by kernel_rfl
theorem exKC_arr : (cells exKC).toArray = #[.int .u8 48, .int .u8 203, .int .u8 188, .int .u8 8, .int .u8 134, .int .u8 61, .int .u8 140, .int .u8 133, .int .u8 212, .int .u8 157, .int .u8 179, .int .u8 74, .int .u8 154, .int .u8 225] := by kernel_rfl
theorem eq16K (xs ys : List UInt8) (hx : xs.length = 16) (hy : ys.length = 16) (w : World) :
    (Op.equalIn 10000 22 (.agg (cells xs).toArray) (.agg (cells ys).toArray)).run Try.prog w = .ok (xs == ys) w := by
  refine run_equalIn_bytes w 9998 22 5 16 Try.underlying22 Try.underlying5 (fun w => ?_) xs ys hx hy
  kernel_rfl
theorem eq14K (xs ys : List UInt8) (hx : xs.length = 14) (hy : ys.length = 14) (w : World) :
    (Op.equalIn 10000 23 (.agg (cells xs).toArray) (.agg (cells ys).toArray)).run Try.prog w = .ok (xs == ys) w := by
  refine run_equalIn_bytes w 9998 23 5 14 Try.underlying23 Try.underlying5 (fun w => ?_) xs ys hx hy
  kernel_rfl
theorem trio_a (a b c : List UInt8) : ∀ i, i < (cells a).length → (cells (trio a b c))[0 + i]? = (cells a)[i]? := fun i hi => by
  rw [trio, cells_append, Nat.zero_add, List.getElem?_append_left hi]
theorem trio_c (a b c : List UInt8) (ha : a.length = 16) (hb : b.length = 20) : ∀ i, i < (cells c).length → (cells (trio a b c))[36 + i]? = (cells c)[i]? := fun i hi => by
  rw [trio, cells_append, cells_append, List.getElem?_append_right (by rw [length_cells]; omega), List.getElem?_append_right (by rw [length_cells, length_cells]; omega), length_cells, length_cells, ha, hb, show 36 + i - 16 - 20 = i by omega]

set_option maxRecDepth 100000 in
set_option maxHeartbeats 2000000 in
theorem aliveK_any (w : World) : Calls Try.prog 5 #[] w fun e w' => e = .returned (.bool true) ∧ Below w.heap.size w w' := by
  have hz := zero50
  have hz2 := zero30
  have hbu := built_m
  have hrt := fun wx => rtp_any exKK exKS wx rfl rfl
  have hka : ∀ i, i < (cells exKA).length → (cells (kys exKK exKS 0))[0 + i]? = (cells exKA)[i]? := by rw [← exK_a]; exact trio_a _ _ _
  have hkc : ∀ i, i < (cells exKC).length → (cells (kys exKK exKS 0))[36 + i]? = (cells exKC)[i]? := by rw [← exK_c]; exact trio_c _ _ _ (drv_len _ _ _ _) (drv_len _ _ _ _)
  have qa : ∀ w, (Op.equalIn 10000 22 (.agg (cells exKA).toArray) (.agg #[.int .u8 198, .int .u8 30, .int .u8 122, .int .u8 147, .int .u8 116, .int .u8 79, .int .u8 57, .int .u8 238, .int .u8 16, .int .u8 115, .int .u8 74, .int .u8 254, .int .u8 63, .int .u8 247, .int .u8 160, .int .u8 135])).run Try.prog w = .ok true w := fun w => by rw [← exKA_arr, eq16K _ _ rfl rfl]; simp
  have qc : ∀ w, (Op.equalIn 10000 23 (.agg (cells exKC).toArray) (.agg #[.int .u8 48, .int .u8 203, .int .u8 188, .int .u8 8, .int .u8 134, .int .u8 61, .int .u8 140, .int .u8 133, .int .u8 212, .int .u8 157, .int .u8 179, .int .u8 74, .int .u8 154, .int .u8 225])).run Try.prog w = .ok true w := fun w => by rw [← exKC_arr, eq14K _ _ rfl rfl]; simp
  have hAL : (cells exKA).length = 16 := rfl
  have hCL : (cells exKC).length = 14 := rfl
  have hkl : (cells (kys exKK exKS 0)).length = 50 := by rw [length_cells, kys_len]
  have hml : (cells (mst exKK exKS)).length = 30 := rfl
  obtain ⟨M, hM⟩ : ∃ M, M = mst exKK exKS := ⟨_, rfl⟩
  obtain ⟨K, hK⟩ : ∃ K, K = kys exKK exKS 0 := ⟨_, rfl⟩
  obtain ⟨A, hA⟩ : ∃ A, A = exKA := ⟨_, rfl⟩
  obtain ⟨C, hC⟩ : ∃ C, C = exKC := ⟨_, rfl⟩
  simp only [← hM, ← hK] at hrt
  simp only [← hM] at hbu
  rw [← hM] at hml
  simp only [← hA, ← hK] at hka
  simp only [← hC, ← hK] at hkc
  simp only [← hA] at qa
  simp only [← hC] at qc
  rw [← hA] at hAL
  rw [← hC] at hCL
  rw [← hK] at hkl
  have hZ3 : (cells Z30).length = 30 := by rw [length_cells, Z30_len]
  have hZ5 : (cells Z50).length = 50 := by rw [length_cells, Z50_len]
  have HBU := Lib.hid hbu
  have HRT := Lib.hid hrt
  have HKA := Lib.hid hka
  have HKC := Lib.hid hkc
  have HAL := Lib.hid hAL
  have HCL := Lib.hid hCL
  have HKL := Lib.hid hkl
  have HML := Lib.hid hml
  have HZ3 := Lib.hid hZ3
  have HZ5 := Lib.hid hZ5
  have hb0 : Below w.heap.size w (w.alloc (.cells (cells Z30).toArray 25)) := (Below.refl _ _).alloc (Nat.le_refl _) _
  have h0 := BlkV.new w 25 (cells Z30)
  clear hM hK hA hC hbu hrt hka hkc hAL hCL hkl hml hZ3 hZ5
  go_enter Try.func5, Try.ntmps5
  go_wp2_with (first
    | (with_reducible refine wpList_built2 rfl 25 0 1 (.tmp 3) (.tmp 4) rfl (.agg #[.int .u8 225, .int .u8 249, .int .u8 122, .int .u8 13, .int .u8 62, .int .u8 1, .int .u8 139, .int .u8 224, .int .u8 214, .int .u8 79, .int .u8 163, .int .u8 44, .int .u8 6, .int .u8 222, .int .u8 65, .int .u8 57]) (.agg #[.int .u8 14, .int .u8 198, .int .u8 117, .int .u8 173, .int .u8 73, .int .u8 138, .int .u8 254, .int .u8 235, .int .u8 182, .int .u8 150, .int .u8 11, .int .u8 58, .int .u8 171, .int .u8 230]) (.agg (cells M).toArray) rfl rfl (HBU.out _) ?_)
    | ((with_reducible refine wpList_st rfl 25 (.tmp 1) (.tmp 5) rfl w.heap.size 0 (cells M) rfl rfl 25 _ h0 (by rw [HML.out, HZ3.out]; omega) (row30 HML.out) (cells_one _) ?_); intro w1 hB1 ho1; rw [splice_all _ _ (by rw [HML.out, HZ3.out])] at hB1; have b1 := hb0.trans (ho1.below (Nat.le_refl _)))
    | (with_reducible refine wpList_ld rfl 25 (.tmp 1) rfl w.heap.size 0 rfl (cells M) (hB1.range 0 _ (by simp)) (row30 HML.out) ?_)
    | (go_at_call 8; ((with_reducible refine (HRT.out _).mono ?_); rintro e w2 ⟨rfl, hb2⟩; have b2 := (b1.trans (hb2.mono b1.size)).alloc (by have := b1.size; have := hb2.size; omega) (.cells (cells Z50).toArray 32); have hx2 := BlkV.new w2 32 (cells Z50); have hs2 := Nat.le_trans b1.size hb2.size))
    | ((with_reducible refine wpList_st rfl 32 (.tmp 2) (.tmp 7) rfl w2.heap.size 0 (cells K) rfl rfl 32 _ hx2 (by rw [HKL.out, HZ5.out]; omega) (row50 HKL.out) (cells_one _) ?_); intro w3 hB3 ho3; rw [splice_all _ _ (by rw [HKL.out, HZ5.out])] at hB3; have b3 := b2.trans (ho3.below hs2))
    | (with_reducible refine wpList_ld rfl 22 (.tmp 8) rfl w2.heap.size 0 rfl (cells A) (hB3.range 0 _ HKA.out) (row16 HAL.out) ?_)
    | (with_reducible refine wpList_ldG (by with_unfolding_all rfl) 23 (.tmp 13) rfl w2.heap.size 36 rfl (cells C) (hB3.range 36 _ HKC.out) (row14 HCL.out) ?_))
  go_ret
  exact ⟨rfl, b3⟩
end Go.Proofs.Ytmfceenkndjjoaa
