/- Contracts of package keys: a way's keys, piece by piece. No statement is proved here. -/
import Derived.Test.YtmfceenkndjjoaaKey1
namespace Go.Proofs.Ytmfceenkndjjoaa
open Go.RowKit
set_option linter.unusedVariables false

/-- A way's keys under way: what the closure has captured, and the keys so far. -/
structure KEnv (q r g : Nat) (M s : List UInt8) (fi : Int) (wr : World) : Prop where
  hq : Blk wr q 25 M
  hr : BlkV wr r 5 [.int .u8 fi]
  hg : Blk wr g 32 s
  nq : q ≠ g
  nr : r ≠ g

set_option maxRecDepth 100000 in
set_option maxHeartbeats 1000000 in
theorem fill_any (q r g o n c L : Nat) (key salt s : List UInt8) (fi li : Int) (w : World) (hk : key.length = 16) (hs : salt.length = 14) (he : IntKind.u8.wrap (fi + li) = (L : Int)) (hL : L < 256) (h : KEnv q r g (mst key salt) s fi w) (h1 : 1 ≤ n) (hn : n ≤ 50) (hsl : o + n ≤ s.length) :
    Calls Try.prog 18 #[.slice (some ⟨g, o, none⟩) n c, .int .u8 li, .pointer (some ⟨q, 0, none⟩), .pointer (some ⟨r, 0, none⟩)] w fun e w' => e = .returned (.tuple #[]) ∧ KEnv q r g (mst key salt) (splice s o (drv key salt L n)) fi w' ∧ w.grownBy w' (some g) := by
  have hml := mst_len key salt hk hs
  have hdr := fun wx => derive_any key salt L (n : Int) n wx hk hs hL (by omega) (by omega)
  have hdl := drv_len key salt L n
  obtain ⟨D, hD⟩ : ∃ D, D = drv key salt L n := ⟨_, rfl⟩
  simp only [← hD] at hdr hdl ⊢
  have hcp : splice (cells s) o (cells (D.take n)) = cells (splice s o D) := by rw [List.take_of_length_le (by omega), cells_splice]
  obtain ⟨M, hM⟩ : ∃ M, M = mst key salt := ⟨_, rfl⟩
  simp only [← hM] at hdr h hml ⊢
  have hq := h.hq
  have hr := h.hr
  have hg := h.hg
  have nq := h.nq
  have nr := h.nr
  have hrc : w.cell? ⟨r, 0, none⟩ = some (.int .u8 fi) := (hr.cell 0).trans rfl
  have hML : (cells M).length = 30 := by rw [length_cells, hml]
  have hln : o + n ≤ (cells s).length := by rw [length_cells]; exact hsl
  have HML := Lib.hid hML
  have HDR := Lib.hid hdr
  have HCP := Lib.hid hcp
  have HLN := Lib.hid hln
  have hmin : n = min n n := by omega
  have HMIN := Lib.hid hmin
  clear hml hdr hdl hD hcp hM h hsl hML hln hk hs hmin
  go_enter Try.func18, Try.ntmps18
  go_wp2_with (first
    | (with_reducible refine wpList_ld rfl 25 (.tmp 2) rfl q 0 rfl (cells M) (hq.v.range 0 _ (by simp)) (row30 HML.out) ?_)
    | (go_at_call 6; ((with_reducible refine (HDR.out _).mono ?_); rintro e w2 ⟨A2, c2, rfl, hr2, hb2⟩; have q2 := hq.below hb2 hq.lt; have r2 := hr.below hb2 hr.lt; have g2 := hg.below hb2 hg.lt; have gr2 := grown_of_below hb2 (some g)))
    | ((with_reducible refine wpList_cp rfl (.tmp 6) (.tmp 13) rfl Try.underlying27 u8_inf g o n c 32 (cells s) rfl g2.v A2 n c2 D rfl hr2 HLN.out n HMIN.out (by omega) ?_); intro w3 hB3 ho3; rw [HCP.out] at hB3))
  go_end0
  exact ⟨rfl, ⟨Blk.only q2 ho3 nq, r2.only ho3 nr, hB3, nq, nr⟩, grown_only gr2 ho3 (.inl rfl)⟩

theorem way_boxes (w : World) (M : List UInt8) (fi : Int) : Below w.heap.size w ((((w.alloc (Obj.cells (cells M).toArray 25)).alloc (Obj.cells #[.int .u8 fi] 5)).alloc (Obj.cells (cells Z50).toArray 32)).alloc (Obj.cells (cells Z50).toArray 32)) ∧
    KEnv w.heap.size (w.heap.size + 1) (w.heap.size + 1 + 1 + 1) M Z50 fi ((((w.alloc (Obj.cells (cells M).toArray 25)).alloc (Obj.cells #[.int .u8 fi] 5)).alloc (Obj.cells (cells Z50).toArray 32)).alloc (Obj.cells (cells Z50).toArray 32)) ∧
    Blk ((((w.alloc (Obj.cells (cells M).toArray 25)).alloc (Obj.cells #[.int .u8 fi] 5)).alloc (Obj.cells (cells Z50).toArray 32)).alloc (Obj.cells (cells Z50).toArray 32)) (w.heap.size + 1 + 1) 32 Z50 :=
  ⟨((((Below.refl _ _).alloc (Nat.le_refl _) _).alloc (by simp) _).alloc (by simp; omega) _).alloc (by simp; omega) _,
   ⟨(((Blk.new _ _ _).alloc _).alloc _).alloc _, ((BlkV.new_at _ _ _ [.int .u8 fi] _ (by simp) rfl).alloc _).alloc _, Blk.new_at _ _ _ _ _ (by simp) rfl, by omega, by omega⟩,
   (Blk.new_at _ _ _ _ _ (by simp) rfl).alloc _⟩

set_option maxRecDepth 100000 in
set_option maxHeartbeats 1000000 in
theorem way_any (key salt : List UInt8) (f : Nat) (fi : Int) (w : World) (hk : key.length = 16) (hs : salt.length = 14) (hf : f < 250) (hfi : fi = (f : Int)) :
    Calls Try.prog 13 #[.agg (cells (mst key salt)).toArray, .int .u8 fi] w fun e w' => e = .returned (.agg (cells (kys key salt f)).toArray) ∧ Below w.heap.size w w' := by
  have hmf : ∀ (fn : Fn) (first cap : Array Value) (w : World), (Instr.makeFunc fn first cap).run Try.prog w = .ok (.func fn first cap) w := fun _ _ _ _ => rfl
  have hz := zero50
  obtain ⟨hb0, hE, hR⟩ := way_boxes w (mst key salt) fi
  have w0 : IntKind.u8.wrap (fi + 0) = (f : Int) := by rw [IntKind.wrap_u8]; omega
  have w1 : IntKind.u8.wrap (fi + 1) = ((f + 1 : Nat) : Int) := by rw [IntKind.wrap_u8]; omega
  have w2 : IntKind.u8.wrap (fi + 2) = ((f + 2 : Nat) : Int) := by rw [IntKind.wrap_u8]; omega
  have l0 := drv_len key salt f 16
  have l1 := drv_len key salt (f + 1) 20
  have l2 := drv_len key salt (f + 2) 14
  have hkl := kys_len key salt f
  obtain ⟨K, hK⟩ : ∃ K, K = kys key salt f := ⟨_, rfl⟩
  rw [← hK] at hkl ⊢
  obtain ⟨S1, hS1⟩ : ∃ S1, S1 = splice Z50 0 (drv key salt f 16) := ⟨_, rfl⟩
  obtain ⟨S2, hS2⟩ : ∃ S2, S2 = splice S1 16 (drv key salt (f + 1) 20) := ⟨_, rfl⟩
  have n1 : S1.length = 50 := by rw [hS1, splice_len _ _ _ (by rw [l0, Z50_len]; omega), Z50_len]
  have n2 : S2.length = 50 := by rw [hS2, splice_len _ _ _ (by rw [l1, n1]; omega), n1]
  have hS3 : splice S2 36 (drv key salt (f + 2) 14) = K := by rw [hS2, hS1, hK, trio3 _ _ _ l0 l1 l2]; rfl
  have f0 := fun q r g c wx (h : KEnv q r g (mst key salt) Z50 fi wx) => fill_any q r g 0 16 c f key salt Z50 fi 0 wx hk hs w0 (by omega) h (by omega) (by omega) (by rw [Z50_len]; omega)
  have f1 := fun q r g c wx (h : KEnv q r g (mst key salt) S1 fi wx) => fill_any q r g 16 20 c (f + 1) key salt S1 fi 1 wx hk hs w1 (by omega) h (by omega) (by omega) (by omega)
  have f2 := fun q r g c wx (h : KEnv q r g (mst key salt) S2 fi wx) => fill_any q r g 36 14 c (f + 2) key salt S2 fi 2 wx hk hs w2 (by omega) h (by omega) (by omega) (by omega)
  simp only [← hS1] at f0
  simp only [← hS2] at f1
  simp only [hS3] at f2
  obtain ⟨M, hM⟩ : ∃ M, M = mst key salt := ⟨_, rfl⟩
  simp only [← hM] at f0 f1 f2 hE ⊢
  rw [← hM] at hb0 hR
  have hKL : (cells K).length = 50 := by rw [length_cells, hkl]
  have hZL : (cells Z50).length = 50 := by rw [length_cells, Z50_len]
  have HKL := Lib.hid hKL
  have HZL := Lib.hid hZL
  have F0 := Lib.hid f0
  have F1 := Lib.hid f1
  have F2 := Lib.hid f2
  clear w0 w1 w2 l0 l1 l2 hkl hK hS1 hS2 n1 n2 hS3 f0 f1 f2 hM hKL hZL hk hs hf hfi
  go_enter Try.func13, Try.ntmps13
  go_wp2_with (first
    | (go_at_call 18; ((with_reducible refine (F0.out _ _ _ _ _ hE).mono ?_); rintro e x1 ⟨rfl, hE1, hg1⟩))
    | (go_at_call 18; ((with_reducible refine (F1.out _ _ _ _ _ hE1).mono ?_); rintro e x2 ⟨rfl, hE2, hg2⟩))
    | (go_at_call 18; ((with_reducible refine (F2.out _ _ _ _ _ hE2).mono ?_); rintro e x3 ⟨rfl, hE3, hg3⟩; have hK3 := hE3.hg; have hR3 := ((hR.grown hg1 (by intro e; injection e with e; omega)).grown hg2 (by intro e; injection e with e; omega)).grown hg3 (by intro e; injection e with e; omega)))
    | (with_reducible refine wpList_ld rfl 32 (.tmp 6) rfl (w.heap.size + 1 + 1 + 1) 0 rfl (cells K) (hK3.v.range 0 _ (by simp)) (row50 HKL.out) ?_)
    | ((with_reducible refine wpList_st rfl 32 (.tmp 4) (.tmp 20) rfl (w.heap.size + 1 + 1) 0 (cells K) rfl rfl 32 _ hR3.v (by rw [HKL.out, HZL.out]; omega) (row50 HKL.out) (cells_one _) ?_); intro x4 hB4 ho4; rw [splice_all _ _ (by rw [HKL.out, HZL.out])] at hB4))
  have hg := (hg1.trans hg2).trans hg3
  have hb := hb0.trans (below_of_grown hg hb0.size (fun k hk => by injection hk with hk; omega))
  exact ret_row (by rfl) (by rfl) hB4 (row50 HKL.out) (by rfl) ⟨rfl, hb.trans (ho4.below (by omega))⟩

set_option maxRecDepth 100000 in
set_option maxHeartbeats 1000000 in
theorem rtp_any (key salt : List UInt8) (w : World) (hk : key.length = 16) (hs : salt.length = 14) :
    Calls Try.prog 8 #[.agg (cells (mst key salt)).toArray] w fun e w' => e = .returned (.agg (cells (kys key salt 0)).toArray) ∧ Below w.heap.size w w' := by
  have hz := zero50
  have hb0 : Below w.heap.size w ((w.alloc (Obj.cells (cells (mst key salt)).toArray 25)).alloc (Obj.cells (cells Z50).toArray 32)) := ((Below.refl _ _).alloc (Nat.le_refl _) _).alloc (by simp) _
  have h0 : Blk ((w.alloc (Obj.cells (cells (mst key salt)).toArray 25)).alloc (Obj.cells (cells Z50).toArray 32)) w.heap.size 25 (mst key salt) := (Blk.new _ _ _).alloc _
  have h1 : Blk ((w.alloc (Obj.cells (cells (mst key salt)).toArray 25)).alloc (Obj.cells (cells Z50).toArray 32)) (w.heap.size + 1) 32 Z50 := Blk.new_at _ _ _ _ _ (by simp) rfl
  have hML : (cells (mst key salt)).length = 30 := by rw [length_cells, mst_len _ _ hk hs]
  have hKL : (cells (kys key salt 0)).length = 50 := by rw [length_cells, kys_len]
  have hZL : (cells Z50).length = 50 := by rw [length_cells, Z50_len]
  have hwy := fun wx => way_any key salt 0 0 wx hk hs (by omega) rfl
  obtain ⟨M, hM⟩ : ∃ M, M = mst key salt := ⟨_, rfl⟩
  obtain ⟨K, hK⟩ : ∃ K, K = kys key salt 0 := ⟨_, rfl⟩
  simp only [← hM, ← hK] at hwy ⊢
  rw [← hM] at hb0 h0 h1 hML
  rw [← hK] at hKL
  have HML := Lib.hid hML
  have HKL := Lib.hid hKL
  have HZL := Lib.hid hZL
  have HW := Lib.hid hwy
  clear hML hKL hZL hwy hM hK hk hs
  go_enter Try.func8, Try.ntmps8
  go_wp2_with (first
    | (with_reducible refine wpList_ld rfl 25 (.tmp 1) rfl w.heap.size 0 rfl (cells M) (h0.v.range 0 _ (by simp)) (row30 HML.out) ?_)
    | (go_at_call 13; ((with_reducible refine (HW.out _).mono ?_); rintro e w2 ⟨rfl, hb2⟩; have k1 := h1.below hb2 h1.lt))
    | ((with_reducible refine wpList_st rfl 32 (.tmp 2) (.tmp 4) rfl (w.heap.size + 1) 0 (cells K) rfl rfl 32 _ k1.v (by rw [HKL.out, HZL.out]; omega) (row50 HKL.out) (cells_one _) ?_); intro w3 hB3 ho3; rw [splice_all _ _ (by rw [HKL.out, HZL.out])] at hB3))
  exact ret_row (by rfl) (by rfl) hB3 (row50 HKL.out) (by rfl) ⟨rfl, (hb0.trans (hb2.mono hb0.size)).trans (ho3.below (by omega))⟩

set_option maxRecDepth 100000 in
set_option maxHeartbeats 1000000 in
theorem rtcp_any (key salt : List UInt8) (w : World) (hk : key.length = 16) (hs : salt.length = 14) :
    Calls Try.prog 10 #[.agg (cells (mst key salt)).toArray] w fun e w' => e = .returned (.agg (cells (kys key salt 3)).toArray) ∧ Below w.heap.size w w' := by
  have hz := zero50
  have hb0 : Below w.heap.size w ((w.alloc (Obj.cells (cells (mst key salt)).toArray 25)).alloc (Obj.cells (cells Z50).toArray 32)) := ((Below.refl _ _).alloc (Nat.le_refl _) _).alloc (by simp) _
  have h0 : Blk ((w.alloc (Obj.cells (cells (mst key salt)).toArray 25)).alloc (Obj.cells (cells Z50).toArray 32)) w.heap.size 25 (mst key salt) := (Blk.new _ _ _).alloc _
  have h1 : Blk ((w.alloc (Obj.cells (cells (mst key salt)).toArray 25)).alloc (Obj.cells (cells Z50).toArray 32)) (w.heap.size + 1) 32 Z50 := Blk.new_at _ _ _ _ _ (by simp) rfl
  have hML : (cells (mst key salt)).length = 30 := by rw [length_cells, mst_len _ _ hk hs]
  have hKL : (cells (kys key salt 3)).length = 50 := by rw [length_cells, kys_len]
  have hZL : (cells Z50).length = 50 := by rw [length_cells, Z50_len]
  have hwy := fun wx => way_any key salt 3 3 wx hk hs (by omega) rfl
  obtain ⟨M, hM⟩ : ∃ M, M = mst key salt := ⟨_, rfl⟩
  obtain ⟨K, hK⟩ : ∃ K, K = kys key salt 3 := ⟨_, rfl⟩
  simp only [← hM, ← hK] at hwy ⊢
  rw [← hM] at hb0 h0 h1 hML
  rw [← hK] at hKL
  have HML := Lib.hid hML
  have HKL := Lib.hid hKL
  have HZL := Lib.hid hZL
  have HW := Lib.hid hwy
  clear hML hKL hZL hwy hM hK hk hs
  go_enter Try.func10, Try.ntmps10
  go_wp2_with (first
    | (with_reducible refine wpList_ld rfl 25 (.tmp 1) rfl w.heap.size 0 rfl (cells M) (h0.v.range 0 _ (by simp)) (row30 HML.out) ?_)
    | (go_at_call 13; ((with_reducible refine (HW.out _).mono ?_); rintro e w2 ⟨rfl, hb2⟩; have k1 := h1.below hb2 h1.lt))
    | ((with_reducible refine wpList_st rfl 32 (.tmp 2) (.tmp 4) rfl (w.heap.size + 1) 0 (cells K) rfl rfl 32 _ k1.v (by rw [HKL.out, HZL.out]; omega) (row50 HKL.out) (cells_one _) ?_); intro w3 hB3 ho3; rw [splice_all _ _ (by rw [HKL.out, HZL.out])] at hB3))
  exact ret_row (by rfl) (by rfl) hB3 (row50 HKL.out) (by rfl) ⟨rfl, (hb0.trans (hb2.mono hb0.size)).trans (ho3.below (by omega))⟩
end Go.Proofs.Ytmfceenkndjjoaa
