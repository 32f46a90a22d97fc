/- StreamBytes's walk: so many bytes of a stream are the document's, and the first ones of more of them. -/
import Derived.Test.YtbimpejeoidafaaStrLaw
import Derived.Test.YtbimpejeoidafaaReg
import Derived.BigQuiet
namespace Go.Proofs.Ytbimpejeoidafaa
open Go.RowKit
set_option linter.unusedVariables false

theorem RdS.headS {w : World} {A : Option Addr} {n c : Nat} {bs : List UInt8} (h : RdS w A n c bs) (m d : Nat) (hm : m ≤ n) (hd : m ≤ d) (hdc : d ≤ c) : RdS w A m d (bs.take m) := by
  obtain ⟨h1, h2, h3, h4, h5⟩ := h
  refine ⟨by rw [List.length_take]; omega, hd, by omega, fun h0 => by have := h4 h0; omega, fun hn => ?_⟩
  obtain ⟨b, off, hA, hlt, hc⟩ := h5 (by omega)
  refine ⟨b, off, hA, hlt, fun j hj => ?_⟩
  rw [hc j (by omega)]
  simp [List.getD, hj]
/-- Bytes of any number that is not above the most: as many as it says, none if it is below one. -/
theorem bytesZ_any (key c : List UInt8) (n : Int) (N : Nat) (w : World) (hk : key.length = 16) (hc : c.length = 16) (hn : n ≤ 4096) (hN : N = n.toNat) :
    Calls Try.prog 13 #[.agg (cells key).toArray, .agg (cells c).toArray, .int .i64 n] w fun e w' => ∃ A c', e = .returned (.slice A N c') ∧ RdS w' A N c' (strm key c N) ∧ Below w.heap.size w w' := by
  by_cases h : n < 1
  · have h0 : N = 0 := by omega
    subst h0
    exact (bytes_none key c n w h).mono fun e w' ⟨he, hb⟩ => ⟨none, 0, he, RdS.nil w', hb⟩
  · have hn2 : n = (N : Int) := by omega
    subst hn2
    exact (bytes_any key c N w hk hc (by omega) (by omega)).mono fun e w' ⟨g, he, _, hB, hb⟩ => ⟨some ⟨g, 0, none⟩, N, he, hB.rd (strm_len _ _ _) (Nat.le_refl _) (by simp only [maxLen]; omega), hb⟩

/-- What is there all along: the key, the counter. -/
structure BEnvS (w : World) (key c : List UInt8) (wr : World) : Prop where
  k : Blk wr w.heap.size 25 key
  c : Blk wr (w.heap.size + 1) 25 c
  b : Below w.heap.size w wr
theorem BEnvS.below {w : World} {key c : List UInt8} {wr w' : World} (h : BEnvS w key c wr) (hb : Below wr.heap.size wr w') : BEnvS w key c w' := ⟨h.k.below hb h.k.lt, h.c.below hb h.c.lt, h.b.trans (hb.mono h.b.size)⟩

set_option maxRecDepth 100000 in
set_option maxHeartbeats 2000000 in
theorem streamBytes_big (key c : List UInt8) (n m : Int) (w : World) (hk : key.length = 16) (hc : c.length = 16) (h : 600 < n ∨ (n ≤ 600 ∧ 600 < m)) :
    Calls Try.prog 5 #[.agg (cells key).toArray, .agg (cells c).toArray, .int .i64 n, .int .i64 m] w fun e w' => e = .returned (.bool true) ∧ Below w.heap.size w w' := by
  obtain ⟨hb0, h0, h1⟩ := boxes2 w key c
  have HKL : Hid ((cells key).length = 16) := Lib.hid (by rw [length_cells, hk])
  have HCL : Hid ((cells c).length = 16) := Lib.hid (by rw [length_cells, hc])
  rcases h with h | ⟨h, h2⟩
  all_goals
    go_enter Try.func5, Try.ntmps5
    go_wp2_with (first
      | (go_at_call 6; ((with_reducible refine (aliveS_any _).mono ?_); rintro e w1 ⟨rfl, hb1⟩)))
    go_ret
    exact ⟨rfl, hb0.trans (hb1.mono hb0.size)⟩

set_option maxRecDepth 100000 in
set_option maxHeartbeats 2000000 in
theorem streamBytes_none (key c : List UInt8) (n m : Int) (w : World) (hk : key.length = 16) (hc : c.length = 16) (hn : n < 1) (hm : m ≤ 600) :
    Calls Try.prog 5 #[.agg (cells key).toArray, .agg (cells c).toArray, .int .i64 n, .int .i64 m] w fun e w' => e = .returned (.bool true) ∧ Below w.heap.size w w' := by
  obtain ⟨hb0, h0, h1⟩ := boxes2 w key c
  have HKL : Hid ((cells key).length = 16) := Lib.hid (by rw [length_cells, hk])
  have HCL : Hid ((cells c).length = 16) := Lib.hid (by rw [length_cells, hc])
  obtain ⟨N, hN⟩ : ∃ N, N = n.toNat := ⟨_, rfl⟩
  obtain ⟨M, hM⟩ : ∃ M, M = m.toNat := ⟨_, rfl⟩
  have hbn := fun wx => bytesZ_any key c n N wx hk hc (by omega) hN
  have hbm := fun wx => bytesZ_any key c m M wx hk hc (by omega) hM
  have HBN := Lib.hid hbn
  have HBM := Lib.hid hbm
  have hN0 : N = 0 := by omega
  have hn6 : n ≤ 600 := by omega
  clear hk hc hbn hbm hN hM
  go_enter Try.func5, Try.ntmps5
  go_wp2_with (first
    | (go_at_call 6; ((with_reducible refine (aliveS_any _).mono ?_); rintro e w1 ⟨rfl, hb1⟩)))
  have hS0 : BEnvS w key c w1 := ⟨h0.below hb1 h0.lt, h1.below hb1 h1.lt, hb0.trans (hb1.mono hb0.size)⟩
  have hS : BEnvS w key c w1.drew := hS0.below ((Below.refl _ _).drew)
  clear hS0 hb1 hb0 h0 h1
  refine wp_region_noPanic ?_
  refine wp_region_held (S := BEnvS w key c) (by kernel_rfl) ?_
  change wpAnyH _ _ _ _ _ _ _ _ (World.drew _)
  generalize w1.drew = w2 at *
  refine wpAnyH_take (i := 0) (v := .agg (cells key).toArray) rfl (by kernel_rfl) (by kernel_rfl) (by kernel_rfl) (fun _ _ _ h => h) (Or.inl ⟨by rfl, fun wz hz => ?_⟩) hS ?_
  · exact run_ld 25 _ rfl w.heap.size 0 (by rfl) (cells key) (hz.k.v.range 0 _ (by simp)) (row16 HKL.out)
  simp only [Act.put, List.getElem_toArray, List.getElem_cons_zero, List.setIfInBounds_toArray, List.set_cons_succ, List.set_cons_zero]
  refine wpAnyH_take (i := 1) (v := .agg (cells c).toArray) rfl (by kernel_rfl) (by kernel_rfl) (by kernel_rfl) (fun _ _ _ h => h) (Or.inl ⟨by rfl, fun wz hz => ?_⟩) hS ?_
  · exact run_ld 25 _ rfl (w.heap.size + 1) 0 (by rfl) (cells c) (hz.c.v.range 0 _ (by simp)) (row16 HCL.out)
  simp only [Act.put, List.getElem_toArray, List.getElem_cons_succ, List.getElem_cons_zero, List.setIfInBounds_toArray, List.set_cons_succ, List.set_cons_zero]
  refine wpAnyH_take (i := 2) (v := ?_) rfl (by kernel_rfl) (by kernel_rfl) (by kernel_rfl) (fun _ _ _ h => h) (Or.inl ⟨by rfl, ?_⟩) hS ?_
  case refine_2 => (intro wz hz; go_simp; with_reducible rfl)
  simp only [Act.put, List.getElem_toArray, List.getElem_cons_succ, List.getElem_cons_zero, List.setIfInBounds_toArray, List.set_cons_succ, List.set_cons_zero]
  refine wpAnyH_take (i := 4) (v := .agg (cells key).toArray) rfl (by kernel_rfl) (by kernel_rfl) (by kernel_rfl) (fun _ _ _ h => h) (Or.inl ⟨by rfl, fun wz hz => ?_⟩) hS ?_
  · exact run_ld 25 _ rfl w.heap.size 0 (by rfl) (cells key) (hz.k.v.range 0 _ (by simp)) (row16 HKL.out)
  simp only [Act.put, List.getElem_toArray, List.getElem_cons_succ, List.getElem_cons_zero, List.setIfInBounds_toArray, List.set_cons_succ, List.set_cons_zero]
  refine wpAnyH_take (i := 5) (v := .agg (cells c).toArray) rfl (by kernel_rfl) (by kernel_rfl) (by kernel_rfl) (fun _ _ _ h => h) (Or.inl ⟨by rfl, fun wz hz => ?_⟩) hS ?_
  · exact run_ld 25 _ rfl (w.heap.size + 1) 0 (by rfl) (cells c) (hz.c.v.range 0 _ (by simp)) (row16 HCL.out)
  simp only [Act.put, List.getElem_toArray, List.getElem_cons_succ, List.getElem_cons_zero, List.setIfInBounds_toArray, List.set_cons_succ, List.set_cons_zero]
  refine wpAnyH_take (i := 6) (v := ?_) rfl (by kernel_rfl) (by kernel_rfl) (by kernel_rfl) (fun _ _ _ h => h) (Or.inl ⟨by rfl, ?_⟩) hS ?_
  case refine_2 => (intro wz hz; go_simp; with_reducible rfl)
  simp only [Act.put, List.getElem_toArray, List.getElem_cons_succ, List.getElem_cons_zero, List.setIfInBounds_toArray, List.set_cons_succ, List.set_cons_zero]
  refine anyH_one (i := 3) (by kernel_rfl) rfl rfl (fun H hH => ?_)
  simp only [List.getElem_toArray, List.getElem_cons_succ, List.getElem_cons_zero]
  go_simp
  refine (HBN.out w2).mono ?_
  rintro e w3 ⟨A1, c1, rfl, hA3, hb3⟩
  have hS3 := hS.below hb3
  refine hH _ _ hS3 ?_
  clear hH H hb3 hS
  refine anyH_one (i := 7) (by kernel_rfl) rfl rfl (fun H hH => ?_)
  simp only [List.getElem_toArray, List.getElem_cons_succ, List.getElem_cons_zero]
  go_simp
  refine (HBM.out w3).mono ?_
  rintro e w4 ⟨A2, c2, rfl, hB, hb4⟩
  have hS4 := hS3.below hb4
  have hA := hA3.below hb4
  refine hH _ _ hS4 ?_
  clear hH H hb4 hS3 hA3
  refine wpAnyH_take (i := 8) (v := ?_) rfl (by kernel_rfl) (by kernel_rfl) (by kernel_rfl) (fun _ _ _ h => h) (Or.inl ⟨by rfl, ?_⟩) hS4 ?_
  case refine_2 => (intro wz hz; go_simp; with_reducible rfl)
  simp only [Act.put, List.getElem_toArray, List.getElem_cons_succ, List.getElem_cons_zero, List.setIfInBounds_toArray, List.set_cons_succ, List.set_cons_zero]
  refine wpAnyH_take (i := 9) (v := ?_) rfl (by kernel_rfl) (by kernel_rfl) (by kernel_rfl) (fun _ _ _ h => h) (Or.inl ⟨by rfl, ?_⟩) hS4 ?_
  case refine_2 => (intro wz hz; go_simp; with_reducible rfl)
  simp only [Act.put, List.getElem_toArray, List.getElem_cons_succ, List.getElem_cons_zero, List.setIfInBounds_toArray, List.set_cons_succ, List.set_cons_zero]
  refine wpAnyH_done (by kernel_rfl) ?_ _
  refine NoPanic.normal ?_
  subst hN0
  go_wp2
  go_ret
  exact ⟨rfl, hS4.b⟩

set_option maxRecDepth 100000 in
set_option maxHeartbeats 4000000 in
theorem streamBytes_some (key c : List UInt8) (N : Nat) (m : Int) (w : World) (hk : key.length = 16) (hc : c.length = 16) (h1N : 1 ≤ N) (hN : N ≤ 600) (hm : m ≤ 600) :
    Calls Try.prog 5 #[.agg (cells key).toArray, .agg (cells c).toArray, .int .i64 (N : Int), .int .i64 m] w fun e w' => e = .returned (.bool true) ∧ Below w.heap.size w w' := by
  obtain ⟨hb0, h0, h1⟩ := boxes2 w key c
  have HKL : Hid ((cells key).length = 16) := Lib.hid (by rw [length_cells, hk])
  have HCL : Hid ((cells c).length = 16) := Lib.hid (by rw [length_cells, hc])
  obtain ⟨M, hM⟩ : ∃ M, M = m.toNat := ⟨_, rfl⟩
  have hbn := fun wx => bytesZ_any key c (N : Int) N wx hk hc (by omega) (by omega)
  have hbm := fun wx => bytesZ_any key c m M wx hk hc (by omega) hM
  have hrc := fun wx A c' (h : RdS wx A N c' (List.replicate N 0)) => rcipher_any key c A N c' (List.replicate N 0) wx hk hc h (by omega)
  simp only [cph_zeros] at hrc
  have hst : ∀ M, N ≤ M → (strm key c M).take N = strm key c N := fun M h => strm_take key c N M h
  obtain ⟨s, hs⟩ : ∃ s, s = strm key c N := ⟨_, rfl⟩
  rw [← hs] at hbn hrc
  simp only [← hs] at hst
  have HBN := Lib.hid hbn
  have HBM := Lib.hid hbm
  have HRC := Lib.hid hrc
  have HST := Lib.hid hst
  obtain ⟨T, hT⟩ : ∃ T, T = txt s := ⟨_, rfl⟩
  have hcs : ∀ (wx : World) (A : Option Addr) (n c : Nat), RdS wx A n c s → (convert 31 9 (.slice A n c)).run Try.prog wx = .ok (.string T) wx := fun wx A n c h => hT ▸ conv_rdS h
  have HCS := Lib.hid hcs
  have hmk := run_makeB (P := Try.prog) Try.underlying31 u8_inf .i64 .i64 (N : Int) (N : Int) N rfl rfl (by omega)
  have hzr : ∀ wx : World, RdS (wx.alloc (.cells (cells (List.replicate N 0)).toArray 5)) (some ⟨wx.heap.size, 0, none⟩) N N (List.replicate N 0) := fun wx => (Blk.new wx _ _).rd (by simp) (Nat.le_refl _) (by simp only [maxLen]; omega)
  have HZR := Lib.hid hzr
  have HM := Lib.hid hM
  clear hk hc hbn hbm hM hrc hst hs hT hcs hzr
  go_enter Try.func5, Try.ntmps5
  go_wp2_with (first
    | (go_at_call 6; ((with_reducible refine (aliveS_any _).mono ?_); rintro e w1 ⟨rfl, hb1⟩)))
  have hS0 : BEnvS w key c w1 := ⟨h0.below hb1 h0.lt, h1.below hb1 h1.lt, hb0.trans (hb1.mono hb0.size)⟩
  have hS : BEnvS w key c w1.drew := hS0.below ((Below.refl _ _).drew)
  clear hS0 hb1 hb0 h0 h1
  refine wp_region_noPanic ?_
  refine wp_region_held (S := BEnvS w key c) (by kernel_rfl) ?_
  change wpAnyH _ _ _ _ _ _ _ _ (World.drew _)
  generalize w1.drew = w2 at *
  refine wpAnyH_take (i := 0) (v := .agg (cells key).toArray) rfl (by kernel_rfl) (by kernel_rfl) (by kernel_rfl) (fun _ _ _ h => h) (Or.inl ⟨by rfl, fun wz hz => ?_⟩) hS ?_
  · exact run_ld 25 _ rfl w.heap.size 0 (by rfl) (cells key) (hz.k.v.range 0 _ (by simp)) (row16 HKL.out)
  simp only [Act.put, List.getElem_toArray, List.getElem_cons_zero, List.setIfInBounds_toArray, List.set_cons_succ, List.set_cons_zero]
  refine wpAnyH_take (i := 1) (v := .agg (cells c).toArray) rfl (by kernel_rfl) (by kernel_rfl) (by kernel_rfl) (fun _ _ _ h => h) (Or.inl ⟨by rfl, fun wz hz => ?_⟩) hS ?_
  · exact run_ld 25 _ rfl (w.heap.size + 1) 0 (by rfl) (cells c) (hz.c.v.range 0 _ (by simp)) (row16 HCL.out)
  simp only [Act.put, List.getElem_toArray, List.getElem_cons_succ, List.getElem_cons_zero, List.setIfInBounds_toArray, List.set_cons_succ, List.set_cons_zero]
  refine wpAnyH_take (i := 2) (v := ?_) rfl (by kernel_rfl) (by kernel_rfl) (by kernel_rfl) (fun _ _ _ h => h) (Or.inl ⟨by rfl, ?_⟩) hS ?_
  case refine_2 => (intro wz hz; go_simp; with_reducible rfl)
  simp only [Act.put, List.getElem_toArray, List.getElem_cons_succ, List.getElem_cons_zero, List.setIfInBounds_toArray, List.set_cons_succ, List.set_cons_zero]
  refine wpAnyH_take (i := 4) (v := .agg (cells key).toArray) rfl (by kernel_rfl) (by kernel_rfl) (by kernel_rfl) (fun _ _ _ h => h) (Or.inl ⟨by rfl, fun wz hz => ?_⟩) hS ?_
  · exact run_ld 25 _ rfl w.heap.size 0 (by rfl) (cells key) (hz.k.v.range 0 _ (by simp)) (row16 HKL.out)
  simp only [Act.put, List.getElem_toArray, List.getElem_cons_succ, List.getElem_cons_zero, List.setIfInBounds_toArray, List.set_cons_succ, List.set_cons_zero]
  refine wpAnyH_take (i := 5) (v := .agg (cells c).toArray) rfl (by kernel_rfl) (by kernel_rfl) (by kernel_rfl) (fun _ _ _ h => h) (Or.inl ⟨by rfl, fun wz hz => ?_⟩) hS ?_
  · exact run_ld 25 _ rfl (w.heap.size + 1) 0 (by rfl) (cells c) (hz.c.v.range 0 _ (by simp)) (row16 HCL.out)
  simp only [Act.put, List.getElem_toArray, List.getElem_cons_succ, List.getElem_cons_zero, List.setIfInBounds_toArray, List.set_cons_succ, List.set_cons_zero]
  refine wpAnyH_take (i := 6) (v := ?_) rfl (by kernel_rfl) (by kernel_rfl) (by kernel_rfl) (fun _ _ _ h => h) (Or.inl ⟨by rfl, ?_⟩) hS ?_
  case refine_2 => (intro wz hz; go_simp; with_reducible rfl)
  simp only [Act.put, List.getElem_toArray, List.getElem_cons_succ, List.getElem_cons_zero, List.setIfInBounds_toArray, List.set_cons_succ, List.set_cons_zero]
  refine anyH_one (i := 3) (by kernel_rfl) rfl rfl (fun H hH => ?_)
  simp only [List.getElem_toArray, List.getElem_cons_succ, List.getElem_cons_zero]
  go_simp
  refine (HBN.out w2).mono ?_
  rintro e w3 ⟨A1, c1, rfl, hA3, hb3⟩
  have hS3 := hS.below hb3
  refine hH _ _ hS3 ?_
  clear hH H hb3 hS
  refine anyH_one (i := 7) (by kernel_rfl) rfl rfl (fun H hH => ?_)
  simp only [List.getElem_toArray, List.getElem_cons_succ, List.getElem_cons_zero]
  go_simp
  refine (HBM.out w3).mono ?_
  rintro e w4 ⟨A2, c2, rfl, hB, hb4⟩
  have hS4 := hS3.below hb4
  have hA := hA3.below hb4
  refine hH _ _ hS4 ?_
  clear hH H hb4 hS3 hA3
  refine wpAnyH_take (i := 8) (v := ?_) rfl (by kernel_rfl) (by kernel_rfl) (by kernel_rfl) (fun _ _ _ h => h) (Or.inl ⟨by rfl, ?_⟩) hS4 ?_
  case refine_2 => (intro wz hz; go_simp; with_reducible rfl)
  simp only [Act.put, List.getElem_toArray, List.getElem_cons_succ, List.getElem_cons_zero, List.setIfInBounds_toArray, List.set_cons_succ, List.set_cons_zero]
  refine wpAnyH_take (i := 9) (v := ?_) rfl (by kernel_rfl) (by kernel_rfl) (by kernel_rfl) (fun _ _ _ h => h) (Or.inl ⟨by rfl, ?_⟩) hS4 ?_
  case refine_2 => (intro wz hz; go_simp; with_reducible rfl)
  simp only [Act.put, List.getElem_toArray, List.getElem_cons_succ, List.getElem_cons_zero, List.setIfInBounds_toArray, List.set_cons_succ, List.set_cons_zero]
  refine wpAnyH_done (by kernel_rfl) ?_ _
  refine NoPanic.normal ?_
  go_wp2
  have hE : BEnvS w key c w4 ∧ RdS w4 A1 N c1 s := ⟨hS4, hA⟩
  have hE5 : BEnvS w key c w4.drew ∧ RdS w4.drew A1 N c1 s := ⟨hS4.below ((Below.refl _ _).drew), hA.below ((Below.refl _ _).drew)⟩
  have hB5 := hB.below ((Below.refl w4.heap.size w4).drew)
  clear hE hS4 hA hB
  refine wp_region_noPanic ?_
  refine wp_region_held (S := fun wx => BEnvS w key c wx ∧ RdS wx A1 N c1 s) (by kernel_rfl) ?_
  change wpAnyH _ _ _ _ _ _ _ _ (World.drew _)
  generalize w4.drew = w5 at *
  refine wpAnyH_take (i := 0) (v := ?_) rfl (by kernel_rfl) (by kernel_rfl) (by kernel_rfl) (fun _ _ _ h => h) (Or.inl ⟨by rfl, ?_⟩) hE5 ?_
  case refine_2 => (intro wz hz; go_simp; with_reducible rfl)
  simp only [Act.put, List.getElem_toArray, List.getElem_cons_zero, List.setIfInBounds_toArray, List.set_cons_succ, List.set_cons_zero]
  refine wpAnyH_take (i := 1) (v := ?_) rfl (by kernel_rfl) (by kernel_rfl) (by kernel_rfl) (fun _ _ _ h => h) (Or.inl ⟨by rfl, ?_⟩) hE5 ?_
  case refine_2 => (intro wz hz; go_simp; with_reducible rfl)
  simp only [Act.put, List.getElem_toArray, List.getElem_cons_succ, List.getElem_cons_zero, List.setIfInBounds_toArray, List.set_cons_succ, List.set_cons_zero]
  refine wpAnyH_take (i := 2) (v := ?_) rfl (by kernel_rfl) (by kernel_rfl) (by kernel_rfl) (fun _ _ _ h => h) (Or.inl ⟨by rfl, ?_⟩) hE5 ?_
  case refine_2 => (intro wz hz; go_simp; with_reducible rfl)
  simp only [Act.put, List.getElem_toArray, List.getElem_cons_succ, List.getElem_cons_zero, List.setIfInBounds_toArray, List.set_cons_succ, List.set_cons_zero]
  refine wpAnyH_take (i := 3) (v := ?_) rfl (by kernel_rfl) (by kernel_rfl) (by kernel_rfl) (fun _ _ _ h => h) (Or.inl ⟨by rfl, ?_⟩) hE5 ?_
  case refine_2 => (intro wz hz; go_simp; with_reducible rfl)
  simp only [Act.put, List.getElem_toArray, List.getElem_cons_succ, List.getElem_cons_zero, List.setIfInBounds_toArray, List.set_cons_succ, List.set_cons_zero]
  refine wpAnyH_take (i := 4) (v := ?_) rfl (by kernel_rfl) (by kernel_rfl) (by kernel_rfl) (fun _ _ _ h => h) (Or.inl ⟨by rfl, ?_⟩) hE5 ?_
  case refine_2 => (intro wz hz; go_simp; with_reducible rfl)
  simp only [Act.put, List.getElem_toArray, List.getElem_cons_succ, List.getElem_cons_zero, List.setIfInBounds_toArray, List.set_cons_succ, List.set_cons_zero]
  refine wpAnyH_take (i := 5) (v := ?_) rfl (by kernel_rfl) (by kernel_rfl) (by kernel_rfl) (fun _ _ _ h => h) (Or.inl ⟨by rfl, ?_⟩) hE5 ?_
  case refine_2 => (intro wz hz; go_simp; with_reducible rfl)
  simp only [Act.put, List.getElem_toArray, List.getElem_cons_succ, List.getElem_cons_zero, List.setIfInBounds_toArray, List.set_cons_succ, List.set_cons_zero]
  refine wpAnyH_take (i := 6) (v := ?_) rfl (by kernel_rfl) (by kernel_rfl) (by kernel_rfl) (fun _ _ _ h => h) (Or.inl ⟨by rfl, ?_⟩) hE5 ?_
  case refine_2 => (intro wz hz; have hq := HCS.out wz A1 N c1 hz.2; go_simp; with_reducible rfl)
  simp only [Act.put, List.getElem_toArray, List.getElem_cons_succ, List.getElem_cons_zero, List.setIfInBounds_toArray, List.set_cons_succ, List.set_cons_zero]
  refine wpAnyH_take (i := 7) (v := .agg (cells key).toArray) rfl (by kernel_rfl) (by kernel_rfl) (by kernel_rfl) (fun _ _ _ h => h) (Or.inl ⟨by rfl, fun wz hz => ?_⟩) hE5 ?_
  · exact run_ld 25 _ rfl w.heap.size 0 (by rfl) (cells key) (hz.1.k.v.range 0 _ (by simp)) (row16 HKL.out)
  simp only [Act.put, List.getElem_toArray, List.getElem_cons_succ, List.getElem_cons_zero, List.setIfInBounds_toArray, List.set_cons_succ, List.set_cons_zero]
  refine wpAnyH_take (i := 8) (v := .agg (cells c).toArray) rfl (by kernel_rfl) (by kernel_rfl) (by kernel_rfl) (fun _ _ _ h => h) (Or.inl ⟨by rfl, fun wz hz => ?_⟩) hE5 ?_
  · exact run_ld 25 _ rfl (w.heap.size + 1) 0 (by rfl) (cells c) (hz.1.c.v.range 0 _ (by simp)) (row16 HCL.out)
  simp only [Act.put, List.getElem_toArray, List.getElem_cons_succ, List.getElem_cons_zero, List.setIfInBounds_toArray, List.set_cons_succ, List.set_cons_zero]
  refine wpAnyH_take (i := 9) (v := ?_) rfl (by kernel_rfl) (by kernel_rfl) (by kernel_rfl) (fun _ _ _ h => h) (Or.inl ⟨by rfl, ?_⟩) hE5 ?_
  case refine_2 => (intro wz hz; go_simp; with_reducible rfl)
  simp only [Act.put, List.getElem_toArray, List.getElem_cons_succ, List.getElem_cons_zero, List.setIfInBounds_toArray, List.set_cons_succ, List.set_cons_zero]
  refine anyH_oneG (i := 10) (by kernel_rfl) rfl (by rfl) (fun H hH => ?_)
  simp only [List.getElem_toArray, List.getElem_cons_succ, List.getElem_cons_zero]
  go_simp
  have hbq := (Below.refl w5.heap.size w5).alloc (Nat.le_refl _) (.cells (cells (List.replicate N 0)).toArray 5)
  have hE6 : BEnvS w key c (w5.alloc (.cells (cells (List.replicate N 0)).toArray 5)) ∧ RdS (w5.alloc (.cells (cells (List.replicate N 0)).toArray 5)) A1 N c1 s := ⟨hE5.1.below hbq, hE5.2.below hbq⟩
  have hB6 := hB5.below hbq
  have hz6 := HZR.out w5
  refine hH _ _ hE6 ?_
  clear hH H hbq hE5 hB5
  generalize w5.alloc (.cells (cells (List.replicate N 0)).toArray 5) = w6 at *
  refine anyH_oneG (i := 11) (by kernel_rfl) rfl (by rfl) (fun H hH => ?_)
  simp only [List.getElem_toArray, List.getElem_cons_succ, List.getElem_cons_zero]
  go_simp
  refine (HRC.out w6 _ _ hz6).mono ?_
  rintro e w7 ⟨v7, rfl, hown7, hb7⟩
  obtain ⟨A7, c7, rfl⟩ := own_form hown7
  have hE7 : BEnvS w key c w7 ∧ RdS w7 A1 N c1 s := ⟨hE6.1.below hb7, hE6.2.below hb7⟩
  have hB7 := hB6.below hb7
  have hq7 := HCS.out w7 A7 N c7 (RdS.of_own hown7)
  refine hH _ _ hE7 ?_
  clear hH H hb7 hown7 hE6 hB6 hz6
  refine anyH_oneG (i := 12) (by kernel_rfl) rfl (by rfl) (fun H hH => ?_)
  simp only [List.getElem_toArray, List.getElem_cons_succ, List.getElem_cons_zero]
  go_simp
  refine hH _ _ hE7 ?_
  clear hH H hq7
  refine wpAnyH_take (i := 13) (v := ?_) rfl (by kernel_rfl) (by kernel_rfl) (by kernel_rfl) (fun _ _ _ h => h) (Or.inl ⟨by rfl, ?_⟩) hE7 ?_
  case refine_2 => (intro wz hz; go_simp; with_reducible rfl)
  simp only [Act.put, List.getElem_toArray, List.getElem_cons_succ, List.getElem_cons_zero, List.setIfInBounds_toArray, List.set_cons_succ, List.set_cons_zero]
  refine wpAnyH_take (i := 14) (v := ?_) rfl (by kernel_rfl) (by kernel_rfl) (by kernel_rfl) (fun _ _ _ h => h) (Or.inl ⟨by rfl, ?_⟩) hE7 ?_
  case refine_2 => (intro wz hz; go_simp; with_reducible rfl)
  simp only [Act.put, List.getElem_toArray, List.getElem_cons_succ, List.getElem_cons_zero, List.setIfInBounds_toArray, List.set_cons_succ, List.set_cons_zero]
  refine wpAnyH_done (by kernel_rfl) ?_ _
  refine NoPanic.normal ?_
  go_wp2
  obtain ⟨hS7, hA7⟩ := hE7
  by_cases hlt : m < (N : Int)
  · have hd : decide (m < (N : Int)) = true := by simp; omega
    go_quiet (fail)
    go_wp2
    go_ret
    exact ⟨rfl, hS7.b.os, hS7.b.tape, hS7.b.output, hS7.b.size, hS7.b.block⟩
  · have hd : decide (m < (N : Int)) = false := by simp; omega
    have hM := HM.out
    have hle := hB7.le
    have hNM : N ≤ M := by omega
    have hNc : N ≤ c2 := by omega
    have hNci : (N : Int) ≤ (c2 : Int) := by omega
    have hB8 := hB7.headS N c2 hNM hNc (Nat.le_refl _)
    rw [HST.out M hNM] at hB8
    have hcv1 := fun k => HCS.out (w7.drewN k) A2 N c2 hB8
    have hcv2 := fun k => HCS.out (w7.drewN k) A1 N c1 hA7
    clear hM hB7 hB8
    go_quiet (fail)
    go_wp2
    go_ret
    exact ⟨rfl, hS7.b.os, hS7.b.tape, hS7.b.output, hS7.b.size, hS7.b.block⟩

theorem streamBytes_walk (key c : List UInt8) (n m : Int) (w : World) (hk : key.length = 16) (hc : c.length = 16) :
    Calls Try.prog 5 #[.agg (cells key).toArray, .agg (cells c).toArray, .int .i64 n, .int .i64 m] w fun e w' => e = .returned (.bool true) ∧ Below w.heap.size w w' := by
  by_cases hb : 600 < n ∨ (n ≤ 600 ∧ 600 < m)
  · exact streamBytes_big key c n m w hk hc hb
  · by_cases h1 : n < 1
    · exact streamBytes_none key c n m w hk hc h1 (by omega)
    · obtain ⟨N, rfl⟩ : ∃ N : Nat, n = (N : Int) := ⟨n.toNat, by omega⟩
      exact streamBytes_some key c N m w hk hc (by omega) (by omega) (by omega)
end Go.Proofs.Ytbimpejeoidafaa
