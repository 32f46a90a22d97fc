/- Contracts of the document's answer of layer 7: what is derived of a master. No statement is proved here. -/
import Derived.Test.YtmfceenkndjjoaaStrR3
import Derived.Test.YtmfceenkndjjoaaReg
import Derived.Test.YtmfceenkndjjoaaKey2
namespace Go.Proofs.Ytmfceenkndjjoaa
open Go.RowKit
set_option linter.unusedVariables false

theorem mst_get (key salt : List UInt8) (i : Nat) (hk : key.length = 16) : (mst key salt).getD (16 + i) 0 = salt.getD i 0 := by
  rw [mst, getD_app_right _ _ _ (by omega), hk, show 16 + i - 16 = i by omega]
/-- What is there all along: the master, the counter. -/
structure DEnv (w : World) (M C : List UInt8) (wr : World) : Prop where
  m : Blk wr w.heap.size 25 M
  c : Blk wr (w.heap.size + 1) 22 C
  b : Below w.heap.size w wr
theorem DEnv.below {w : World} {M C : List UInt8} {wr w' : World} (h : DEnv w M C wr) (hb : Below wr.heap.size wr w') : DEnv w M C w' := ⟨h.m.below hb h.m.lt, h.c.below hb h.c.lt, h.b.trans (hb.mono h.b.size)⟩

set_option maxRecDepth 100000 in
set_option maxHeartbeats 2000000 in
theorem rderive_any (key salt : List UInt8) (l : Nat) (n : Int) (N : Nat) (w : World) (hk : key.length = 16) (hs : salt.length = 14) (hl : l < 256) (hn : n ≤ 4096) (hN : N = n.toNat) :
    Calls Try.prog 7 #[.agg (cells (mst key salt)).toArray, .int .u8 (l : Int), .int .i64 n] w fun e w' => ∃ v, e = .returned v ∧ w'.ownsRow w.heap.size 5 1 v N (cells (drv key salt l N)) ∧ Below w.heap.size w w' := by
  have hz := zero16
  obtain ⟨hb0, h0, h1⟩ := key_boxes w (mst key salt)
  have hmk := mst_key key salt hk
  have hml := mst_len key salt hk hs
  have hmg : ∀ i, (mst key salt).getD (16 + i) 0 = salt.getD i 0 := fun i => mst_get key salt i hk
  have hll : (UInt8.ofNat l).toNat = l := by rw [UInt8.toNat_ofNat']; omega
  have hxr := xr8 ((saltZ salt).getD 7 0) (UInt8.ofNat l)
  rw [hll] at hxr
  have hlc : (saltZ salt).set 7 ((saltZ salt).getD 7 0 ^^^ UInt8.ofNat l) = labC salt l := rfl
  have hlcl := labC_len salt l hs
  have hrc := fun wx A c' (h : RdS wx A N c' (List.replicate N 0)) => rcipher_any key (labC salt l) A N c' (List.replicate N 0) wx hk hlcl h (by omega)
  simp only [cph_zeros] at hrc
  have hsf := salt_fill salt hs
  have hsz : (saltZ salt).length = 16 := saltZ_len _ hs
  obtain ⟨D, hD⟩ : ∃ D, D = drv key salt l N := ⟨_, rfl⟩
  have hDl : D.length = N := by rw [hD, drv_len]
  have hD2 : strm key (labC salt l) N = D := by rw [hD]; rfl
  simp only [hD2] at hrc
  rw [← hD]
  obtain ⟨C, hC⟩ : ∃ C, C = labC salt l := ⟨_, rfl⟩
  simp only [← hC] at hrc hlc hlcl
  obtain ⟨SZ, hSZ⟩ : ∃ SZ, SZ = saltZ salt := ⟨_, rfl⟩
  rw [← hSZ] at hsf hsz hlc hxr
  obtain ⟨V, hV⟩ : ∃ V, V = SZ.getD 7 0 ^^^ UInt8.ofNat l := ⟨_, rfl⟩
  rw [← hV] at hlc hxr
  obtain ⟨v, hv⟩ : ∃ v : Int, v = (V.toNat : Int) := ⟨_, rfl⟩
  obtain ⟨y, hy⟩ : ∃ y : Int, y = ((SZ.getD 7 0).toNat : Int) := ⟨_, rfl⟩
  rw [← hv, ← hy] at hxr
  obtain ⟨M, hM⟩ : ∃ M, M = mst key salt := ⟨_, rfl⟩
  simp only [← hM] at h0 h1 hb0 hmk hml hmg ⊢
  obtain ⟨f0, hf0⟩ : ∃ f : Nat → UInt8, f = fun i => salt.getD i 0 := ⟨_, rfl⟩
  rw [← hf0] at hsf
  have hx0 : ∀ i, M.getD (16 + i) 0 = f0 i := fun i => by rw [hmg, hf0]
  have hZL : (cells Z16).length = 16 := by rw [length_cells, Z16_len]
  have hKL : (cells key).length = 16 := by rw [length_cells, hk]
  have hCL : (cells C).length = 16 := by rw [length_cells, hlcl]
  have HZL := Lib.hid hZL
  have HKL := Lib.hid hKL
  have HCL := Lib.hid hCL
  have HMK := Lib.hid hmk
  have HML := Lib.hid hml
  have HRC := Lib.hid hrc
  have HLC := Lib.hid hlc
  have HSZ := Lib.hid hsz
  have HSF := Lib.hid hsf
  have HX0 := Lib.hid hx0
  have HV := Lib.hid hv
  have HY := Lib.hid hy
  have HN := Lib.hid hN
  have HNn := Lib.hid hn
  have HDL := Lib.hid hDl
  clear hmk hml hmg hll hlc hlcl hrc hsf hsz hD hDl hD2 hC hSZ hV hv hy hM hf0 hx0 hZL hKL hCL hs hk hl hN hn
  have hE0 : DEnv w M (fillAt f0 Z16 0) ((w.alloc (Obj.cells (cells M).toArray 25)).alloc (Obj.cells (cells Z16).toArray 22)) := ⟨h0, by rw [fillAt_zero]; exact h1, hb0⟩
  clear h0 h1 hb0
  go_enter Try.func7, Try.ntmps7
  go_wp2
  go_loopw [8] (fun vi wr => ∃ i : Nat, i ≤ 14 ∧ vi = .int .i64 i ∧ DEnv w M (fillAt f0 Z16 i) wr) (fun i _ => 14 - (intOf i).toNat)
  case atStart => exact ⟨0, by omega, rfl, hE0⟩
  case round =>
    clear hE0
    obtain ⟨i, hi, rfl, hE⟩ := hrel
    by_cases hlt : i < 14
    · have hcs := hE.m.cell (j := 16 + i) (by rw [HML.out]; omega)
      rw [HX0.out i] at hcs
      have hcell := hE.c.cell (j := i) (by rw [fillAt_len _ _ _ (by rw [Z16_len]; omega), Z16_len]; omega)
      have hfr := hE.c.frozen i
      have hst := hE.c.set_ i (f0 i)
      rw [fillAt_step _ _ _ (by rw [Z16_len]; omega)] at hst
      have ho := Only.set wr (w.heap.size + 1) i (.int .u8 ((f0 i).toNat : Int))
      have hE2 : DEnv w M (fillAt f0 Z16 (i + 1)) (wr.setCell ⟨w.heap.size + 1, i, none⟩ (.int .u8 ((f0 i).toNat : Int))) := ⟨Blk.only hE.m ho (by omega), hst, hE.b.trans (ho.below (by omega))⟩
      obtain ⟨a, ha⟩ : ∃ a : Int, a = ((f0 i).toNat : Int) := ⟨_, rfl⟩
      obtain ⟨y2, hy2⟩ : ∃ y : Int, y = (((fillAt f0 Z16 i).getD i 0).toNat : Int) := ⟨_, rfl⟩
      rw [← ha] at hcs hE2
      rw [← hy2] at hcell
      clear ha hy2 hst ho hE
      go_wp2
      go_roundw
      case rel => exact ⟨i + 1, by omega, by go_num, hE2⟩
      case measure => simp [intOf]; omega
    · obtain rfl : i = 14 := by omega
      rw [HSF.out] at hE
      have hcell := hE.c.cell (j := 7) (by rw [HSZ.out]; omega)
      rw [← HY.out] at hcell
      have hfr := hE.c.frozen 7
      have hst := hE.c.set_ 7 V
      rw [HLC.out] at hst
      have ho := Only.set wr (w.heap.size + 1) 7 (.int .u8 (V.toNat : Int))
      have hE2 : DEnv w M C (wr.setCell ⟨w.heap.size + 1, 7, none⟩ (.int .u8 (V.toNat : Int))) := ⟨Blk.only hE.m ho (by omega), hst, hE.b.trans (ho.below (by omega))⟩
      rw [← HV.out] at hE2
      clear hst ho hE
      by_cases hn1 : n < 1
      · have hN0 : N = 0 := by have := HN.out; omega
        have hD0 : D = [] := List.eq_nil_of_length_eq_zero (by rw [HDL.out, hN0])
        subst hN0
        subst hD0
        go_wp2
        go_ret
        exact ⟨_, rfl, World.ownsRow_nil _ _ _ _, hE2.b⟩
      · obtain rfl : n = (N : Int) := by have := HN.out; omega
        have hmk := run_makeB (P := Try.prog) Try.underlying27 u8_inf .i64 .i64 (N : Int) (N : Int) N rfl rfl (by have := HNn.out; omega)
        have hzr : ∀ wx : World, RdS (wx.alloc (.cells (cells (List.replicate N 0)).toArray 5)) (some ⟨wx.heap.size, 0, none⟩) N N (List.replicate N 0) := fun wx => (Blk.new wx _ _).rd (by simp) (Nat.le_refl _) (by simp only [maxLen]; have := HNn.out; omega)
        have HZR := Lib.hid hzr
        have hs2 := hE2.b.size
        clear hzr
        go_wp2
        refine wp_region_noPanic ?_
        refine wp_region_held (S := DEnv w M C) (by kernel_rfl) ?_
        change wpAnyH _ _ _ _ _ _ _ _ (World.drew _)
        have hS : DEnv w M C (wr.setCell ⟨w.heap.size + 1, 7, none⟩ (.int .u8 v)).drew := hE2.below ((Below.refl _ _).drew)
        clear hE2 hcell hfr hs2
        generalize (wr.setCell ⟨w.heap.size + 1, 7, none⟩ (.int .u8 v)).drew = w2 at *
        refine wpAnyH_take (i := 0) (v := ?_) rfl (by kernel_rfl) (by kernel_rfl) (by kernel_rfl) (fun _ _ _ h => h) (Or.inl ⟨by rfl, ?_⟩) hS ?_
        case refine_2 => (intro wz hz; go_simp; with_reducible rfl)
        simp only [Act.put, List.getElem_toArray, List.getElem_cons_zero, List.setIfInBounds_toArray, List.set_cons_succ, List.set_cons_zero]
        refine wpAnyH_take (i := 1) (v := .agg (cells key).toArray) rfl (by kernel_rfl) (by kernel_rfl) (by kernel_rfl) (fun _ _ _ h => h) (Or.inl ⟨by rfl, fun wz hz => ?_⟩) hS ?_
        · exact run_ld 22 _ rfl w.heap.size 0 (by rfl) (cells key) (hz.m.v.range 0 _ HMK.out) (row16 HKL.out)
        simp only [Act.put, List.getElem_toArray, List.getElem_cons_succ, List.getElem_cons_zero, List.setIfInBounds_toArray, List.set_cons_succ, List.set_cons_zero]
        refine wpAnyH_take (i := 2) (v := .agg (cells C).toArray) rfl (by kernel_rfl) (by kernel_rfl) (by kernel_rfl) (fun _ _ _ h => h) (Or.inl ⟨by rfl, fun wz hz => ?_⟩) hS ?_
        · exact run_ld 22 _ rfl (w.heap.size + 1) 0 (by rfl) (cells C) (hz.c.v.range 0 _ (by simp)) (row16 HCL.out)
        simp only [Act.put, List.getElem_toArray, List.getElem_cons_succ, List.getElem_cons_zero, List.setIfInBounds_toArray, List.set_cons_succ, List.set_cons_zero]
        refine wpAnyH_take (i := 3) (v := ?_) rfl (by kernel_rfl) (by kernel_rfl) (by kernel_rfl) (fun _ _ _ h => h) (Or.inl ⟨by rfl, ?_⟩) hS ?_
        case refine_2 => (intro wz hz; go_simp; with_reducible rfl)
        simp only [Act.put, List.getElem_toArray, List.getElem_cons_succ, List.getElem_cons_zero, List.setIfInBounds_toArray, List.set_cons_succ, List.set_cons_zero]
        refine anyH_one (i := 4) (by kernel_rfl) rfl rfl (fun H hH => ?_)
        simp only [List.getElem_toArray, List.getElem_cons_succ, List.getElem_cons_zero]
        go_simp
        have hbq := (Below.refl w2.heap.size w2).alloc (Nat.le_refl _) (.cells (cells (List.replicate N 0)).toArray 5)
        have hS2 := hS.below hbq
        have hz3 := HZR.out w2
        refine hH _ _ hS2 ?_
        clear hH H hbq hS
        generalize w2.alloc (.cells (cells (List.replicate N 0)).toArray 5) = w3 at *
        refine anyH_one (i := 5) (by kernel_rfl) rfl rfl (fun H hH => ?_)
        simp only [List.getElem_toArray, List.getElem_cons_succ, List.getElem_cons_zero]
        go_simp
        refine (HRC.out w3 _ _ hz3).mono ?_
        rintro e w4 ⟨v4, rfl, hown4, hb4⟩
        have hS4 := hS2.below hb4
        have hw3 := hS2.b.size
        refine hH _ _ hS4 ?_
        clear hH H hb4 hS2
        refine wpAnyH_take (i := 6) (v := ?_) rfl (by kernel_rfl) (by kernel_rfl) (by kernel_rfl) (fun _ _ _ h => h) (Or.inl ⟨by rfl, ?_⟩) hS4 ?_
        case refine_2 => (intro wz hz; go_simp; with_reducible rfl)
        simp only [Act.put, List.getElem_toArray, List.getElem_cons_succ, List.getElem_cons_zero, List.setIfInBounds_toArray, List.set_cons_succ, List.set_cons_zero]
        refine wpAnyH_done (by kernel_rfl) ?_ _
        refine NoPanic.normal ?_
        go_wp2
        go_ret
        exact ⟨v4, rfl, own_lower hown4 hw3, hS4.b⟩
end Go.Proofs.Ytmfceenkndjjoaa
