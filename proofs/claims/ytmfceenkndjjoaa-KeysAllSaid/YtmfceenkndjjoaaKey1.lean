/- Contracts of package keys: what is derived of a master. No statement is proved here. -/
import Derived.Test.YtmfceenkndjjoaaStr4
import Derived.Test.YtmfceenkndjjoaaKeyNum
namespace Go.Proofs.Ytmfceenkndjjoaa
open Go.RowKit
set_option linter.unusedVariables false

theorem row30_ : RowTy Try.prog 25 30 := ⟨_, Try.underlying25, rfl, by kernel_rfl⟩
theorem row30 {n : Nat} (h : n = 30) : RowTy Try.prog 25 n := h ▸ row30_
theorem row50_ : RowTy Try.prog 32 50 := ⟨_, Try.underlying32, rfl, by kernel_rfl⟩
theorem row50 {n : Nat} (h : n = 50) : RowTy Try.prog 32 n := h ▸ row50_
theorem zero50 (w : World) : (zeroValue 32).run Try.prog w = .ok (.agg (cells Z50).toArray) w := by kernel_rfl
theorem key_boxes (w : World) (m : List UInt8) : Below w.heap.size w ((w.alloc (Obj.cells (cells m).toArray 25)).alloc (Obj.cells (cells Z16).toArray 22)) ∧
    Blk ((w.alloc (Obj.cells (cells m).toArray 25)).alloc (Obj.cells (cells Z16).toArray 22)) w.heap.size 25 m ∧
    Blk ((w.alloc (Obj.cells (cells m).toArray 25)).alloc (Obj.cells (cells Z16).toArray 22)) (w.heap.size + 1) 22 Z16 :=
  ⟨((Below.refl _ _).alloc (Nat.le_refl _) _).alloc (by simp) _, (Blk.new _ _ _).alloc _, Blk.new_at _ _ _ _ _ (by simp) rfl⟩
/-- Bytes of any number that is not above the most: as many as it says, none if it is below one. -/
theorem bytesK_any (key c : List UInt8) (n : Int) (N : Nat) (w : World) (hk : key.length = 16) (hc : c.length = 16) (hn : n ≤ 4096) (hN : N = n.toNat) :
    Calls Try.prog 11 #[.agg (cells key).toArray, .agg (cells c).toArray, .int .i64 n] w fun e w' => ∃ A c', e = .returned (.slice A N c') ∧ RdS w' A N c' (strm key c N) ∧ Below w.heap.size w w' := by
  by_cases h : n < 1
  · have h0 : N = 0 := by omega
    subst h0
    exact (bytes_none key c n w h).mono fun e w' ⟨he, hb⟩ => ⟨none, 0, he, RdS.nil w', hb⟩
  · have hn2 : n = (N : Int) := by omega
    subst hn2
    exact (bytes_any key c N w hk hc (by omega) (by omega)).mono fun e w' ⟨g, he, _, hB, hb⟩ => ⟨some ⟨g, 0, none⟩, N, he, hB.rd (strm_len _ _ _) (Nat.le_refl _) (by simp only [maxLen]; omega), hb⟩

set_option maxRecDepth 100000 in
set_option maxHeartbeats 1000000 in
theorem derive_any (key salt : List UInt8) (l : Nat) (n : Int) (N : Nat) (w : World) (hk : key.length = 16) (hs : salt.length = 14) (hl : l < 256) (hn : n ≤ 4096) (hN : N = n.toNat) :
    Calls Try.prog 6 #[.agg (cells (mst key salt)).toArray, .int .u8 (l : Int), .int .i64 n] w fun e w' => ∃ A c', e = .returned (.slice A N c') ∧ RdS w' A N c' (drv key salt l N) ∧ Below w.heap.size w w' := by
  have hz := zero16
  obtain ⟨hb0, h0, h1⟩ := key_boxes w (mst key salt)
  have hsp := salt_splice salt hs
  have hmk := mst_key key salt hk
  have hms := mst_salt key salt hk
  have hby := fun wx => bytesK_any key (labC salt l) n N wx hk (labC_len salt l hs) hn hN
  have hll : (UInt8.ofNat l).toNat = l := by rw [UInt8.toNat_ofNat']; omega
  have hxr := xr8 ((saltZ salt).getD 7 0) (UInt8.ofNat l)
  rw [hll] at hxr
  have hlc : (saltZ salt).set 7 ((saltZ salt).getD 7 0 ^^^ UInt8.ofNat l) = labC salt l := rfl
  have hsz : (saltZ salt).length = 16 := saltZ_len _ hs
  obtain ⟨D, hD⟩ : ∃ D, D = drv key salt l N := ⟨_, rfl⟩
  have hD2 : strm key (labC salt l) N = D := by rw [hD]; rfl
  simp only [hD2] at hby
  rw [← hD]
  obtain ⟨C, hC⟩ : ∃ C, C = labC salt l := ⟨_, rfl⟩
  have hCl : (cells C).length = 16 := by rw [length_cells, hC, labC_len _ _ hs]
  simp only [← hC] at hby hlc
  obtain ⟨SZ, hSZ⟩ : ∃ SZ, SZ = saltZ salt := ⟨_, rfl⟩
  rw [← hSZ] at hsp hsz hlc hxr
  obtain ⟨V, hV⟩ : ∃ V, V = SZ.getD 7 0 ^^^ UInt8.ofNat l := ⟨_, rfl⟩
  rw [← hV] at hlc hxr
  obtain ⟨v, hv⟩ : ∃ v : Int, v = (V.toNat : Int) := ⟨_, rfl⟩
  obtain ⟨y, hy⟩ : ∃ y : Int, y = ((SZ.getD 7 0).toNat : Int) := ⟨_, rfl⟩
  rw [← hv, ← hy] at hxr
  obtain ⟨M, hM⟩ : ∃ M, M = mst key salt := ⟨_, rfl⟩
  rw [← hM] at h0 h1 hb0 hmk hms ⊢
  have hZL : (cells Z16).length = 16 := by rw [length_cells, Z16_len]
  have hKL : (cells key).length = 16 := by rw [length_cells, hk]
  have HZL := Lib.hid hZL
  have HKL := Lib.hid hKL
  have HCL := Lib.hid hCl
  have HSP := Lib.hid hsp
  have HMK := Lib.hid hmk
  have HMS := Lib.hid hms
  have HBY := Lib.hid hby
  have HLC := Lib.hid hlc
  have HSZ := Lib.hid hsz
  have HS := Lib.hid hs
  have HV := Lib.hid hv
  have HY := Lib.hid hy
  clear hsp hmk hms hby hll hlc hsz hD hD2 hC hCl hSZ hV hv hy hM hZL hKL hs hk hn hN
  go_enter Try.func6, Try.ntmps6
  go_wp2
  go_still_tail 3, (by kernel_rfl)
  change wpList _ _ _ _ _ (World.drew _)
  have k0 := h0.drew
  have k1 := h1.drew
  have kb := hb0.drew
  generalize ((w.alloc (Obj.cells (cells M).toArray 25)).alloc (Obj.cells (cells Z16).toArray 22)).drew = w2 at *
  clear h0 h1 hb0
  have ks := k0.rdAt 16 14 14 HS.out (Nat.le_refl 14) (by simp [maxLen]) HMS.out
  go_wp2_with (first
    | ((with_reducible refine wpList_cp rfl (.tmp 8) (.tmp 10) rfl Try.underlying27 u8_inf (w.heap.size + 1) 0 16 16 22 (cells Z16) rfl k1.v (some ⟨w.heap.size, 16, none⟩) 14 14 salt rfl ks (by rw [HZL.out]; omega) 14 (by decide) (by omega) ?_); intro w3 hB3 ho3; rw [HSP.out] at hB3; have hB3' : Blk w3 (w.heap.size + 1) 22 SZ := hB3; have j0 := Blk.only k0 ho3 (by omega); have jb := kb.trans (ho3.below (by omega)); have hcell := hB3'.cell (j := 7) (by rw [HSZ.out]; omega); rw [← HY.out] at hcell; have hfr := hB3'.frozen 7; have hst := hB3'.set_ 7 V; rw [HLC.out, ← HV.out] at hst; have j0s := j0.far (p := ⟨w.heap.size + 1, 7, none⟩) (by simp) (.int .u8 v); have jbs := jb.setCell (p := ⟨w.heap.size + 1, 7, none⟩) (by simp) (.int .u8 v))
    | (with_reducible refine wpList_ld rfl 22 (.tmp 17) rfl w.heap.size 0 rfl (cells key) (j0s.v.range 0 _ HMK.out) (row16 HKL.out) ?_)
    | (with_reducible refine wpList_ld rfl 22 (.tmp 7) rfl (w.heap.size + 1) 0 rfl (cells C) (hst.v.range 0 _ (by simp)) (row16 HCL.out) ?_)
    | (go_at_call 11; ((with_reducible refine (HBY.out _).mono ?_); rintro e w4 ⟨A4, c4, rfl, hr4, hb4⟩)))
  go_ret
  exact ⟨A4, c4, rfl, hr4, jbs.trans (hb4.mono jbs.size)⟩
end Go.Proofs.Ytmfceenkndjjoaa
