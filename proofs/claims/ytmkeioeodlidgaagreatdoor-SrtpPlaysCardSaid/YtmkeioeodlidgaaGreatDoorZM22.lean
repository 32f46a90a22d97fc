/- Several texts in one: plain words and walks. No statement is proved here. -/
import Derived.Test.YtmkeioeodlidgaaGreatDoorZM13
import Derived.Test.YtmkeioeodlidgaaGreatDoorZM12
import Derived.Test.YtmkeioeodlidgaaGreatDoorZM21
import Derived.Test.YtmkeioeodlidgaaGreatDoorZM15
import Derived.Test.YtmkeioeodlidgaaGreatDoorZSrtpMap
import Derived.Test.YtmkeioeodlidgaaGreatDoorZM14
import Derived.Test.YtmkeioeodlidgaaGreatDoorZM4
namespace Go.Proofs.YtmkeioeodlidgaaGreatDoor
open List renaming getElem_toArray → xgT, getElem_cons_succ → xgS, getElem_cons_zero → xgZ, setIfInBounds_toArray → xsT, set_cons_succ → xsS, set_cons_zero → xsZ
open Go.RowKit
set_option linter.unusedVariables false

theorem mst_get (key salt : List UInt8) (i : Nat) (hk : key.length = 16) : (mst key salt).getD (16 + i) 0 = salt.getD i 0 := by
 rw [mst, getD_app_right _ _ _ (by omega), hk, show 16 + i - 16 = i by omega]
structure DEnv (w : World) (M C : List UInt8) (wr : World) : Prop where
 m : Blk wr w.heap.size 25 M
 c : Blk wr (w.heap.size + 1) 22 C
 b : Below w.heap.size w wr
theorem DEnv.below {w : World} {M C : List UInt8} {wr w' : World} (h : DEnv w M C wr) (hb : Below wr.heap.size wr w') : DEnv w M C w' := ⟨h.m.below hb h.m.lt, h.c.below hb h.c.lt, h.b.trans (hb.mono h.b.size)⟩

set_option maxRecDepth 100000 in
set_option maxHeartbeats 2000000 in
theorem rderive_any (key salt : List UInt8) (l : Nat) (n : Int) (N : Nat) (w : World) (hk : key.length = 16) (hs : salt.length = 14) (hl : l < 256) (hn : n ≤ 4096) (hN : N = n.toNat) :
 Calls Tryz.prog 45 #[.agg (cells (mst key salt)).toArray, .int .u8 (l : Int), .int .i64 n] w fun e w' => ∃ v, e = .returned v ∧ w'.ownsRow w.heap.size 5 1 v N (cells (drv key salt l N)) ∧ Below w.heap.size w w' := by
 have hz := zero16
 obtain ⟨hb0, h0, h1⟩ := key_boxes w (mst key salt)
 have hmk := mst_key key salt hk
 have hml := mst_len key salt hk hs
 have hmg : ∀ i, (mst key salt).getD (16 + i) 0 = salt.getD i 0 := fun i => mst_get key salt i hk
 have hll : (UInt8.ofNat l).toNat = l := by rw [UInt8.toNat_ofNat']; omega
 have hxr := xr8 ((saltZ salt).getD 7 0) (UInt8.ofNat l)
 rw [hll] at hxr
 have hlc : (saltZ salt).set 7 ((saltZ salt).getD 7 0 ^^^ UInt8.ofNat l) = labC salt l := rfl
 have hlcl := labC_len salt l hs
 have hrc := fun wx A c' (h : RdS wx A N c' (List.replicate N 0)) => rcipher_any key (labC salt l) A N c' (List.replicate N 0) wx hk hlcl h (by omega)
 simp only [cph_zeros] at hrc
 have hsf := salt_fill salt hs
 have hsz : (saltZ salt).length = 16 := saltZ_len _ hs
 obtain ⟨D, hD⟩ : ∃ D, D = drv key salt l N := ⟨_, rfl⟩
 have hDl : D.length = N := by rw [hD, drv_len]
 have hD2 : strm key (labC salt l) N = D := by rw [hD]; rfl
 simp only [hD2] at hrc
 rw [← hD]
 obtain ⟨C, hC⟩ : ∃ C, C = labC salt l := ⟨_, rfl⟩
 simp only [← hC] at hrc hlc hlcl
 obtain ⟨SZ, hSZ⟩ : ∃ SZ, SZ = saltZ salt := ⟨_, rfl⟩
 rw [← hSZ] at hsf hsz hlc hxr
 obtain ⟨V, hV⟩ : ∃ V, V = SZ.getD 7 0 ^^^ UInt8.ofNat l := ⟨_, rfl⟩
 rw [← hV] at hlc hxr
 obtain ⟨v, hv⟩ : ∃ v : Int, v = (V.toNat : Int) := ⟨_, rfl⟩
 obtain ⟨y, hy⟩ : ∃ y : Int, y = ((SZ.getD 7 0).toNat : Int) := ⟨_, rfl⟩
 rw [← hv, ← hy] at hxr
 obtain ⟨M, hM⟩ : ∃ M, M = mst key salt := ⟨_, rfl⟩
 simp only [← hM] at h0 h1 hb0 hmk hml hmg ⊢
 obtain ⟨f0, hf0⟩ : ∃ f : Nat → UInt8, f = fun i => salt.getD i 0 := ⟨_, rfl⟩
 rw [← hf0] at hsf
 have hx0 : ∀ i, M.getD (16 + i) 0 = f0 i := fun i => by rw [hmg, hf0]
 have hZL : (cells Z16).length = 16 := by rw [length_cells, Z16_len]
 have hKL : (cells key).length = 16 := by rw [length_cells, hk]
 have hCL : (cells C).length = 16 := by rw [length_cells, hlcl]
 have HZL := Lib.hid hZL
 have HKL := Lib.hid hKL
 have HCL := Lib.hid hCL
 have HMK := Lib.hid hmk
 have HML := Lib.hid hml
 have HRC := Lib.hid hrc
 have HLC := Lib.hid hlc
 have HSZ := Lib.hid hsz
 have HSF := Lib.hid hsf
 have HX0 := Lib.hid hx0
 have HV := Lib.hid hv
 have HY := Lib.hid hy
 have HN := Lib.hid hN
 have HNn := Lib.hid hn
 have HDL := Lib.hid hDl
 clear hmk hml hmg hll hlc hlcl hrc hsf hsz hD hDl hD2 hC hSZ hV hv hy hM hf0 hx0 hZL hKL hCL hs hk hl hN hn
 have hE0 : DEnv w M (fillAt f0 Z16 0) ((w.alloc (Obj.cells (cells M).toArray 25)).alloc (Obj.cells (cells Z16).toArray 22)) := ⟨h0, by rw [fillAt_zero]; exact h1, hb0⟩
 clear h0 h1 hb0
 go_enter Tryz.func45, Tryz.ntmps45
 go_wp2
 go_loopw [8] (fun vi wr => ∃ i : Nat, i ≤ 14 ∧ vi = .int .i64 i ∧ DEnv w M (fillAt f0 Z16 i) wr) (fun i _ => 14 - (intOf i).toNat)
 case atStart => exact ⟨0, by omega, rfl, hE0⟩
 case round =>
  clear hE0
  obtain ⟨i, hi, rfl, hE⟩ := hrel
  by_cases hlt : i < 14
  · have hcs := hE.m.cell (j := 16 + i) (by rw [HML.out]; omega)
    rw [HX0.out i] at hcs
    have hcell := hE.c.cell (j := i) (by rw [fillAt_len _ _ _ (by rw [Z16_len]; omega), Z16_len]; omega)
    have hfr := hE.c.frozen i
    have hst := hE.c.set_ i (f0 i)
    rw [fillAt_step _ _ _ (by rw [Z16_len]; omega)] at hst
    have ho := Only.set wr (w.heap.size + 1) i (.int .u8 ((f0 i).toNat : Int))
    have hE2 : DEnv w M (fillAt f0 Z16 (i + 1)) (wr.setCell ⟨w.heap.size + 1, i, none⟩ (.int .u8 ((f0 i).toNat : Int))) := ⟨Blk.only hE.m ho (by omega), hst, hE.b.trans (ho.below (by omega))⟩
    obtain ⟨a, ha⟩ : ∃ a : Int, a = ((f0 i).toNat : Int) := ⟨_, rfl⟩
    obtain ⟨y2, hy2⟩ : ∃ y : Int, y = (((fillAt f0 Z16 i).getD i 0).toNat : Int) := ⟨_, rfl⟩
    rw [← ha] at hcs hE2
    rw [← hy2] at hcell
    clear ha hy2 hst ho hE
    go_wp2
    go_roundw
    case rel => exact ⟨i + 1, by omega, by go_num, hE2⟩
    case measure => simp [intOf]; omega
  · obtain rfl : i = 14 := by omega
    rw [HSF.out] at hE
    have hcell := hE.c.cell (j := 7) (by rw [HSZ.out]; omega)
    rw [← HY.out] at hcell
    have hfr := hE.c.frozen 7
    have hst := hE.c.set_ 7 V
    rw [HLC.out] at hst
    have ho := Only.set wr (w.heap.size + 1) 7 (.int .u8 (V.toNat : Int))
    have hE2 : DEnv w M C (wr.setCell ⟨w.heap.size + 1, 7, none⟩ (.int .u8 (V.toNat : Int))) := ⟨Blk.only hE.m ho (by omega), hst, hE.b.trans (ho.below (by omega))⟩
    rw [← HV.out] at hE2
    clear hst ho hE
    by_cases hn1 : n < 1
    · have hN0 : N = 0 := by have := HN.out; omega
      have hD0 : D = [] := List.eq_nil_of_length_eq_zero (by rw [HDL.out, hN0])
      subst hN0
      subst hD0
      go_wp2
      go_ret
      exact ⟨_, rfl, World.ownsRow_nil _ _ _ _, hE2.b⟩
    · obtain rfl : n = (N : Int) := by have := HN.out; omega
      have hmk := run_makeB (P := Tryz.prog) Tryz.underlying35 u8_inf .i64 .i64 (N : Int) (N : Int) N rfl rfl (by have := HNn.out; omega)
      have hzr : ∀ wx : World, RdS (wx.alloc (.cells (cells (List.replicate N 0)).toArray 5)) (some ⟨wx.heap.size, 0, none⟩) N N (List.replicate N 0) := fun wx => (Blk.new wx _ _).rd (by simp) (Nat.le_refl _) (by simp only [maxLen]; have := HNn.out; omega)
      have HZR := Lib.hid hzr
      have hs2 := hE2.b.size
      clear hzr
      go_wp2
      refine wp_region_noPanic ?_
      refine wp_region_held (S := DEnv w M C) (by kernel_rfl) ?_
      change wpAnyH _ _ _ _ _ _ _ _ (World.drew _)
      have hS : DEnv w M C (wr.setCell ⟨w.heap.size + 1, 7, none⟩ (.int .u8 v)).drew := hE2.below ((Below.refl _ _).drew)
      clear hE2 hcell hfr hs2
      generalize (wr.setCell ⟨w.heap.size + 1, 7, none⟩ (.int .u8 v)).drew = w2 at *
      refine wpAnyH_take (i := 0) (v := ?_) rfl (by kernel_rfl) (by kernel_rfl) (by kernel_rfl) (fun _ _ _ h => h) (Or.inl ⟨by rfl, ?_⟩) hS ?_
      case refine_2 => (intro wz hz; go_simp; with_reducible rfl)
      simp only [Act.put, xgT, xgZ, xsT, xsS, xsZ]
      refine wpAnyH_take (i := 1) (v := .agg (cells key).toArray) rfl (by kernel_rfl) (by kernel_rfl) (by kernel_rfl) (fun _ _ _ h => h) (Or.inl ⟨by rfl, fun wz hz => ?_⟩) hS ?_
      · exact run_ld 22 _ rfl w.heap.size 0 (by rfl) (cells key) (hz.m.v.range 0 _ HMK.out) (row16 HKL.out)
      simp only [Act.put, xgT, xgS, xgZ, xsT, xsS, xsZ]
      refine wpAnyH_take (i := 2) (v := .agg (cells C).toArray) rfl (by kernel_rfl) (by kernel_rfl) (by kernel_rfl) (fun _ _ _ h => h) (Or.inl ⟨by rfl, fun wz hz => ?_⟩) hS ?_
      · exact run_ld 22 _ rfl (w.heap.size + 1) 0 (by rfl) (cells C) (hz.c.v.range 0 _ (by simp)) (row16 HCL.out)
      simp only [Act.put, xgT, xgS, xgZ, xsT, xsS, xsZ]
      refine wpAnyH_take (i := 3) (v := ?_) rfl (by kernel_rfl) (by kernel_rfl) (by kernel_rfl) (fun _ _ _ h => h) (Or.inl ⟨by rfl, ?_⟩) hS ?_
      case refine_2 => (intro wz hz; go_simp; with_reducible rfl)
      simp only [Act.put, xgT, xgS, xgZ, xsT, xsS, xsZ]
      refine anyH_one (i := 4) (by kernel_rfl) rfl rfl (fun H hH => ?_)
      simp only [xgT, xgS, xgZ]
      go_simp
      have hbq := (Below.refl w2.heap.size w2).alloc (Nat.le_refl _) (.cells (cells (List.replicate N 0)).toArray 5)
      have hS2 := hS.below hbq
      have hz3 := HZR.out w2
      refine hH _ _ hS2 ?_
      clear hH H hbq hS
      generalize w2.alloc (.cells (cells (List.replicate N 0)).toArray 5) = w3 at *
      refine anyH_one (i := 5) (by kernel_rfl) rfl rfl (fun H hH => ?_)
      simp only [xgT, xgS, xgZ]
      go_simp
      refine (HRC.out w3 _ _ hz3).mono ?_
      rintro e w4 ⟨v4, rfl, hown4, hb4⟩
      have hS4 := hS2.below hb4
      have hw3 := hS2.b.size
      refine hH _ _ hS4 ?_
      clear hH H hb4 hS2
      refine wpAnyH_take (i := 6) (v := ?_) rfl (by kernel_rfl) (by kernel_rfl) (by kernel_rfl) (fun _ _ _ h => h) (Or.inl ⟨by rfl, ?_⟩) hS4 ?_
      case refine_2 => (intro wz hz; go_simp; with_reducible rfl)
      simp only [Act.put, xgT, xgS, xgZ, xsT, xsS, xsZ]
      refine wpAnyH_done (by kernel_rfl) ?_ _
      refine NoPanic.normal ?_
      go_wp2
      go_ret
      exact ⟨v4, rfl, own_lower hown4 hw3, hS4.b⟩
structure XEnv (w : World) (M L : List UInt8) (wr : World) : Prop where
 m : Blk wr w.heap.size 25 M
 r : Blk wr (w.heap.size + 1) 49 Z50
 k : Blk wr (w.heap.size + 1 + 1) 49 L
 b : Below w.heap.size w wr
theorem XEnv.below {w : World} {M L : List UInt8} {wr w' : World} (h : XEnv w M L wr) (hb : Below wr.heap.size wr w') : XEnv w M L w' := ⟨h.m.below hb h.m.lt, h.r.below hb h.r.lt, h.k.below hb h.k.lt, h.b.trans (hb.mono h.b.size)⟩
theorem xenv_start (w : World) (M : List UInt8) : XEnv w M Z50 (((w.alloc (Obj.cells (cells M).toArray 25)).alloc (Obj.cells (cells Z50).toArray 49)).alloc (Obj.cells (cells Z50).toArray 49)) :=
 ⟨((Blk.new _ _ _).alloc _).alloc _, (Blk.new_at _ _ _ _ _ (by simp) rfl).alloc _, Blk.new_at _ _ _ _ _ (by simp) rfl, (((Below.refl _ _).alloc (Nat.le_refl _) _).alloc (by simp) _).alloc (by simp; omega) _⟩
structure TEnv (w : World) (G gA gB gC : Nat) (a b c L : List UInt8) (wr : World) : Prop where
 r : Blk wr (w.heap.size + 1) 49 Z50
 k : Blk wr G 49 L
 A : ∀ j, j < 16 → wr.cell? ⟨gA, j, none⟩ = some (.int .u8 ((a.getD j 0).toNat : Int))
 B : ∀ j, j < 20 → wr.cell? ⟨gB, j, none⟩ = some (.int .u8 ((b.getD j 0).toNat : Int))
 C : ∀ j, j < 14 → wr.cell? ⟨gC, j, none⟩ = some (.int .u8 ((c.getD j 0).toNat : Int))
 b : Below w.heap.size w wr
 nG : w.heap.size + 1 < G
 nA : G < gA
 nB : G < gB
 nC : G < gC
theorem TEnv.put {w : World} {G gA gB gC : Nat} {a b c L : List UInt8} {wr : World} (h : TEnv w G gA gB gC a b c L wr) (j : Nat) (v : UInt8) : TEnv w G gA gB gC a b c (L.set j v) (wr.setCell ⟨G, j, none⟩ (.int .u8 (v.toNat : Int))) := by
 have ho := Only.set wr G j (.int .u8 (v.toNat : Int))
 have h1 := h.nG; have h2 := h.nA; have h3 := h.nB; have h4 := h.nC
 exact ⟨Blk.only h.r ho (by omega), h.k.set_ j v, cells_only h.A ho (by omega), cells_only h.B ho (by omega), cells_only h.C ho (by omega), h.b.trans (ho.below (by omega)), h1, h2, h3, h4⟩

set_option maxRecDepth 100000 in
set_option maxHeartbeats 4000000 in
theorem rkeys_any (key salt : List UInt8) (f : Nat) (fi : Int) (w : World) (hk : key.length = 16) (hs : salt.length = 14) (hf : f < 250) (hfi : fi = (f : Int)) :
 Calls Tryz.prog 20 #[.agg (cells (mst key salt)).toArray, .int .u8 fi] w fun e w' => e = .returned (.agg (cells (kys key salt f)).toArray) ∧ Below w.heap.size w w' := by
 have hz := zero50
 have hE0 := xenv_start w (mst key salt)
 have hml := mst_len key salt hk hs
 have w1 : IntKind.u8.wrap (fi + 1) = ((f + 1 : Nat) : Int) := by rw [IntKind.wrap_u8]; omega
 have w2 : IntKind.u8.wrap (fi + 2) = ((f + 2 : Nat) : Int) := by rw [IntKind.wrap_u8]; omega
 have hda : ∀ wx : World, Calls Tryz.prog 45 #[.agg (cells (mst key salt)).toArray, .int .u8 fi, .int .i64 16] wx fun e w' => ∃ v, e = .returned v ∧ w'.ownsRow wx.heap.size 5 1 v 16 (cells (drv key salt f 16)) ∧ Below wx.heap.size wx w' := fun wx => by
  rw [hfi]; exact rderive_any key salt f 16 16 wx hk hs (by omega) (by omega) rfl
 have hdb : ∀ (wx : World) (L : Int), L = ((f + 1 : Nat) : Int) → Calls Tryz.prog 45 #[.agg (cells (mst key salt)).toArray, .int .u8 L, .int .i64 20] wx fun e w' => ∃ v, e = .returned v ∧ w'.ownsRow wx.heap.size 5 1 v 20 (cells (drv key salt (f + 1) 20)) ∧ Below wx.heap.size wx w' := fun wx L hL => by
  rw [hL]; exact rderive_any key salt (f + 1) 20 20 wx hk hs (by omega) (by omega) rfl
 have hdc : ∀ (wx : World) (L : Int), L = ((f + 2 : Nat) : Int) → Calls Tryz.prog 45 #[.agg (cells (mst key salt)).toArray, .int .u8 L, .int .i64 14] wx fun e w' => ∃ v, e = .returned v ∧ w'.ownsRow wx.heap.size 5 1 v 14 (cells (drv key salt (f + 2) 14)) ∧ Below wx.heap.size wx w' := fun wx L hL => by
  rw [hL]; exact rderive_any key salt (f + 2) 14 14 wx hk hs (by omega) (by omega) rfl
 obtain ⟨l1, hl1⟩ : ∃ l : Int, l = ((f + 1 : Nat) : Int) := ⟨_, rfl⟩
 obtain ⟨l2, hl2⟩ : ∃ l : Int, l = ((f + 2 : Nat) : Int) := ⟨_, rfl⟩
 have hdb1 := fun wx => hdb wx l1 hl1
 have hdc1 := fun wx => hdc wx l2 hl2
 rw [← hl1] at w1
 rw [← hl2] at w2
 clear hdb hdc
 obtain ⟨a, ha⟩ : ∃ a, a = drv key salt f 16 := ⟨_, rfl⟩
 obtain ⟨b, hb⟩ : ∃ b, b = drv key salt (f + 1) 20 := ⟨_, rfl⟩
 obtain ⟨c, hc⟩ : ∃ c, c = drv key salt (f + 2) 14 := ⟨_, rfl⟩
 have la : a.length = 16 := by rw [ha, drv_len]
 have lb : b.length = 20 := by rw [hb, drv_len]
 have lc : c.length = 14 := by rw [hc, drv_len]
 have hall : trioR a b c 16 20 14 = kys key salt f := by rw [trioR_all a b c la lb lc, ha, hb, hc]; rfl
 simp only [← ha] at hda
 simp only [← hb] at hdb1
 simp only [← hc] at hdc1
 have hkl := kys_len key salt f
 obtain ⟨K, hK⟩ : ∃ K, K = kys key salt f := ⟨_, rfl⟩
 rw [← hK] at hall hkl ⊢
 obtain ⟨M, hM⟩ : ∃ M, M = mst key salt := ⟨_, rfl⟩
 simp only [← hM] at hda hdb1 hdc1 hE0 hml ⊢
 have hML : (cells M).length = 30 := by rw [length_cells, hml]
 have hKL : (cells K).length = 50 := by rw [length_cells, hkl]
 have hZL : (cells Z50).length = 50 := by rw [length_cells, Z50_len]
 have HML := Lib.hid hML
 have HKL := Lib.hid hKL
 have HZL := Lib.hid hZL
 have HDA := Lib.hid hda
 have HDB := Lib.hid hdb1
 have HDC := Lib.hid hdc1
 have HALL := Lib.hid hall
 clear hda hdb1 hdc1 hl1 hl2 ha hb hc la lb lc hall hkl hK hM hml hML hKL hZL hk hs hf hfi
 go_enter Tryz.func20, Tryz.ntmps20
 go_wp2
 refine wp_region_noPanic ?_
 refine wp_region_held (S := XEnv w M Z50) (by kernel_rfl) ?_
 change wpAnyH _ _ _ _ _ _ _ _ (World.drew _)
 have hS : XEnv w M Z50 (((w.alloc (Obj.cells (cells M).toArray 25)).alloc (Obj.cells (cells Z50).toArray 49)).alloc (Obj.cells (cells Z50).toArray 49)).drew := hE0.below ((Below.refl _ _).drew)
 clear hE0
 generalize (((w.alloc (Obj.cells (cells M).toArray 25)).alloc (Obj.cells (cells Z50).toArray 49)).alloc (Obj.cells (cells Z50).toArray 49)).drew = x0 at *
 refine wpAnyH_take (i := 0) (v := .agg (cells M).toArray) rfl (by kernel_rfl) (by kernel_rfl) (by kernel_rfl) (fun _ _ _ h => h) (Or.inl ⟨by rfl, fun wz hz => ?_⟩) hS ?_
 · exact run_ld 25 _ rfl w.heap.size 0 (by rfl) (cells M) (hz.m.v.range 0 _ (by simp)) (row30 HML.out)
 simp only [Act.put, xgT, xgZ, xsT, xsS, xsZ]
 refine wpAnyH_take (i := 1) (v := ?_) rfl (by kernel_rfl) (by kernel_rfl) (by kernel_rfl) (fun _ _ _ h => h) (Or.inl ⟨by rfl, ?_⟩) hS ?_
 case refine_2 => (intro wz hz; go_simp; with_reducible rfl)
 simp only [Act.put, xgT, xgS, xgZ, xsT, xsS, xsZ]
 refine wpAnyH_take (i := 3) (v := .agg (cells M).toArray) rfl (by kernel_rfl) (by kernel_rfl) (by kernel_rfl) (fun _ _ _ h => h) (Or.inl ⟨by rfl, fun wz hz => ?_⟩) hS ?_
 · exact run_ld 25 _ rfl w.heap.size 0 (by rfl) (cells M) (hz.m.v.range 0 _ (by simp)) (row30 HML.out)
 simp only [Act.put, xgT, xgS, xgZ, xsT, xsS, xsZ]
 refine wpAnyH_take (i := 4) (v := ?_) rfl (by kernel_rfl) (by kernel_rfl) (by kernel_rfl) (fun _ _ _ h => h) (Or.inl ⟨by rfl, ?_⟩) hS ?_
 case refine_2 => (intro wz hz; go_simp; with_reducible rfl)
 simp only [Act.put, xgT, xgS, xgZ, xsT, xsS, xsZ]
 refine wpAnyH_take (i := 5) (v := ?_) rfl (by kernel_rfl) (by kernel_rfl) (by kernel_rfl) (fun _ _ _ h => h) (Or.inl ⟨by rfl, ?_⟩) hS ?_
 case refine_2 => (intro wz hz; go_simp; with_reducible rfl)
 simp only [Act.put, xgT, xgS, xgZ, xsT, xsS, xsZ]
 refine wpAnyH_take (i := 7) (v := .agg (cells M).toArray) rfl (by kernel_rfl) (by kernel_rfl) (by kernel_rfl) (fun _ _ _ h => h) (Or.inl ⟨by rfl, fun wz hz => ?_⟩) hS ?_
 · exact run_ld 25 _ rfl w.heap.size 0 (by rfl) (cells M) (hz.m.v.range 0 _ (by simp)) (row30 HML.out)
 simp only [Act.put, xgT, xgS, xgZ, xsT, xsS, xsZ]
 refine wpAnyH_take (i := 8) (v := ?_) rfl (by kernel_rfl) (by kernel_rfl) (by kernel_rfl) (fun _ _ _ h => h) (Or.inl ⟨by rfl, ?_⟩) hS ?_
 case refine_2 => (intro wz hz; go_simp; with_reducible rfl)
 simp only [Act.put, xgT, xgS, xgZ, xsT, xsS, xsZ]
 refine wpAnyH_take (i := 9) (v := ?_) rfl (by kernel_rfl) (by kernel_rfl) (by kernel_rfl) (fun _ _ _ h => h) (Or.inl ⟨by rfl, ?_⟩) hS ?_
 case refine_2 => (intro wz hz; go_simp; with_reducible rfl)
 simp only [Act.put, xgT, xgS, xgZ, xsT, xsS, xsZ]
 refine anyH_one (i := 2) (by kernel_rfl) rfl rfl (fun H hH => ?_)
 simp only [xgT, xgS, xgZ]
 go_simp
 refine (HDA.out x0).mono ?_
 rintro e x1 ⟨v1, rfl, hown1, hb1⟩
 have hS1 := hS.below hb1
 have hz0 := hS.k.lt
 refine hH _ _ hS1 ?_
 clear hH H hb1 hS
 refine anyH_one (i := 6) (by kernel_rfl) rfl rfl (fun H hH => ?_)
 simp only [xgT, xgS, xgZ]
 go_simp
 refine (HDB.out x1).mono ?_
 rintro e x2 ⟨v2, rfl, hown2, hb2⟩
 have hS2 := hS1.below hb2
 have hown12 := own_below hown1 hb2
 have hz1 := hS1.k.lt
 refine hH _ _ hS2 ?_
 clear hH H hb2 hS1 hown1
 refine anyH_one (i := 10) (by kernel_rfl) rfl rfl (fun H hH => ?_)
 simp only [xgT, xgS, xgZ]
 go_simp
 refine (HDC.out x2).mono ?_
 rintro e x3 ⟨v3, rfl, hown3, hb3⟩
 have hS3 := hS2.below hb3
 have hown13 := own_below hown12 hb3
 have hown23 := own_below hown2 hb3
 have hz2 := hS2.k.lt
 refine hH _ _ hS3 ?_
 clear hH H hb3 hS2 hown12 hown2
 refine wpAnyH_take (i := 11) (v := ?_) rfl (by kernel_rfl) (by kernel_rfl) (by kernel_rfl) (fun _ _ _ h => h) (Or.inl ⟨by rfl, ?_⟩) hS3 ?_
 case refine_2 => (intro wz hz; go_simp; with_reducible rfl)
 simp only [Act.put, xgT, xgS, xgZ, xsT, xsS, xsZ]
 refine wpAnyH_take (i := 12) (v := ?_) rfl (by kernel_rfl) (by kernel_rfl) (by kernel_rfl) (fun _ _ _ h => h) (Or.inl ⟨by rfl, ?_⟩) hS3 ?_
 case refine_2 => (intro wz hz; go_simp; with_reducible rfl)
 simp only [Act.put, xgT, xgS, xgZ, xsT, xsS, xsZ]
 refine wpAnyH_take (i := 13) (v := ?_) rfl (by kernel_rfl) (by kernel_rfl) (by kernel_rfl) (fun _ _ _ h => h) (Or.inl ⟨by rfl, ?_⟩) hS3 ?_
 case refine_2 => (intro wz hz; go_simp; with_reducible rfl)
 simp only [Act.put, xgT, xgS, xgZ, xsT, xsS, xsZ]
 refine wpAnyH_done (by kernel_rfl) ?_ _
 refine NoPanic.normal ?_
 obtain ⟨gA, cA, rfl, hgA, _, kA⟩ := own_rows hown13 (by omega)
 obtain ⟨gB, cB, rfl, hgB, _, kB⟩ := own_rows hown23 (by omega)
 obtain ⟨gC, cC, rfl, hgC, _, kC⟩ := own_rows hown3 (by omega)
 obtain ⟨G, hG⟩ : ∃ G, G = w.heap.size + 1 + 1 := ⟨_, rfl⟩
 have hE : TEnv w G gA gB gC a b c (trioR a b c 0 0 0) x3 := ⟨hS3.r, by rw [trioR_zero, hG]; exact hS3.k, kA, kB, kC, hS3.b, by omega, by omega, by omega, by omega⟩
 rw [← hG]
 clear hS3 hown13 hown23 hown3 kA kB kC hgA hgB hgC hz0 hz1 hz2 hG HDA HDB HDC w1 w2
 go_wp2
 go_loopw [9] (fun vi wr => ∃ i x z : Nat, Hid (x = min i 16 ∧ z = min i 14) ∧ i ≤ 20 ∧ vi = .int .i64 i ∧ TEnv w G gA gB gC a b c (trioR a b c x i z) wr) (fun i _ => 20 - (intOf i).toNat)
 case atStart => exact ⟨0, 0, 0, Lib.hid ⟨rfl, rfl⟩, by omega, rfl, hE⟩
 case round =>
  clear hE
  obtain ⟨i, x, z, HXZ, hi, rfl, hE⟩ := hrel
  by_cases hlt : i < 20
  · have hlen : ∀ L : List UInt8, L.length = 50 → ∀ (wr : World) (j : Nat), TEnv w G gA gB gC a b c L wr → j < 50 → ∃ y : Int, wr.cell? ⟨G, j, none⟩ = some (.int .u8 y) := fun L hL wr j h hj => ⟨_, h.k.cell (by rw [hL]; exact hj)⟩
    by_cases h14 : i < 14
    · have hxi : x = i := by have := HXZ.out; omega
      subst hxi
      have hzx : z = x := by have := HXZ.out; omega
      subst hzx
      have e1 := hE.put z (a.getD z 0)
      rw [trioR_x a b c z z z (by omega)] at e1
      have e2 := e1.put (36 + z) (c.getD z 0)
      rw [trioR_z a b c (z + 1) z z h14] at e2
      have e3 := e2.put (16 + z) (b.getD z 0)
      rw [trioR_y a b c (z + 1) z (z + 1) (by omega)] at e3
      have sA := hE.A z (by omega)
      have sC := e1.C z (by omega)
      have sB := e2.B z (by omega)
      obtain ⟨y1, d1⟩ := hlen _ (trioR_len _ _ _ _ _ _) _ z hE (by omega)
      obtain ⟨y2, d2⟩ := hlen _ (trioR_len _ _ _ _ _ _) _ (36 + z) e1 (by omega)
      obtain ⟨y3, d3⟩ := hlen _ (trioR_len _ _ _ _ _ _) _ (16 + z) e2 (by omega)
      have q1 := hE.k.frozen z
      have q2 := e1.k.frozen (36 + z)
      have q3 := e2.k.frozen (16 + z)
      obtain ⟨va, hva⟩ : ∃ v : Int, v = ((a.getD z 0).toNat : Int) := ⟨_, rfl⟩
      obtain ⟨vb, hvb⟩ : ∃ v : Int, v = ((b.getD z 0).toNat : Int) := ⟨_, rfl⟩
      obtain ⟨vc, hvc⟩ : ∃ v : Int, v = ((c.getD z 0).toNat : Int) := ⟨_, rfl⟩
      rw [← hva] at sA
      simp only [← hva, ← hvb, ← hvc] at e3 sB sC d2 d3 q2 q3
      clear hva hvb hvc e1 e2 hE hlen
      go_wp2
      go_roundw
      case rel => exact ⟨z + 1, z + 1, z + 1, Lib.hid (by omega), by omega, by go_num, e3⟩
      case measure => simp [intOf]; omega
    · obtain rfl : z = 14 := by have := HXZ.out; omega
      by_cases h16 : i < 16
      · have hxi : x = i := by have := HXZ.out; omega
        subst hxi
        have e1 := hE.put x (a.getD x 0)
        rw [trioR_x a b c x x 14 (by omega)] at e1
        have e3 := e1.put (16 + x) (b.getD x 0)
        rw [trioR_y a b c (x + 1) x 14 (by omega)] at e3
        have sA := hE.A x (by omega)
        have sB := e1.B x (by omega)
        obtain ⟨y1, d1⟩ := hlen _ (trioR_len _ _ _ _ _ _) _ x hE (by omega)
        obtain ⟨y3, d3⟩ := hlen _ (trioR_len _ _ _ _ _ _) _ (16 + x) e1 (by omega)
        have q1 := hE.k.frozen x
        have q3 := e1.k.frozen (16 + x)
        obtain ⟨va, hva⟩ : ∃ v : Int, v = ((a.getD x 0).toNat : Int) := ⟨_, rfl⟩
        obtain ⟨vb, hvb⟩ : ∃ v : Int, v = ((b.getD x 0).toNat : Int) := ⟨_, rfl⟩
        rw [← hva] at sA
        simp only [← hva, ← hvb] at e3 sB d3 q3
        clear hva hvb e1 hE hlen
        go_wp2
        go_roundw
        case rel => exact ⟨x + 1, x + 1, 14, Lib.hid (by omega), by omega, by go_num, e3⟩
        case measure => simp [intOf]; omega
      · obtain rfl : x = 16 := by have := HXZ.out; omega
        have e3 := hE.put (16 + i) (b.getD i 0)
        rw [trioR_y a b c 16 i 14 (by omega)] at e3
        have sB := hE.B i (by omega)
        obtain ⟨y3, d3⟩ := hlen _ (trioR_len _ _ _ _ _ _) _ (16 + i) hE (by omega)
        have q3 := hE.k.frozen (16 + i)
        obtain ⟨vb, hvb⟩ : ∃ v : Int, v = ((b.getD i 0).toNat : Int) := ⟨_, rfl⟩
        rw [← hvb] at sB
        simp only [← hvb] at e3
        clear hvb hE hlen
        go_wp2
        go_roundw
        case rel => exact ⟨i + 1, 16, 14, Lib.hid (by omega), by omega, by go_num, e3⟩
        case measure => simp [intOf]; omega
  · obtain rfl : i = 20 := by omega
    obtain rfl : x = 16 := by have := HXZ.out; omega
    obtain rfl : z = 14 := by have := HXZ.out; omega
    rw [HALL.out] at hE
    have hk5 := hE.k
    have hr4 := hE.r
    have hnG := hE.nG
    have hbb := hE.b
    clear hE
    go_wp2_with (first
     | (with_reducible refine wpList_ld rfl 49 (.tmp 5) rfl G 0 rfl (cells K) (hk5.v.range 0 _ (by simp)) (row50 HKL.out) ?_)
     | ((with_reducible refine wpList_st rfl 49 (.tmp 4) (.tmp 50) rfl (w.heap.size + 1) 0 (cells K) rfl rfl 49 _ hr4.v (by rw [HKL.out, HZL.out]; omega) (row50 HKL.out) (cells_one _) ?_); intro x4 hB4 ho4; rw [splice_all _ _ (by rw [HKL.out, HZL.out])] at hB4))
    exact ret_row (by rfl) (by rfl) hB4 (row50 HKL.out) (by rfl) ⟨rfl, hbb.trans (ho4.below (by omega))⟩
section
variable {P : Program} {w : World} {ops : Array Oper} {rest : List Oper} {op : Oper} {a : Act} {Q : Exit → Act → World → Prop}
theorem wpList_built2y (hgd : op.guard = none) (t : TypeId) (i j : Nat) (x y : Operand) (ho : op.op = .build t #[(i, x), (j, y)]) (u u2 v : Value) (hx : a.eval x = u) (hy : a.eval y = u2) (hr : (Instr.build t #[(i, u), (j, u2)]).run P w = .ok v w)
 (hK : wpList P ops Q rest (a.put op.dst v) w) : wpList P ops Q (op :: rest) a w := by
 refine wpList_plain hgd fun K hK2 => ?_
 unfold Oper.wp execOp
 simp only [ho, List.map_toArray, List.map_cons, List.map_nil, hx, hy, Sem.run_bind, hr, Result.andThen_ok, Sem.run_pure]
 exact hK2 _ _ hK
end
theorem highW_at {ws : List (Nat × List Int)} {x i : Nat} (h : atW ws x = some i) : highW ws x = hiL (ws.getD i (0, [])).2 := by
 unfold highW
 rw [(atW_some h).2.2]
theorem highW_not {ws : List (Nat × List Int)} {x : Nat} (h : atW ws x = none) : highW ws x = -1 := by
 unfold highW
 rw [(atW_none h).1]
theorem RWay.ptr {w : World} {g : Nat} {y : Wy} {nm ww : Value} {r : Nat → Nat} {v : Nat → Value} (h : RWay w g y nm ww r v) {i : Nat} (hi : i < y.ws.length) :
 ∃ b c, ww = .slice (some ⟨b, 0, none⟩) y.ws.length c ∧ w.cell? ⟨b, i, none⟩ = some (.pointer (some ⟨r i, 0, none⟩)) := by
 obtain ⟨b, c, hv, _, _⟩ := h.p.form (by omega)
 subst hv
 exact ⟨b, c, rfl, (h.p.cellAt i (by omega)).trans (ptC_at hi)⟩
theorem rhigh15_any (g : Nat) (y : Wy) (nm ww : Value) (r : Nat → Nat) (v : Nat → Value) (x : Nat) (w : World) (h : RWay w g y nm ww r v) (hg : y.good) (hx : x < 4294967296) :
 Calls Tryz.prog 17 #[.pointer (some ⟨g, 0, none⟩), .int .u32 (x : Int)] w fun e w' => e = .returned (.int .i64 (highW y.ws x)) ∧ w = w' := by
 have HA := Lib.hid (rat15_any g y nm ww r v x w h hg.1 hx)
 match ha : atW y.ws x with
 | none =>
   rw [highW_not ha]
   have e : atI y.ws x = -1 := by unfold atI; rw [ha]
   rw [e] at HA
   clear h hg ha e
   go_enter Tryz.func17, Tryz.ntmps17
   go_wp2_with (go_at_call 35; ((with_reducible refine (Hid.out HA).mono ?_); rintro e w' ⟨rfl, rfl⟩))
   go_ret
   exact ⟨rfl, rfl⟩
 | some i =>
   obtain ⟨hi, _, _⟩ := atW_some ha
   rw [highW_at ha]
   have e : atI y.ws x = (i : Int) := by unfold atI; rw [ha]
   rw [e] at HA
   obtain ⟨_, h9, _, _⟩ := hg.at_ hi
   have HH := Lib.hid (rhigh_any 0 (r i) _ w (h.wins i hi).rw (by omega))
   obtain ⟨b, c, hv, hcp⟩ := h.ptr hi
   subst hv
   have hc := (h.cells_ hg.1).2.2.2
   have hn8 := hg.1.2.2.2.2.2.1
   obtain ⟨n, hn⟩ : ∃ n, n = y.ws.length := ⟨_, rfl⟩
   rw [← hn] at hc hi hn8
   obtain ⟨R, hR⟩ : ∃ R, R = hiL (y.ws.getD i (0, [])).2 := ⟨_, rfl⟩
   rw [← hR] at HH ⊢
   have hii : (i : Int) < (n : Int) := by omega
   have hi0 : ¬ (i : Int) < 0 := by omega
   clear h hg ha e h9 hn hR
   go_enter Tryz.func17, Tryz.ntmps17
   go_wp2_with (first
    | (go_at_call 35; ((with_reducible refine (Hid.out HA).mono ?_); rintro e w' ⟨rfl, rfl⟩))
    | (go_at_call 41; ((with_reducible refine (Hid.out HH).mono ?_); rintro e w' ⟨rfl, rfl⟩)))
   go_ret
   exact ⟨rfl, rfl⟩
def newY (key salt : List UInt8) (limit : Int) : Wy := ⟨drv key salt 0 16, drv key salt 1 20, drv key salt 2 14, limit, 0, []⟩
theorem newY_ks (key salt : List UInt8) (limit : Int) : (newY key salt limit).ks = kys key salt 0 := rfl
theorem newY_good (key salt : List UInt8) (limit : Int) (h : -9223372036854775808 ≤ limit ∧ limit ≤ 9223372036854775807) : (newY key salt limit).good :=
 ⟨⟨drv_len _ _ _ _, drv_len _ _ _ _, drv_len _ _ _ _, h, Int.le_refl _, by simp [newY], fun x hx => nomatch hx⟩, by simp [newY], fun x hx => nomatch hx⟩
set_option maxRecDepth 100000 in
theorem list50 {K : List UInt8} (h : K.length = 50) : ∃ x0 x1 x2 x3 x4 x5 x6 x7 x8 x9 x10 x11 x12 x13 x14 x15 x16 x17 x18 x19 x20 x21 x22 x23 x24 x25 x26 x27 x28 x29 x30 x31 x32 x33 x34 x35 x36 x37 x38 x39 x40 x41 x42 x43 x44 x45 x46 x47 x48 x49, K = x0 :: x1 :: x2 :: x3 :: x4 :: x5 :: x6 :: x7 :: x8 :: x9 :: x10 :: x11 :: x12 :: x13 :: x14 :: x15 :: x16 :: x17 :: x18 :: x19 :: x20 :: x21 :: x22 :: x23 :: x24 :: x25 :: x26 :: x27 :: x28 :: x29 :: x30 :: x31 :: x32 :: x33 :: x34 :: x35 :: x36 :: x37 :: x38 :: x39 :: x40 :: x41 :: x42 :: x43 :: x44 :: x45 :: x46 :: x47 :: x48 :: x49 :: [] := by
 match K, h with
 | x0 :: x1 :: x2 :: x3 :: x4 :: x5 :: x6 :: x7 :: x8 :: x9 :: x10 :: x11 :: x12 :: x13 :: x14 :: x15 :: x16 :: x17 :: x18 :: x19 :: x20 :: x21 :: x22 :: x23 :: x24 :: x25 :: x26 :: x27 :: x28 :: x29 :: x30 :: x31 :: x32 :: x33 :: x34 :: x35 :: x36 :: x37 :: x38 :: x39 :: x40 :: x41 :: x42 :: x43 :: x44 :: x45 :: x46 :: x47 :: x48 :: x49 :: [], _ => exact ⟨x0, x1, x2, x3, x4, x5, x6, x7, x8, x9, x10, x11, x12, x13, x14, x15, x16, x17, x18, x19, x20, x21, x22, x23, x24, x25, x26, x27, x28, x29, x30, x31, x32, x33, x34, x35, x36, x37, x38, x39, x40, x41, x42, x43, x44, x45, x46, x47, x48, x49, rfl⟩
set_option maxRecDepth 100000 in
set_option maxHeartbeats 1000000 in
theorem run_way (K : List UInt8) (hk : K.length = 50) (limit : Int) (w : World) :
 (Instr.build 52 #[(0, .agg (cells K).toArray), (1, .int .i64 limit)]).run Tryz.prog w = .ok (.agg (cells K ++ ([.int .i64 limit, .int .i64 0, .slice none 0 0, .slice none 0 0] : List Value)).toArray) w := by
 obtain ⟨x0, x1, x2, x3, x4, x5, x6, x7, x8, x9, x10, x11, x12, x13, x14, x15, x16, x17, x18, x19, x20, x21, x22, x23, x24, x25, x26, x27, x28, x29, x30, x31, x32, x33, x34, x35, x36, x37, x38, x39, x40, x41, x42, x43, x44, x45, x46, x47, x48, x49, rfl⟩ := list50 hk
 kernel_rfl
theorem rnew15_any (key salt : List UInt8) (limit : Int) (w : World) (hk : key.length = 16) (hs : salt.length = 14) :
 Calls Tryz.prog 7 #[.agg (cells (mst key salt)).toArray, .int .i64 limit] w fun e w' => ∃ p F, e = .returned p ∧ RY w' p (newY key salt limit) F ∧ (∀ k, F k → w.heap.size ≤ k) ∧ Below w.heap.size w w' := by
 have hB : BlkV (w.alloc (.cells (cells (mst key salt)).toArray 25)) w.heap.size 25 (cells (mst key salt)) := BlkV.new _ _ _
 have HB0 : Hid (Below w.heap.size w (w.alloc (.cells (cells (mst key salt)).toArray 25))) := Lib.hid ((Below.refl _ _).alloc (Nat.le_refl _) _)
 have HML : Hid ((cells (mst key salt)).length = 30) := Lib.hid (by rw [length_cells, mst_len key salt hk hs])
 have HKY := Lib.hid (fun W => rkeys_any key salt 0 0 W hk hs (by omega) rfl)
 have HBU := Lib.hid (run_way (kys key salt 0) (kys_len _ _ _) limit)
 have RG := Lib.hid (hB.range 0 (cells (mst key salt)) (fun i _ => by rw [Nat.zero_add]))
 have RT : Hid (RowTy Tryz.prog 25 (cells (mst key salt)).length) := Lib.hid (row30 HML.out)
 obtain ⟨M, hM⟩ : ∃ M, M = cells (mst key salt) := ⟨_, rfl⟩
 obtain ⟨K, hK⟩ : ∃ K, K = cells (kys key salt 0) := ⟨_, rfl⟩
 rw [← hM] at HB0 HML HKY RG RT ⊢
 rw [← hK] at HBU
 simp only [← hK] at HKY
 have HK := Lib.hid hK
 clear hB hk hs hM hK
 go_enter Tryz.func7, Tryz.ntmps7
 go_wp2_with (first
  | (with_reducible refine wpList_ld rfl 25 (.tmp 2) rfl w.heap.size 0 rfl M RG.out RT.out ?_)
  | (go_at_call 20; ((with_reducible refine (HKY.out _).mono ?_); rintro e w1 ⟨rfl, hb1⟩; have HB1 := Lib.hid (HB0.out.trans (hb1.mono HB0.out.size)); clear hb1))
  | (with_reducible refine wpList_built2y rfl 52 0 1 (.tmp 6) (.tmp 7) rfl (.agg K.toArray) (.int .i64 limit) (.agg (K ++ ([.int .i64 limit, .int .i64 0, .slice none 0 0, .slice none 0 0] : List Value)).toArray) rfl rfl (HBU.out _) ?_))
 go_ret
 refine ⟨_, _, rfl, ⟨w1.heap.size, .slice none 0 0, .slice none 0 0, fun _ => 0, fun _ => .slice none 0 0, rfl, ⟨?_, World.ownsRow_nil _ _ _ _, World.ownsRow_nil _ _ _ _, fun i hi => absurd hi (Nat.not_lt_zero _), fun i j hi _ _ => absurd hi (Nat.not_lt_zero _)⟩, rfl⟩, ?_, HB1.out.alloc HB1.out.size _⟩
 · rw [newY_ks, ← HK.out]
   exact BlkV.new _ _ _
 · intro k hk
   rcases hk with rfl | hk | hk | ⟨i, hi, _⟩
   · exact HB1.out.size
   · exact nomatch hk
   · exact nomatch hk
   · exact absurd hi (Nat.not_lt_zero _)
structure PWay (w : World) (g b : Nat) (y : Wy) : Prop where
 bk : BlkV w g 65 (cells y.ks ++ [.int .i64 y.limit, .int .i64 y.used, .map (some b)])
 m : MapW w b y.ws
def RP (w : World) (p : Value) (y : Wy) (F : Nat → Prop) : Prop := ∃ g b, p = .pointer (some ⟨g, 0, none⟩) ∧ PWay w g b y ∧ F = fun k => k = g ∨ k = b
section
variable {w w2 : World} {g b : Nat} {y : Wy}
theorem PWay.ne (h : PWay w g b y) : b ≠ g := map_blk h.m h.bk
theorem PWay.stay (h : PWay w g b y) (hg : w2.heap[g]? = w.heap[g]?) (hb : w2.heap[b]? = w.heap[b]?) : PWay w2 g b y := ⟨hg.trans h.bk, h.m.stay hb⟩
theorem PWay.below (h : PWay w g b y) (hb : Below w.heap.size w w2) : PWay w2 g b y := h.stay (hb.block g h.bk.lt) (hb.block b h.m.lt)
theorem rp_lone : Lone RP where
 low := by
  rintro w p s F ⟨g, b, rfl, h, rfl⟩ k hk
  rcases hk with rfl | rfl
  · exact h.bk.lt
  · exact h.m.lt
 stay := by
  rintro w w2 p s F ⟨g, b, rfl, h, rfl⟩ _ hs
  exact ⟨g, b, rfl, h.stay (hs g (.inl rfl)) (hs b (.inr rfl)), rfl⟩
theorem rp_ptr {p : Value} {F : Nat → Prop} (h : RP w p y F) : ∃ g b, p = .pointer (some ⟨g, 0, none⟩) ∧ PWay w g b y ∧ F = fun k => k = g ∨ k = b := h
theorem PWay.cells_ (h : PWay w g b y) (hf : y.fit) : w.cell? ⟨g, 50, none⟩ = some (.int .i64 y.limit) ∧ w.cell? ⟨g, 51, none⟩ = some (.int .i64 y.used) ∧ w.cell? ⟨g, 52, none⟩ = some (.map (some b)) := by
 have hl : (cells y.ks).length = 50 := by rw [length_cells, Wy.ks_len hf]
 refine ⟨(h.bk.cell 50).trans ?_, (h.bk.cell 51).trans ?_, (h.bk.cell 52).trans ?_⟩ <;>
  (rw [List.getElem?_append_right (by omega), hl]; rfl)
theorem PWay.cell_ks (h : PWay w g b y) (hf : y.fit) (i : Nat) (hi : i < 50) : w.cell? ⟨g, i, none⟩ = (cells y.ks)[i]? := by
 rw [h.bk.cell, List.getElem?_append_left (by rw [length_cells, Wy.ks_len hf]; exact hi)]
theorem PWay.used (h : PWay w g b y) (hf : y.fit) (u : Int) : PWay (w.setCell ⟨g, 51, none⟩ (.int .i64 u)) g b { y with used := u } := by
 have hl : (cells y.ks).length = 50 := by rw [length_cells, Wy.ks_len hf]
 have hB := h.bk.set_ 51 (.int .i64 u)
 rw [List.set_append_right _ _ (by omega), hl] at hB
 exact ⟨hB, h.m.stay ((Only.set w g 51 (.int .i64 u)).block b h.ne)⟩
theorem PWay.marked (h : PWay w g b y) {ws2 : List (Nat × List Int)} (hm : MapW w2 b ws2) (ho : Only b w w2) : PWay w2 g b { y with ws := ws2 } :=
 ⟨h.bk.only ho h.ne.symm, hm⟩
theorem PWay.auth (h : PWay w g b y) (hf : y.fit) : RdS w (some ⟨g, 16, none⟩) 20 20 y.auth := by
 have := rd_auth hf (o := 0) h.bk (fun i hi => by rw [Nat.zero_add, List.getElem?_append_left (by rw [length_cells, Wy.ks_len hf]; exact hi)])
 simpa using this
end
theorem likely_of (h s z : Int) (hh : 0 ≤ h) (hs : 0 ≤ s) (hs' : s ≤ 65535) (h1 : h - 32767 ≤ z) (h2 : z ≤ h + 32768) (hz : z % 65536 = s) : likely h s = if z < 0 then z + 65536 else z := by
 unfold likely aheadZ
 split
 · omega
 · split <;> split <;> omega

theorem rindex_any (h s : Int) (w : World) (hl : -9223372036854775808 ≤ h) (hh : h ≤ 4611686018427387904) (hs : 0 ≤ s) (hs' : s ≤ 65535) :
 Calls Tryz.prog 36 #[.int .i64 h, .int .u16 s] w fun e w' => e = .returned (.int .i64 (likely h s)) ∧ w = w' := by
 by_cases h0 : h < 0
 · rw [likely_neg h s h0]
   go_enter Tryz.func36, Tryz.ntmps36
   go_wp2
   go_ret
   exact ⟨rfl, rfl⟩
 have h0' : 0 ≤ h := by omega
 clear h0
 go_enter Tryz.func36, Tryz.ntmps36
 go_wp2
 go_loop [5] (fun i => ∃ z : Int, i = .int .i64 z ∧ Hid (z % 65536 = s) ∧ z ≤ h + 65535 ∧ h - 65535 ≤ z) (fun i => (intOf i - h + 65536).toNat)
 case atStart => exact ⟨_, rfl, Lib.hid (by omega), by omega, by omega⟩
 case round =>
  obtain ⟨z, rfl, hz, hz1, hz2⟩ := hrel
  by_cases hc : h + 32768 < z
  · go_wp2
    go_round
    case rel => exact ⟨z - 65536, rfl, Lib.hid (by have := hz.out; omega), by omega, by omega⟩
    case measure => simp [intOf]; omega
  · have hc' : z ≤ h + 32768 := by omega
    clear hc
    go_wp2
    go_loop [5] (fun i => ∃ z : Int, i = .int .i64 z ∧ Hid (z % 65536 = s) ∧ z ≤ h + 32768 ∧ h - 65535 ≤ z) (fun i => (h - intOf i + 65536).toNat)
    case atStart => exact ⟨z, rfl, hz, hc', hz2⟩
    case round =>
     clear hz hz1 hz2 hc'
     obtain ⟨z, rfl, hz, hz1, hz2⟩ := hrel
     by_cases hc : z < h - 32767
     · go_wp2
       go_round
       case rel => exact ⟨z + 65536, rfl, Lib.hid (by have := hz.out; omega), by omega, by omega⟩
       case measure => simp [intOf]; omega
     · have HL := Lib.hid (likely_of h s z h0' hs hs' (by omega) hz1 hz.out)
       by_cases hn : z < 0
       · go_wp2
         go_ret
         exact ⟨ret_num (by rw [HL.out, if_pos hn]), rfl⟩
       · have hn' : 0 ≤ z := by omega
         clear hn
         go_wp2
         go_ret
         exact ⟨ret_num (by rw [HL.out, if_neg (by omega)]), rfl⟩

end Go.Proofs.YtmkeioeodlidgaaGreatDoor
