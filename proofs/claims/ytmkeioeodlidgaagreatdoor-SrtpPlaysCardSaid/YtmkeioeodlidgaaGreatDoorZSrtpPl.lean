/- Several texts in one: plain words and walks. No statement is proved here. -/
import Derived.Test.YtmkeioeodlidgaaGreatDoorZSrtpPl0
import Derived.Test.YtmkeioeodlidgaaGreatDoorZSrtpBk
namespace Go.Proofs.YtmkeioeodlidgaaGreatDoor
open List renaming getElem_toArray → xgT, getElem_cons_succ → xgS, getElem_cons_zero → xgZ, setIfInBounds_toArray → xsT, set_cons_succ → xsS, set_cons_zero → xsZ
open Go.RowKit
set_option linter.unusedVariables false

set_option maxRecDepth 100000 in
set_option maxHeartbeats 4000000 in
theorem srtpPlays_walk (k0 s0 k1 s1 : List UInt8) (limit : Int) (A : Option Addr) (cap : Nat) (l : List Opr) (w : World) (ht : TabH w) (hw : 0 < w.heap.size) (hk0 : k0.length = 16) (hs0 : s0.length = 14) (hk1 : k1.length = 16) (hs1 : s1.length = 14) (hlim : (Lit.int .i64 limit).wf = true) (hr : RdG 16 w A (l.map Opr.row)) (hl : l.length ≤ 9223372036854775807) (ho : ∀ o ∈ l, OprRd w o) :
 Calls Tryz.prog 3 #[.agg (cells (mst k0 s0)).toArray, .agg (cells (mst k1 s1)).toArray, .int .i64 limit, .slice A l.length cap] w fun e w' => e = .returned (.bool true) ∧ Below w.heap.size w w' := by
 have hlb := bounds_i64 hlim
 clear hlim
 obtain ⟨wB, hwB⟩ : ∃ x, x = (w.alloc (.cells (cells (mst k0 s0)).toArray 25)).alloc (.cells (cells (mst k1 s1)).toArray 25) := ⟨_, rfl⟩
 have hbB : Below w.heap.size w wB := hwB ▸ twoBelow w _ _
 have hMB : BlkV wB w.heap.size 25 (cells (mst k0 s0)) := hwB ▸ (BlkV.new w _ _).alloc _
 have hPB : BlkV wB (w.heap.size + 1) 25 (cells (mst k1 s1)) := hwB ▸ BlkV.new_at _ _ _ _ _ (size_alloc _ _).symm rfl
 have htB := tab_below ht hbB
 have hzB : 0 < wB.heap.size := Nat.lt_of_lt_of_le hw hbB.size
 have HML : Hid ((cells (mst k0 s0)).length = 30 ∧ (cells (mst k1 s1)).length = 30) := Lib.hid ⟨by rw [length_cells, mst_len k0 s0 hk0 hs0], by rw [length_cells, mst_len k1 s1 hk1 hs1]⟩
 have HTW : Hid (∀ W, Below wB.heap.size wB W → TabH W) := Lib.hid (fun W hb => tab_below htB hb)
 have HMW : Hid (∀ W, Below wB.heap.size wB W → BlkV W w.heap.size 25 (cells (mst k0 s0)) ∧ BlkV W (w.heap.size + 1) 25 (cells (mst k1 s1))) := Lib.hid (fun W hb => ⟨hMB.below hb hMB.lt, hPB.below hb hPB.lt⟩)
 have HBW : Hid (∀ W, Below wB.heap.size wB W → Below w.heap.size w W) := Lib.hid (fun W hb => hbB.trans (hb.mono hbB.size))
 have HOK : Hid (∀ o ∈ l, ∀ W, Below wB.heap.size wB W → OprRd W o) := Lib.hid (fun o hm W hb => ((ho o hm).below hbB).below hb)
 have HRG : Hid (RdG 16 wB A (l.map Opr.row)) := Lib.hid (hr.below hbB)
 have HAL := Lib.hid (alive15_any wB htB hzB)
 have HN0 := Lib.hid (fun W => new15_any k0 s0 limit W hk0 hs0)
 have HN1 := Lib.hid (fun W => new15_any k1 s1 limit W hk1 hs1)
 have HR0 := Lib.hid (fun W => rnew15_any k0 s0 limit W hk0 hs0)
 have HR1 := Lib.hid (fun W => rnew15_any k1 s1 limit W hk1 hs1)
 have HG0 := Lib.hid (newY_good k0 s0 limit hlb)
 have HG1 := Lib.hid (newY_good k1 s1 limit hlb)
 obtain ⟨n, hn⟩ : ∃ n, n = l.length := ⟨_, rfl⟩
 have HLN := Lib.hid hn
 rw [← hn] at hl ⊢
 clear ht hw hk0 hs0 hk1 hs1 hr ho hbB hMB hPB htB hzB hlb hn
 go_enter Tryz.func3, Tryz.ntmps3
 go_upto_region 1 with (fail)
 rw [← hwB]
 clear hwB
 go_upto_region 3 with (go_at_call 5; ((with_reducible refine (Hid.out HAL).mono ?_); rintro e w1 ⟨rfl, hb1⟩; have HB1 := Lib.hid hb1; clear hb1))
 clear HAL
 have RM : Hid (RowTy Tryz.prog 25 (cells (mst k0 s0)).length) := Lib.hid (row30 HML.out.1)
 have RM1 : Hid (RowTy Tryz.prog 25 (cells (mst k1 s1)).length) := Lib.hid (row30 HML.out.2)
 have HL0 := Lib.hid (rq_lone rp_lone rp_lone rp_lone rp_lone)
 refine wp_region_noPanic ?_
 refine wp_region_held (S := fun wx => BlkV wx w.heap.size 25 (cells (mst k0 s0)) ∧ BlkV wx (w.heap.size + 1) 25 (cells (mst k1 s1))) (by kernel_rfl) ?_
 change wpAnyH _ _ _ _ _ _ _ _ (World.drew _)
 obtain ⟨w3, hw3⟩ : ∃ x, x = w1.drew := ⟨_, rfl⟩
 rw [← hw3]
 have HB3 : Hid (Below wB.heap.size wB w3) := Lib.hid (hw3 ▸ HB1.out.drew)
 have hS := HMW.out _ HB3.out
 clear hw3 HB1
 refine wpAnyH_take (i := 0) (v := .agg (cells (mst k0 s0)).toArray) rfl (by kernel_rfl) (by kernel_rfl) (by kernel_rfl) (fun _ _ _ h => h) (Or.inl ⟨by rfl, fun wz hz => ?_⟩) hS ?_
 · (exact run_ld 25 _ rfl w.heap.size 0 (by rfl) (cells (mst k0 s0)) (hz.1.range 0 _ (fun i _ => by rw [Nat.zero_add])) RM.out)
 simp only [Act.put, xgT, xgZ, xsT, xsS, xsZ]
 refine wpAnyH_take (i := 1) (v := ?_) rfl (by kernel_rfl) (by kernel_rfl) (by kernel_rfl) (fun _ _ _ h => h) (Or.inl ⟨by rfl, ?_⟩) hS ?_
 case refine_2 => (intro wz hz; go_simp; with_reducible rfl)
 simp only [Act.put, xgT, xgS, xgZ, xsT, xsS, xsZ]
 refine wpAnyH_take (i := 3) (v := .agg (cells (mst k1 s1)).toArray) rfl (by kernel_rfl) (by kernel_rfl) (by kernel_rfl) (fun _ _ _ h => h) (Or.inl ⟨by rfl, fun wz hz => ?_⟩) hS ?_
 · (exact run_ld 25 _ rfl (w.heap.size + 1) 0 (by rfl) (cells (mst k1 s1)) (hz.2.range 0 _ (fun i _ => by rw [Nat.zero_add])) RM1.out)
 simp only [Act.put, xgT, xgS, xgZ, xsT, xsS, xsZ]
 refine wpAnyH_take (i := 4) (v := ?_) rfl (by kernel_rfl) (by kernel_rfl) (by kernel_rfl) (fun _ _ _ h => h) (Or.inl ⟨by rfl, ?_⟩) hS ?_
 case refine_2 => (intro wz hz; go_simp; with_reducible rfl)
 simp only [Act.put, xgT, xgS, xgZ, xsT, xsS, xsZ]
 refine anyH_one (i := 2) (by kernel_rfl) rfl rfl (fun HH hH => ?_)
 simp only [xgT, xgS, xgZ]
 go_simp
 refine (HN0.out w3).mono ?_
 rintro e w4 ⟨pa, gaF, rfl, ha, la, hb⟩
 obtain ⟨ga, _, hpa, hwa, hfa⟩ := rp_ptr ha
 subst hpa
 clear hwa hfa
 have HA1 := Lib.hid ((Ways.zeroB (w := wB) (RQ RP RP RP RP) (fun _ => undef) (fun _ => newY k0 s0 limit) (fun _ _ => False) HB3.out).more HL0.out hb ha la)
 have hSw4 := HMW.out _ HA1.out.below
 refine hH _ _ hSw4 ?_
 clear hH ha la hb
 refine anyH_one (i := 5) (by kernel_rfl) rfl rfl (fun HH hH => ?_)
 simp only [xgT, xgS, xgZ]
 go_simp
 refine (HN1.out w4).mono ?_
 rintro e w5 ⟨pb, gbF, rfl, ha, la, hb⟩
 obtain ⟨gb, _, hpa, hwa, hfa⟩ := rp_ptr ha
 subst hpa
 clear hwa hfa
 have HA2 := Lib.hid (HA1.out.more HL0.out hb ha la)
 have hSw5 := HMW.out _ HA2.out.below
 refine hH _ _ hSw5 ?_
 clear hH ha la hb
 refine wpAnyH_take (i := 6) (v := ?_) rfl (by kernel_rfl) (by kernel_rfl) (by kernel_rfl) (fun _ _ _ h => h) (Or.inl ⟨by rfl, ?_⟩) hSw5 ?_
 case refine_2 => (intro wz hz; go_simp; with_reducible rfl)
 simp only [Act.put, xgT, xgS, xgZ, xsT, xsS, xsZ]
 refine wpAnyH_take (i := 7) (v := ?_) rfl (by kernel_rfl) (by kernel_rfl) (by kernel_rfl) (fun _ _ _ h => h) (Or.inl ⟨by rfl, ?_⟩) hSw5 ?_
 case refine_2 => (intro wz hz; go_simp; with_reducible rfl)
 simp only [Act.put, xgT, xgS, xgZ, xsT, xsS, xsZ]
 refine wpAnyH_done (by kernel_rfl) ?_ _
 refine NoPanic.normal ?_
 go_upto_region 4 with (fail)
 refine wp_region_noPanic ?_
 refine wp_region_held (S := fun wx => BlkV wx w.heap.size 25 (cells (mst k0 s0)) ∧ BlkV wx (w.heap.size + 1) 25 (cells (mst k1 s1))) (by kernel_rfl) ?_
 change wpAnyH _ _ _ _ _ _ _ _ (World.drew _)
 obtain ⟨w6, hw6⟩ : ∃ x, x = w5.drew := ⟨_, rfl⟩
 rw [← hw6]
 have HA3 := Lib.hid (HA2.out.on HL0.out (Below.refl w5.heap.size w5).drew)
 rw [← hw6] at HA3
 have hS6 := HMW.out _ HA3.out.below
 clear hw6 hS hSw4 hSw5 HA1 HA2 HB3
 refine wpAnyH_take (i := 0) (v := .agg (cells (mst k0 s0)).toArray) rfl (by kernel_rfl) (by kernel_rfl) (by kernel_rfl) (fun _ _ _ h => h) (Or.inl ⟨by rfl, fun wz hz => ?_⟩) hS6 ?_
 · (exact run_ld 25 _ rfl w.heap.size 0 (by rfl) (cells (mst k0 s0)) (hz.1.range 0 _ (fun i _ => by rw [Nat.zero_add])) RM.out)
 simp only [Act.put, xgT, xgZ, xsT, xsS, xsZ]
 refine wpAnyH_take (i := 1) (v := ?_) rfl (by kernel_rfl) (by kernel_rfl) (by kernel_rfl) (fun _ _ _ h => h) (Or.inl ⟨by rfl, ?_⟩) hS6 ?_
 case refine_2 => (intro wz hz; go_simp; with_reducible rfl)
 simp only [Act.put, xgT, xgS, xgZ, xsT, xsS, xsZ]
 refine wpAnyH_take (i := 3) (v := .agg (cells (mst k1 s1)).toArray) rfl (by kernel_rfl) (by kernel_rfl) (by kernel_rfl) (fun _ _ _ h => h) (Or.inl ⟨by rfl, fun wz hz => ?_⟩) hS6 ?_
 · (exact run_ld 25 _ rfl (w.heap.size + 1) 0 (by rfl) (cells (mst k1 s1)) (hz.2.range 0 _ (fun i _ => by rw [Nat.zero_add])) RM1.out)
 simp only [Act.put, xgT, xgS, xgZ, xsT, xsS, xsZ]
 refine wpAnyH_take (i := 4) (v := ?_) rfl (by kernel_rfl) (by kernel_rfl) (by kernel_rfl) (fun _ _ _ h => h) (Or.inl ⟨by rfl, ?_⟩) hS6 ?_
 case refine_2 => (intro wz hz; go_simp; with_reducible rfl)
 simp only [Act.put, xgT, xgS, xgZ, xsT, xsS, xsZ]
 refine anyH_one (i := 2) (by kernel_rfl) rfl rfl (fun HH hH => ?_)
 simp only [xgT, xgS, xgZ]
 go_simp
 refine (HR0.out w6).mono ?_
 rintro e w7 ⟨pc, gcF, rfl, ha, la, hb⟩
 obtain ⟨gc, _, _, _, _, hpa, hwa, hfa⟩ := ry_ptr ha
 subst hpa
 clear hwa hfa
 have HA4 := Lib.hid (HA3.out.more HL0.out hb ha la)
 have hSw7 := HMW.out _ HA4.out.below
 refine hH _ _ hSw7 ?_
 clear hH ha la hb
 refine anyH_one (i := 5) (by kernel_rfl) rfl rfl (fun HH hH => ?_)
 simp only [xgT, xgS, xgZ]
 go_simp
 refine (HR1.out w7).mono ?_
 rintro e w8 ⟨pd, gdF, rfl, ha, la, hb⟩
 obtain ⟨gd, _, _, _, _, hpa, hwa, hfa⟩ := ry_ptr ha
 subst hpa
 clear hwa hfa
 have HA5 := Lib.hid (HA4.out.more HL0.out hb ha la)
 have hSw8 := HMW.out _ HA5.out.below
 refine hH _ _ hSw8 ?_
 clear hH ha la hb
 refine wpAnyH_take (i := 6) (v := ?_) rfl (by kernel_rfl) (by kernel_rfl) (by kernel_rfl) (fun _ _ _ h => h) (Or.inl ⟨by rfl, ?_⟩) hSw8 ?_
 case refine_2 => (intro wz hz; go_simp; with_reducible rfl)
 simp only [Act.put, xgT, xgS, xgZ, xsT, xsS, xsZ]
 refine wpAnyH_take (i := 7) (v := ?_) rfl (by kernel_rfl) (by kernel_rfl) (by kernel_rfl) (fun _ _ _ h => h) (Or.inl ⟨by rfl, ?_⟩) hSw8 ?_
 case refine_2 => (intro wz hz; go_simp; with_reducible rfl)
 simp only [Act.put, xgT, xgS, xgZ, xsT, xsS, xsZ]
 refine wpAnyH_done (by kernel_rfl) ?_ _
 refine NoPanic.normal ?_
 obtain ⟨p9, y9, F9, hA9, hp0, hp1, hp2, hp3, hy0, hy1, hy2, hy3⟩ : ∃ p y F, Ways (RQ RP RP RP RP) 4 wB p y F w8 ∧ p 0 = .pointer (some ⟨ga, 0, none⟩) ∧ p 1 = .pointer (some ⟨gb, 0, none⟩) ∧ p 2 = .pointer (some ⟨gc, 0, none⟩) ∧ p 3 = .pointer (some ⟨gd, 0, none⟩) ∧ y 0 = newY k0 s0 limit ∧ y 1 = newY k1 s1 limit ∧ y 2 = newY k0 s0 limit ∧ y 3 = newY k1 s1 limit := ⟨_, _, _, HA5.out, rfl, rfl, rfl, rfl, rfl, rfl, rfl, rfl⟩
 have HP0 : Hid (PInv (.pointer (some ⟨ga, 0, none⟩)) (.pointer (some ⟨gb, 0, none⟩)) (.pointer (some ⟨gc, 0, none⟩)) (.pointer (some ⟨gd, 0, none⟩)) wB 0 w8) := Lib.hid (pinv_start hA9 hp0 hp1 hp2 hp3 hy0 hy1 hy2 hy3 HG0.out HG1.out)
 clear hA9 hp0 hp1 hp2 hp3 hy0 hy1 hy2 hy3
 clear HA3 HA4 HA5 hS6 hSw7 hSw8 HN0 HN1 HR0 HR1 HG0 HG1 HML HMW RM RM1 HL0
 go_wp2
 go_loopw [13] (fun vi wr => ∃ k : Nat, k ≤ 30 ∧ vi = .int .i64 k ∧ Hid (PInv (.pointer (some ⟨ga, 0, none⟩)) (.pointer (some ⟨gb, 0, none⟩)) (.pointer (some ⟨gc, 0, none⟩)) (.pointer (some ⟨gd, 0, none⟩)) wB k wr)) (fun i _ => 30 - (intOf i).toNat)
 case atStart => exact ⟨0, by omega, rfl, HP0⟩
 case round =>
  clear HP0
  obtain ⟨k, hk30, rfl, HE⟩ := hrel
  obtain ⟨p, y, F, hA, e0, e1, e2, e3, ey2, ey3, g0, g1, u0, u1⟩ := HE.out
  clear HE
  by_cases hlt : k < n
  case neg =>
   have hki : ¬ ((k : Int) < (n : Int)) := by omega
   have hb := HBW.out _ hA.below
   clear hA e0 e1 e2 e3 ey2 ey3 g0 g1 u0 u1
   go_wp2
   go_ret
   exact ⟨rfl, hb⟩
  by_cases h30 : k < 30
  case neg =>
   have hki : (k : Int) < (n : Int) := by omega
   have hki3 : ¬ ((k : Int) < 30) := by omega
   have hb := HBW.out _ hA.below
   clear hA e0 e1 e2 e3 ey2 ey3 g0 g1 u0 u1
   go_wp2
   go_ret
   exact ⟨rfl, hb⟩
  have hki : (k : Int) < (n : Int) := by omega
  have hki3 : (k : Int) < 30 := by omega
  have hkl : k < l.length := by rw [← HLN.out]; exact hlt
  obtain ⟨b, off, hAb, hrg⟩ := HRG.out.at_ hkl
  subst hAb
  have hOK := HOK.out _ (List.getElem_mem hkl)
  obtain ⟨o, ho⟩ : ∃ o, o = l[k] := ⟨_, rfl⟩
  rw [← ho] at hrg hOK
  have HRW := Lib.hid hrg
  have HOW := Lib.hid hOK
  clear hrg hOK ho hkl
  obtain ⟨cs, pk, i, c, a, f, R, rc, raw⟩ := o
  obtain ⟨rw_, hrw⟩ : ∃ r, r = Opr.row ⟨cs, pk, i, c, a, f, R, rc, raw⟩ := ⟨_, rfl⟩
  have hro := HOW.out _ hA.below
  have hce := hro.cell
  have hft := hro.fit
  dsimp only at hce hft
  have HFT := Lib.hid hft
  have hrl := hro.len
  have hr1 := hro.one
  have hib := hro.i
  have hab := hro.a
  have hfb := hro.f
  have HBS := Lib.hid hro.bs.small
  have hsm := HBS.out
  simp only at hsm hib hab hfb
  rw [← hrw] at HRW hce hrl hr1
  have HCE := Lib.hid hce
  have HRWE := Lib.hid hrw.symm
  clear hrw hce hft
  have HRL := Lib.hid hrl
  have HR1 := Lib.hid hr1
  have RTO : Hid (RowTy Tryz.prog 39 rw_.length) := Lib.hid (row16o hrl)
  have RTP : Hid (RowTy Tryz.prog 37 cs.length) := Lib.hid (row11 hro.pk.len)
  have RG8 : Hid (wr.rangeAt b (off + k * 16) rw_) := Lib.hid (HRW.out _ hA.below)
  have hI8 := BlkV.new_at wr wr.heap.size 39 zeroO _ rfl rfl
  have hzo := zero16o
  have HA := Lib.hid hA
  have HUS := Lib.hid (And.intro u0 u1)
  have HGD := Lib.hid (And.intro g0 g1)
  have HEQ := Lib.hid (And.intro e0 (And.intro e1 (And.intro e2 (And.intro e3 (And.intro ey2 ey3)))))
  clear hA u0 u1 g0 g1 e0 e1 e2 e3 ey2 ey3 hro hrl hr1
  go_upto_region 9 with (first
   | (with_reducible refine wpList_ld rfl 39 (.tmp 51) rfl b (off + k * 16) rfl rw_ RG8.out RTO.out ?_)
   | ((with_reducible refine wpList_st rfl 39 (.tmp 14) (.tmp 52) rfl wr.heap.size 0 rw_ rfl rfl 39 zeroO hI8 (by rw [HRL.out]; decide) RTO.out HR1.out ?_); intro w2 hB2 ho2; rw [splice_all _ _ (by rw [HRL.out]; rfl)] at hB2; have HB2 := Lib.hid hB2; have Hb2 : Hid (Below wr.heap.size wr w2) := Lib.hid (((Below.refl _ _).alloc (Nat.le_refl _) _).trans (ho2.below (Nat.le_refl _))); clear hB2 ho2))
  obtain ⟨go, hgo⟩ : ∃ g, g = wr.heap.size := ⟨_, rfl⟩
  have hLb := rq_lone (rcel_lone rw_) rp_lone rp_lone rp_lone
  obtain ⟨G2, hA2⟩ := Ways.boxed (cs := rw_) (r5 := RP) (r6 := RP) (r7 := RP) hLb (HA.out.as4 (Nat.le_refl _)) Hb2.out HB2.out (y 0)
  rw [← hgo] at hA2 ⊢
  obtain ⟨p2, y2, hA2, f0, f1, f2, f3, f4, v0, v1, v2, v3⟩ : ∃ p' y', Ways (RQ (RCel rw_) RP RP RP) 5 wB p' y' G2 w2 ∧ p' 0 = .pointer (some ⟨ga, 0, none⟩) ∧ p' 1 = .pointer (some ⟨gb, 0, none⟩) ∧ p' 2 = .pointer (some ⟨gc, 0, none⟩) ∧ p' 3 = .pointer (some ⟨gd, 0, none⟩) ∧ p' 4 = .pointer (some ⟨go, 0, none⟩) ∧ y' 0 = y 0 ∧ y' 1 = y 1 ∧ y' 2 = y 0 ∧ y' 3 = y 1 := ⟨_, _, hA2, HEQ.out.1, HEQ.out.2.1, HEQ.out.2.2.1, HEQ.out.2.2.2.1, rfl, rfl, rfl, HEQ.out.2.2.2.2.1, HEQ.out.2.2.2.2.2⟩
  clear HA HEQ RG8 hI8 HB2 Hb2 hgo hLb HR1
  obtain ⟨ya, hya⟩ : ∃ v, v = y 0 := ⟨_, rfl⟩
  obtain ⟨yb, hyb⟩ : ∃ v, v = y 1 := ⟨_, rfl⟩
  rw [← hya] at v0 v2 HUS HGD
  rw [← hyb] at v1 v3 HUS HGD
  clear hya hyb
  have HBX : Hid (∀ W q z G r5 r6 r7 m, 5 ≤ m → q 4 = .pointer (some ⟨go, 0, none⟩) → Ways (RQ (RCel rw_) r5 r6 r7) m wB q z G W → BlkV W go 39 rw_) := Lib.hid (fun W q z G r5 r6 r7 m hm hq h => rcel_open (show RCel rw_ W (.pointer (some ⟨go, 0, none⟩)) (z 4) (G 4) from hq ▸ h.ob 4 (by omega)))
  have hB2 := HBX.out _ _ _ _ _ _ _ _ (Nat.le_refl _) f4 hA2
  have RG9 := Lib.hid (hB2.range 0 rw_ (fun i _ => by rw [Nat.zero_add]))
  have HGR := Lib.hid (great15_any cs pk i c a f R raw.length rc w2 (HOW.out _ hA2.below).pk (by have := HBS.out; simp only at this; omega))
  rw [show cs ++ opT i c a f R raw.length rc = rw_ from HRWE.out] at HGR
  have HA2 := Lib.hid (And.intro hA2 (And.intro f0 (And.intro f1 (And.intro f2 (And.intro f3 f4)))))
  have HV2 := Lib.hid (And.intro v0 (And.intro v1 (And.intro v2 v3)))
  clear hA2 f0 f1 f2 f3 f4 v0 v1 v2 v3 hB2
  have HLb := Lib.hid (fun s5 s6 s7 (h5 : Lone s5) (h6 : Lone s6) (h7 : Lone s7) => rq_lone (rcel_lone rw_) h5 h6 h7)
  cases hgr : grY pk raw.length with
  | true =>
    rw [hgr] at HGR
    clear hgr
    go_wp2_with (first
     | (with_reducible refine wpList_ld rfl 39 (.tmp 14) rfl go 0 rfl rw_ RG9.out RTO.out ?_)
     | (go_at_call 8; ((with_reducible refine (HGR.out).mono ?_); rintro e w3 ⟨rfl, hb3⟩; have HB3 := Lib.hid (HA2.out.1.on (HLb.out _ _ _ rp_lone rp_lone rp_lone) hb3); clear hb3)))
    go_ret
    exact ⟨rfl, HBW.out _ HB3.out.below⟩
  | false =>
    rw [hgr] at HGR
    have hsz : pk.ot.length ≤ 60 ∧ pk.xt.length ≤ 1500 ∧ pk.pl.length ≤ 1500 ∧ raw.length ≤ 1500 := by
     unfold grY at hgr
     have := of_decide_eq_false hgr
     omega
    have HSZ := Lib.hid hsz
    clear hgr hsz
    go_upto_region 11 with (first
     | (with_reducible refine wpList_ld rfl 39 (.tmp 14) rfl go 0 rfl rw_ RG9.out RTO.out ?_)
     | (go_at_call 8; ((with_reducible refine (HGR.out).mono ?_); rintro e w3 ⟨rfl, hb3⟩; have HA3 := Lib.hid (HA2.out.1.on (HLb.out _ _ _ rp_lone rp_lone rp_lone) hb3); clear hb3)))
    clear HGR RG9
    have hBX3 := HBX.out _ _ _ _ _ _ _ _ (Nat.le_refl _) HA2.out.2.2.2.2.2 HA3.out
    have c11 : w3.cell? ⟨go, 11, none⟩ = some (.int .i64 i) := (hBX3.cell 11).trans HCE.out.2.1
    have HLC : Hid (cs.length = 11) := Lib.hid (HOW.out _ HA3.out.below).pk.len
    have RG11 := Lib.hid (hBX3.range 0 cs (fun j hj => by rw [Nat.zero_add]; exact HCE.out.2.2.2.2.2.2 j (by have := HLC.out; omega)))
    obtain ⟨q, hq⟩ : ∃ q, whySeal ya pk i = q := ⟨_, rfl⟩
    obtain ⟨bs, hbs⟩ : ∃ x, outSeal ya pk i = x := ⟨_, rfl⟩
    obtain ⟨yc, hyc⟩ : ∃ x, ySeal ya pk i = x := ⟨_, rfl⟩
    have HGC : Hid (yc.good ∧ yc.used ≤ (k + 1 : Nat)) := Lib.hid (by
     have h1 := HUS.out.1
     refine ⟨hyc ▸ good_seal HGD.out.1 pk i (by omega), ?_⟩
     have h2 := used_seal ya pk i
     rw [hyc] at h2
     omega)
    have HSA := Lib.hid ((seal15_any (.pointer (some ⟨ga, 0, none⟩)) ya (G2 0) cs pk i w3 (by have := HA3.out.ob 0 (by omega); rw [HA2.out.2.1, HV2.out.1] at this; exact this) (HTW.out _ HA3.out.below) HGD.out.1 (HOW.out _ HA3.out.below).pk HFT.out (by have := HSZ.out; omega) (by have := HSZ.out; omega) (by have := HSZ.out; omega) hib).mono (fun e w' k => k.told hq hbs hyc))
    have HSR : Hid (∀ W F, RY W (.pointer (some ⟨gc, 0, none⟩)) ya F → Below wB.heap.size wB W → Calls Tryz.prog 10 #[.pointer (some ⟨gc, 0, none⟩), .agg cs.toArray, .int .i64 i] W (SealT RY (.pointer (some ⟨gc, 0, none⟩)) F q bs yc W)) := Lib.hid (fun W F h hb => (rseal15_any (.pointer (some ⟨gc, 0, none⟩)) ya F cs pk i W h HGD.out.1 (HOW.out _ hb).pk HFT.out (by have := HSZ.out; omega) (by have := HSZ.out; omega) (by have := HSZ.out; omega) hib).mono (fun e w' k => k.told hq hbs hyc))
    obtain ⟨L, hL⟩ : ∃ L, L = bs.length := ⟨_, rfl⟩
    have HLL := Lib.hid hL
    have HBL : Hid (bs.length ≤ 1200) := Lib.hid (hbs ▸ out_small ya pk i HFT.out)
    have HQ := Lib.hid hq
    clear hBX3 hq hbs hyc hL
    go_upto_region 12 with (first
     | (with_reducible refine wpList_ld rfl 37 (.tmp 57) rfl go 0 rfl cs RG11.out RTP.out ?_)
     | (go_at_call 9; ((with_reducible refine (HSA.out).mono ?_); rintro e w4 ⟨A4, n4, c4, F4, rfl, ho4, hn4, hr4, hf4, hF4⟩; have en4 : n4 = L := (by rw [HLL.out]; exact (RdS.of_own ho4).len.symm); subst en4; have HT4 := Lib.hid (And.intro ho4 (And.intro hn4 (And.intro hr4 (And.intro hf4 hF4)))); clear ho4 hn4 hr4 hf4 hF4)))
    obtain ⟨G4, hG4⟩ := Ways.sealedO (R := RQ (RCel rw_) (ROwn bs) (ROwn bs) RP) (HLb.out _ _ _ (rown_lone bs) (rown_lone bs) rp_lone) (HA3.out.as5 (Nat.le_refl _)) (i := 0) (by omega) HT4.out.1 HT4.out.2.1 (by rw [HA2.out.2.1]; exact HT4.out.2.2.1) HT4.out.2.2.2.1 HT4.out.2.2.2.2 ya rfl
    obtain ⟨p4, y4, hA4, z0, z1, z2, z3, z4, z5, x0, x1, x2, x3⟩ : ∃ p' y', Ways (RQ (RCel rw_) (ROwn bs) (ROwn bs) RP) 6 wB p' y' G4 w4 ∧ p' 0 = .pointer (some ⟨ga, 0, none⟩) ∧ p' 1 = .pointer (some ⟨gb, 0, none⟩) ∧ p' 2 = .pointer (some ⟨gc, 0, none⟩) ∧ p' 3 = .pointer (some ⟨gd, 0, none⟩) ∧ p' 4 = .pointer (some ⟨go, 0, none⟩) ∧ p' 5 = .slice A4 n4 c4 ∧ y' 0 = yc ∧ y' 1 = yb ∧ y' 2 = ya ∧ y' 3 = yb := ⟨_, _, hG4, HA2.out.2.1, HA2.out.2.2.1, HA2.out.2.2.2.1, HA2.out.2.2.2.2.1, HA2.out.2.2.2.2.2, rfl, rfl, HV2.out.2.1, HV2.out.2.2.1, HV2.out.2.2.2⟩
    clear c11 RG11 HSA HA3 hG4 HT4 HA2 HV2
    have hBX4 := HBX.out _ _ _ _ _ _ _ _ (by omega) z4 hA4
    have c11 : w4.cell? ⟨go, 11, none⟩ = some (.int .i64 i) := (hBX4.cell 11).trans HCE.out.2.1
    have RG12 := Lib.hid (hBX4.range 0 cs (fun j hj => by rw [Nat.zero_add]; exact HCE.out.2.2.2.2.2.2 j (by have := HLC.out; omega)))
    have HSB := Lib.hid (HSR.out w4 (G4 2) (by have := hA4.ob 2 (by omega); rw [z2, x2] at this; exact this) hA4.below)
    have HA4 := Lib.hid (And.intro hA4 (And.intro z0 (And.intro z1 (And.intro z2 (And.intro z3 (And.intro z4 z5))))))
    have HV4 := Lib.hid (And.intro x0 (And.intro x1 (And.intro x2 x3)))
    clear hA4 z0 z1 z2 z3 z4 z5 x0 x1 x2 x3 hBX4
    go_upto_region 13 with (first
     | (with_reducible refine wpList_ld rfl 37 (.tmp 66) rfl go 0 rfl cs RG12.out RTP.out ?_)
     | (go_at_call 10; ((with_reducible refine (HSB.out).mono ?_); rintro e w5 ⟨A5, n5, c5, F5, rfl, ho5, hn5, hr5, hf5, hF5⟩; have en5 : n5 = n4 := (by rw [HLL.out]; exact (RdS.of_own ho5).len.symm); subst en5; have HT5 := Lib.hid (And.intro ho5 (And.intro hn5 (And.intro hr5 (And.intro hf5 hF5)))); clear ho5 hn5 hr5 hf5 hF5)))
    obtain ⟨G5, hG5⟩ := Ways.sealedO (R := RQ (RCel rw_) (ROwn bs) (ROwn bs) RP) (HLb.out _ _ _ (rown_lone bs) (rown_lone bs) rp_lone) HA4.out.1 (i := 2) (by omega) HT5.out.1 HT5.out.2.1 (by rw [HA4.out.2.2.2.1]; exact HT5.out.2.2.1) HT5.out.2.2.2.1 HT5.out.2.2.2.2 ya rfl
    obtain ⟨p5, y5, hA5, z0, z1, z2, z3, z4, z5, z6, x0, x1, x2, x3⟩ : ∃ p' y', Ways (RQ (RCel rw_) (ROwn bs) (ROwn bs) RP) 7 wB p' y' G5 w5 ∧ p' 0 = .pointer (some ⟨ga, 0, none⟩) ∧ p' 1 = .pointer (some ⟨gb, 0, none⟩) ∧ p' 2 = .pointer (some ⟨gc, 0, none⟩) ∧ p' 3 = .pointer (some ⟨gd, 0, none⟩) ∧ p' 4 = .pointer (some ⟨go, 0, none⟩) ∧ p' 5 = .slice A4 n5 c4 ∧ p' 6 = .slice A5 n5 c5 ∧ y' 0 = yc ∧ y' 1 = yb ∧ y' 2 = yc ∧ y' 3 = yb := ⟨_, _, hG5, HA4.out.2.1, HA4.out.2.2.1, HA4.out.2.2.2.1, HA4.out.2.2.2.2.1, HA4.out.2.2.2.2.2.1, HA4.out.2.2.2.2.2.2, rfl, HV4.out.1, HV4.out.2.1, rfl, HV4.out.2.2.2⟩
    clear c11 RG12 HSB HSR HA4 hG5 HT5 HV4
    obtain ⟨S, hSd⟩ : ∃ S : World → Prop, S = fun wx => Ways (RQ (RCel rw_) (ROwn bs) (ROwn bs) RP) 7 wB p5 y5 G5 wx := ⟨_, rfl⟩
    have HSD := Lib.hid hSd
    have HC1 : Hid (∀ wx, S wx → (convert 35 9 (.slice A4 n5 c4)).run Tryz.prog wx = .ok (.string (txt bs)) wx) := Lib.hid (fun wx h => conv_rdA (rown_rd (show ROwn bs wx (.slice A4 n5 c4) (y5 5) (G5 5) from z5 ▸ (by rw [hSd] at h; exact h.ob 5 (by omega)))))
    have HC2 : Hid (∀ wx, S wx → (convert 35 9 (.slice A5 n5 c5)).run Tryz.prog wx = .ok (.string (txt bs)) wx) := Lib.hid (fun wx h => conv_rdA (rown_rd (show ROwn bs wx (.slice A5 n5 c5) (y5 6) (G5 6) from z6 ▸ (by rw [hSd] at h; exact h.ob 6 (by omega)))))
    have HUA : Hid (∀ wx, S wx → Calls Tryz.prog 11 #[.pointer (some ⟨ga, 0, none⟩)] wx fun e w' => e = .returned (.int .i64 yc.used) ∧ wx = w') := Lib.hid (fun wx h => used_of (F := G5 0) (by rw [hSd] at h; have := h.ob 0 (by omega); rw [z0, x0] at this; exact this) HGC.out.1)
    have HUR : Hid (∀ wx, S wx → wx.cell? ⟨gc, 51, none⟩ = some (.int .i64 yc.used)) := Lib.hid (fun wx h => rused_of (F := G5 2) (by rw [hSd] at h; have := h.ob 2 (by omega); rw [z2, x2] at this; exact this) HGC.out.1)
    have HA5 := Lib.hid (And.intro hA5 (And.intro z0 (And.intro z1 (And.intro z2 (And.intro z3 (And.intro z4 z5))))))
    have HV5 := Lib.hid (And.intro x0 (And.intro x1 (And.intro x2 x3)))
    have hqq : (q != q) = false := by simp
    have hTT : ((txt bs).toList == (txt bs).toList) = true := beq_self_eq_true _
    have huu : (yc.used != yc.used) = false := by simp
    clear hA5 z0 z1 z2 z3 z4 z5 z6 x0 x1 x2 x3 hSd
    refine wp_region_noPanic ?_
    refine wp_region_held (S := S) (by kernel_rfl) ?_
    change wpAnyH _ _ _ _ _ _ _ _ (World.drew _)
    have HA6 := Lib.hid (HA5.out.1.on (HLb.out _ _ _ (rown_lone bs) (rown_lone bs) rp_lone) (Below.refl w5.heap.size w5).drew)
    obtain ⟨w6, hw6⟩ : ∃ x, x = w5.drew := ⟨_, rfl⟩
    rw [← hw6] at HA6 ⊢
    have hS : S w6 := by rw [HSD.out]; exact HA6.out
    clear hw6
    refine wpAnyH_take (i := 0) (v := ?_) rfl (by kernel_rfl) (by kernel_rfl) (by kernel_rfl) (fun _ _ _ h => h) (Or.inl ⟨by rfl, ?_⟩) hS ?_
    case refine_2 => (intro wz hz; go_simp; with_reducible rfl)
    simp only [Act.put, xgT, xgZ, xsT, xsS, xsZ]
    refine wpAnyH_take (i := 1) (v := ?_) rfl (by kernel_rfl) (by kernel_rfl) (by kernel_rfl) (fun _ _ _ h => h) (Or.inl ⟨by rfl, ?_⟩) hS ?_
    case refine_2 => (intro wz hz; go_simp; with_reducible rfl)
    simp only [Act.put, xgT, xgS, xgZ, xsT, xsS, xsZ]
    refine wpAnyH_take (i := 2) (v := .bool false) rfl (by kernel_rfl) (by kernel_rfl) (by kernel_rfl) (fun _ _ _ h => h) (Or.inl ⟨by rfl, fun wz hz => ?_⟩) hS ?_
    · (go_simp)
    simp only [Act.put, xgT, xgS, xgZ, xsT, xsS, xsZ]
    refine wpAnyH_take (i := 3) (v := ?_) rfl (by kernel_rfl) (by kernel_rfl) (by kernel_rfl) (fun _ _ _ h => h) (Or.inl ⟨by rfl, ?_⟩) hS ?_
    case refine_2 => (intro wz hz; go_simp; with_reducible rfl)
    simp only [Act.put, xgT, xgS, xgZ, xsT, xsS, xsZ]
    refine wpAnyH_take (i := 4) (v := ?_) rfl (by kernel_rfl) (by kernel_rfl) (by kernel_rfl) (fun _ _ _ h => h) (Or.inl ⟨by rfl, ?_⟩) hS ?_
    case refine_2 => (intro wz hz; go_simp; with_reducible rfl)
    simp only [Act.put, xgT, xgS, xgZ, xsT, xsS, xsZ]
    refine wpAnyH_take (i := 5) (v := ?_) rfl (by kernel_rfl) (by kernel_rfl) (by kernel_rfl) (fun _ _ _ h => h) (Or.inl ⟨by rfl, ?_⟩) hS ?_
    case refine_2 => (intro wz hz; (have hcv := HC1.out wz hz; go_simp; with_reducible rfl))
    simp only [Act.put, xgT, xgS, xgZ, xsT, xsS, xsZ]
    refine wpAnyH_take (i := 6) (v := ?_) rfl (by kernel_rfl) (by kernel_rfl) (by kernel_rfl) (fun _ _ _ h => h) (Or.inl ⟨by rfl, ?_⟩) hS ?_
    case refine_2 => (intro wz hz; go_simp; with_reducible rfl)
    simp only [Act.put, xgT, xgS, xgZ, xsT, xsS, xsZ]
    refine wpAnyH_take (i := 7) (v := ?_) rfl (by kernel_rfl) (by kernel_rfl) (by kernel_rfl) (fun _ _ _ h => h) (Or.inl ⟨by rfl, ?_⟩) hS ?_
    case refine_2 => (intro wz hz; (have hcv := HC2.out wz hz; go_simp; with_reducible rfl))
    simp only [Act.put, xgT, xgS, xgZ, xsT, xsS, xsZ]
    refine wpAnyH_take (i := 8) (v := .bool false) rfl (by kernel_rfl) (by kernel_rfl) (by kernel_rfl) (fun _ _ _ h => h) (Or.inl ⟨by rfl, fun wz hz => ?_⟩) hS ?_
    · (go_simp)
    simp only [Act.put, xgT, xgS, xgZ, xsT, xsS, xsZ]
    refine wpAnyH_take (i := 9) (v := .bool false) rfl (by kernel_rfl) (by kernel_rfl) (by kernel_rfl) (fun _ _ _ h => h) (Or.inl ⟨by rfl, fun wz hz => ?_⟩) hS ?_
    · (go_simp)
    simp only [Act.put, xgT, xgS, xgZ, xsT, xsS, xsZ]
    refine wpAnyH_take (i := 10) (v := ?_) rfl (by kernel_rfl) (by kernel_rfl) (by kernel_rfl) (fun _ _ _ h => h) (Or.inl ⟨by rfl, ?_⟩) hS ?_
    case refine_2 => (intro wz hz; go_simp; with_reducible rfl)
    simp only [Act.put, xgT, xgS, xgZ, xsT, xsS, xsZ]
    refine wpAnyH_take (i := 11) (v := ?_) rfl (by kernel_rfl) (by kernel_rfl) (by kernel_rfl) (fun _ _ _ h => h) (Or.inl ⟨by rfl, ?_⟩) hS ?_
    case refine_2 => (intro wz hz; go_simp; with_reducible rfl)
    simp only [Act.put, xgT, xgS, xgZ, xsT, xsS, xsZ]
    refine wpAnyH_take (i := 13) (v := ?_) rfl (by kernel_rfl) (by kernel_rfl) (by kernel_rfl) (fun _ _ _ h => h) (Or.inl ⟨by rfl, ?_⟩) hS ?_
    case refine_2 => (intro wz hz; go_simp; with_reducible rfl)
    simp only [Act.put, xgT, xgS, xgZ, xsT, xsS, xsZ]
    refine wpAnyH_take (i := 14) (v := ?_) rfl (by kernel_rfl) (by kernel_rfl) (by kernel_rfl) (fun _ _ _ h => h) (Or.inl ⟨by rfl, ?_⟩) hS ?_
    case refine_2 => (intro wz hz; go_simp; with_reducible rfl)
    simp only [Act.put, xgT, xgS, xgZ, xsT, xsS, xsZ]
    refine wpAnyH_take (i := 15) (v := ?_) rfl (by kernel_rfl) (by kernel_rfl) (by kernel_rfl) (fun _ _ _ h => h) (Or.inl ⟨by rfl, ?_⟩) hS ?_
    case refine_2 => (intro wz hz; go_simp; with_reducible rfl)
    simp only [Act.put, xgT, xgS, xgZ, xsT, xsS, xsZ]
    refine wpAnyH_take (i := 16) (v := ?_) rfl (by kernel_rfl) (by kernel_rfl) (by kernel_rfl) (fun _ _ _ h => h) (Or.inl ⟨by rfl, ?_⟩) hS ?_
    case refine_2 => (intro wz hz; (have hcu := HUR.out wz hz; go_simp; with_reducible rfl))
    simp only [Act.put, xgT, xgS, xgZ, xsT, xsS, xsZ]
    refine anyH_oneG (i := 12) (by kernel_rfl) rfl (by rfl) (fun HH hH => ?_)
    simp only [xgT, xgS, xgZ]
    go_simp
    refine (HUA.out w6 hS).mono ?_
    rintro e w7 ⟨rfl, rfl⟩
    refine hH _ _ hS ?_
    clear hH
    refine wpAnyH_take (i := 17) (v := .bool false) rfl (by kernel_rfl) (by kernel_rfl) (by kernel_rfl) (fun _ _ _ h => h) (Or.inl ⟨by rfl, fun wz hz => ?_⟩) hS ?_
    · (go_simp)
    simp only [Act.put, xgT, xgS, xgZ, xsT, xsS, xsZ]
    refine wpAnyH_take (i := 18) (v := .bool false) rfl (by kernel_rfl) (by kernel_rfl) (by kernel_rfl) (fun _ _ _ h => h) (Or.inl ⟨by rfl, fun wz hz => ?_⟩) hS ?_
    · (go_simp)
    simp only [Act.put, xgT, xgS, xgZ, xsT, xsS, xsZ]
    refine wpAnyH_done (by kernel_rfl) ?_ _
    refine NoPanic.normal ?_
    clear hqq hTT huu HC1 HC2 HUA HUR hS HSD HQ
    have HUB : Hid (yb.used ≤ (k + 1 : Nat)) := Lib.hid (by have := HUS.out.2; omega)
    have hB6 := HBX.out _ _ _ _ _ _ _ _ (by omega) HA5.out.2.2.2.2.2.1 HA6.out
    have hrs := (HOW.out _ HA6.out.below).bs
    dsimp only at hrs
    obtain ⟨nr, hnr⟩ : ∃ x, x = raw.length := ⟨_, rfl⟩
    have c15 : w6.cell? ⟨go, 15, none⟩ = some (.slice R nr rc) := ((hB6.cell 15).trans HCE.out.2.2.2.2.2.1).trans (by rw [hnr])
    have c12 : w6.cell? ⟨go, 12, none⟩ = some (.bool c) := (hB6.cell 12).trans HCE.out.2.2.1
    have c13 : w6.cell? ⟨go, 13, none⟩ = some (.int .u16 (a : Int)) := (hB6.cell 13).trans HCE.out.2.2.2.1
    have c14 : w6.cell? ⟨go, 14, none⟩ = some (.int .u8 (f : Int)) := (hB6.cell 14).trans HCE.out.2.2.2.2.1
    have hro5 := rown_rd (show ROwn bs w6 (.slice A4 n5 c4) (y5 5) (G5 5) from HA5.out.2.2.2.2.2.2 ▸ HA6.out.ob 5 (by omega))
    obtain ⟨Ax, nx, cx, bx, hor, hnx, hrx⟩ : ∃ (Ax : Option Addr) (nx cx : Nat) (bx : List UInt8), ((¬ (0 : Int) < (nr : Int) ∧ Ax = A4 ∧ nx = n5 ∧ cx = c4) ∨ ((0 : Int) < (nr : Int) ∧ Ax = R ∧ nx = nr ∧ cx = rc)) ∧ (bx.length = nx ∧ nx ≤ 1500) ∧ RdS w6 Ax nx cx bx := by
     by_cases h : 0 < nr
     · exact ⟨R, nr, rc, raw, .inr ⟨by omega, rfl, rfl, rfl⟩, ⟨hnr.symm, by have := HSZ.out; omega⟩, by rw [hnr]; exact hrs⟩
     · exact ⟨A4, n5, c4, bs, .inl ⟨by omega, rfl, rfl, rfl⟩, ⟨HLL.out.symm, by have := HBL.out; have := HLL.out; omega⟩, hro5⟩
    have HRX := Lib.hid hrx
    have HNX := Lib.hid hnx
    have HSP := Lib.hid (pinv_step HA6.out (by omega) HA5.out.2.1 HA5.out.2.2.1 HA5.out.2.2.2.1 HA5.out.2.2.2.2.1 HV5.out.1 HV5.out.2.1 HV5.out.2.2.1 HV5.out.2.2.2 HGC.out.1 HGD.out.2 HGC.out.2 HUB.out)
    clear hB6 hrs hro5 hrx hnx hnr
    rcases hor with ⟨h0, q1, q2, q3⟩ | ⟨h0, q1, q2, q3⟩
    all_goals (
     go_upto_region 17 with (fail)
     subst q1 q2 q3
     clear c15 h0
     cases c with
     | false =>
       clear c13 c14
       go_wp2
       go_roundw
       case rel => exact ⟨k + 1, by omega, by go_num, HSP⟩
       case measure => simp [intOf]; omega
     | true =>
       by_cases hx0 : nx = 0
       · have hx0b : ((nx : Int) == 0) = true := by simp [hx0]
         clear c13 c14 hx0
         go_wp2
         go_roundw
         case rel => exact ⟨k + 1, by omega, by go_num, HSP⟩
         case measure => simp [intOf]; omega
       have hx0b : ((nx : Int) == 0) = false := by simp; omega
       have hsx : w6.heap.size ≤ (w6.alloc (.cells #[] 5)).heap.size := ((Below.refl w6.heap.size w6).alloc (Nat.le_refl _) _).size
       have hx6 := HNX.out.2
       have hnb : 0 + nx ≤ 140737488355328 := by omega
       have hrb := HRX.out.below ((Below.refl w6.heap.size w6).alloc (Nat.le_refl _) (.cells #[] 5))
       have HFB := Lib.hid (And.intro c13 c14)
       clear c13 c14 HSP
       go_upto_region 19 with (at_builtin; refine wpList_append_rd _ rfl (.tmp 106) (.tmp 107) rfl Tryz.underlying35 u8_infoR w6.heap.size (.slice (some ⟨w6.heap.size, 0, none⟩) 0 0) 0 [] rfl (own_empty w6) Ax nx cx bx rfl hrb hnb hsx ?_; intro v7 w7 hown7 hg7 _; obtain ⟨ho, hb⟩ := own_first HNX.out.1 hown7 hg7; obtain ⟨A7, c7, hv7⟩ := own_formN ho; subst hv7; have HO7 := Lib.hid ho; have HB7 := Lib.hid hb; clear hown7 hg7 ho hb)
       clear hrb hsx hnb hx0b HRX HFB
       obtain ⟨G7, hG7⟩ := Ways.rowed (bs := bx) (HLb.out _ _ _ (rown_lone bx) rp_lone rp_lone) (HA6.out.as5 (by omega)) HB7.out HO7.out ya
       obtain ⟨p7, y7, hA7, z0, z1, z2, z3, z4, z5, x0, x1, x2, x3⟩ : ∃ p' y', Ways (RQ (RCel rw_) (ROwn bx) RP RP) 6 wB p' y' G7 w7 ∧ p' 0 = .pointer (some ⟨ga, 0, none⟩) ∧ p' 1 = .pointer (some ⟨gb, 0, none⟩) ∧ p' 2 = .pointer (some ⟨gc, 0, none⟩) ∧ p' 3 = .pointer (some ⟨gd, 0, none⟩) ∧ p' 4 = .pointer (some ⟨go, 0, none⟩) ∧ p' 5 = .slice A7 nx c7 ∧ y' 0 = yc ∧ y' 1 = yb ∧ y' 2 = yc ∧ y' 3 = yb := ⟨_, _, hG7, HA5.out.2.1, HA5.out.2.2.1, HA5.out.2.2.2.1, HA5.out.2.2.2.2.1, HA5.out.2.2.2.2.2.1, rfl, HV5.out.1, HV5.out.2.1, HV5.out.2.2.1, HV5.out.2.2.2⟩
       clear HO7 HB7 hG7 HA6 HA5 HV5
       have hB7 := HBX.out _ _ _ _ _ _ _ _ (by omega) z4 hA7
       have c13 : w7.cell? ⟨go, 13, none⟩ = some (.int .u16 (a : Int)) := (hB7.cell 13).trans HCE.out.2.2.2.1
       have c14 : w7.cell? ⟨go, 14, none⟩ = some (.int .u8 (f : Int)) := (hB7.cell 14).trans HCE.out.2.2.2.2.1
       obtain ⟨⟨baseX, hoX⟩, hFX⟩ := rown_open (show ROwn bx w7 (.slice A7 nx c7) (y7 5) (G7 5) from z5 ▸ hA7.ob 5 (by omega))
       obtain ⟨gX, hgX, hbX, hcX⟩ := own_at hoX (by omega)
       subst hgX
       obtain ⟨K, hK⟩ : ∃ K, K = a % nx := ⟨_, rfl⟩
       have hKn : K < nx := by rw [hK]; exact Nat.mod_lt _ (by omega)
       have hcell := (hcX K hKn).1
       have hfr := (hcX K hKn).2
       have HXO := Lib.hid (own_set hoX (by omega) K (bx.getD K 0 ^^^ UInt8.ofNat f))
       have HXR := Lib.hid (flip_xor (bx.getD K 0) f (by omega))
       obtain ⟨z, hz⟩ : ∃ z : Int, z = ((bx.getD K 0).toNat : Int) := ⟨_, rfl⟩
       rw [← hz] at hcell
       have HZ := Lib.hid hz
       have hwv : IntKind.i64.wrap (a : Int) = (a : Int) := IntWalk.i64_in _ (by omega)
       have htm : Int.tmod (a : Int) (nx : Int) = (K : Int) := by rw [Int.tmod_eq_emod_of_nonneg (by omega), hK]; omega
       have hNb : ((nx : Int) == 0) = false := by simp; omega
       have hNf : ((nx : Int) = 0) = False := by simp; omega
       have hNz : (nx = 0) = False := by simp; omega
       have hwq : IntKind.i64.wrap (K : Int) = (K : Int) := IntWalk.i64_in _ (by omega)
       have hqp : 0 ≤ (K : Int) := by omega
       have HFX := Lib.hid hFX
       have HA7 := Lib.hid (And.intro hA7 (And.intro z0 (And.intro z1 (And.intro z2 (And.intro z3 (And.intro z4 z5))))))
       have HV7 := Lib.hid (And.intro x0 (And.intro x1 (And.intro x2 x3)))
       clear hoX hcX hz hK hFX hbX hA7 z0 z1 z2 z3 z4 z5 x0 x1 x2 x3 hB7
       go_still_tail 20, (by kernel_rfl)
       change wpList _ _ _ _ _ w7.drew
       have HA8 := Lib.hid (HA7.out.1.on (HLb.out _ _ _ (rown_lone bx) rp_lone rp_lone) (Below.refl w7.heap.size w7).drew)
       have HX8 : Hid ((w7.drew.setCell ⟨gX, K, none⟩ (.int .u8 (bits BinOp.xor IntKind.u8 z (f : Int)))).ownsRow baseX 5 1 (.slice (some ⟨gX, 0, none⟩) nx c7) nx (cells (flipB bx K f))) := Lib.hid (by rw [HZ.out, HXR.out]; exact HXO.out)
       have hcell13 : w7.drew.cell? ⟨gX, K, none⟩ = _ := hcell
       have hfr13 : w7.drew.frozen? ⟨gX, K, none⟩ = false := hfr
       clear HXO hcell hfr c13 c14
       generalize w7.drew = w8 at HA8 HX8 hcell13 hfr13 ⊢
       obtain ⟨w9, hw9⟩ : ∃ x, x = w8.setCell ⟨gX, K, none⟩ (.int .u8 (bits BinOp.xor IntKind.u8 z (f : Int))) := ⟨_, rfl⟩
       have hfX : Fr (G7 5) w8 w9 := by rw [hw9]; exact Fr.of_only (Only.set w8 gX K _) (by rw [HFX.out]; rfl)
       rw [← hw9] at HX8
       obtain ⟨X2, hX2⟩ : ∃ x, x = flipB bx K f := ⟨_, rfl⟩
       rw [← hX2] at HX8
       have HA9 : Hid (Ways (RQ (RCel rw_) (ROwn X2) RP RP) 6 wB p7 y7 G7 w9) := Lib.hid (HA8.out.swap (HLb.out _ _ _ (rown_lone bx) rp_lone rp_lone) (i := 5) (by omega) (fun j hj => by
        match j, hj with
        | 0, _ => rfl
        | 1, _ => rfl
        | 2, _ => rfl
        | 3, _ => rfl
        | 4, _ => rfl
        | 5, h => exact absurd rfl h
        | 6, _ => rfl
        | _ + 7, _ => rfl) hfX (by rw [HA7.out.2.2.2.2.2.2]; exact ⟨_, _, _, _, rfl, HX8.out, HFX.out⟩))
       have HX2L : Hid (nx = X2.length) := Lib.hid (RdS.of_own HX8.out).len.symm
       clear HA8 hfX HX8 HXR HZ HFX hX2 htm hNb hNf hNz hwv hwq hqp
       go_upto_region 20 with (fail)
       rw [← hw9]
       clear hw9 hcell13 hfr13
       have hz2 := zero28
       obtain ⟨q2, hq2⟩ : ∃ x, codeO yb X2 = x := ⟨_, rfl⟩
       obtain ⟨i2, hi2⟩ : ∃ x, idxO yb X2 = x := ⟨_, rfl⟩
       obtain ⟨pk2, hpk2⟩ : ∃ x, pktO yb X2 = x := ⟨_, rfl⟩
       obtain ⟨yd, hyd⟩ : ∃ x, yO yb X2 = x := ⟨_, rfl⟩
       have hub : yb.used + 1 ≤ 900 := by have := HUS.out.2; omega
       have HGE : Hid (yd.good ∧ yd.used ≤ (k + 1 : Nat)) := Lib.hid (by
        refine ⟨hyd ▸ good_open HGD.out.2 X2 hub, ?_⟩
        have h1 := HUS.out.2
        have h2 := used_open yb X2
        rw [hyd] at h2
        omega)
       have HOA := Lib.hid ((open15_any (.pointer (some ⟨gb, 0, none⟩)) yb (G7 1) (some ⟨gX, 0, none⟩) nx c7 X2 w9 (by have := HA9.out.ob 1 (by omega); rw [HA7.out.2.2.1, HV7.out.2.1] at this; exact this) (HTW.out _ HA9.out.below) HGD.out.2 hub (rown_rd (show ROwn X2 w9 (.slice (some ⟨gX, 0, none⟩) nx c7) (y7 5) (G7 5) from HA7.out.2.2.2.2.2.2 ▸ HA9.out.ob 5 (by omega))) (HA9.out.offO (HLb.out _ _ _ (rown_lone X2) rp_lone rp_lone) (i := 1) (j := 5) (by omega) (by omega) (by decide) HA7.out.2.2.2.2.2.2 rfl)).mono (fun e w' k => k.told hq2 hi2 hpk2 hyd))
       have HOB : Hid (∀ W F, RY W (.pointer (some ⟨gd, 0, none⟩)) yb F → RdS W (some ⟨gX, 0, none⟩) nx c7 X2 → (0 < nx → ∀ ad, some (⟨gX, 0, none⟩ : Addr) = some ad → ¬ F ad.block ∧ ad.block < W.heap.size) → Calls Tryz.prog 13 #[.pointer (some ⟨gd, 0, none⟩), .slice (some ⟨gX, 0, none⟩) nx c7] W (OpenT RY (.pointer (some ⟨gd, 0, none⟩)) F q2 i2 pk2 yd W)) := Lib.hid (fun W F h1 h2 h3 => (ropen15_any (.pointer (some ⟨gd, 0, none⟩)) yb F (some ⟨gX, 0, none⟩) nx c7 X2 W h1 HGD.out.2 hub h2 h3).mono (fun e w' k => k.told hq2 hi2 hpk2 hyd))
       clear hq2 hi2 hpk2 hyd hub
       go_upto_region 21 with (first
        | (go_at_call 12; ((with_reducible refine (HOA.out).mono ?_); rintro e wa ⟨csa, Fa, rfl, hpa, hna, hra, hfa, hFa⟩; have HTa := Lib.hid (And.intro hpa (And.intro hna (And.intro hra (And.intro hfa hFa)))); have hIa := BlkV.new_at wa wa.heap.size 37 zeroC _ rfl rfl; have HLa := Lib.hid hpa.len; have HOa := Lib.hid hpa.one; clear hpa hna hra hfa hFa))
        | ((with_reducible refine wpList_st rfl 37 (.tmp 19) (.tmp 133) rfl wa.heap.size 0 csa rfl rfl 37 zeroC hIa (by rw [HLa.out]; decide) (row11 HLa.out) HOa.out ?_); intro wb hBb hob; rw [splice_all _ _ (by rw [HLa.out]; rfl)] at hBb; have HBb := Lib.hid hBb; have Hbb : Hid (Below wa.heap.size wa wb) := Lib.hid (((Below.refl _ _).alloc (Nat.le_refl _) _).trans (hob.below (Nat.le_refl _))); clear hBb hob))
       have HLc := Lib.hid (HLb.out (ROwn X2) (RBox pk2) (RBox pk2) (rown_lone X2) (rbox_lone pk2) (rbox_lone pk2))
       obtain ⟨Gb, hGb⟩ := Ways.opened (R := RQ (RCel rw_) (ROwn X2) (RBox pk2) (RBox pk2)) HLc.out (HA9.out.as6 (Nat.le_refl _)) (i := 1) (by omega) HTa.out.1 HTa.out.2.1 (by rw [HA7.out.2.2.1]; exact HTa.out.2.2.1) HTa.out.2.2.2.1 HTa.out.2.2.2.2 ya rfl Hbb.out HBb.out
       obtain ⟨g6, hg6⟩ : ∃ b, b = wa.heap.size := ⟨_, rfl⟩
       rw [← hg6] at hGb ⊢
       obtain ⟨pb, yB, hAb, z0, z1, z2, z3, z4, z5, z6, x0, x1, x2, x3⟩ : ∃ p' y', Ways (RQ (RCel rw_) (ROwn X2) (RBox pk2) (RBox pk2)) 7 wB p' y' Gb wb ∧ p' 0 = .pointer (some ⟨ga, 0, none⟩) ∧ p' 1 = .pointer (some ⟨gb, 0, none⟩) ∧ p' 2 = .pointer (some ⟨gc, 0, none⟩) ∧ p' 3 = .pointer (some ⟨gd, 0, none⟩) ∧ p' 4 = .pointer (some ⟨go, 0, none⟩) ∧ p' 5 = .slice (some ⟨gX, 0, none⟩) nx c7 ∧ p' 6 = .pointer (some ⟨g6, 0, none⟩) ∧ y' 0 = yc ∧ y' 1 = yd ∧ y' 2 = yc ∧ y' 3 = yb := ⟨_, _, hGb, HA7.out.2.1, HA7.out.2.2.1, HA7.out.2.2.2.1, HA7.out.2.2.2.2.1, HA7.out.2.2.2.2.2.1, HA7.out.2.2.2.2.2.2, rfl, HV7.out.1, rfl, HV7.out.2.2.1, HV7.out.2.2.2⟩
       have HOC := Lib.hid (HOB.out wb (Gb 3) (by have := hAb.ob 3 (by omega); rw [z3, x3] at this; exact this) (rown_rd (show ROwn X2 wb (.slice (some ⟨gX, 0, none⟩) nx c7) (yB 5) (Gb 5) from z5 ▸ hAb.ob 5 (by omega))) (hAb.offO HLc.out (i := 3) (j := 5) (by omega) (by omega) (by decide) z5 rfl))
       have HAb := Lib.hid (And.intro hAb (And.intro z0 (And.intro z1 (And.intro z2 (And.intro z3 (And.intro z4 (And.intro z5 z6)))))))
       have HVb := Lib.hid (And.intro x0 (And.intro x1 (And.intro x2 x3)))
       clear HOA HA7 HA9 HV7 hGb HTa hIa HLa HOa HBb Hbb hg6 hAb z0 z1 z2 z3 z4 z5 z6 x0 x1 x2 x3
       go_upto_region 22 with (first
        | (go_at_call 13; ((with_reducible refine (HOC.out).mono ?_); rintro e wc ⟨csc, Fc, rfl, hpa, hna, hra, hfa, hFa⟩; have HTc := Lib.hid (And.intro hpa (And.intro hna (And.intro hra (And.intro hfa hFa)))); have hIc := BlkV.new_at wc wc.heap.size 37 zeroC _ rfl rfl; have HLd := Lib.hid hpa.len; have HOd := Lib.hid hpa.one; clear hpa hna hra hfa hFa))
        | ((with_reducible refine wpList_st rfl 37 (.tmp 22) (.tmp 140) rfl wc.heap.size 0 csc rfl rfl 37 zeroC hIc (by rw [HLd.out]; decide) (row11 HLd.out) HOd.out ?_); intro wd hBd hod; rw [splice_all _ _ (by rw [HLd.out]; rfl)] at hBd; have HBd := Lib.hid hBd; have Hbd : Hid (Below wc.heap.size wc wd) := Lib.hid (((Below.refl _ _).alloc (Nat.le_refl _) _).trans (hod.below (Nat.le_refl _))); clear hBd hod))
       obtain ⟨Gd, hGd⟩ := Ways.opened (R := RQ (RCel rw_) (ROwn X2) (RBox pk2) (RBox pk2)) HLc.out HAb.out.1 (i := 3) (by omega) HTc.out.1 HTc.out.2.1 (by rw [HAb.out.2.2.2.2.1]; exact HTc.out.2.2.1) HTc.out.2.2.2.1 HTc.out.2.2.2.2 ya rfl Hbd.out HBd.out
       obtain ⟨g7, hg7⟩ : ∃ b, b = wc.heap.size := ⟨_, rfl⟩
       rw [← hg7] at hGd ⊢
       obtain ⟨pd, yD, hAd, z0, z1, z2, z3, z4, z6, z7, x0, x1, x2, x3⟩ : ∃ p' y', Ways (RQ (RCel rw_) (ROwn X2) (RBox pk2) (RBox pk2)) 8 wB p' y' Gd wd ∧ p' 0 = .pointer (some ⟨ga, 0, none⟩) ∧ p' 1 = .pointer (some ⟨gb, 0, none⟩) ∧ p' 2 = .pointer (some ⟨gc, 0, none⟩) ∧ p' 3 = .pointer (some ⟨gd, 0, none⟩) ∧ p' 4 = .pointer (some ⟨go, 0, none⟩) ∧ p' 6 = .pointer (some ⟨g6, 0, none⟩) ∧ p' 7 = .pointer (some ⟨g7, 0, none⟩) ∧ y' 0 = yc ∧ y' 1 = yd ∧ y' 2 = yc ∧ y' 3 = yd := ⟨_, _, hGd, HAb.out.2.1, HAb.out.2.2.1, HAb.out.2.2.2.1, HAb.out.2.2.2.2.1, HAb.out.2.2.2.2.2.1, HAb.out.2.2.2.2.2.2.2, rfl, HVb.out.1, HVb.out.2.1, HVb.out.2.2.1, rfl⟩
       have HSP : Hid (∀ W, Ways (RQ (RCel rw_) (ROwn X2) (RBox pk2) (RBox pk2)) 8 wB pd yD Gd W → PInv (.pointer (some ⟨ga, 0, none⟩)) (.pointer (some ⟨gb, 0, none⟩)) (.pointer (some ⟨gc, 0, none⟩)) (.pointer (some ⟨gd, 0, none⟩)) wB (k + 1) W) := Lib.hid (fun W h => pinv_step h (by omega) z0 z1 z2 z3 x0 x1 x2 x3 HGC.out.1 HGE.out.1 HGC.out.2 HGE.out.2)
       clear HAb HVb HOB HOC hGd HTc hIc HLd HOd HBd Hbd hg7 hz2
       obtain ⟨da, hDa, hQa⟩ := rbox_open (show RBox pk2 wd (.pointer (some ⟨g6, 0, none⟩)) (yD 6) (Gd 6) from z6 ▸ hAd.ob 6 (by omega))
       obtain ⟨db, hDb, hQb⟩ := rbox_open (show RBox pk2 wd (.pointer (some ⟨g7, 0, none⟩)) (yD 7) (Gd 7) from z7 ▸ hAd.ob 7 (by omega))
       obtain ⟨nm, ww, r_, v_, hRW⟩ := ry_at (show RY wd (.pointer (some ⟨gd, 0, none⟩)) yd (Gd 3) from by have := hAd.ob 3 (by omega); rw [z3, x3] at this; exact this)
       obtain ⟨An, cn, hnm⟩ := own_formN hRW.n
       subst hnm
       have RTa : Hid (RowTy Tryz.prog 37 da.length) := Lib.hid (row11 hQa.len)
       have RTb : Hid (RowTy Tryz.prog 37 db.length) := Lib.hid (row11 hQb.len)
       obtain ⟨m, hm⟩ : ∃ m, m = yd.ws.length := ⟨_, rfl⟩
       obtain ⟨hh, hhh⟩ : ∃ h, h = highW yd.ws pk.so := ⟨_, rfl⟩
       obtain ⟨so, hso⟩ : ∃ x, x = pk.so := ⟨_, rfl⟩
       obtain ⟨S, hSd⟩ : ∃ S : World → Prop, S = fun wx => Ways (RQ (RCel rw_) (ROwn X2) (RBox pk2) (RBox pk2)) 8 wB pd yD Gd wx ∧ RWay wx gd yd (.slice An yd.ws.length cn) ww r_ v_ ∧ (BlkV wx g6 37 da ∧ PkRd wx da pk2) ∧ (BlkV wx g7 37 db ∧ PkRd wx db pk2) := ⟨_, rfl⟩
       have HSE : Hid (∀ W, S W → Ways (RQ (RCel rw_) (ROwn X2) (RBox pk2) (RBox pk2)) 8 wB pd yD Gd W ∧ RWay W gd yd (.slice An yd.ws.length cn) ww r_ v_ ∧ (BlkV W g6 37 da ∧ PkRd W da pk2) ∧ (BlkV W g7 37 db ∧ PkRd W db pk2)) := Lib.hid (fun W h => by rw [hSd] at h; exact h)
       have HSB : Hid (∀ W W', S W → Below W.heap.size W W' → S W') := Lib.hid (fun W W' h hb => by
        obtain ⟨h1, h2, h3, h4⟩ := HSE.out W h
        rw [hSd]
        exact ⟨h1.on HLc.out hb, h2.below hb, ⟨h3.1.below hb h3.1.lt, h3.2.below hb⟩, h4.1.below hb h4.1.lt, h4.2.below hb⟩)
       have hso4 : pk.so < 4294967296 := HFT.out.2.2.1
       have HC1 : Hid (∀ W, S W → Calls Tryz.prog 14 #[.agg da.toArray, .agg db.toArray] W fun e w' => e = .returned (.bool true) ∧ Below W.heap.size W w') := Lib.hid (fun W h => same10_any da db pk2 W (HSE.out W h).2.2.1.2 (HSE.out W h).2.2.2.2)
       have HRP : Hid (∀ W, S W → RP W (.pointer (some ⟨gb, 0, none⟩)) yd (Gd 1)) := Lib.hid (fun W h => by have := (HSE.out W h).1.ob 1 (by omega); rw [z1, x1] at this; exact this)
       have HC2 : Hid (∀ W, S W → Calls Tryz.prog 11 #[.pointer (some ⟨gb, 0, none⟩)] W fun e w' => e = .returned (.int .i64 yd.used) ∧ W = w') := Lib.hid (fun W h => used_of (HRP.out W h) HGE.out.1)
       have HC3 : Hid (∀ W, S W → Calls Tryz.prog 15 #[.pointer (some ⟨gb, 0, none⟩)] W fun e w' => e = .returned (.int .i64 (m : Int)) ∧ W = w') := Lib.hid (fun W h => by rw [hm]; exact sources_of (HRP.out W h) HGE.out.1)
       have HC4 : Hid (∀ W, S W → Calls Tryz.prog 16 #[.pointer (some ⟨gb, 0, none⟩), .int .u32 (so : Int)] W fun e w' => e = .returned (.int .i64 hh) ∧ Below W.heap.size W w') := Lib.hid (fun W h => by rw [hhh, hso]; exact high_of (HRP.out W h) HGE.out.1 pk.so hso4)
       have HC5 : Hid (∀ W, S W → Calls Tryz.prog 17 #[.pointer (some ⟨gd, 0, none⟩), .int .u32 (so : Int)] W fun e w' => e = .returned (.int .i64 hh) ∧ W = w') := Lib.hid (fun W h => by rw [hhh, hso]; exact rhigh15_any gd yd _ _ _ _ pk.so W (HSE.out W h).2.1 HGE.out.1 hso4)
       have HU : Hid (∀ W, S W → W.cell? ⟨gd, 51, none⟩ = some (.int .i64 yd.used) ∧ W.cell? ⟨gd, 52, none⟩ = some (.slice An m cn)) := Lib.hid (fun W h => by
        have := (HSE.out W h).2.1.cells_ HGE.out.1.1
        rw [hm]
        exact ⟨this.2.1, this.2.2.1⟩)
       have HU2 : Hid (∀ W, S W → W.cell? ⟨go, 4, none⟩ = some (.int .u32 (so : Int))) := Lib.hid (fun W h => by rw [hso]; exact ((HBX.out _ _ _ _ _ _ _ _ (by omega) z4 (HSE.out W h).1).cell 4).trans HCE.out.1)
       have hS0 : S wd := by rw [hSd]; exact ⟨hAd, hRW, ⟨hDa, hQa⟩, hDb, hQb⟩
       have HLDa : Hid (∀ W, S W → W.rangeAt g6 0 da) := Lib.hid (fun W h => (HSE.out W h).2.2.1.1.range 0 _ (fun i _ => by rw [Nat.zero_add]))
       have HLDb : Hid (∀ W, S W → W.rangeAt g7 0 db) := Lib.hid (fun W h => (HSE.out W h).2.2.2.1.range 0 _ (fun i _ => by rw [Nat.zero_add]))
       obtain ⟨ud, hud⟩ : ∃ x, x = yd.used := ⟨_, rfl⟩
       rw [← hud] at HC2 HU
       have hqq : (q2 != q2) = false := by simp
       have hii : (i2 != i2) = false := by simp
       have huu : (ud != ud) = false := by simp
       have hmm : ((m : Int) != (m : Int)) = false := by simp
       have hhq : (hh != hh) = false := by simp
       clear hAd z0 z1 z2 z3 z4 z6 z7 x0 x1 x2 x3 hDa hQa hDb hQb hRW hm hhh hso hso4 hSd hud
       refine wp_region_noPanic ?_
       refine wp_region_held (S := S) (by kernel_rfl) ?_
       change wpAnyH _ _ _ _ _ _ _ _ (World.drew _)
       have hS := HSB.out _ _ hS0 (Below.refl wd.heap.size wd).drew
       obtain ⟨we, hwe⟩ : ∃ x, x = wd.drew := ⟨_, rfl⟩
       rw [← hwe] at hS ⊢
       clear hwe hS0
       refine wpAnyH_take (i := 0) (v := ?_) rfl (by kernel_rfl) (by kernel_rfl) (by kernel_rfl) (fun _ _ _ h => h) (Or.inl ⟨by rfl, ?_⟩) hS ?_
       case refine_2 => (intro wz hz; go_simp; with_reducible rfl)
       simp only [Act.put, xgT, xgZ, xsT, xsS, xsZ]
       refine wpAnyH_take (i := 1) (v := ?_) rfl (by kernel_rfl) (by kernel_rfl) (by kernel_rfl) (fun _ _ _ h => h) (Or.inl ⟨by rfl, ?_⟩) hS ?_
       case refine_2 => (intro wz hz; go_simp; with_reducible rfl)
       simp only [Act.put, xgT, xgS, xgZ, xsT, xsS, xsZ]
       refine wpAnyH_take (i := 2) (v := .bool false) rfl (by kernel_rfl) (by kernel_rfl) (by kernel_rfl) (fun _ _ _ h => h) (Or.inl ⟨by rfl, fun wz hz => ?_⟩) hS ?_
       · (go_simp)
       simp only [Act.put, xgT, xgS, xgZ, xsT, xsS, xsZ]
       refine wpAnyH_take (i := 3) (v := ?_) rfl (by kernel_rfl) (by kernel_rfl) (by kernel_rfl) (fun _ _ _ h => h) (Or.inl ⟨by rfl, ?_⟩) hS ?_
       case refine_2 => (intro wz hz; go_simp; with_reducible rfl)
       simp only [Act.put, xgT, xgS, xgZ, xsT, xsS, xsZ]
       refine wpAnyH_take (i := 4) (v := ?_) rfl (by kernel_rfl) (by kernel_rfl) (by kernel_rfl) (fun _ _ _ h => h) (Or.inl ⟨by rfl, ?_⟩) hS ?_
       case refine_2 => (intro wz hz; go_simp; with_reducible rfl)
       simp only [Act.put, xgT, xgS, xgZ, xsT, xsS, xsZ]
       refine wpAnyH_take (i := 5) (v := ?_) rfl (by kernel_rfl) (by kernel_rfl) (by kernel_rfl) (fun _ _ _ h => h) (Or.inl ⟨by rfl, ?_⟩) hS ?_
       case refine_2 => (intro wz hz; go_simp; with_reducible rfl)
       simp only [Act.put, xgT, xgS, xgZ, xsT, xsS, xsZ]
       refine wpAnyH_take (i := 6) (v := .bool false) rfl (by kernel_rfl) (by kernel_rfl) (by kernel_rfl) (fun _ _ _ h => h) (Or.inl ⟨by rfl, fun wz hz => ?_⟩) hS ?_
       · (go_simp)
       simp only [Act.put, xgT, xgS, xgZ, xsT, xsS, xsZ]
       refine wpAnyH_take (i := 7) (v := .bool false) rfl (by kernel_rfl) (by kernel_rfl) (by kernel_rfl) (fun _ _ _ h => h) (Or.inl ⟨by rfl, fun wz hz => ?_⟩) hS ?_
       · (go_simp)
       simp only [Act.put, xgT, xgS, xgZ, xsT, xsS, xsZ]
       refine wpAnyH_take (i := 8) (v := ?_) rfl (by kernel_rfl) (by kernel_rfl) (by kernel_rfl) (fun _ _ _ h => h) (Or.inl ⟨by rfl, ?_⟩) hS ?_
       case refine_2 => (intro wz hz; go_simp; with_reducible rfl)
       simp only [Act.put, xgT, xgS, xgZ, xsT, xsS, xsZ]
       refine wpAnyH_take (i := 9) (v := .agg da.toArray) rfl (by kernel_rfl) (by kernel_rfl) (by kernel_rfl) (fun _ _ _ h => h) (Or.inl ⟨by rfl, fun wz hz => ?_⟩) hS ?_
       · (exact run_ld 37 _ rfl g6 0 (by rfl) da (HLDa.out wz hz) RTa.out)
       simp only [Act.put, xgT, xgS, xgZ, xsT, xsS, xsZ]
       refine wpAnyH_take (i := 10) (v := .agg db.toArray) rfl (by kernel_rfl) (by kernel_rfl) (by kernel_rfl) (fun _ _ _ h => h) (Or.inl ⟨by rfl, fun wz hz => ?_⟩) hS ?_
       · (exact run_ld 37 _ rfl g7 0 (by rfl) db (HLDb.out wz hz) RTb.out)
       simp only [Act.put, xgT, xgS, xgZ, xsT, xsS, xsZ]
       refine anyH_oneG (i := 11) (by kernel_rfl) rfl (by rfl) (fun HH hH => ?_)
       simp only [xgT, xgS, xgZ]
       go_simp
       refine (HC1.out we hS).mono ?_
       rintro e wf ⟨rfl, hb⟩
       have hS1 := HSB.out _ _ hS hb
       refine hH _ _ hS1 ?_
       clear hH hb
       refine wpAnyH_take (i := 12) (v := .bool false) rfl (by kernel_rfl) (by kernel_rfl) (by kernel_rfl) (fun _ _ _ h => h) (Or.inl ⟨by rfl, fun wz hz => ?_⟩) hS1 ?_
       · (go_simp)
       simp only [Act.put, xgT, xgS, xgZ, xsT, xsS, xsZ]
       refine wpAnyH_take (i := 13) (v := .bool false) rfl (by kernel_rfl) (by kernel_rfl) (by kernel_rfl) (fun _ _ _ h => h) (Or.inl ⟨by rfl, fun wz hz => ?_⟩) hS1 ?_
       · (go_simp)
       simp only [Act.put, xgT, xgS, xgZ, xsT, xsS, xsZ]
       refine wpAnyH_take (i := 14) (v := ?_) rfl (by kernel_rfl) (by kernel_rfl) (by kernel_rfl) (fun _ _ _ h => h) (Or.inl ⟨by rfl, ?_⟩) hS1 ?_
       case refine_2 => (intro wz hz; go_simp; with_reducible rfl)
       simp only [Act.put, xgT, xgS, xgZ, xsT, xsS, xsZ]
       refine wpAnyH_take (i := 15) (v := ?_) rfl (by kernel_rfl) (by kernel_rfl) (by kernel_rfl) (fun _ _ _ h => h) (Or.inl ⟨by rfl, ?_⟩) hS1 ?_
       case refine_2 => (intro wz hz; go_simp; with_reducible rfl)
       simp only [Act.put, xgT, xgS, xgZ, xsT, xsS, xsZ]
       refine wpAnyH_take (i := 17) (v := ?_) rfl (by kernel_rfl) (by kernel_rfl) (by kernel_rfl) (fun _ _ _ h => h) (Or.inl ⟨by rfl, ?_⟩) hS1 ?_
       case refine_2 => (intro wz hz; go_simp; with_reducible rfl)
       simp only [Act.put, xgT, xgS, xgZ, xsT, xsS, xsZ]
       refine wpAnyH_take (i := 18) (v := ?_) rfl (by kernel_rfl) (by kernel_rfl) (by kernel_rfl) (fun _ _ _ h => h) (Or.inl ⟨by rfl, ?_⟩) hS1 ?_
       case refine_2 => (intro wz hz; go_simp; with_reducible rfl)
       simp only [Act.put, xgT, xgS, xgZ, xsT, xsS, xsZ]
       refine wpAnyH_take (i := 19) (v := ?_) rfl (by kernel_rfl) (by kernel_rfl) (by kernel_rfl) (fun _ _ _ h => h) (Or.inl ⟨by rfl, ?_⟩) hS1 ?_
       case refine_2 => (intro wz hz; go_simp; with_reducible rfl)
       simp only [Act.put, xgT, xgS, xgZ, xsT, xsS, xsZ]
       refine wpAnyH_take (i := 20) (v := ?_) rfl (by kernel_rfl) (by kernel_rfl) (by kernel_rfl) (fun _ _ _ h => h) (Or.inl ⟨by rfl, ?_⟩) hS1 ?_
       case refine_2 => (intro wz hz; (have hcu := HU.out wz hz; obtain ⟨hc1, hc2⟩ := hcu; go_simp; with_reducible rfl))
       simp only [Act.put, xgT, xgS, xgZ, xsT, xsS, xsZ]
       refine anyH_oneG (i := 16) (by kernel_rfl) rfl (by rfl) (fun HH hH => ?_)
       simp only [xgT, xgS, xgZ]
       go_simp
       refine (HC2.out wf hS1).mono ?_
       rintro e wg ⟨rfl, rfl⟩
       refine hH _ _ hS1 ?_
       clear hH
       refine wpAnyH_take (i := 21) (v := .bool false) rfl (by kernel_rfl) (by kernel_rfl) (by kernel_rfl) (fun _ _ _ h => h) (Or.inl ⟨by rfl, fun wz hz => ?_⟩) hS1 ?_
       · (go_simp)
       simp only [Act.put, xgT, xgS, xgZ, xsT, xsS, xsZ]
       refine wpAnyH_take (i := 22) (v := .bool false) rfl (by kernel_rfl) (by kernel_rfl) (by kernel_rfl) (fun _ _ _ h => h) (Or.inl ⟨by rfl, fun wz hz => ?_⟩) hS1 ?_
       · (go_simp)
       simp only [Act.put, xgT, xgS, xgZ, xsT, xsS, xsZ]
       refine wpAnyH_take (i := 23) (v := ?_) rfl (by kernel_rfl) (by kernel_rfl) (by kernel_rfl) (fun _ _ _ h => h) (Or.inl ⟨by rfl, ?_⟩) hS1 ?_
       case refine_2 => (intro wz hz; go_simp; with_reducible rfl)
       simp only [Act.put, xgT, xgS, xgZ, xsT, xsS, xsZ]
       refine wpAnyH_take (i := 24) (v := ?_) rfl (by kernel_rfl) (by kernel_rfl) (by kernel_rfl) (fun _ _ _ h => h) (Or.inl ⟨by rfl, ?_⟩) hS1 ?_
       case refine_2 => (intro wz hz; go_simp; with_reducible rfl)
       simp only [Act.put, xgT, xgS, xgZ, xsT, xsS, xsZ]
       refine wpAnyH_take (i := 26) (v := ?_) rfl (by kernel_rfl) (by kernel_rfl) (by kernel_rfl) (fun _ _ _ h => h) (Or.inl ⟨by rfl, ?_⟩) hS1 ?_
       case refine_2 => (intro wz hz; go_simp; with_reducible rfl)
       simp only [Act.put, xgT, xgS, xgZ, xsT, xsS, xsZ]
       refine wpAnyH_take (i := 27) (v := ?_) rfl (by kernel_rfl) (by kernel_rfl) (by kernel_rfl) (fun _ _ _ h => h) (Or.inl ⟨by rfl, ?_⟩) hS1 ?_
       case refine_2 => (intro wz hz; go_simp; with_reducible rfl)
       simp only [Act.put, xgT, xgS, xgZ, xsT, xsS, xsZ]
       refine wpAnyH_take (i := 28) (v := ?_) rfl (by kernel_rfl) (by kernel_rfl) (by kernel_rfl) (fun _ _ _ h => h) (Or.inl ⟨by rfl, ?_⟩) hS1 ?_
       case refine_2 => (intro wz hz; go_simp; with_reducible rfl)
       simp only [Act.put, xgT, xgS, xgZ, xsT, xsS, xsZ]
       refine wpAnyH_take (i := 29) (v := ?_) rfl (by kernel_rfl) (by kernel_rfl) (by kernel_rfl) (fun _ _ _ h => h) (Or.inl ⟨by rfl, ?_⟩) hS1 ?_
       case refine_2 => (intro wz hz; (have hcu := HU.out wz hz; obtain ⟨hc1, hc2⟩ := hcu; go_simp; with_reducible rfl))
       simp only [Act.put, xgT, xgS, xgZ, xsT, xsS, xsZ]
       refine wpAnyH_take (i := 30) (v := ?_) rfl (by kernel_rfl) (by kernel_rfl) (by kernel_rfl) (fun _ _ _ h => h) (Or.inl ⟨by rfl, ?_⟩) hS1 ?_
       case refine_2 => (intro wz hz; go_simp; with_reducible rfl)
       simp only [Act.put, xgT, xgS, xgZ, xsT, xsS, xsZ]
       refine anyH_oneG (i := 25) (by kernel_rfl) rfl (by rfl) (fun HH hH => ?_)
       simp only [xgT, xgS, xgZ]
       go_simp
       refine (HC3.out wf hS1).mono ?_
       rintro e wg ⟨rfl, rfl⟩
       refine hH _ _ hS1 ?_
       clear hH
       refine wpAnyH_take (i := 31) (v := .bool false) rfl (by kernel_rfl) (by kernel_rfl) (by kernel_rfl) (fun _ _ _ h => h) (Or.inl ⟨by rfl, fun wz hz => ?_⟩) hS1 ?_
       · (go_simp)
       simp only [Act.put, xgT, xgS, xgZ, xsT, xsS, xsZ]
       refine wpAnyH_take (i := 32) (v := .bool false) rfl (by kernel_rfl) (by kernel_rfl) (by kernel_rfl) (fun _ _ _ h => h) (Or.inl ⟨by rfl, fun wz hz => ?_⟩) hS1 ?_
       · (go_simp)
       simp only [Act.put, xgT, xgS, xgZ, xsT, xsS, xsZ]
       refine wpAnyH_take (i := 33) (v := ?_) rfl (by kernel_rfl) (by kernel_rfl) (by kernel_rfl) (fun _ _ _ h => h) (Or.inl ⟨by rfl, ?_⟩) hS1 ?_
       case refine_2 => (intro wz hz; go_simp; with_reducible rfl)
       simp only [Act.put, xgT, xgS, xgZ, xsT, xsS, xsZ]
       refine wpAnyH_take (i := 34) (v := ?_) rfl (by kernel_rfl) (by kernel_rfl) (by kernel_rfl) (fun _ _ _ h => h) (Or.inl ⟨by rfl, ?_⟩) hS1 ?_
       case refine_2 => (intro wz hz; go_simp; with_reducible rfl)
       simp only [Act.put, xgT, xgS, xgZ, xsT, xsS, xsZ]
       refine wpAnyH_take (i := 35) (v := ?_) rfl (by kernel_rfl) (by kernel_rfl) (by kernel_rfl) (fun _ _ _ h => h) (Or.inl ⟨by rfl, ?_⟩) hS1 ?_
       case refine_2 => (intro wz hz; go_simp; with_reducible rfl)
       simp only [Act.put, xgT, xgS, xgZ, xsT, xsS, xsZ]
       refine wpAnyH_take (i := 36) (v := ?_) rfl (by kernel_rfl) (by kernel_rfl) (by kernel_rfl) (fun _ _ _ h => h) (Or.inl ⟨by rfl, ?_⟩) hS1 ?_
       case refine_2 => (intro wz hz; go_simp; with_reducible rfl)
       simp only [Act.put, xgT, xgS, xgZ, xsT, xsS, xsZ]
       refine wpAnyH_take (i := 37) (v := ?_) rfl (by kernel_rfl) (by kernel_rfl) (by kernel_rfl) (fun _ _ _ h => h) (Or.inl ⟨by rfl, ?_⟩) hS1 ?_
       case refine_2 => (intro wz hz; (have hcu := HU2.out wz hz; go_simp; with_reducible rfl))
       simp only [Act.put, xgT, xgS, xgZ, xsT, xsS, xsZ]
       refine wpAnyH_take (i := 39) (v := ?_) rfl (by kernel_rfl) (by kernel_rfl) (by kernel_rfl) (fun _ _ _ h => h) (Or.inl ⟨by rfl, ?_⟩) hS1 ?_
       case refine_2 => (intro wz hz; go_simp; with_reducible rfl)
       simp only [Act.put, xgT, xgS, xgZ, xsT, xsS, xsZ]
       refine wpAnyH_take (i := 40) (v := ?_) rfl (by kernel_rfl) (by kernel_rfl) (by kernel_rfl) (fun _ _ _ h => h) (Or.inl ⟨by rfl, ?_⟩) hS1 ?_
       case refine_2 => (intro wz hz; go_simp; with_reducible rfl)
       simp only [Act.put, xgT, xgS, xgZ, xsT, xsS, xsZ]
       refine wpAnyH_take (i := 41) (v := ?_) rfl (by kernel_rfl) (by kernel_rfl) (by kernel_rfl) (fun _ _ _ h => h) (Or.inl ⟨by rfl, ?_⟩) hS1 ?_
       case refine_2 => (intro wz hz; go_simp; with_reducible rfl)
       simp only [Act.put, xgT, xgS, xgZ, xsT, xsS, xsZ]
       refine wpAnyH_take (i := 42) (v := ?_) rfl (by kernel_rfl) (by kernel_rfl) (by kernel_rfl) (fun _ _ _ h => h) (Or.inl ⟨by rfl, ?_⟩) hS1 ?_
       case refine_2 => (intro wz hz; (have hcu := HU2.out wz hz; go_simp; with_reducible rfl))
       simp only [Act.put, xgT, xgS, xgZ, xsT, xsS, xsZ]
       refine anyH_oneG (i := 38) (by kernel_rfl) rfl (by rfl) (fun HH hH => ?_)
       simp only [xgT, xgS, xgZ]
       go_simp
       refine (HC4.out wf hS1).mono ?_
       rintro e wh ⟨rfl, hb⟩
       have hS2 := HSB.out _ _ hS1 hb
       refine hH _ _ hS2 ?_
       clear hH hb
       refine anyH_oneG (i := 43) (by kernel_rfl) rfl (by rfl) (fun HH hH => ?_)
       simp only [xgT, xgS, xgZ]
       go_simp
       refine (HC5.out wh hS2).mono ?_
       rintro e wi ⟨rfl, rfl⟩
       refine hH _ _ hS2 ?_
       clear hH
       refine wpAnyH_take (i := 44) (v := .bool false) rfl (by kernel_rfl) (by kernel_rfl) (by kernel_rfl) (fun _ _ _ h => h) (Or.inl ⟨by rfl, fun wz hz => ?_⟩) hS2 ?_
       · (go_simp)
       simp only [Act.put, xgT, xgS, xgZ, xsT, xsS, xsZ]
       refine wpAnyH_take (i := 45) (v := .bool false) rfl (by kernel_rfl) (by kernel_rfl) (by kernel_rfl) (fun _ _ _ h => h) (Or.inl ⟨by rfl, fun wz hz => ?_⟩) hS2 ?_
       · (go_simp)
       simp only [Act.put, xgT, xgS, xgZ, xsT, xsS, xsZ]
       refine wpAnyH_done (by kernel_rfl) ?_ _
       refine NoPanic.normal ?_
       have HP1 := Lib.hid (HSP.out _ (HSE.out _ hS2).1)
       clear HC1 HC2 HC3 HC4 HC5 HU HU2 HLDa HLDb HSE HSB HSP HRP hS hS1 hS2 hqq hii huu hmm hhq
       go_wp2
       go_roundw
       case rel => exact ⟨k + 1, by omega, by go_num, HP1⟩
       case measure => simp [intOf]; omega)
end Go.Proofs.YtmkeioeodlidgaaGreatDoor
