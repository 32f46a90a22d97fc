/- Several texts in one: plain words and walks. No statement is proved here. -/
import Derived.Test.YtheefckohnaceaaGreatDoorZM7
import Derived.Deep.RegionHeld3
import Derived.Test.YtheefckohnaceaaGreatDoorZM2
namespace Go.Proofs.YtheefckohnaceaaGreatDoor
open List renaming getElem_toArray → xgT, getElem_cons_succ → xgS, getElem_cons_zero → xgZ, setIfInBounds_toArray → xsT, set_cons_succ → xsS, set_cons_zero → xsZ
open Go.RowKit
set_option linter.unusedVariables false

def kf (key : List UInt8) (i : Nat) : UInt8 := (kall key).getD i 0
theorem row_start (key : List UInt8) (h : key.length = 16) : splice (cells Z176) 0 (cells (key.take 16)) = cells (fillAt (kf key) Z176 16) := by
 have e : (List.range 16).map (kf key) = key := by
  have : tab 16 (kf key) = tab 16 (fun i => key.getD i 0) := tab_congr _ _ _ fun i hi => kall_get key h 0 i (by omega) (by omega)
  rw [list_tab key h] at this
  exact this
 rw [fillAt, e, cells_append, List.take_of_length_le (by omega), splice]
 simp [cells, h]
theorem row_word (key : List UInt8) (n M : Nat) (hM : M = 4 * n + 16) (hn : n < 40) (i : Nat) (hi : i < (cells (wd key (n + 3))).length) : (cells (fillAt (kf key) Z176 M))[0 + (M - 4) + i]? = (cells (wd key (n + 3)))[i]? := by
 rw [length_cells, wd_len] at hi
 rw [cells_at (by rw [fillAt_len _ _ _ (by rw [Z176_len]; omega), Z176_len]; omega), cells_at (by rw [wd_len]; exact hi), fillAt_lt _ _ _ _ (by omega), wd_get _ _ _ hi, kf, show 0 + (M - 4) + i = 4 * (n + 3) + i by omega]

set_option maxRecDepth 100000 in
set_option maxHeartbeats 2000000 in
theorem wordsBy_any (p : Nat) (key : List UInt8) (w : World) (hk : key.length = 16) (hbx : BoxRd w p) :
 Calls Tryz.prog 112 #[.pointer (some ⟨p, 0, none⟩), .agg (cells key).toArray] w fun e w' => e = .returned (.agg (cells (kall key)).toArray) ∧ Below w.heap.size w w' := by
 have hz := zero176
 have hz4 := zero4
 have hb0 : Below w.heap.size w (((w.alloc (Obj.cells (cells key).toArray 22)).alloc (Obj.cells (cells Z176).toArray 182)).alloc (Obj.cells (cells Z176).toArray 182)) := (((Below.refl _ _).alloc (Nat.le_refl _) _).alloc (by simp) _).alloc (by simp; omega) _
 have h0 : Blk (((w.alloc (Obj.cells (cells key).toArray 22)).alloc (Obj.cells (cells Z176).toArray 182)).alloc (Obj.cells (cells Z176).toArray 182)) w.heap.size 22 key := ((Blk.new _ _ _).alloc _).alloc _
 have h1 : Blk (((w.alloc (Obj.cells (cells key).toArray 22)).alloc (Obj.cells (cells Z176).toArray 182)).alloc (Obj.cells (cells Z176).toArray 182)) (w.heap.size + 1) 182 Z176 := (Blk.new_at _ _ _ _ _ (by simp) rfl).alloc _
 have h2 : Blk (((w.alloc (Obj.cells (cells key).toArray 22)).alloc (Obj.cells (cells Z176).toArray 182)).alloc (Obj.cells (cells Z176).toArray 182)) (w.heap.size + 2) 182 Z176 := Blk.new_at _ _ _ _ _ (by simp) rfl
 obtain ⟨w1, hw1⟩ : ∃ w1, w1 = (((w.alloc (Obj.cells (cells key).toArray 22)).alloc (Obj.cells (cells Z176).toArray 182)).alloc (Obj.cells (cells Z176).toArray 182)) := ⟨_, rfl⟩
 rw [← hw1] at hb0 h0 h1 h2
 have HW1 := Lib.hid hw1
 have hrs := row_start key hk
 have hZ : (cells Z176).length = 176 := by rw [length_cells, Z176_len]
 have HZ := Lib.hid hZ
 have hKA : (cells (kall key)).length = 176 := by rw [length_cells, kall_len key hk]
 have hZ4 : (cells Z4).length = 4 := by rw [length_cells, Z4_len]
 have HZ4 := Lib.hid hZ4
 have HKL := Lib.hid hk
 obtain ⟨f, hf⟩ : ∃ f, f = kf key := ⟨_, rfl⟩
 have hka : (List.range 176).map f = kall key := by rw [hf]; exact list_tab _ (kall_len key hk)
 obtain ⟨KA, hKAe⟩ : ∃ KA, KA = kall key := ⟨_, rfl⟩
 have hrw : ∀ n M : Nat, M = 4 * n + 16 → n < 40 → ∀ i, i < (cells (wd key (n + 3))).length → (cells (fillAt f Z176 M))[0 + (M - 4) + i]? = (cells (wd key (n + 3)))[i]? := by
  rw [hf]; exact fun n M => row_word key n M
 have hnw : ∀ n j : Nat, n < 40 → j < 4 → f (4 * n + j) ^^^ (twW key n).getD j 0 = f (4 * (n + 4) + j) := by
  intro n j hn hj
  have := wd_new key hk n j hn hj
  rw [wd_get _ _ _ hj, wd_get _ _ _ hj] at this
  rw [hf]
  exact this
 rw [← hKAe] at hka hKA ⊢
 rw [← hf] at hrs
 have HRS := Lib.hid hrs
 have HKA := Lib.hid hKA
 have HKAM := Lib.hid hka
 have HRW := Lib.hid hrw
 have HNW := Lib.hid hnw
 clear hw1 hrs hZ hk hKA hZ4 hf hka hKAe hrw hnw
 go_enter Tryz.func112, Tryz.ntmps112
 go_wp2
 rw [← HW1.out]
 go_still_tail 2, (by kernel_rfl)
 change wpList _ _ _ _ _ w1.drew
 have k0 : RdS w1.drew (some ⟨w.heap.size, 0, none⟩) 16 16 key := h0.rd HKL.out (Nat.le_refl _) (by simp [maxLen])
 have k1 : Blk w1.drew (w.heap.size + 1) 182 Z176 := h1
 have k2 : Blk w1.drew (w.heap.size + 2) 182 Z176 := h2
 have kb : Below w.heap.size w w1.drew := hb0.drew
 generalize w1.drew = w2 at *
 clear h0 h1 h2 hb0
 go_wp2_with (first
  | ((with_reducible refine wpList_cp rfl (.tmp 11) (.tmp 12) rfl Tryz.underlying32 u8_inf (w.heap.size + 2) 0 176 176 182 (cells Z176) rfl k2.v (some ⟨w.heap.size, 0, none⟩) 16 16 key rfl k0 (by rw [HZ.out]; omega) 16 (by decide) (by omega) ?_); intro w3 hB3 ho3; rw [HRS.out] at hB3))
 have j1 := Blk.only k1 ho3 (by omega)
 have j2 : Blk w3 (w.heap.size + 2) 182 (fillAt (f) Z176 16) := hB3
 have jb := kb.trans (ho3.below (by omega))
 clear k0 k1 k2 kb hB3 ho3
 go_loopw [6, 7] (fun vc va wr => ∃ n M : Nat, n ≤ 40 ∧ Hid (M = 4 * n + 16) ∧ va = .int .i64 M ∧ vc = .int .u8 ((rcon ((n + 3) / 4)).toNat : Int) ∧ Blk wr (w.heap.size + 2) 182 (fillAt (f) Z176 M) ∧ Blk wr (w.heap.size + 1) 182 Z176 ∧ Below w.heap.size w wr) (fun _ a _ => 176 - (intOf a).toNat)
 case atStart => exact ⟨0, 16, by omega, Lib.hid rfl, rfl, rfl, j2, j1, jb⟩
 case round =>
  clear j1 j2 jb
  obtain ⟨n, M, hn, HM, rfl, rfl, h2, h1, hb⟩ := hrel
  by_cases hlt : n < 40
  · have hMi : 16 ≤ M := by have := HM.out; omega
    have hMu : M < 176 := by have := HM.out; omega
    have hrg : wr.rangeAt (w.heap.size + 2) (0 + (M - 4)) (cells (wd key (n + 3))) := h2.v.range _ _ (HRW.out n M HM.out hlt)
    have hgl := h2.lt
    have hLL : (cells (wd key (n + 3))).length = 4 := by rw [length_cells, wd_len]
    have HLL := Lib.hid hLL
    have hN1 := BlkV.new_at wr wr.heap.size 173 (cells Z4) _ rfl rfl
    have h2a := h2.alloc (.cells (cells Z4).toArray 173)
    have h1a := h1.alloc (.cells (cells Z4).toArray 173)
    have hba := hb.alloc hb.size (.cells (cells Z4).toArray 173)
    have hsz := hb.size
    have HSZ := Lib.hid hsz
    have HGL := Lib.hid hgl
    clear hLL hsz hgl
    have hMc : (M : Int) < 176 := by omega
    by_cases hm : n % 4 = 0
    · have hmod : (M : Int) % 16 = 0 := by have := HM.out; omega
      obtain ⟨rc, hrc⟩ : ∃ rc, rc = rcon ((n + 3) / 4) := ⟨_, rfl⟩
      rw [← hrc]
      have hrc2 : dbl rc = rcon ((n + 1 + 3) / 4) := by rw [hrc, show (n + 1 + 3) / 4 = (n + 3) / 4 + 1 by omega, rcon]
      have htw : [sb ((wd key (n + 3)).getD 1 0) ^^^ rc, sb ((wd key (n + 3)).getD 2 0), sb ((wd key (n + 3)).getD 3 0), sb ((wd key (n + 3)).getD 0 0)] = twW key n := by
       unfold twW; rw [if_pos hm, hrc, show (n + 3) / 4 = n / 4 by omega]
      have hcall := fun wx (hbw : BoxRd wx p) => turned_any p (wd key (n + 3)) rc (rc.toNat : Int) wx (wd_len _ _) rfl hbw
      simp only [htw] at hcall
      obtain ⟨L, hL⟩ : ∃ L, L = wd key (n + 3) := ⟨_, rfl⟩
      rw [← hL] at hcall hrg HLL
      obtain ⟨T, hT⟩ : ∃ T, T = twW key n := ⟨_, rfl⟩
      have hTl : T.length = 4 := by rw [hT]; exact twW_len _ _
      rw [← hT] at hcall
      have hTL : (cells T).length = 4 := by rw [length_cells, hTl]
      have HTL := Lib.hid hTl
      have HTC := Lib.hid hTL
      have HT := Lib.hid hT
      have HC := Lib.hid hcall
      have HC2 : Hid (Value.int IntKind.u8 ((dbl rc).toNat : Int) = .int .u8 ((rcon ((n + 1 + 3) / 4)).toNat : Int)) := Lib.hid (by rw [hrc2])
      have hdt := fun wx => twice_any rc (rc.toNat : Int) wx rfl
      have HDT := Lib.hid hdt
      clear hrc hrc2 htw hcall hT hTl hTL hm hdt hL
      go_wp2_with (first
       | (with_reducible refine wpList_acut2 rfl 182 (.tmp 5) (.tmp 19) (.tmp 20) rfl und_a176 sz_a176 176 len_a176 (w.heap.size + 2) 0 rfl (M - 4) M _ _ rfl rfl (by omega) rfl (by omega) (by omega) (by omega) ?_)
       | (with_reducible refine wpList_toarr rfl 173 5 4 (.tmp 21) rfl und_a4 _ _ _ rfl (by omega) ?_)
       | (with_reducible refine wpList_ld rfl 173 (.tmp 22) rfl (w.heap.size + 2) (0 + (M - 4)) rfl (cells L) hrg (row4 HLL.out) ?_)
       | ((with_reducible refine wpList_st rfl 173 (.tmp 8) (.tmp 23) rfl wr.heap.size 0 (cells L) rfl rfl 173 _ hN1 (by rw [HLL.out, HZ4.out]; omega) (row4 HLL.out) (cells_one _) ?_); intro w4 hN2 ho4; rw [splice_all _ _ (by rw [HLL.out, HZ4.out])] at hN2; have h2b := Blk.only h2a ho4 (by have := HGL.out; omega); have h1b := Blk.only h1a ho4 (by have := HGL.out; omega); have hbb := hba.trans (ho4.below HSZ.out))
       | (with_reducible refine wpList_ld rfl 173 (.tmp 8) rfl wr.heap.size 0 rfl (cells L) (hN2.range 0 _ (by simp)) (row4 HLL.out) ?_)
       | (go_at_call 136; ((with_reducible refine (Hid.out HC _ (hbx.below (hbb.mono (Nat.le_refl _)))).mono ?_); rintro e w5 ⟨rfl, hb5⟩; have h2c := h2b.below hb5 h2b.lt; have h1c := h1b.below hb5 h1b.lt; have hN3 := hN2.below hb5 hN2.lt; have hbc := hbb.trans (hb5.mono hbb.size)))
       | ((with_reducible refine wpList_st rfl 173 (.tmp 8) (.tmp 30) rfl wr.heap.size 0 (cells T) rfl rfl 173 _ hN3 (by rw [HLL.out, HTC.out]; omega) (row4 HTC.out) (cells_one _) ?_); intro w6 hN4 ho6; rw [splice_all _ _ (by rw [HLL.out, HTC.out])] at hN4; have h2d := Blk.only h2c ho6 (by have := HGL.out; omega); have h1d := Blk.only h1c ho6 (by have := HGL.out; omega); have hbd := hbc.trans (ho6.below HSZ.out))
       | (go_at_call 137; ((with_reducible refine (Hid.out HDT _).mono ?_); rintro e w' ⟨rfl, rfl⟩))
       | (with_reducible refine wpList_ld rfl 173 (.tmp 8) rfl wr.heap.size 0 rfl (cells T) (hN4.range 0 _ (by simp)) (row4 HTC.out) ?_))
      have hW : Blk w6 (w.heap.size + 2) 182 (fillAt (f) Z176 (M + 0)) := h2d
      have hR := h1d
      have hbb2 := hbd
      clear h2a h1a hba hN1 hN2 h2b h1b ho4 h2c h1c hN3 hb5 hN4 ho6 h2d h1d hbc hbb HC HDT hrg h2 h1 hb hmod
      have hbb := hbb2
      clear hbb2 hbd
      go_loopw [34] (fun vi wr => ∃ j : Nat, j ≤ 4 ∧ vi = .int .i64 j ∧ Blk wr (w.heap.size + 2) 182 (fillAt (f) Z176 (M + j)) ∧ Blk wr (w.heap.size + 1) 182 Z176 ∧ Below w.heap.size w wr) (fun i _ => 4 - (intOf i).toNat)
      case atStart => exact ⟨0, by omega, rfl, hW, hR, hbb⟩
      case round =>
       clear hW hR hbb
       obtain ⟨j, hj, rfl, hW, hR, hbb⟩ := hrel
       by_cases hlt2 : j < 4
       · have hix := fun wx => run_index_cells (P := Tryz.prog) 173 5 4 und_a4 und_u8 sz_u8 T HTL.out j hlt2 wx
         obtain ⟨I, hI⟩ : ∃ I, I = M + j := ⟨_, rfl⟩
         obtain ⟨J, hJ⟩ : ∃ J, J = 4 * n + j := ⟨_, rfl⟩
         have hMn := HM.out
         have hrow : (fillAt (f) Z176 (M + j)).length = 176 := by rw [fillAt_len _ _ _ (by rw [Z176_len]; omega), Z176_len]
         have hcJ := hW.cell (j := J) (by rw [hrow]; omega)
         rw [fillAt_lt _ _ _ _ (by omega)] at hcJ
         have hcI := hW.cell (j := I) (by rw [hrow]; omega)
         have hfI := hW.frozen I
         have hst := hW.set_ I (f I)
         rw [hI, fillAt_step _ _ _ (by rw [Z176_len]; omega), show M + j + 1 = M + (j + 1) by omega, ← hI] at hst
         have hRs := hR.far (p := ⟨w.heap.size + 2, I, none⟩) (by simp) (.int .u8 ((f I).toNat : Int))
         have hbs := hbb.setCell (p := ⟨w.heap.size + 2, I, none⟩) (by simp) (.int .u8 ((f I).toNat : Int))
         have hnew : f J ^^^ T.getD j 0 = f I := by
          have := HNW.out n j hlt hlt2
          rw [show 4 * (n + 4) + j = I by omega, ← hJ] at this
          rw [HT.out]
          exact this
         obtain ⟨a, ha, a1, a2⟩ := u8_ex (f J)
         obtain ⟨b, hb, b1, b2⟩ := u8_ex (T.getD j 0)
         obtain ⟨v, hv, v1, v2⟩ := u8_ex (f I)
         have hx := xr8i (k := v) ha hb (by rw [hnew]; exact hv)
         rw [← ha] at hcJ
         rw [← hb] at hix
         rw [← hv] at hst hRs hbs
         obtain ⟨y, hy⟩ : ∃ y : Int, y = (((fillAt (f) Z176 (M + j)).getD I 0).toNat : Int) := ⟨_, rfl⟩
         rw [← hy] at hcI
         have q1 : (M : Int) + j = (I : Int) := by omega
         have q2 : (M : Int) - 16 + j = (J : Int) := by omega
         have q3 : (I : Int) < 176 := by omega
         have q4 : (J : Int) < 176 := by omega
         clear hrow hnew ha hb hv hy hI hJ hMn
         go_wp2
         clear q1 q2 q3 q4
         go_roundw
         case rel => exact ⟨j + 1, by omega, by go_num, hst, hRs, hbs⟩
         case measure => simp [intOf]; omega
       · obtain rfl : j = 4 := by omega
         go_wp2
         go_roundw
         case rel => exact ⟨n + 1, M + 4, by omega, Lib.hid (by rw [HM.out]; omega), by go_num, HC2.out, hW, hR, hbb⟩
         case measure => simp [intOf]; omega
    · obtain ⟨ρ, hρ⟩ : ∃ ρ : Nat, ρ = M % 16 := ⟨_, rfl⟩
      have hmod : (M : Int) % 16 = (ρ : Int) := by omega
      have hρ0 : ((ρ : Int) == 0) = false := by
       have := HM.out
       simp; omega
      obtain ⟨rc, hrc⟩ : ∃ rc, rc = rcon ((n + 3) / 4) := ⟨_, rfl⟩
      rw [← hrc]
      have hrc2 : rc = rcon ((n + 1 + 3) / 4) := by rw [hrc, show (n + 1 + 3) / 4 = (n + 3) / 4 by omega]
      have htw : wd key (n + 3) = twW key n := by
       unfold twW; rw [if_neg hm]
      obtain ⟨T, hT⟩ : ∃ T, T = twW key n := ⟨_, rfl⟩
      have hTl : T.length = 4 := by rw [hT]; exact twW_len _ _
      have hTL : (cells T).length = 4 := by rw [length_cells, hTl]
      rw [htw, ← hT] at hrg
      have HTL := Lib.hid hTl
      have HTC := Lib.hid hTL
      have HT := Lib.hid hT
      have HC2 : Hid (Value.int IntKind.u8 (rc.toNat : Int) = .int .u8 ((rcon ((n + 1 + 3) / 4)).toNat : Int)) := Lib.hid (by rw [← hrc2])
      clear hrc hrc2 htw hT hTl hTL hm hρ
      go_wp2_with (first
       | (with_reducible refine wpList_acut2 rfl 182 (.tmp 5) (.tmp 19) (.tmp 20) rfl und_a176 sz_a176 176 len_a176 (w.heap.size + 2) 0 rfl (M - 4) M _ _ rfl rfl (by omega) rfl (by omega) (by omega) (by omega) ?_)
       | (with_reducible refine wpList_toarr rfl 173 5 4 (.tmp 21) rfl und_a4 _ _ _ rfl (by omega) ?_)
       | (with_reducible refine wpList_ld rfl 173 (.tmp 22) rfl (w.heap.size + 2) (0 + (M - 4)) rfl (cells T) hrg (row4 HTC.out) ?_)
       | ((with_reducible refine wpList_st rfl 173 (.tmp 8) (.tmp 23) rfl wr.heap.size 0 (cells T) rfl rfl 173 _ hN1 (by rw [HTC.out, HZ4.out]; omega) (row4 HTC.out) (cells_one _) ?_); intro w4 hN2 ho4; rw [splice_all _ _ (by rw [HTC.out, HZ4.out])] at hN2; have h2b := Blk.only h2a ho4 (by have := HGL.out; omega); have h1b := Blk.only h1a ho4 (by have := HGL.out; omega); have hbb := hba.trans (ho4.below HSZ.out))
       | (with_reducible refine wpList_ld rfl 173 (.tmp 8) rfl wr.heap.size 0 rfl (cells T) (hN2.range 0 _ (by simp)) (row4 HTC.out) ?_))
      have hW : Blk w4 (w.heap.size + 2) 182 (fillAt f Z176 (M + 0)) := h2b
      have hR := h1b
      have hbb2 := hbb
      clear h2a h1a hba hN1 hN2 h2b h1b ho4 hbb hrg h2 h1 hb hmod hρ0
      have hbb := hbb2
      clear hbb2
      go_loopw [34] (fun vi wr => ∃ j : Nat, j ≤ 4 ∧ vi = .int .i64 j ∧ Blk wr (w.heap.size + 2) 182 (fillAt (f) Z176 (M + j)) ∧ Blk wr (w.heap.size + 1) 182 Z176 ∧ Below w.heap.size w wr) (fun i _ => 4 - (intOf i).toNat)
      case atStart => exact ⟨0, by omega, rfl, hW, hR, hbb⟩
      case round =>
       clear hW hR hbb
       obtain ⟨j, hj, rfl, hW, hR, hbb⟩ := hrel
       by_cases hlt2 : j < 4
       · have hix := fun wx => run_index_cells (P := Tryz.prog) 173 5 4 und_a4 und_u8 sz_u8 T HTL.out j hlt2 wx
         obtain ⟨I, hI⟩ : ∃ I, I = M + j := ⟨_, rfl⟩
         obtain ⟨J, hJ⟩ : ∃ J, J = 4 * n + j := ⟨_, rfl⟩
         have hMn := HM.out
         have hrow : (fillAt (f) Z176 (M + j)).length = 176 := by rw [fillAt_len _ _ _ (by rw [Z176_len]; omega), Z176_len]
         have hcJ := hW.cell (j := J) (by rw [hrow]; omega)
         rw [fillAt_lt _ _ _ _ (by omega)] at hcJ
         have hcI := hW.cell (j := I) (by rw [hrow]; omega)
         have hfI := hW.frozen I
         have hst := hW.set_ I (f I)
         rw [hI, fillAt_step _ _ _ (by rw [Z176_len]; omega), show M + j + 1 = M + (j + 1) by omega, ← hI] at hst
         have hRs := hR.far (p := ⟨w.heap.size + 2, I, none⟩) (by simp) (.int .u8 ((f I).toNat : Int))
         have hbs := hbb.setCell (p := ⟨w.heap.size + 2, I, none⟩) (by simp) (.int .u8 ((f I).toNat : Int))
         have hnew : f J ^^^ T.getD j 0 = f I := by
          have := HNW.out n j hlt hlt2
          rw [show 4 * (n + 4) + j = I by omega, ← hJ] at this
          rw [HT.out]
          exact this
         obtain ⟨a, ha, a1, a2⟩ := u8_ex (f J)
         obtain ⟨b, hb, b1, b2⟩ := u8_ex (T.getD j 0)
         obtain ⟨v, hv, v1, v2⟩ := u8_ex (f I)
         have hx := xr8i (k := v) ha hb (by rw [hnew]; exact hv)
         rw [← ha] at hcJ
         rw [← hb] at hix
         rw [← hv] at hst hRs hbs
         obtain ⟨y, hy⟩ : ∃ y : Int, y = (((fillAt (f) Z176 (M + j)).getD I 0).toNat : Int) := ⟨_, rfl⟩
         rw [← hy] at hcI
         have q1 : (M : Int) + j = (I : Int) := by omega
         have q2 : (M : Int) - 16 + j = (J : Int) := by omega
         have q3 : (I : Int) < 176 := by omega
         have q4 : (J : Int) < 176 := by omega
         clear hrow hnew ha hb hv hy hI hJ hMn
         go_wp2
         clear q1 q2 q3 q4
         go_roundw
         case rel => exact ⟨j + 1, by omega, by go_num, hst, hRs, hbs⟩
         case measure => simp [intOf]; omega
       · obtain rfl : j = 4 := by omega
         go_wp2
         go_roundw
         case rel => exact ⟨n + 1, M + 4, by omega, Lib.hid (by rw [HM.out]; omega), by go_num, HC2.out, hW, hR, hbb⟩
         case measure => simp [intOf]; omega
  · obtain rfl : n = 40 := by omega
    obtain rfl : M = 176 := HM.out
    rw [fillAt_all _ _ _ Z176_len] at h2
    rw [HKAM.out] at h2
    go_wp2_with (first
     | (with_reducible refine wpList_ld rfl 182 (.tmp 5) rfl (w.heap.size + 2) 0 rfl (cells KA) (h2.v.range 0 _ (by simp)) (row176 HKA.out) ?_)
     | ((with_reducible refine wpList_st rfl 182 (.tmp 4) (.tmp 51) rfl (w.heap.size + 1) 0 (cells KA) rfl rfl 182 _ h1.v (by rw [HKA.out, HZ.out]; omega) (row176 HKA.out) (cells_one _) ?_); intro w4 hB4 ho4))
    rw [splice_all _ _ (by rw [HKA.out, HZ.out])] at hB4
    exact ret_row (by rfl) (by rfl) hB4 (row176 HKA.out) (by rfl) ⟨rfl, hb.trans (ho4.below (by omega))⟩
theorem built_c (w : World) : (Instr.build 184 #[(0, .agg (cells boxT).toArray)]).run Tryz.prog w = .ok (.agg (ciph Z176).toArray) w := by kernel_rfl
theorem ciph_len (ks : List UInt8) (h : ks.length = 176) : (ciph ks).length = 432 := by rw [ciph, List.length_append, length_cells, length_cells, boxT_len, h]
theorem ciph_splice (ks : List UInt8) (h : ks.length = 176) : splice (ciph Z176) 256 (cells ks) = ciph ks := by
 have hb : (cells boxT).length = 256 := by rw [length_cells, boxT_len]
 unfold splice ciph
 rw [List.take_left' hb, List.drop_of_length_le (by rw [List.length_append, length_cells, length_cells, length_cells, boxT_len, Z176_len, h]; omega), List.append_nil]

set_option maxRecDepth 100000 in
set_option maxHeartbeats 1000000 in
theorem new_any (key : List UInt8) (w : World) (hk : key.length = 16) :
 Calls Tryz.prog 94 #[.agg (cells key).toArray] w fun e w' => ∃ p : Nat, e = .returned (.pointer (some ⟨p, 0, none⟩)) ∧ w.heap.size ≤ p ∧ BlkV w' p 184 (ciph (kall key)) ∧ Below w.heap.size w w' := by
 have hb0 : Below w.heap.size w (w.alloc (Obj.cells (cells key).toArray 22)) := (Below.refl _ _).alloc (Nat.le_refl _) _
 have h0 : Blk (w.alloc (Obj.cells (cells key).toArray 22)) w.heap.size 22 key := Blk.new _ _ _
 have hKL : (cells key).length = 16 := by rw [length_cells, hk]
 have HKL := Lib.hid hKL
 have hkl := kall_len key hk
 have hKA : (cells (kall key)).length = 176 := by rw [length_cells, hkl]
 have HKA := Lib.hid hKA
 have hcz := ciph_len Z176 Z176_len
 have HCZ := Lib.hid hcz
 have hsp := ciph_splice (kall key) hkl
 have hwb := fun wx p (hbx : BoxRd wx p) => wordsBy_any p key wx hk hbx
 obtain ⟨KA, hKAe⟩ : ∃ KA, KA = kall key := ⟨_, rfl⟩
 rw [← hKAe] at hKA HKA hsp ⊢
 simp only [← hKAe] at hwb
 have HSP := Lib.hid hsp
 have HWB := Lib.hid hwb
 clear hKL hk hkl hKA hcz hsp hwb hKAe
 go_enter Tryz.func94, Tryz.ntmps94
 go_wp2_with (first
  | (go_at_call 111; ((with_reducible refine (box_any _).mono ?_); rintro e w1 ⟨rfl, hb1⟩))
  | (with_reducible refine wpList_built1 rfl 184 0 (.tmp 4) rfl (.agg (cells boxT).toArray) (.agg (ciph Z176).toArray) rfl (built_c _) ?_))
 have h1 := h0.below hb1 h0.lt
 have hbb := (hb0.trans (hb1.mono hb0.size)).alloc (by have := hb1.size; have := hb0.size; omega) (.cells (ciph Z176).toArray 184)
 have h2 := h1.alloc (.cells (ciph Z176).toArray 184)
 have hc := BlkV.new w1 184 (ciph Z176)
 have hlt : w.heap.size < w1.heap.size := h1.lt
 have hcd : BlkV (w1.alloc (.cells (ciph Z176).toArray 184)).drew w1.heap.size 184 (ciph Z176) := hc
 have h2d : Blk (w1.alloc (.cells (ciph Z176).toArray 184)).drew w.heap.size 22 key := h2
 have hbd : Below w.heap.size w (w1.alloc (.cells (ciph Z176).toArray 184)).drew := hbb.drew
 clear hc h2 hbb
 refine wp_region_noPanic ?_
 refine wp_region_any (by kernel_rfl) ?_
 change wpAny _ _ _ _ _ _ _ (World.drew _)
 obtain ⟨wd, hwd⟩ : ∃ wd, wd = (w1.alloc (.cells (ciph Z176).toArray 184)).drew := ⟨_, rfl⟩
 rw [← hwd] at hcd h2d hbd ⊢
 clear hwd
 refine wpAny_take (i := 0) (v := ?_) rfl (by kernel_rfl) (by kernel_rfl) (by kernel_rfl) (fun _ _ _ h => h) (Or.inl ⟨by rfl, ?_⟩) ?_
 case refine_2 => (intro wz; go_simp; with_reducible rfl)
 simp only [Act.put, xgT, xgZ, xsT, xsS, xsZ]
 refine wpAny_take (i := 1) (v := ?_) rfl (by kernel_rfl) (by kernel_rfl) (by kernel_rfl) (fun _ _ _ h => h) (Or.inl ⟨by rfl, ?_⟩) ?_
 case refine_2 => (intro wz; go_simp; with_reducible rfl)
 simp only [Act.put, xgT, xgS, xgZ, xsT, xsS, xsZ]
 refine wpAny_take (i := 2) (v := ?_) rfl (by kernel_rfl) (by kernel_rfl) (by kernel_rfl) (fun _ _ _ h => h) (Or.inl ⟨by rfl, ?_⟩) ?_
 case refine_2 => (intro wz; go_simp; with_reducible rfl)
 simp only [Act.put, xgT, xgS, xgZ, xsT, xsS, xsZ]
 refine wpAny_take (i := 3) (v := ?_) rfl (by kernel_rfl) (by kernel_rfl) (by kernel_rfl) (fun _ _ _ h => h) (Or.inl ⟨by rfl, ?_⟩) ?_
 case refine_2 => (intro wz; go_simp; with_reducible rfl)
 simp only [Act.put, xgT, xgS, xgZ, xsT, xsS, xsZ]
 refine any_one (i := 4) (by kernel_rfl) rfl rfl (fun H hH => ?_)
 simp only [xgT, xgS, xgZ]
 refine wp_ld 22 (.tmp 1) rfl w.heap.size 0 (by rfl) (cells key) (h2d.v.range 0 _ (by simp)) (row16 HKL.out) ?_
 refine hH _ _ ?_
 clear hH H
 refine any_one (i := 5) (by kernel_rfl) rfl rfl (fun H hH => ?_)
 simp only [xgT, xgS, xgZ]
 go_simp
 refine (HWB.out _ _ hcd.boxrd).mono ?_
 rintro e w3 ⟨rfl, hb3⟩
 refine hH _ _ ?_
 clear hH H
 have hc3 := hcd.below hb3 hcd.lt
 have hb3w := hbd.trans (hb3.mono hbd.size)
 refine wpAny_take (i := 6) (v := ?_) rfl (by kernel_rfl) (by kernel_rfl) (by kernel_rfl) (fun _ _ _ h => h) (Or.inl ⟨by rfl, ?_⟩) ?_
 case refine_2 => (intro wz; go_simp; with_reducible rfl)
 simp only [Act.put, xgT, xgS, xgZ, xsT, xsS, xsZ]
 refine wpAny_take (i := 7) (v := ?_) rfl (by kernel_rfl) (by kernel_rfl) (by kernel_rfl) (fun _ _ _ h => h) (Or.inl ⟨by rfl, ?_⟩) ?_
 case refine_2 => (intro wz; go_simp; with_reducible rfl)
 simp only [Act.put, xgT, xgS, xgZ, xsT, xsS, xsZ]
 refine any_one (i := 8) (by kernel_rfl) rfl rfl (fun H hH => ?_)
 simp only [xgT, xgS, xgZ]
 refine wp_st 182 (.tmp 14) (.tmp 12) rfl w1.heap.size 256 (cells KA) (by rfl) (by rfl) 184 _ hc3 (by rw [HCZ.out, HKA.out]; omega) (row176 HKA.out) (cells_one _) ?_
 intro w4 hB4 ho4
 refine hH _ _ ?_
 clear hH H
 refine wpAny_done (by kernel_rfl) ?_ _
 refine NoPanic.normal ?_
 rw [HSP.out] at hB4
 have hfin := hb3w.trans (ho4.below (by omega))
 simp only [Act.put]
 go_wp2
 go_ret
 exact ⟨w1.heap.size, rfl, by omega, hB4, hfin⟩

theorem block_base (w : World) (x : List UInt8) : Below w.heap.size w ((w.alloc (Obj.cells (cells x).toArray 22)).alloc (Obj.cells (cells Z16).toArray 22)) ∧
 Blk ((w.alloc (Obj.cells (cells x).toArray 22)).alloc (Obj.cells (cells Z16).toArray 22)) w.heap.size 22 x ∧
 Blk ((w.alloc (Obj.cells (cells x).toArray 22)).alloc (Obj.cells (cells Z16).toArray 22)) (w.heap.size + 1) 22 Z16 ∧
 ((w.alloc (Obj.cells (cells x).toArray 22)).alloc (Obj.cells (cells Z16).toArray 22)).heap.size = w.heap.size + 1 + 1 :=
 ⟨((Below.refl _ _).alloc (Nat.le_refl _) _).alloc (by simp) _, (Blk.new _ _ _).alloc _, Blk.new_at _ _ _ _ _ (by simp) rfl, by simp⟩

set_option maxRecDepth 100000 in
set_option maxHeartbeats 2000000 in
theorem block_some (p : Nat) (e : TypeId) (ks x : List UInt8) (w : World) (hx : x.length = 16) (hk : ks.length = 176) (hc : BlkV w p e (ciph ks)) :
 Calls Tryz.prog 96 #[.pointer (some ⟨p, 0, none⟩), .agg (cells x).toArray] w fun e w' => e = .returned (.agg (cells (enc ks x)).toArray) ∧ Below w.heap.size w w' := by
 have hz := zero16
 have hpl := hc.lt
 obtain ⟨hb0, h0, h1, hsz⟩ := block_base w x
 have hcz : boxT.getD 0 0 = 99 := rfl
 have hcell := (hc.below hb0 hpl).cell 0
 rw [ciph_box (by omega), hcz] at hcell
 have hcell' : ((w.alloc (Obj.cells (cells x).toArray 22)).alloc (Obj.cells (cells Z16).toArray 22)).cell? ⟨p, 0, none⟩ = some (.int .u8 99) := hcell
 have hw0 : w.cell? ⟨p, 0, none⟩ = some (.int .u8 99) := by
  rw [hc.cell 0, ciph_box (by omega), hcz]; rfl
 have hXL : (cells x).length = 16 := by rw [length_cells, hx]
 have HXL := Lib.hid hXL
 have hZL : (cells Z16).length = 16 := by rw [length_cells, Z16_len]
 have HZL := Lib.hid hZL
 have hB2 : Blk (((w.alloc (Obj.cells (cells x).toArray 22)).alloc (Obj.cells (cells Z16).toArray 22)).alloc (Obj.cells (cells Z16).toArray 22)) (w.heap.size + 1 + 1) 22 Z16 := Blk.new_at _ _ _ _ _ (by simp) rfl
 have h1a := h1.alloc (.cells (cells Z16).toArray 22)
 have hba := hb0.alloc (by omega) (.cells (cells Z16).toArray 22)
 have HX := Lib.hid hx
 have HK := Lib.hid hk
 clear hx hXL hZL hk hcz hcell hsz
 go_enter Tryz.func96, Tryz.ntmps96
 go_wp2_with (first
  | (with_reducible refine wpList_ld rfl 22 (.tmp 3) rfl w.heap.size 0 rfl (cells x) (h0.v.range 0 _ (by simp)) (row16 HXL.out) ?_)
  | ((with_reducible refine wpList_st rfl 22 (.tmp 5) (.tmp 18) rfl (w.heap.size + 1 + 1) 0 (cells x) rfl rfl 22 _ hB2.v (by rw [HXL.out, HZL.out]; omega) (row16 HXL.out) (cells_one _) ?_); intro w2 hB3 ho2; rw [splice_all _ _ (by rw [HXL.out, HZL.out])] at hB3; have j1 := Blk.only h1a ho2 (by omega); have jb := hba.trans (ho2.below (by omega)); have jB : Blk w2 (w.heap.size + 1 + 1) 22 x := hB3; have jc := hc.below jb hpl)
  | (go_at_call 113; ((with_reducible refine (takeKey_any p (w.heap.size + 1 + 1) 0 e ks x 0 w2 (by omega) rfl HK.out HX.out jc jB (by omega)).mono ?_); rintro e w3 ⟨rfl, hB4, ho3⟩; have k1 := Blk.only j1 ho3 (by omega); have kb := jb.trans (ho3.below (by omega)))))
 have k2 : Blk w3 (w.heap.size + 1 + 1) 22 (encR ks x (1 - 1)) := hB4
 clear hB4 ho3 j1 jb jB jc hB3 ho2 hba h1a hB2 h1 h0 hb0 hcell' hw0
 go_loopw [6] (fun vi wr => ∃ r : Nat, 1 ≤ r ∧ r ≤ 10 ∧ vi = .int .i64 r ∧ Blk wr (w.heap.size + 1 + 1) 22 (encR ks x (r - 1)) ∧ Blk wr (w.heap.size + 1) 22 Z16 ∧ Below w.heap.size w wr) (fun i _ => 10 - (intOf i).toNat)
 case atStart => exact ⟨1, by omega, by omega, rfl, k2, k1, kb⟩
 case round =>
  clear k1 k2 kb
  obtain ⟨r, hr1, hr, rfl, h2, h1, hb⟩ := hrel
  have hc1 := hc.below hb hpl
  have hlen := encR_len ks x (r - 1)
  by_cases hlt : r < 10
  · have hnext : encR ks x (r + 1 - 1) = addK ks r (mulC (subR (encR ks x (r - 1)))) := by
     rw [show r + 1 - 1 = (r - 1) + 1 by omega, encR, show r - 1 + 1 = r by omega]
    obtain ⟨S, hS⟩ : ∃ S, S = encR ks x (r - 1) := ⟨_, rfl⟩
    rw [← hS] at h2 hlen hnext
    have HN := Lib.hid hnext
    have HL := Lib.hid hlen
    have hri : (r : Int) < 10 := by omega
    clear hS hnext hlen
    go_wp2_with (first
     | (go_at_call 114; ((with_reducible refine (takeBox_any p (w.heap.size + 1 + 1) e ks S wr HL.out hc1 h2 (by omega)).mono ?_); rintro e w4 ⟨rfl, hB4, hg4⟩; have hb4 := hb.grown hg4 hb.size (fun q hq => by injection hq with hq; omega); have h14 := h1.grown hg4 (by intro h; injection h with h; omega); have hc4 := hc.below hb4 hpl))
     | (go_at_call 115; ((with_reducible refine (multiply_any (w.heap.size + 1 + 1) (subR S) w4 (subR_len _) hB4).mono ?_); rintro e w5 ⟨rfl, hB5, ho5⟩; have hb5 := hb4.trans (ho5.below (by omega)); have h15 := Blk.only h14 ho5 (by omega); have hc5 := hc.below hb5 hpl))
     | (go_at_call 113; ((with_reducible refine (takeKey_any p (w.heap.size + 1 + 1) r _ ks (mulC (subR S)) (r : Int) w5 (by omega) rfl HK.out (mulC_len _) hc5 hB5 (by omega)).mono ?_); rintro e w6 ⟨rfl, hB6, ho6⟩; have hb6 := hb5.trans (ho6.below (by omega)); have h16 := Blk.only h15 ho6 (by omega))))
    rw [← HN.out] at hB6
    clear hB5 hB4 h14 h15 hb4 hb5 hc4 hc5 ho5 ho6 hg4
    go_roundw
    case rel => exact ⟨r + 1, by omega, by omega, by go_num, hB6, h16, hb6⟩
    case measure => simp [intOf]; omega
  · obtain rfl : r = 10 := by omega
    have hfin : enc ks x = addK ks 10 (subR (encR ks x 9)) := rfl
    obtain ⟨S, hS⟩ : ∃ S, S = encR ks x (10 - 1) := ⟨_, rfl⟩
    have hS' : S = encR ks x 9 := hS
    rw [← hS] at h2 hlen
    rw [← hS'] at hfin
    have HF := Lib.hid hfin
    have HL := Lib.hid hlen
    have hEL : (cells (enc ks x)).length = 16 := by rw [length_cells, enc_len]
    have HEL := Lib.hid hEL
    clear hS hS' hfin hlen hEL
    go_wp2_with (first
     | (go_at_call 114; ((with_reducible refine (takeBox_any p (w.heap.size + 1 + 1) e ks S wr HL.out hc1 h2 (by omega)).mono ?_); rintro e w4 ⟨rfl, hB4, hg4⟩; have hb4 := hb.grown hg4 hb.size (fun q hq => by injection hq with hq; omega); have h14 := h1.grown hg4 (by intro h; injection h with h; omega); have hc4 := hc.below hb4 hpl))
     | (go_at_call 113; ((with_reducible refine (takeKey_any p (w.heap.size + 1 + 1) 10 _ ks (subR S) 10 w4 (by omega) rfl HK.out (subR_len _) hc4 hB4 (by omega)).mono ?_); rintro e w6 ⟨rfl, hB6, ho6⟩; rw [← HF.out] at hB6; have hb6 := hb4.trans (ho6.below (by omega)); have h16 := Blk.only h14 ho6 (by omega)))
     | (with_reducible refine wpList_ld rfl 22 (.tmp 5) rfl (w.heap.size + 1 + 1) 0 rfl (cells (enc ks x)) (hB6.v.range 0 _ (by simp)) (row16 HEL.out) ?_)
     | ((with_reducible refine wpList_st rfl 22 (.tmp 4) (.tmp 35) rfl (w.heap.size + 1) 0 (cells (enc ks x)) rfl rfl 22 _ h16.v (by rw [HEL.out, HZL.out]; omega) (row16 HEL.out) (cells_one _) ?_); intro w7 hB7 ho7; rw [splice_all _ _ (by rw [HEL.out, HZL.out])] at hB7))
    exact ret_row (by rfl) (by rfl) hB7 (row16 HEL.out) (by rfl) ⟨rfl, hb6.trans (ho7.below (by omega))⟩
set_option maxHeartbeats 1000000 in
theorem take_noneS (v : Value) (A : Option Addr) (cm : Nat) (w : World) :
 Calls Tryz.prog 55 #[v, .slice A 0 cm] w fun e' w' => e' = .returned (.tuple #[]) ∧ w' = w := by
 go_enter Tryz.func55, Tryz.ntmps55
 go_wp2
 refine wp_loop_rounds 1 ?_
 rw [rounds_succ]
 go_wp2
 go_end0
 exact ⟨rfl, rfl⟩

set_option maxHeartbeats 1000000 in
theorem take_any (g o n c : Nat) (e : TypeId) (s : List UInt8) (A : Option Addr) (m cm : Nat) (bs : List UInt8) (w : World) (hB : Blk w g e s) (hr : RdS w A m cm bs) (hoff : OffN A m g) (hmn : m ≤ n) (hs : o + m ≤ s.length) :
 Calls Tryz.prog 55 #[.slice (some ⟨g, o, none⟩) n c, .slice A m cm] w fun e' w' => e' = .returned (.tuple #[]) ∧ Blk w' g e (fillO (xrB s bs o) o s m) ∧ Only g w w' := by
 have hl := hr.len
 have hsm := hr.small
 have h0 : Blk w g e (fillO (xrB s bs o) o s 0) := by rw [fillO_zero]; exact hB
 have HS := Lib.hid hs
 clear hs
 go_enter Tryz.func55, Tryz.ntmps55
 go_wp2
 go_loopw [8] (fun va wr => ∃ k : Nat, k ≤ m ∧ va = .int .i64 k ∧ Blk wr g e (fillO (xrB s bs o) o s k) ∧ Only g w wr) (fun a _ => m - (intOf a).toNat)
 case atStart => exact ⟨0, by omega, rfl, h0, Only.refl _ _⟩
 case round =>
  clear h0
  obtain ⟨k, hk, rfl, h1, ho⟩ := hrel
  by_cases hlt : k < m
  · have hr1 := hr.keep ho.grown (fun p hp => by injection hp with hp; exact hp ▸ hoff)
    have hcb : ∃ ad, A = some ad ∧ wr.cell? (ad.add k) = some (.int .u8 ((bs.getD k 0).toNat : Int)) := by
     obtain ⟨b, off, hA, hbl, hc⟩ := hr1.2.2.2.2 (by omega)
     exact ⟨_, hA, by rw [add_lit]; exact hc k hlt⟩
    obtain ⟨ad, rfl, hcb⟩ := hcb
    have hcell := h1.cell (j := o + k) (by have := HS.out; rw [fillO_len _ _ _ _ (by omega)]; omega)
    rw [fillO_ge _ _ _ _ (by have := HS.out; omega)] at hcell
    have hfr := h1.frozen (o + k)
    have hst := h1.set_ (o + k) (xrB s bs o k)
    rw [fillO_step _ _ _ _ (by have := HS.out; omega)] at hst
    have hoo := ho.trans (Only.set wr g (o + k) (.int .u8 ((xrB s bs o k).toNat : Int)))
    have hx : bits BinOp.xor IntKind.u8 ((s.getD (o + k) 0).toNat : Int) ((bs.getD k 0).toNat : Int) = ((xrB s bs o k).toNat : Int) := xr8 _ _
    obtain ⟨y, hy⟩ : ∃ y : Int, y = ((s.getD (o + k) 0).toNat : Int) := ⟨_, rfl⟩
    obtain ⟨z, hz⟩ : ∃ z : Int, z = ((bs.getD k 0).toNat : Int) := ⟨_, rfl⟩
    obtain ⟨v, hv⟩ : ∃ v : Int, v = ((xrB s bs o k).toNat : Int) := ⟨_, rfl⟩
    rw [← hv] at hst hoo hx
    rw [← hy] at hcell hx
    rw [← hz] at hcb hx
    clear hv hy hz hr1
    have hkn : (k : Int) < (n : Int) := by omega
    go_wp2
    go_roundw
    case rel => exact ⟨k + 1, by omega, by go_num, hst, hoo⟩
    case measure => simp [intOf]; omega
  · obtain rfl : k = m := by omega
    go_wp2
    go_end0
    exact ⟨rfl, h1, ho⟩

theorem down1 (j : Nat) : ((j + 1 : Nat) : Int) - 1 = (j : Int) := by omega

set_option maxRecDepth 100000 in
set_option maxHeartbeats 1000000 in
theorem next_any (c : List UInt8) (w : World) (hc : c.length = 16) :
 Calls Tryz.prog 97 #[.agg (cells c).toArray] w fun e w' => e = .returned (.agg (cells (plusC c 1)).toArray) ∧ Below w.heap.size w w' := by
 have hz := zero16
 obtain ⟨hb0, h0, h1, _⟩ := block_base w c
 have hZL : (cells Z16).length = 16 := by rw [length_cells, Z16_len]
 have HZL := Lib.hid hZL
 have hPL : (cells (plusC c 1)).length = 16 := by rw [length_cells, plusC_len]
 have HPL := Lib.hid hPL
 have h0' : Blk ((w.alloc (Obj.cells (cells c).toArray 22)).alloc (Obj.cells (cells Z16).toArray 22)) w.heap.size 22 (nxR c 0) := by rw [nxR_zero c hc]; exact h0
 have hF := full_zero c hc
 have HC := Lib.hid hc
 clear h0 hc hZL hPL
 go_enter Tryz.func97, Tryz.ntmps97
 go_wp2
 go_loopw [3] (fun vi wr => ∃ k J : Nat, Hid (J + k = 16) ∧ vi = .int .i64 ((J : Int) - 1) ∧ Full c k ∧ Blk wr w.heap.size 22 (nxR c k) ∧ Blk wr (w.heap.size + 1) 22 Z16 ∧ Below w.heap.size w wr) (fun i _ => (intOf i + 1).toNat)
 case atStart => exact ⟨0, 16, Lib.hid rfl, rfl, hF, h0', h1, hb0⟩
 case round =>
  clear h0' hF h1 hb0
  obtain ⟨k, J, HJ, rfl, hF, h2, h1, hb⟩ := hrel
  rcases Nat.eq_zero_or_pos J with h | h
  · subst h
    have hk : k = 16 := by have := HJ.out; omega
    subst hk
    rw [nxR_all c hF] at h2
    clear hF
    go_wp2_with (first
     | (with_reducible refine wpList_ld rfl 22 (.tmp 1) rfl w.heap.size 0 rfl (cells (plusC c 1)) (h2.v.range 0 _ (by simp)) (row16 HPL.out) ?_)
     | ((with_reducible refine wpList_st rfl 22 (.tmp 2) (.tmp 17) rfl (w.heap.size + 1) 0 (cells (plusC c 1)) rfl rfl 22 _ h1.v (by rw [HPL.out, HZL.out]; omega) (row16 HPL.out) (cells_one _) ?_); intro w2 hB2 ho2; rw [splice_all _ _ (by rw [HPL.out, HZL.out])] at hB2))
    exact ret_row (by rfl) (by rfl) hB2 (row16 HPL.out) (by rfl) ⟨rfl, hb.trans (ho2.below (by omega))⟩
  · obtain ⟨j, rfl⟩ : ∃ j, J = j + 1 := ⟨J - 1, by omega⟩
    have hjk : 15 - k = j := by have := HJ.out; omega
    have hk16 : k < 16 := by have := HJ.out; omega
    have hj16 : j < 16 := by omega
    have hcell := h2.cell (j := j) (by rw [nxR_len c k HC.out (by omega)]; exact hj16)
    have hget := nxR_get c k HC.out hk16
    rw [hjk] at hget
    rw [hget] at hcell
    have hfr := h2.frozen j
    rw [down1 j]
    obtain ⟨y, hy⟩ : ∃ y, y = c.getD j 0 := ⟨_, rfl⟩
    rw [← hy] at hcell
    have hyl := y.toNat_lt
    by_cases hfull : y.toNat = 255
    · have hst := h2.set_ j 0
      have hset := nxR_set c k HC.out hk16
      rw [hjk] at hset
      rw [hset] at hst
      have hst' : Blk (wr.setCell ⟨w.heap.size, j, none⟩ (.int .u8 0)) w.heap.size 22 (nxR c (k + 1)) := hst
      have h1s := h1.far (p := ⟨w.heap.size, j, none⟩) (by simp) (.int .u8 0)
      have hbs := hb.setCell (p := ⟨w.heap.size, j, none⟩) (by simp) (.int .u8 0)
      have hc2 : (wr.setCell ⟨w.heap.size, j, none⟩ (.int .u8 0)).cell? ⟨w.heap.size, j, none⟩ = some (.int .u8 0) := by
       have h := hst'.cell (j := j) (by rw [nxR_len c (k + 1) HC.out (by omega)]; exact hj16)
       rw [← hset] at h
       rw [h]
       simp [List.getD_eq_getElem?_getD, nxR_len c k HC.out (by omega : k ≤ 16), hj16]
      have hF2 := full_succ c k HC.out hk16 hF (by rw [hjk, ← hy]; exact hfull)
      have HJ2 : Hid (j + (k + 1) = 16) := Lib.hid (by have := HJ.out; omega)
      rw [hfull] at hcell
      have hcell' : wr.cell? ⟨w.heap.size, j, none⟩ = some (.int .u8 255) := hcell
      clear hfull hy hget hset hF hst hcell hyl
      go_wp2
      go_roundw
      case rel => exact ⟨k + 1, j, HJ2, by go_num, hF2, hst', h1s, hbs⟩
      case measure => simp [intOf]
    · obtain ⟨z, hz⟩ : ∃ z : UInt8, z.toNat = y.toNat + 1 := ⟨UInt8.ofNat (y.toNat + 1), by rw [UInt8.toNat_ofNat']; omega⟩
      have hst := h2.set_ j z
      have hset := nxR_stop c k HC.out hk16 hF z (by rw [hjk, ← hy]; exact hz)
      rw [hjk] at hset
      rw [hset] at hst
      have h1s := h1.far (p := ⟨w.heap.size, j, none⟩) (by simp) (.int .u8 (z.toNat : Int))
      have hbs := hb.setCell (p := ⟨w.heap.size, j, none⟩) (by simp) (.int .u8 (z.toNat : Int))
      have hc2 : (wr.setCell ⟨w.heap.size, j, none⟩ (.int .u8 (z.toNat : Int))).cell? ⟨w.heap.size, j, none⟩ = some (.int .u8 (z.toNat : Int)) := by
       have h := hst.cell (j := j) (by rw [plusC_len]; exact hj16)
       rw [← hset] at h
       rw [h]
       simp [List.getD_eq_getElem?_getD, nxR_len c k HC.out (by omega : k ≤ 16), hj16]
      obtain ⟨a, ha⟩ : ∃ a : Int, a = (y.toNat : Int) := ⟨_, rfl⟩
      obtain ⟨b, hbz⟩ : ∃ b : Int, b = (z.toNat : Int) := ⟨_, rfl⟩
      rw [← ha] at hcell
      rw [← hbz] at hst h1s hbs hc2
      have e1 : IntKind.u8.wrap (a + 1) = b := by
       rw [show a + 1 = b by omega]
       exact (IntKind.wrap_u8 b).trans (Int.emod_eq_of_lt (by omega) (by omega))
      have e2 : (b != 0) = true := by simp; omega
      clear hfull hy hget hset hF hyl ha hbz hz h2
      go_wp2_with (first
       | (with_reducible refine wpList_ld rfl 22 (.tmp 1) rfl w.heap.size 0 rfl (cells (plusC c 1)) (hst.v.range 0 _ (by simp)) (row16 HPL.out) ?_)
       | ((with_reducible refine wpList_st rfl 22 (.tmp 2) (.tmp 17) rfl (w.heap.size + 1) 0 (cells (plusC c 1)) rfl rfl 22 _ h1s.v (by rw [HPL.out, HZL.out]; omega) (row16 HPL.out) (cells_one _) ?_); intro w2 hB2 ho2; rw [splice_all _ _ (by rw [HPL.out, HZL.out])] at hB2))
      exact ret_row (by rfl) (by rfl) hB2 (row16 HPL.out) (by rfl) ⟨rfl, hbs.trans (ho2.below (by omega))⟩
structure SEnv (B : Nat) (key c : List UInt8) (k q r p : Nat) (wr : World) : Prop where
 hq : BlkV wr q 166 [.pointer (some ⟨p, 0, none⟩)]
 hr : Blk wr r 22 (plusC c k)
 hp : BlkV wr p 184 (ciph (kall key))
 rq : r ≠ q
 rp : r ≠ p
 lq : B ≤ q
 lr : B ≤ r
 lp : B ≤ p
section
variable {B : Nat} {key c : List UInt8} {k q r p : Nat} {wr w' : World}
theorem SEnv.only (h : SEnv B key c k q r p wr) {g : Nat} (ho : Only g wr w') (h1 : q ≠ g) (h2 : r ≠ g) (h3 : p ≠ g) : SEnv B key c k q r p w' := ⟨h.hq.only ho h1, Blk.only h.hr ho h2, h.hp.only ho h3, h.rq, h.rp, h.lq, h.lr, h.lp⟩
theorem SEnv.onlyLow (h : SEnv B key c k q r p wr) {g : Nat} (ho : Only g wr w') (hg : g < B) : SEnv B key c k q r p w' := h.only ho (by have := h.lq; omega) (by have := h.lr; omega) (by have := h.lp; omega)
theorem SEnv.below (h : SEnv B key c k q r p wr) (hb : Below wr.heap.size wr w') : SEnv B key c k q r p w' := ⟨h.hq.below hb h.hq.lt, h.hr.below hb h.hr.lt, h.hp.below hb h.hp.lt, h.rq, h.rp, h.lq, h.lr, h.lp⟩
theorem SEnv.alloc (h : SEnv B key c k q r p wr) (o : Obj) : SEnv B key c k q r p (wr.alloc o) := h.below ((Below.refl _ _).alloc (Nat.le_refl _) _)
theorem SEnv.drew (h : SEnv B key c k q r p wr) : SEnv B key c k q r p wr.drew := h.below ((Below.refl _ _).drew)
end

theorem grown_only {w w1 w2 : World} {g r : Nat} (h : w.grownBy w1 (some r)) (ho : Only g w1 w2) (hg : g = r ∨ w.heap.size ≤ g) : w.grownBy w2 (some r) :=
 ⟨ho.os.trans h.os, ho.tape.trans h.tape, ho.output.trans h.output, by rw [ho.size]; exact h.size, fun i hi hne => (ho.block i (by
  intro e
  subst e
  rcases hg with hg | hg
  · exact hne (by rw [hg])
  · omega)).trans (h.block i hi hne)⟩
theorem grown_more {w w1 w2 : World} {row : Option Nat} (h : w.grownBy w1 row) (hb : Below w1.heap.size w1 w2) : w.grownBy w2 row := h.trans (grown_of_below hb row)

set_option maxRecDepth 100000 in
set_option maxHeartbeats 1000000 in
theorem blocks_any (key c : List UInt8) (w : World) (hk : key.length = 16) (hc : c.length = 16) :
 Calls Tryz.prog 82 #[.agg (cells key).toArray, .agg (cells c).toArray] w fun e w' => ∃ q r p, e = .returned (.func (.func 95) #[] #[.pointer (some ⟨q, 0, none⟩), .pointer (some ⟨r, 0, none⟩)]) ∧ SEnv w.heap.size key c 0 q r p w' ∧ Below w.heap.size w w' := by
 have hmf : ∀ (fn : Fn) (first cap : Array Value) (w : World), (Instr.makeFunc fn first cap).run Tryz.prog w = .ok (.func fn first cap) w := fun _ _ _ _ => rfl
 have hb0 : Below w.heap.size w ((w.alloc (Obj.cells (cells key).toArray 22)).alloc (Obj.cells (cells c).toArray 22)) := ((Below.refl _ _).alloc (Nat.le_refl _) _).alloc (by simp) _
 have h0 : Blk ((w.alloc (Obj.cells (cells key).toArray 22)).alloc (Obj.cells (cells c).toArray 22)) w.heap.size 22 key := (Blk.new _ _ _).alloc _
 have h1 : Blk ((w.alloc (Obj.cells (cells key).toArray 22)).alloc (Obj.cells (cells c).toArray 22)) (w.heap.size + 1) 22 (plusC c 0) := by rw [plusC_zero c hc]; exact Blk.new_at _ _ _ _ _ (by simp) rfl
 clear hc
 have HKL : Hid ((cells key).length = 16) := Lib.hid (by rw [length_cells, hk])
 have hn := fun wx => new_any key wx hk
 have HN := Lib.hid hn
 clear hk hn
 go_enter Tryz.func82, Tryz.ntmps82
 go_wp2_with (first
  | (with_reducible refine wpList_ld rfl 22 (.tmp 2) rfl w.heap.size 0 rfl (cells key) (h0.v.range 0 _ (by simp)) (row16 HKL.out) ?_)
  | (go_at_call 94; ((with_reducible refine (HN.out _).mono ?_); rintro e w2 ⟨p, rfl, hp, hc2, hb2⟩)))
 go_ret
 have hsz := h1.lt
 have h12 := h1.below hb2 hsz
 have hb2w := hb0.trans (hb2.mono hb0.size)
 have hls := hb2.size
 have hs0 := hb0.size
 have hpl := hc2.lt
 have hrl := h12.lt
 exact ⟨w2.heap.size, w.heap.size + 1, p, rfl, ⟨BlkV.new w2 166 [.pointer (some ⟨p, 0, none⟩)], h12.alloc _, hc2.alloc _, by omega, by omega, by omega, by omega, by omega⟩, hb2w.alloc (by omega) _⟩

set_option maxRecDepth 100000 in
set_option maxHeartbeats 1000000 in
theorem tell_any (B : Nat) (key c : List UInt8) (k q r p : Nat) (w : World) (hk : key.length = 16) (h : SEnv B key c k q r p w) :
 Calls Tryz.prog 95 #[.pointer (some ⟨q, 0, none⟩), .pointer (some ⟨r, 0, none⟩)] w fun e w' => e = .returned (.agg (cells (enc (kall key) (plusC c k))).toArray) ∧ SEnv B key c (k + 1) q r p w' ∧ w.grownBy w' (some r) := by
 have hz := zero16
 obtain ⟨C, hC⟩ : ∃ C, C = plusC c k := ⟨_, rfl⟩
 have hCl : C.length = 16 := by rw [hC]; exact plusC_len _ _
 have hD : plusC C 1 = plusC c (k + 1) := by rw [hC]; exact plusC_plus _ _ _
 obtain ⟨D, hDe⟩ : ∃ D, D = plusC c (k + 1) := ⟨_, rfl⟩
 rw [← hDe] at hD
 obtain ⟨X, hX⟩ : ∃ X, X = enc (kall key) C := ⟨_, rfl⟩
 have hbk := fun wx (hx : BlkV wx p 184 (ciph (kall key))) => block_some p _ (kall key) C wx hCl (kall_len key hk) hx
 have hnx := fun wx => next_any C wx hCl
 simp only [← hX] at hbk
 simp only [hD] at hnx
 rw [← hC, ← hX]
 have hXL : (cells X).length = 16 := by rw [length_cells, hX, enc_len]
 have hCL : (cells C).length = 16 := by rw [length_cells, hCl]
 have hDL : (cells D).length = 16 := by rw [length_cells, hDe, plusC_len]
 have hZL : (cells Z16).length = 16 := by rw [length_cells, Z16_len]
 have HXL := Lib.hid hXL
 have HCL := Lib.hid hCL
 have HDL := Lib.hid hDL
 have HZL := Lib.hid hZL
 have HBK := Lib.hid hbk
 have HNX := Lib.hid hnx
 have HC := Lib.hid hC
 have HDE := Lib.hid hDe
 have hrl := h.hr.lt
 have hql := h.hq.lt
 have hpl := h.hp.lt
 have hrq := h.rq
 have hrp := h.rp
 have h1 := h.alloc (.cells (cells Z16).toArray 22)
 have hR : Blk (w.alloc (.cells (cells Z16).toArray 22)) w.heap.size 22 Z16 := Blk.new _ _ _
 have hg1 : w.grownBy (w.alloc (.cells (cells Z16).toArray 22)) (some r) := grown_of_below ((Below.refl _ _).alloc (Nat.le_refl _) _) _
 have hqc := h1.hq.cell 0
 have hqc' : (w.alloc (.cells (cells Z16).toArray 22)).cell? ⟨q, 0, none⟩ = some (.pointer (some ⟨p, 0, none⟩)) := hqc
 have hr1 : Blk (w.alloc (.cells (cells Z16).toArray 22)) r 22 C := by rw [HC.out]; exact h1.hr
 clear hk hCl hD hX hXL hCL hDL hZL hbk hnx hqc hC hDe
 have hp1 := h1.hp
 have hq1 := h1.hq
 have H := Lib.hid h
 clear h1 h
 go_enter Tryz.func95, Tryz.ntmps95
 go_wp2_with (first
  | (with_reducible refine wpList_ld rfl 22 (.tmp 1) rfl r 0 rfl (cells C) (hr1.v.range 0 _ (by simp)) (row16 HCL.out) ?_)
  | (go_at_call 96; ((with_reducible refine (HBK.out _ hp1).mono ?_); rintro e w2 ⟨rfl, hb2⟩; have hr2 := (hr1.below hb2 hr1.lt).alloc (.cells (cells Z16).toArray 22); have hq2 := (hq1.below hb2 hq1.lt).alloc (.cells (cells Z16).toArray 22); have hp2 := (hp1.below hb2 hp1.lt).alloc (.cells (cells Z16).toArray 22); have hR2 := (hR.below hb2 hR.lt).alloc (.cells (cells Z16).toArray 22); have hx2 := BlkV.new w2 22 (cells Z16); have hls := (hR.below hb2 hR.lt).lt; have hg2 := grown_more (grown_more hg1 hb2) ((Below.refl w2.heap.size w2).alloc (Nat.le_refl _) (.cells (cells Z16).toArray 22))))
  | ((with_reducible refine wpList_st rfl 22 (.tmp 3) (.tmp 6) rfl w2.heap.size 0 (cells X) rfl rfl 22 _ hx2 (by rw [HXL.out, HZL.out]; omega) (row16 HXL.out) (cells_one _) ?_); intro w3 hB3 ho3; rw [splice_all _ _ (by rw [HXL.out, HZL.out])] at hB3; have hr3 := Blk.only hr2 ho3 (by omega); have hq3 := hq2.only ho3 (by omega); have hp3 := hp2.only ho3 (by omega); have hR3 := Blk.only hR2 ho3 (by omega))
  | (with_reducible refine wpList_ld rfl 22 (.tmp 1) rfl r 0 rfl (cells C) (hr3.v.range 0 _ (by simp)) (row16 HCL.out) ?_)
  | (go_at_call 97; ((with_reducible refine (HNX.out w3).mono ?_); rintro e w4 ⟨rfl, hb4⟩; have hr4 := hr3.below hb4 hr3.lt; have hq4 := hq3.below hb4 hq3.lt; have hp4 := hp3.below hb4 hp3.lt; have hR4 := hR3.below hb4 hR3.lt; have hx4 := hB3.below hb4 hB3.lt))
  | ((with_reducible refine wpList_st rfl 22 (.tmp 1) (.tmp 8) rfl r 0 (cells D) rfl rfl 22 _ hr4.v (by rw [HDL.out, HCL.out]; omega) (row16 HDL.out) (cells_one _) ?_); intro w5 hB5 ho5; rw [splice_all _ _ (by rw [HDL.out, HCL.out])] at hB5; have hq5 := hq4.only ho5 (by omega); have hp5 := hp4.only ho5 (by omega); have hR5 := Blk.only hR4 ho5 (by omega); have hx5 := hx4.only ho5 (by omega))
  | (with_reducible refine wpList_ld rfl 22 (.tmp 3) rfl w2.heap.size 0 rfl (cells X) (hx5.range 0 _ (by simp)) (row16 HXL.out) ?_)
  | ((with_reducible refine wpList_st rfl 22 (.tmp 2) (.tmp 9) rfl w.heap.size 0 (cells X) rfl rfl 22 _ hR5.v (by rw [HXL.out, HZL.out]; omega) (row16 HXL.out) (cells_one _) ?_); intro w6 hB6 ho6; rw [splice_all _ _ (by rw [HXL.out, HZL.out])] at hB6))
 have hs := H.out
 have hD5 : Blk w5 r 22 D := hB5
 rw [HDE.out] at hD5
 have hg6 := grown_only (grown_only (grown_more (grown_only hg2 ho3 (.inr (by omega))) hb4) ho5 (.inl rfl)) ho6 (.inr (Nat.le_refl _))
 exact ret_row (by rfl) (by rfl) hB6 (row16 HXL.out) (by rfl) ⟨rfl, ⟨hq5.only ho6 (by omega), Blk.only hD5 ho6 (by omega), hp5.only ho6 (by omega), hs.rq, hs.rp, hs.lq, hs.lr, hs.lp⟩, hg6⟩
end Go.Proofs.YtheefckohnaceaaGreatDoor
