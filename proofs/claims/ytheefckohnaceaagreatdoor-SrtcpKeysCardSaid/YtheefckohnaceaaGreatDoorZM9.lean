/- Several texts in one: plain words and walks. No statement is proved here. -/
import Derived.Test.YtheefckohnaceaaGreatDoorZM8
import Derived.Test.YtheefckohnaceaaGreatDoorZM0
import Derived.Test.YtheefckohnaceaaGreatDoorZM7
import Derived.Laws.BitsAllLaws
namespace Go.Proofs.YtheefckohnaceaaGreatDoor
open Go.RowKit
set_option linter.unusedVariables false

set_option maxHeartbeats 1000000 in
theorem bytes_none (key c : List UInt8) (n : Int) (w : World) (hn : n < 1) :
 Calls Tryz.prog 57 #[.agg (cells key).toArray, .agg (cells c).toArray, .int .i64 n] w fun e w' => e = .returned (.slice none 0 0) ∧ Below w.heap.size w w' := by
 have hb0 : Below w.heap.size w ((w.alloc (Obj.cells (cells key).toArray 22)).alloc (Obj.cells (cells c).toArray 22)) := ((Below.refl _ _).alloc (Nat.le_refl _) _).alloc (by simp) _
 go_enter Tryz.func57, Tryz.ntmps57
 go_wp2
 go_ret
 exact ⟨rfl, hb0⟩

set_option maxRecDepth 100000 in
set_option maxHeartbeats 2000000 in
theorem bytes_any (key c : List UInt8) (n : Nat) (w : World) (hk : key.length = 16) (hc : c.length = 16) (h1 : 1 ≤ n) (hn : n ≤ 4096) :
 Calls Tryz.prog 57 #[.agg (cells key).toArray, .agg (cells c).toArray, .int .i64 (n : Int)] w fun e w' => ∃ g : Nat, e = .returned (.slice (some ⟨g, 0, none⟩) n n) ∧ w.heap.size ≤ g ∧ Blk w' g 5 (strm key c n) ∧ Below w.heap.size w w' := by
 have hz := zero16
 have hb0 : Below w.heap.size w ((w.alloc (Obj.cells (cells key).toArray 22)).alloc (Obj.cells (cells c).toArray 22)) := ((Below.refl _ _).alloc (Nat.le_refl _) _).alloc (by simp) _
 have h0 : Blk ((w.alloc (Obj.cells (cells key).toArray 22)).alloc (Obj.cells (cells c).toArray 22)) w.heap.size 22 key := (Blk.new _ _ _).alloc _
 have h01 : Blk ((w.alloc (Obj.cells (cells key).toArray 22)).alloc (Obj.cells (cells c).toArray 22)) (w.heap.size + 1) 22 c := Blk.new_at _ _ _ _ _ (by simp) rfl
 have hmk := run_makeB (P := Tryz.prog) Tryz.underlying32 u8_inf .i64 .i64 (n : Int) (n : Int) n rfl rfl (by omega)
 have HKL : Hid ((cells key).length = 16) := Lib.hid (by rw [length_cells, hk])
 have HCL : Hid ((cells c).length = 16) := Lib.hid (by rw [length_cells, hc])
 have hbl := fun wx => blocks_any key c wx hk hc
 have HBL := Lib.hid hbl
 have HK := Lib.hid hk
 clear hk hc hbl
 have hb1 := hb0.alloc hb0.size (.cells (cells (List.replicate n 0)).toArray 5)
 have k0 := h0.alloc (.cells (cells (List.replicate n 0)).toArray 5)
 have k01 := h01.alloc (.cells (cells (List.replicate n 0)).toArray 5)
 have kr : Blk (((w.alloc (Obj.cells (cells key).toArray 22)).alloc (Obj.cells (cells c).toArray 22)).alloc (.cells (cells (List.replicate n 0)).toArray 5)) (w.heap.size + 1 + 1) 5 (strR key c n 0) := by
  rw [strR, fillAt_zero]; exact Blk.new_at _ _ _ _ _ (by simp) rfl
 clear hb0 h0 h01
 go_enter Tryz.func57, Tryz.ntmps57
 go_wp2_with (first
  | (with_reducible refine wpList_ld rfl 22 (.tmp 3) rfl w.heap.size 0 rfl (cells key) (k0.v.range 0 _ (by simp)) (row16 HKL.out) ?_)
  | (with_reducible refine wpList_ld rfl 22 (.tmp 4) rfl (w.heap.size + 1) 0 rfl (cells c) (k01.v.range 0 _ (by simp)) (row16 HCL.out) ?_)
  | (go_at_call 82; ((with_reducible refine (HBL.out _).mono ?_); rintro e w2 ⟨q, r, p, rfl, hE2, hb2⟩)))
 obtain ⟨G, hG⟩ : ∃ G, G = w.heap.size + 1 + 1 := ⟨_, rfl⟩
 rw [← hG] at kr ⊢
 have hwG : w.heap.size + 1 < G := by omega
 clear hG
 have hGl := kr.lt
 have hr2 := kr.below hb2 kr.lt
 have hb2w := hb1.trans (hb2.mono hb1.size)
 obtain ⟨B, hB⟩ : ∃ B, B = (((w.alloc (Obj.cells (cells key).toArray 22)).alloc (Obj.cells (cells c).toArray 22)).alloc (.cells (cells (List.replicate n 0)).toArray 5)).heap.size := ⟨_, rfl⟩
 rw [← hB] at hE2 hGl
 have hM0 : 0 = min 0 n := by omega
 clear hB hb2 hb1 k0 k01 kr hmk HBL
 go_loopw [9] (fun va wr => ∃ k K M : Nat, Hid (K = 16 * k) ∧ K ≤ n + 15 ∧ M = min K n ∧ va = .int .i64 (K : Int) ∧ SEnv B key c k q r p wr ∧ Blk wr G 5 (strR key c n M) ∧ Below w.heap.size w wr) (fun a _ => n + 15 - (intOf a).toNat)
 case atStart => exact ⟨0, 0, 0, Lib.hid rfl, by omega, hM0, rfl, hE2, hr2, hb2w⟩
 case round =>
  clear hE2 hr2 hb2w hM0
  obtain ⟨k, K, M, HKk, hk, hM, rfl, hE, hr, hb⟩ := hrel
  by_cases hlt : K < n
  · have hMk : M = K := by omega
    rw [hMk] at hr
    clear hM hMk
    have hK := HKk.out
    have hstp := fun m hm => strR_step key c n k m hm
    have htl := tell_any B key c k q r p wr HK.out hE
    obtain ⟨X, hX⟩ : ∃ X, X = enc (kall key) (plusC c k) := ⟨_, rfl⟩
    have hXl : X.length = 16 := by rw [hX]; exact enc_len _ _
    rw [← hX] at htl
    simp only [← hX] at hstp
    have hXL : (cells X).length = 16 := by rw [length_cells, hXl]
    have hZL : (cells Z16).length = 16 := by rw [length_cells, Z16_len]
    have HXL := Lib.hid hXL
    have HZL := Lib.hid hZL
    have HXl := Lib.hid hXl
    have hEl := hE.lr
    have hEq := hE.lq
    have hEp := hE.lp
    simp only [← hK] at hstp
    clear hK
    have hKl : (strR key c n K).length = n := strR_len _ _ _ _ (by omega)
    have HKl := Lib.hid hKl
    have hnK : (n = K) = False := by simp; omega
    have hki : (K : Int) < (n : Int) := by omega
    have hkle : (K : Int) ≤ (n : Int) := by omega
    have HT := Lib.hid htl
    have HSP := Lib.hid hstp
    have hsb := hb.size
    have hGB : G < wr.heap.size := hr.lt
    clear hX hXl hXL hZL hKl htl hstp hE
    go_wp2_with (first
     | (go_at_call 95; ((with_reducible refine HT.out.mono ?_); rintro e w3 ⟨rfl, hE3, hg3⟩; have hr3 := (hr.grown hg3 (by intro hh; injection hh with hh; omega)).alloc (.cells (cells Z16).toArray 22); have hE3a := hE3.alloc (.cells (cells Z16).toArray 22); have hsz3 := hg3.size; have hb3 := (hb.grown hg3 hsb (fun i hi => by injection hi with hi; omega)).alloc (by omega) (.cells (cells Z16).toArray 22); have hx3 := BlkV.new w3 22 (cells Z16)))
     | ((with_reducible refine wpList_st rfl 22 (.tmp 10) (.tmp 26) rfl w3.heap.size 0 (cells X) rfl rfl 22 _ hx3 (by rw [HXL.out, HZL.out]; omega) (row16 HXL.out) (cells_one _) ?_); intro w4 hB4 ho4; rw [splice_all _ _ (by rw [HXL.out, HZL.out])] at hB4))
    have hE4 := hE3a.only ho4 (by have := hE3.hq.lt; omega) (by have := hE3.hr.lt; omega) (by have := hE3.hp.lt; omega)
    have hr4 := Blk.only hr3 ho4 (by omega)
    have hb4 := hb3.trans (ho4.below (by omega))
    have hXlt : G < w3.heap.size := by omega
    clear hE3a hr3 hb3 hx3 ho4 hE3 hg3
    go_still_tail 4, (by kernel_rfl)
    change wpList _ _ _ _ _ w4.drew
    have hE5 := hE4.drew
    have hr5 := hr4.drew
    have hb5 := hb4.drew
    have hX5 : Blk w4.drew w3.heap.size 22 X := BlkV.drew hB4
    generalize w4.drew = w5 at *
    clear hE4 hr4 hb4 hB4
    obtain ⟨m, hm⟩ : ∃ m, m = min 16 (n - K) := ⟨_, rfl⟩
    have hsp := HSP.out m hm
    have hmp : 0 < m := by omega
    have hKm : K + m = min (K + 16) n := by omega
    have hXr := hX5.rd HXl.out (Nat.le_refl 16) (by simp [maxLen])
    have HM := Lib.hid hm
    have HSM := Lib.hid hsp
    have HKM := Lib.hid hKm
    have hnl : K + (n - K) ≤ (cells (strR key c n K)).length := by rw [length_cells, HKl.out]; omega
    have HNL := Lib.hid hnl
    clear hm hsp hKm hnl
    go_wp2_with (first
     | ((with_reducible refine wpList_cp rfl (.tmp 29) (.tmp 30) rfl Tryz.underlying32 u8_inf G K (n - K) (n - K) 5 (cells (strR key c n K)) rfl hr5.v (some ⟨w3.heap.size, 0, none⟩) 16 16 X rfl hXr HNL.out m HM.out hmp ?_); intro w6 hB6 ho6; rw [HSM.out] at hB6))
    have hE6 := hE5.onlyLow ho6 hGl
    have hb6 := hb5.trans (ho6.below (by omega))
    have hr6 : Blk w6 G 5 (strR key c n (K + m)) := hB6
    go_roundw
    case rel => exact ⟨k + 1, K + 16, K + m, Lib.hid (by have := HKk.out; omega), by omega, HKM.out, by go_num, hE6, hr6, hb6⟩
    case measure => simp [intOf]; omega
  · have hMn : M = n := by omega
    rw [hMn, strR_all] at hr
    go_wp2
    go_ret
    exact ⟨G, rfl, by omega, hr, hb⟩
theorem boxes2 (w : World) (key c : List UInt8) : Below w.heap.size w ((w.alloc (Obj.cells (cells key).toArray 22)).alloc (Obj.cells (cells c).toArray 22)) ∧
 Blk ((w.alloc (Obj.cells (cells key).toArray 22)).alloc (Obj.cells (cells c).toArray 22)) w.heap.size 22 key ∧
 Blk ((w.alloc (Obj.cells (cells key).toArray 22)).alloc (Obj.cells (cells c).toArray 22)) (w.heap.size + 1) 22 c :=
 ⟨((Below.refl _ _).alloc (Nat.le_refl _) _).alloc (by simp) _, (Blk.new _ _ _).alloc _, Blk.new_at _ _ _ _ _ (by simp) rfl⟩

set_option maxRecDepth 100000 in
set_option maxHeartbeats 1000000 in
theorem cipher_any (key c : List UInt8) (A : Option Addr) (n cap : Nat) (bs : List UInt8) (w : World) (hk : key.length = 16) (hc : c.length = 16) (hr : RdS w A n cap bs) (hn : n ≤ 4096) :
 Calls Tryz.prog 34 #[.agg (cells key).toArray, .agg (cells c).toArray, .slice A n cap] w fun e w' => ∃ v, e = .returned v ∧ w'.ownsRow w.heap.size 5 1 v n (cells (cph key c bs)) ∧ Below w.heap.size w w' := by
 obtain ⟨hb0, h0, h1⟩ := boxes2 w key c
 have hl := hr.len
 have HKL : Hid ((cells key).length = 16) := Lib.hid (by rw [length_cells, hk])
 have HCL : Hid ((cells c).length = 16) := Lib.hid (by rw [length_cells, hc])
 have hd : decide ((4096 : Int) < (n : Int)) = false := by simp; omega
 have hr1 := hr.below hb0
 rcases Nat.eq_zero_or_pos n with hz | hz
 · subst hz
   have hbs : bs = [] := List.eq_nil_of_length_eq_zero hl
   subst hbs
   have hby := fun wx => bytes_none key c 0 wx (by omega)
   have HB := Lib.hid hby
   clear hk hc hby
   go_enter Tryz.func34, Tryz.ntmps34
   go_wp2_with (first
    | (with_reducible refine wpList_ld rfl 22 (.tmp 3) rfl w.heap.size 0 rfl (cells key) (h0.v.range 0 _ (by simp)) (row16 HKL.out) ?_)
    | (with_reducible refine wpList_ld rfl 22 (.tmp 4) rfl (w.heap.size + 1) 0 rfl (cells c) (h1.v.range 0 _ (by simp)) (row16 HCL.out) ?_)
    | (go_at_call 57; ((with_reducible refine (HB.out _).mono ?_); rintro e w2 ⟨rfl, hb2⟩))
    | (go_at_call 55; ((with_reducible refine (take_noneS _ _ _ _).mono ?_); rintro e w3 ⟨rfl, rfl⟩)))
   go_ret
   exact ⟨_, rfl, World.ownsRow_nil _ _ _ _, hb0.trans (hb2.mono hb0.size)⟩
 · have hfl := cph_fill key c bs
   rw [hl] at hfl
   have hby := fun wx => bytes_any key c n wx hk hc (by omega) hn
   have HB := Lib.hid hby
   have HF := Lib.hid hfl
   have HS := Lib.hid (strm_len key c n)
   obtain ⟨S, hS⟩ : ∃ S, S = strm key c n := ⟨_, rfl⟩
   rw [← hS] at HB HF HS
   have hsz := hb0.size
   have HL := Lib.hid hl
   clear hk hc hby hfl hS hl
   go_enter Tryz.func34, Tryz.ntmps34
   go_wp2_with (first
    | (with_reducible refine wpList_ld rfl 22 (.tmp 3) rfl w.heap.size 0 rfl (cells key) (h0.v.range 0 _ (by simp)) (row16 HKL.out) ?_)
    | (with_reducible refine wpList_ld rfl 22 (.tmp 4) rfl (w.heap.size + 1) 0 rfl (cells c) (h1.v.range 0 _ (by simp)) (row16 HCL.out) ?_)
    | (go_at_call 57; ((with_reducible refine (HB.out _).mono ?_); rintro e w2 ⟨g, rfl, hg, hB2, hb2⟩; have hr2 := hr1.below hb2; have hof := hr1.off_lt hg))
    | (go_at_call 55; ((with_reducible refine (take_any g 0 n n _ S A n cap bs w2 hB2 hr2 hof (Nat.le_refl _) (by rw [HS.out]; omega)).mono ?_); rintro e w3 ⟨rfl, hB3, ho3⟩)))
   go_ret
   rw [HF.out] at hB3
   exact ⟨_, rfl, hB3.owns (by rw [cph_len, HL.out]) (by simp only [maxLen]; omega) (by omega), (hb0.trans (hb2.mono hb0.size)).trans (ho3.below (by omega))⟩

theorem row14_ : RowTy Tryz.prog 23 14 := ⟨_, Tryz.underlying23, rfl, by kernel_rfl⟩
theorem row14 {n : Nat} (h : n = 14) : RowTy Tryz.prog 23 n := h ▸ row14_
theorem first_boxes (w : World) (salt : List UInt8) : Below w.heap.size w (((w.alloc (Obj.cells (cells salt).toArray 23)).alloc (Obj.cells (cells Z16).toArray 22)).alloc (Obj.cells (cells Z16).toArray 22)) ∧
 Blk (((w.alloc (Obj.cells (cells salt).toArray 23)).alloc (Obj.cells (cells Z16).toArray 22)).alloc (Obj.cells (cells Z16).toArray 22)) w.heap.size 23 salt ∧
 Blk (((w.alloc (Obj.cells (cells salt).toArray 23)).alloc (Obj.cells (cells Z16).toArray 22)).alloc (Obj.cells (cells Z16).toArray 22)) (w.heap.size + 1) 22 Z16 ∧
 Blk (((w.alloc (Obj.cells (cells salt).toArray 23)).alloc (Obj.cells (cells Z16).toArray 22)).alloc (Obj.cells (cells Z16).toArray 22)) (w.heap.size + 1 + 1) 22 Z16 :=
 ⟨(((Below.refl _ _).alloc (Nat.le_refl _) _).alloc (by simp) _).alloc (by simp; omega) _, ((Blk.new _ _ _).alloc _).alloc _, (Blk.new_at _ _ _ _ _ (by simp) rfl).alloc _, Blk.new_at _ _ _ _ _ (by simp) rfl⟩
theorem salt_splice (salt : List UInt8) (h : salt.length = 14) : splice (cells Z16) 0 (cells (salt.take 14)) = cells (saltZ salt) := by
 rw [List.take_of_length_le (by omega), splice, saltZ, cells_append]
 simp [cells, h, Z16]

set_option maxRecDepth 100000 in
set_option maxHeartbeats 1000000 in
theorem first_any (salt : List UInt8) (s x : Nat) (w : World) (hs : salt.length = 14) (hsl : s < 4294967296) (hx : x < 18446744073709551616) :
 Calls Tryz.prog 32 #[.agg (cells salt).toArray, .int .u32 (s : Int), .int .u64 (x : Int)] w fun e w' => e = .returned (.agg (cells (firstC salt s x)).toArray) ∧ Below w.heap.size w w' := by
 have hz := zero16
 obtain ⟨hb0, h0, h1, h2⟩ := first_boxes w salt
 have hsp := salt_splice salt hs
 have hfc : (cells (firstC salt s x)).length = 16 := by rw [length_cells, firstC_len _ _ _ hs]
 have hsz : (saltZ salt).length = 16 := saltZ_len _ hs
 obtain ⟨F, hF⟩ : ∃ F, F = firstC salt s x := ⟨_, rfl⟩
 have hF2 : fillO (xrB (saltZ salt) (beb 4 s ++ beb 6 x) 4) 4 (saltZ salt) 10 = F := by rw [hF]; rfl
 rw [← hF] at hfc ⊢
 obtain ⟨SZ, hSZ⟩ : ∃ SZ, SZ = saltZ salt := ⟨_, rfl⟩
 rw [← hSZ] at hsp hsz hF2
 have hZL : (cells Z16).length = 16 := by rw [length_cells, Z16_len]
 have HZL := Lib.hid hZL
 have HSP := Lib.hid hsp
 have HFC := Lib.hid hfc
 have HSZ := Lib.hid hsz
 have HF2 := Lib.hid hF2
 have hp1 : ∀ wx : World, Calls Tryz.prog 35 #[.slice none 0 0, .int .i64 4, .int .u64 (s : Int)] wx fun e w' => e = .returned (.slice (some ⟨wx.heap.size, 0, none⟩) 4 4) ∧ Blk w' wx.heap.size 5 (beb 4 s) ∧ Below wx.heap.size wx w' := fun wx => put_some none 0 0 [] 4 s wx (RdS.nil _) (by omega) (by omega) (by omega) (by omega)
 have hp2 : ∀ (wx : World) (A : Option Addr) (c : Nat), RdS wx A 4 c (beb 4 s) → Calls Tryz.prog 35 #[.slice A 4 c, .int .i64 6, .int .u64 (x : Int)] wx fun e w' => e = .returned (.slice (some ⟨wx.heap.size, 0, none⟩) 10 10) ∧ Blk w' wx.heap.size 5 (beb 4 s ++ beb 6 x) ∧ Below wx.heap.size wx w' := fun wx A c hr => put_some A 4 c (beb 4 s) 6 x wx hr (by omega) (by omega) hx (by omega)
 have hrd1 : ∀ (wx : World) (g : Nat), Blk wx g 5 (beb 4 s) → RdS wx (some ⟨g, 0, none⟩) 4 4 (beb 4 s) := fun wx g h => h.rd (length_beb _ _) (Nat.le_refl _) (by simp [maxLen])
 have hrd2 : ∀ (wx : World) (g : Nat), Blk wx g 5 (beb 4 s ++ beb 6 x) → RdS wx (some ⟨g, 0, none⟩) 10 10 (beb 4 s ++ beb 6 x) := fun wx g h => h.rd (by rw [List.length_append, length_beb, length_beb]) (Nat.le_refl _) (by simp [maxLen])
 have HP1 := Lib.hid hp1
 have HP2 := Lib.hid hp2
 have hwr : IntKind.u64.wrap (s : Int) = (s : Int) := by rw [IntKind.wrap_u64]; omega
 clear hZL hsp hfc hsz hF hF2 hSZ hp1 hp2
 go_enter Tryz.func32, Tryz.ntmps32
 go_wp2
 go_still_tail 2, (by kernel_rfl)
 change wpList _ _ _ _ _ (World.drew _)
 have k0 := (h0.drew).rd hs (Nat.le_refl 14) (by simp [maxLen])
 have k1 := h1.drew
 have k2 := h2.drew
 have kb := hb0.drew
 generalize (((w.alloc (Obj.cells (cells salt).toArray 23)).alloc (Obj.cells (cells Z16).toArray 22)).alloc (Obj.cells (cells Z16).toArray 22)).drew = w2 at *
 clear h0 h1 h2 hb0 hs
 go_wp2_with (first
  | ((with_reducible refine wpList_cp rfl (.tmp 9) (.tmp 10) rfl Tryz.underlying32 u8_inf (w.heap.size + 1 + 1) 0 16 16 22 (cells Z16) rfl k2.v (some ⟨w.heap.size, 0, none⟩) 14 14 salt rfl k0 (by rw [HZL.out]; omega) 14 (by decide) (by omega) ?_); intro w3 hB3 ho3; rw [HSP.out] at hB3; have j1 := Blk.only k1 ho3 (by omega); have jb := kb.trans (ho3.below (by omega)))
  | (go_at_call 35; ((with_reducible refine (HP1.out w3).mono ?_); rintro e w4 ⟨rfl, hB4, hb4⟩; have hR4 := hrd1 w4 _ hB4))
  | (go_at_call 35; ((with_reducible refine (HP2.out w4 _ _ hR4).mono ?_); rintro e w5 ⟨rfl, hB5, hb5⟩; have hR5 := hrd2 w5 _ hB5; have hS5 : Blk w5 (w.heap.size + 1 + 1) 22 SZ := Blk.below (Blk.below hB3 hb4 hB3.lt) hb5 (Nat.lt_of_lt_of_le hB3.lt hb4.size); have h15 := (j1.below hb4 j1.lt).below hb5 (Nat.lt_of_lt_of_le j1.lt hb4.size); have hb5w := (jb.trans (hb4.mono jb.size)).trans (hb5.mono (Nat.le_trans jb.size hb4.size)); have hgl := Nat.lt_of_lt_of_le hB3.lt hb4.size; have hof5 : OffN (some ⟨w4.heap.size, 0, none⟩) 10 (w.heap.size + 1 + 1) := (fun _ ad hA => by injection hA with hA; subst hA; show w4.heap.size ≠ _; omega)))
  | (go_at_call 55; ((with_reducible refine (take_any (w.heap.size + 1 + 1) 4 12 12 _ SZ (some ⟨w4.heap.size, 0, none⟩) 10 10 (beb 4 s ++ beb 6 x) w5 hS5 hR5 hof5 (by omega) (by rw [HSZ.out]; omega)).mono ?_); rintro e w6 ⟨rfl, hB6, ho6⟩; have hF6 : Blk w6 (w.heap.size + 1 + 1) 22 F := HF2.out ▸ hB6; have h16 := Blk.only h15 ho6 (by omega); have hb6 := hb5w.trans (ho6.below (by omega))))
  | (with_reducible refine wpList_ld rfl 22 (.tmp 7) rfl (w.heap.size + 1 + 1) 0 rfl (cells F) (hF6.v.range 0 _ (by simp)) (row16 HFC.out) ?_)
  | ((with_reducible refine wpList_st rfl 22 (.tmp 6) (.tmp 20) rfl (w.heap.size + 1) 0 (cells F) rfl rfl 22 _ h16.v (by rw [HFC.out, HZL.out]; omega) (row16 HFC.out) (cells_one _) ?_); intro w7 hB7 ho7; rw [splice_all _ _ (by rw [HFC.out, HZL.out])] at hB7))
 exact ret_row (by rfl) (by rfl) hB7 (row16 HFC.out) (by rfl) ⟨rfl, hb6.trans (ho7.below (by omega))⟩
theorem ofInt_i64 (a : Nat) (ha : a < 9223372036854775808) : (BitVec.ofInt 64 (a : Int)).toNat = a := by
 rw [BitVec.ofInt_natCast, BitVec.toNat_ofNat]; exact Nat.mod_eq_of_lt (by omega)
theorem i64_xor_nat (a b : Nat) (ha : a < 65536) (hb : b < 65536) : bits BinOp.xor IntKind.i64 (a : Int) (b : Int) = ((a ^^^ b : Nat) : Int) := by
 have hx : a ^^^ b < 2 ^ 16 := Nat.xor_lt_two_pow (by omega) (by omega)
 show IntKind.i64.wrap ((BitVec.ofInt 64 (a : Int) ^^^ BitVec.ofInt 64 (b : Int)).toNat : Int) = _
 rw [BitVec.toNat_xor, ofInt_i64 a (by omega), ofInt_i64 b (by omega)]
 exact IntWalk.i64_in _ (by omega)
theorem i64_and_one (a : Nat) (ha : a < 65536) : bits BinOp.and IntKind.i64 (a : Int) 1 = ((a % 2 : Nat) : Int) := by
 have hx : a % 2 < 2 := Nat.mod_lt _ (by omega)
 show IntKind.i64.wrap ((BitVec.ofInt 64 (a : Int) &&& BitVec.ofInt 64 ((1 : Nat) : Int)).toNat : Int) = _
 rw [BitVec.toNat_and, ofInt_i64 a (by omega), ofInt_i64 1 (by omega), Nat.and_one_is_mod]
 exact IntWalk.i64_in _ (by omega)
theorem wrap64_small (n : Nat) (h : n < 65536) : wrap64 (n : Int) = (n : Int) := by unfold wrap64; omega
theorem pow_le7 (k : Nat) (hk : k < 8) : 2 ^ k ≤ 128 := Nat.pow_le_pow_right (n := 2) (i := k) (j := 7) (by omega) (by omega)
set_option maxHeartbeats 400000 in
theorem rtimes_nat (a b : Nat) (w : World) (ha : a < 256) (hb : b < 256) : Calls Tryz.prog 107 #[.int .u8 a, .int .u8 b] w fun e w' => e = .returned (.int .u8 (timesN a b : Nat)) ∧ w = w' := by
 unfold timesN
 obtain ⟨R, hR⟩ : ∃ R, R = rt1 8 b a 0 := ⟨_, rfl⟩
 rw [← hR]
 obtain ⟨X0, hX0⟩ : ∃ X0, X0 = rt2 7 R := ⟨_, rfl⟩
 rw [← hX0]
 have HR := Lib.hid hR
 have HX0 := Lib.hid hX0
 clear hR hX0
 go_enter Tryz.func107, Tryz.ntmps107
 go_wp2
 go_loop [5, 6] (fun vx vi => ∃ k x : Nat, k ≤ 8 ∧ x < 65536 ∧ Hid (rt1 (8 - k) (b / 2 ^ k) (a * 2 ^ k) x = R) ∧ vx = .int .i64 x ∧ vi = .int .i64 k) (fun _ i => 8 - (intOf i).toNat)
 case atStart => exact ⟨0, 0, by omega, by omega, Lib.hid (by simpa using HR.out.symm), rfl, rfl⟩
 case round =>
  obtain ⟨k, x, hk, hx, hH, rfl, rfl⟩ := hrel
  by_cases hlt : k < 8
  · have hB : b / 2 ^ k < 256 := Nat.lt_of_le_of_lt (Nat.div_le_self _ _) hb
    have hcast := u8_and_one (b / 2 ^ k) hB
    have hc2 : ((b / 2 ^ k : Nat) : Int) = (b : Int) / 2 ^ k := by simp
    rw [hc2] at hcast
    clear hc2
    have hS : a * 2 ^ k < 65536 := by
     have := pow_le7 k hlt
     have := Nat.mul_le_mul (Nat.le_of_lt_succ ha) this
     omega
    have hw : wrap64 ((a : Int) * 2 ^ k) = ((a * 2 ^ k : Nat) : Int) := by
     have : (a : Int) * 2 ^ k = ((a * 2 ^ k : Nat) : Int) := by simp
     rw [this]; exact wrap64_small _ hS
    have hnx : rt1 (8 - k) (b / 2 ^ k) (a * 2 ^ k) x = rt1 (8 - (k + 1)) (b / 2 ^ (k + 1)) (a * 2 ^ (k + 1)) (if b / 2 ^ k % 2 = 1 then x ^^^ a * 2 ^ k else x) := by
     rw [show 8 - k = (8 - (k + 1)) + 1 by omega, rt1, Nat.div_div_eq_div_mul, ← Nat.pow_succ, show 2 * (a * 2 ^ k) = a * 2 ^ (k + 1) by rw [Nat.pow_succ, Nat.mul_comm 2, Nat.mul_assoc]]
    rw [hH.out] at hnx
    have hxo := i64_xor_nat x (a * 2 ^ k) hx hS
    rw [← hw] at hxo
    have hxl : x ^^^ a * 2 ^ k < 65536 := Nat.xor_lt_two_pow (n := 16) hx hS
    have HX := Lib.hid hxo
    clear hxo hw hH hB hS
    rcases Nat.mod_two_eq_zero_or_one (b / 2 ^ k) with hm | hm
    · rw [hm] at hcast hnx
      have HN := Lib.hid hnx
      clear hnx hm hxl
      go_wp2
      go_round
      case rel => exact ⟨k + 1, x, by omega, hx, Lib.hid HN.out.symm, rfl, by go_num⟩
      case measure => simp [intOf]; omega
    · rw [hm] at hcast hnx
      have HN := Lib.hid hnx
      clear hnx hm
      go_wp2
      go_round
      case rel => exact ⟨k + 1, x ^^^ a * 2 ^ k, by omega, hxl, Lib.hid HN.out.symm, by rw [← HX.out], by go_num⟩
      case measure => simp [intOf]; omega
  · obtain rfl : k = 8 := by omega
    have hfin : x = R := hH.out
    have HX1 : Hid (rt2 7 x = X0) := Lib.hid (by rw [hfin]; exact HX0.out.symm)
    clear hfin hH HX0 HR
    go_wp2
    go_loop [5, 7] (fun vx vi => ∃ n x : Nat, n ≤ 7 ∧ x < 65536 ∧ Hid (rt2 n x = X0) ∧ vx = .int .i64 x ∧ vi = .int .i64 ((n : Int) + 7)) (fun _ i => (intOf i).toNat)
    case atStart => exact ⟨7, x, by omega, hx, HX1, rfl, rfl⟩
    case round =>
     clear hx HX1
     obtain ⟨n, x, hn, hx, hH, rfl, rfl⟩ := hrel
     rcases Nat.eq_zero_or_pos n with hz | hp
     · subst hz
       have hfin : x = X0 := hH.out
       subst hfin
       clear hH
       go_wp2
       go_ret
       exact ⟨rfl, rfl⟩
     · obtain ⟨m, rfl⟩ : ∃ m, n = m + 1 := ⟨n - 1, by omega⟩
       have hB : x / 2 ^ (m + 8) < 65536 := Nat.lt_of_le_of_lt (Nat.div_le_self _ _) hx
       have han := i64_and_one (x / 2 ^ (m + 8)) hB
       have hc2 : ((x / 2 ^ (m + 8) : Nat) : Int) = (x : Int) / 2 ^ (m + 1 + 7) := by simp
       rw [hc2] at han
       have hS : 283 * 2 ^ m < 65536 := by
        have := pow_le7 m (by omega)
        omega
       have hw : wrap64 (283 * 2 ^ m) = ((283 * 2 ^ m : Nat) : Int) := by
        have : (283 : Int) * 2 ^ m = ((283 * 2 ^ m : Nat) : Int) := by simp
        rw [this]; exact wrap64_small _ hS
       have hxo := i64_xor_nat x (283 * 2 ^ m) hx hS
       rw [← hw] at hxo
       have hxl : x ^^^ 283 * 2 ^ m < 65536 := Nat.xor_lt_two_pow (n := 16) hx hS
       have HX := Lib.hid hxo
       have hnx : rt2 m (if x / 2 ^ (m + 8) % 2 = 1 then x ^^^ 283 * 2 ^ m else x) = X0 := hH.out
       clear hxo hw hH hB hS hc2
       rcases Nat.mod_two_eq_zero_or_one (x / 2 ^ (m + 8)) with hm | hm
       · rw [hm] at han hnx
         have HN := Lib.hid hnx
         clear hnx hm hxl
         go_wp2
         go_round
         case rel => exact ⟨m, x, by omega, hx, HN, rfl, by go_num⟩
         case measure => simp [intOf]; omega
       · rw [hm] at han hnx
         have HN := Lib.hid hnx
         clear hnx hm
         go_wp2
         go_round
         case rel => exact ⟨m, x ^^^ 283 * 2 ^ m, by omega, hxl, HN, by rw [← HX.out], by go_num⟩
         case measure => simp [intOf]; omega

theorem rtimes_any (x y : UInt8) (xi yi : Int) (w : World) (hx : xi = (x.toNat : Int)) (hy : yi = (y.toNat : Int)) : Calls Tryz.prog 107 #[.int .u8 xi, .int .u8 yi] w fun e w' => e = .returned (.int .u8 (timesN x.toNat y.toNat : Nat)) ∧ w = w' := by
 subst hx; subst hy
 exact rtimes_nat _ _ w x.toNat_lt y.toNat_lt

theorem pow_lt8 (k : Nat) (hk : k ≤ 8) : 2 ^ k ≤ 256 := Nat.pow_le_pow_right (n := 2) (i := k) (j := 8) (by omega) (by omega)
set_option maxHeartbeats 400000 in
theorem rmix_nat (v : Nat) (w : World) (hv : v < 256) : Calls Tryz.prog 130 #[.int .u8 v] w fun e w' => e = .returned (.int .u8 (mixN v : Nat)) ∧ w = w' := by
 rw [← mix_same v hv]
 go_enter Tryz.func130, Tryz.ntmps130
 go_wp2
 go_loop [3, 4] (fun vo vi => ∃ i : Nat, i ≤ 8 ∧ vo = .int .u8 ((os v i : Nat) : Int) ∧ vi = .int .i64 i) (fun _ i => 8 - (intOf i).toNat)
 case atStart => exact ⟨0, by omega, rfl, rfl⟩
 case round =>
  obtain ⟨i, hi, rfl, rfl⟩ := hrel
  by_cases hlt : i < 8
  · have ho := os_lt v i
    have hp := pow_lt8 i hi
    obtain ⟨O, hO⟩ : ∃ O, O = os v i := ⟨_, rfl⟩
    have hO8 : O < 256 := by omega
    have hnext : os v (i + 1) = O + ns v i 4 % 2 * 2 ^ i := by rw [os, hO]
    have h99 : 99 / 2 ^ i < 256 := Nat.lt_of_le_of_lt (Nat.div_le_self _ _) (by omega)
    have hvi : v / 2 ^ i < 256 := Nat.lt_of_le_of_lt (Nat.div_le_self _ _) hv
    have ha := u8_and_one _ h99
    have hb := u8_and_one _ hvi
    have hc1 : ((99 / 2 ^ i : Nat) : Int) = 99 / 2 ^ i := by simp
    have hc2 : ((v / 2 ^ i : Nat) : Int) = (v : Int) / 2 ^ i := by simp
    rw [hc1] at ha
    rw [hc2] at hb
    rw [← hO]
    clear hO hc1 hc2
    go_wp2
    go_loop [5, 6] (fun vn vk => ∃ j : Nat, j ≤ 4 ∧ vn = .int .u8 ((ns v i j : Nat) : Int) ∧ vk = .int .i64 ((j : Int) + 4)) (fun _ k => 8 - (intOf k).toNat)
    case atStart => exact ⟨0, by omega, by simp [ns], rfl⟩
    case round =>
     obtain ⟨j, hj, rfl, rfl⟩ := hrel
     have hN := ns_le v i j
     by_cases hlt2 : j < 4
     · have hnn : ns v i (j + 1) = ns v i j + v / 2 ^ ((i + (j + 4)) % 8) % 2 := by rw [ns]
       obtain ⟨N, hNe⟩ : ∃ N, N = ns v i j := ⟨_, rfl⟩
       rw [← hNe] at hN hnn ⊢
       clear hNe
       obtain ⟨M, hM⟩ : ∃ M, M = (i + (j + 4)) % 8 := ⟨_, rfl⟩
       rw [← hM] at hnn
       have hM8 : M < 8 := by omega
       have hvm : v / 2 ^ M < 256 := Nat.lt_of_le_of_lt (Nat.div_le_self _ _) hv
       have hc := u8_and_one _ hvm
       have hc1 : ((v / 2 ^ M : Nat) : Int) = (v : Int) / 2 ^ M := by simp
       rw [hc1] at hc
       have hmod : ((i : Int) + ((j : Int) + 4)) % 8 = (M : Int) := by omega
       clear hM hc1
       have HNN := Lib.hid hnn
       clear hnn
       go_wp2
       go_round
       case rel => exact ⟨j + 1, by omega, by rw [HNN.out]; simp, by go_num⟩
       case measure => simp [intOf]; omega
     · obtain rfl : j = 4 := by omega
       have hO2 := os_lt v (i + 1)
       have hp2 := pow_lt8 (i + 1) (by omega)
       obtain ⟨N, hNe⟩ : ∃ N, N = ns v i 4 := ⟨_, rfl⟩
       rw [← hNe] at hN hnext ⊢
       clear hNe
       obtain ⟨E, hE⟩ : ∃ E, E = N % 2 * 2 ^ i := ⟨_, rfl⟩
       have hEc : (N : Int) % 2 * 2 ^ i = (E : Int) := by rw [hE]; simp
       rw [← hE] at hnext
       rw [hnext] at hO2
       have hE8 : E < 256 := by omega
       have hOE : O + E < 256 := by omega
       clear hE
       have HN := Lib.hid hnext
       clear hnext
       go_wp2
       go_round
       case rel => exact ⟨i + 1, by omega, by rw [HN.out]; simp, by go_num⟩
       case measure => simp [intOf]; omega
  · obtain rfl : i = 8 := by omega
    go_wp2
    go_ret
    exact ⟨rfl, rfl⟩
theorem rmix_any (x : UInt8) (xi : Int) (w : World) (hx : xi = (x.toNat : Int)) : Calls Tryz.prog 130 #[.int .u8 xi] w fun e w' => e = .returned (.int .u8 ((mx x).toNat : Int)) ∧ w = w' := by
 subst hx
 rw [mx_nat]
 exact rmix_nat x.toNat w x.toNat_lt

theorem rd_one8 (w : World) (b : UInt8) (i : Int) (h : i = (b.toNat : Int)) (e : TypeId) : RdS (w.alloc (.cells #[.int .u8 i] e)) (some ⟨w.heap.size, 0, none⟩) 1 1 [b] := by
 subst h
 exact (Blk.new w e [b]).rd rfl (Nat.le_refl _) (by simp [maxLen])
def lenB : Value → Nat
 | .slice _ n _ => n
 | _ => 0
theorem pow_take (k : Nat) (hk : k < 255) : powT.take (k + 1) = powT.take k ++ [pw k] := by
 rw [List.take_succ_eq_append_getElem (by rw [powT_len]; exact hk)]
 have : powT[k]'(by rw [powT_len]; exact hk) = pw k := by
  unfold pw
  rw [List.getD_eq_getElem?_getD, List.getElem?_eq_getElem (by rw [powT_len]; exact hk)]; rfl
 rw [this]
theorem pow_cell (k m : Nat) (hm : m < k) (hk : k ≤ 255) : (cells (powT.take k))[m]? = some (.int .u8 ((pw m).toNat : Int)) := by
 rw [cells_at (by rw [List.length_take, powT_len]; omega)]
 unfold pw
 simp only [List.getD_eq_getElem?_getD, List.getElem?_take]
 rw [if_pos hm]

set_option maxRecDepth 100000 in
set_option maxHeartbeats 1000000 in
theorem boxes_any (w : World) : Calls Tryz.prog 106 #[] w fun e w' => ∃ g : Nat, e = .returned (.slice (some ⟨g, 0, none⟩) 256 256) ∧ w.heap.size ≤ g ∧ Blk w' g 5 boxT ∧ Below w.heap.size w w' := by
 have hb0 : Below w.heap.size w (w.alloc (.cells #[.int .u8 1] 5)) := (Below.refl _ _).alloc (Nat.le_refl _) _
 have ht1 : powT.take 1 = [1] := rfl
 have h0 : (w.alloc (.cells #[.int .u8 1] 5)).ownsRow w.heap.size 5 1 (.slice (some ⟨w.heap.size, 0, none⟩) 1 1) 1 (cells (powT.take 1)) := by
  rw [ht1]
  exact (Blk.new w 5 [1]).owns rfl (by simp [maxLen]) (Nat.le_refl _)
 have hmk : ∀ wx : World, (Instr.makeSlice 32 (.int .i64 256) (.int .i64 256)).run Tryz.prog wx = .ok (.slice (some ⟨wx.heap.size, 0, none⟩) 256 256) (wx.alloc (.cells (cells Z256).toArray 5)) := fun wx => run_makeB (P := Tryz.prog) Tryz.underlying32 u8_inf .i64 .i64 256 256 256 rfl rfl (by omega) wx
 clear ht1
 go_enter Tryz.func106, Tryz.ntmps106
 go_wp2
 go_loopw [1] (fun v wr => ∃ (k : Nat) (A : Option Addr) (c : Nat), 1 ≤ k ∧ k ≤ 255 ∧ v = .slice A k c ∧ wr.ownsRow w.heap.size 5 1 (.slice A k c) k (cells (powT.take k)) ∧ Below w.heap.size w wr) (fun v _ => 255 - lenB v)
 case atStart => exact ⟨1, _, _, by omega, by omega, rfl, h0, hb0⟩
 case round =>
  clear h0 hb0
  obtain ⟨k, A, c, h1, hk, rfl, ho, hb⟩ := hrel
  obtain ⟨g, cap, hv, hbg, hgl⟩ := ho.form (by omega)
  injection hv with hv1 _ hv3
  subst hv1; subst hv3
  by_cases hlt : k < 255
  · obtain ⟨m, rfl⟩ : ∃ m, k = m + 1 := ⟨k - 1, by omega⟩
    have hcell := ho.cellAt m (by omega)
    rw [pow_cell (m + 1) m (by omega) hk] at hcell
    have hcall := fun wx => rtimes_any (pw m) 3 ((pw m).toNat : Int) 3 wx rfl rfl
    have hp3 : timesN (pw m).toNat (3 : UInt8).toNat = (pw (m + 1)).toNat := by
     have := times_three' (pw m)
     rw [pw_succ m (by omega)]
     exact this
    simp only [hp3] at hcall
    have HPT := Lib.hid (pow_take (m + 1) hlt)
    obtain ⟨a, ha⟩ : ∃ a : Int, a = ((pw m).toNat : Int) := ⟨_, rfl⟩
    rw [← ha] at hcell
    simp only [← ha] at hcall
    obtain ⟨P, hP⟩ : ∃ P, P = pw (m + 1) := ⟨_, rfl⟩
    rw [← hP] at hcall HPT
    obtain ⟨z, hz, hz1, hz2⟩ := u8_ex P
    simp only [← hz] at hcall
    have HZ := Lib.hid hz
    have HC := Lib.hid hcall
    have hmi : (m : Int) + 1 < 255 := by omega
    have hw3 := hb.size
    clear hcall hp3 ha hP hz h1
    go_wp2_with (first
     | (go_at_call 107; ((with_reducible refine (Hid.out HC _).mono ?_); rintro e w' ⟨rfl, rfl⟩))
     | (at_builtin; refine wpList_append_rd _ rfl (.tmp 8) (.tmp 16) rfl Tryz.underlying32 u8_inf w.heap.size (.slice (some ⟨g, 0, none⟩) (m + 1) c) (m + 1) (powT.take (m + 1)) rfl (ho.alloc _) (some ⟨wr.heap.size, 0, none⟩) 1 1 [P] rfl (rd_one8 wr P z HZ.out _) (by omega) (by simp; omega) ?_; intro v2 w2 hown2 hg2 hat2))
    obtain ⟨A3, c3, hv2⟩ := own_form hown2
    have hltb := ho.lt
    have hb2 := (hb.alloc hb.size (.cells #[.int .u8 z] 5)).grown hg2 (Nat.le_trans hb.size (by simp)) (fun q hq => by have := (hltb q hq).1; omega)
    subst hv2
    rw [← HPT.out] at hown2
    go_roundw
    case rel => exact ⟨m + 1 + 1, A3, c3, by omega, by omega, rfl, hown2, hb2⟩
    case measure => simp [lenB]; omega
  · obtain rfl : k = 255 := by omega
    rw [List.take_of_length_le (by rw [powT_len]; omega)] at ho
    obtain ⟨wq, hwq⟩ : ∃ x : World, x = wr := ⟨_, rfl⟩
    subst hwq
    have hrp : ∀ wx, Below wq.heap.size wq wx → ∀ j, j < 255 → wx.cell? ⟨g, j, none⟩ = some (.int .u8 ((pw j).toNat : Int)) := by
     intro wx hbx j hj
     rw [hbx.cell (p := ⟨g, j, none⟩) hgl, ho.cellAt j (by omega)]
     exact cells_at (by rw [powT_len]; exact hj)
    have hlw := hb.size
    have hmx := fun wx => rmix_any 0 0 wx rfl
    have HM := Lib.hid hmx
    have hset : (cells Z256).set 0 (.int .u8 ((mx 0).toNat : Int)) = cells (boxAt 0) := cells_set Z256 0 (mx 0)
    have HS := Lib.hid hset
    have h2 : Blk (wq.alloc (.cells (cells (boxAt 0)).toArray 5)) wq.heap.size 5 (boxAt 0) := Blk.new _ _ _
    have h2b : Below wq.heap.size wq (wq.alloc (.cells (cells (boxAt 0)).toArray 5)) := (Below.refl _ _).alloc (Nat.le_refl _) _
    have HRP := Lib.hid hrp
    clear hmx hset hrp ho
    go_wp2_with (first
     | (go_at_call 130; ((with_reducible refine (Hid.out HM _).mono ?_); rintro e w' ⟨rfl, rfl⟩)))
    rw [HS.out]
    clear HS HM hmk
    generalize wq.alloc (.cells (cells (boxAt 0)).toArray 5) = w2 at *
    have hw2s : wq.heap.size < w2.heap.size := h2.lt
    go_loopw [3] (fun vi wx => ∃ j : Nat, j ≤ 255 ∧ vi = .int .i64 j ∧ Blk wx wq.heap.size 5 (boxAt j) ∧ Below wq.heap.size wq wx) (fun i _ => 255 - (intOf i).toNat)
    case atStart => exact ⟨0, by omega, rfl, h2, h2b⟩
    case round =>
     clear h2 h2b
     obtain ⟨j, hj, rfl, h2, h2b⟩ := hrel
     by_cases hlt : j < 255
     · obtain ⟨M, hM⟩ : ∃ M, M = (255 - j) % 255 := ⟨_, rfl⟩
       have hcj := HRP.out wr h2b j hlt
       have hcM := HRP.out wr h2b M (by omega)
       have hmx := fun wx => rmix_any (pw M) ((pw M).toNat : Int) wx rfl
       have hnx : boxAt (j + 1) = (boxAt j).set (pw j).toNat (mx (pw M)) := by rw [boxAt, hM]
       have hpl := (pw j).toNat_lt
       have hcell := h2.cell (j := (pw j).toNat) (by rw [boxAt_len]; exact hpl)
       have hfr := h2.frozen (pw j).toNat
       have s2 := h2.set_ (pw j).toNat (mx (pw M))
       rw [← hnx] at s2
       have sb := h2b.setCell (p := ⟨wq.heap.size, (pw j).toNat, none⟩) (by simp) (.int .u8 ((mx (pw M)).toNat : Int))
       obtain ⟨y, hy⟩ : ∃ y : Int, y = (((boxAt j).getD (pw j).toNat 0).toNat : Int) := ⟨_, rfl⟩
       rw [← hy] at hcell
       obtain ⟨p, hp⟩ : ∃ p, p = (pw j).toNat := ⟨_, rfl⟩
       obtain ⟨q, hq⟩ : ∃ q : Int, q = ((pw M).toNat : Int) := ⟨_, rfl⟩
       obtain ⟨v, hv⟩ : ∃ q : Int, q = ((mx (pw M)).toNat : Int) := ⟨_, rfl⟩
       simp only [← hq, ← hv] at hmx
       rw [← hp] at hcell hfr s2 sb hpl hcj
       rw [← hq] at hcM
       rw [← hv] at s2 sb
       have HMX := Lib.hid hmx
       have e1 : IntKind.i64.wrap (255 - (j : Int)) = 255 - (j : Int) := IntWalk.i64_in _ (by omega)
       have e2 : (255 - (j : Int)).tmod 255 = (M : Int) := by
        rw [Int.tmod_eq_emod_of_nonneg (by omega)]; omega
       have e3 : IntKind.i64.wrap (M : Int) = (M : Int) := IntWalk.i64_in _ (by omega)
       have f1 : (j : Int) < 255 := by omega
       have f2 : (M : Int) < 255 := by omega
       have f3 : (p : Int) < 256 := by omega
       have f4 : M < 255 := by omega
       have f5 : p < 256 := by omega
       clear hmx hnx hy hp hM hq hv
       go_wp2
       go_still_tail 13, (by kernel_rfl)
       still_call ((Hid.out HMX _).mono fun _ _ ⟨h, h2⟩ => ⟨h, h2.symm⟩)
       repeat still_step
       refine wpStill_nil ?_
       change wpList _ _ _ _ _ wr.drew
       clear e1 e2 e3 f1 f2 f3 hcM hcj
       go_wp2
       go_roundw
       case rel => exact ⟨j + 1, by omega, by go_num, s2, sb.drew⟩
       case measure => simp [intOf]; omega
     · obtain rfl : j = 255 := by omega
       rw [boxAt_all] at h2
       have hfin := hb.trans (h2b.mono hb.size)
       go_wp2
       go_ret
       exact ⟨wq.heap.size, rfl, hlw, h2, hfin⟩
end Go.Proofs.YtheefckohnaceaaGreatDoor
