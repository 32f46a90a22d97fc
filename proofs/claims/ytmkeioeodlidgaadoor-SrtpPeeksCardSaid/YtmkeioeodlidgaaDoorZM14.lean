/- Several texts in one: Contracts of package stream: the stream's bytes, bytes ciphered. Contracts of package stream: bytes ciphered, a way's first counter. Contracts of the document's answer of layer 5: products, mixed bits, the box of a byte. Contracts of the document's answer of layer 5: the boxes of all bytes. Contracts of the document's answer of layer 5: a block ciphered. No statement is proved here. -/
import Derived.Test.YtmkeioeodlidgaaDoorZM13
import Derived.Test.YtmkeioeodlidgaaDoorZOct
import Derived.Test.YtmkeioeodlidgaaDoorZM10
import Derived.Laws.BitsAllLaws
import Derived.Test.YtmkeioeodlidgaaDoorZM1
import Derived.BigQuiet
namespace Go.Proofs.YtmkeioeodlidgaaDoor
open Go.RowKit
set_option linter.unusedVariables false

set_option maxHeartbeats 1000000 in
theorem bytes_none (key c : List UInt8) (n : Int) (w : World) (hn : n < 1) :
    Calls Tryd.prog 51 #[.agg (cells key).toArray, .agg (cells c).toArray, .int .i64 n] w fun e w' => e = .returned (.slice none 0 0) ∧ Below w.heap.size w w' := by
  have hb0 : Below w.heap.size w ((w.alloc (Obj.cells (cells key).toArray 34)).alloc (Obj.cells (cells c).toArray 34)) := ((Below.refl _ _).alloc (Nat.le_refl _) _).alloc (by simp) _
  go_enter Tryd.func51, Tryd.ntmps51
  go_wp2
  go_ret
  exact ⟨rfl, hb0⟩

set_option maxRecDepth 100000 in
set_option maxHeartbeats 2000000 in
theorem bytes_any (key c : List UInt8) (n : Nat) (w : World) (hk : key.length = 16) (hc : c.length = 16) (h1 : 1 ≤ n) (hn : n ≤ 4096) :
    Calls Tryd.prog 51 #[.agg (cells key).toArray, .agg (cells c).toArray, .int .i64 (n : Int)] w fun e w' => ∃ g : Nat, e = .returned (.slice (some ⟨g, 0, none⟩) n n) ∧ w.heap.size ≤ g ∧ Blk w' g 5 (strm key c n) ∧ Below w.heap.size w w' := by
  have hz := zero16
  have hb0 : Below w.heap.size w ((w.alloc (Obj.cells (cells key).toArray 34)).alloc (Obj.cells (cells c).toArray 34)) := ((Below.refl _ _).alloc (Nat.le_refl _) _).alloc (by simp) _
  have h0 : Blk ((w.alloc (Obj.cells (cells key).toArray 34)).alloc (Obj.cells (cells c).toArray 34)) w.heap.size 34 key := (Blk.new _ _ _).alloc _
  have h01 : Blk ((w.alloc (Obj.cells (cells key).toArray 34)).alloc (Obj.cells (cells c).toArray 34)) (w.heap.size + 1) 34 c := Blk.new_at _ _ _ _ _ (by simp) rfl
  have hmk := run_makeB (P := Tryd.prog) Tryd.underlying22 u8_inf .i64 .i64 (n : Int) (n : Int) n rfl rfl (by omega)
  have HKL : Hid ((cells key).length = 16) := Lib.hid (by rw [length_cells, hk])
  have HCL : Hid ((cells c).length = 16) := Lib.hid (by rw [length_cells, hc])
  have hbl := fun wx => blocks_any key c wx hk hc
  have HBL := Lib.hid hbl
  have HK := Lib.hid hk
  clear hk hc hbl
  have hb1 := hb0.alloc hb0.size (.cells (cells (List.replicate n 0)).toArray 5)
  have k0 := h0.alloc (.cells (cells (List.replicate n 0)).toArray 5)
  have k01 := h01.alloc (.cells (cells (List.replicate n 0)).toArray 5)
  have kr : Blk (((w.alloc (Obj.cells (cells key).toArray 34)).alloc (Obj.cells (cells c).toArray 34)).alloc (.cells (cells (List.replicate n 0)).toArray 5)) (w.heap.size + 1 + 1) 5 (strR key c n 0) := by
    rw [strR, fillAt_zero]; exact Blk.new_at _ _ _ _ _ (by simp) rfl
  clear hb0 h0 h01
  go_enter Tryd.func51, Tryd.ntmps51
  go_wp2_with (first
    | (with_reducible refine wpList_ld rfl 34 (.tmp 3) rfl w.heap.size 0 rfl (cells key) (k0.v.range 0 _ (by simp)) (row16 HKL.out) ?_)
    | (with_reducible refine wpList_ld rfl 34 (.tmp 4) rfl (w.heap.size + 1) 0 rfl (cells c) (k01.v.range 0 _ (by simp)) (row16 HCL.out) ?_)
    | (go_at_call 64; ((with_reducible refine (HBL.out _).mono ?_); rintro e w2 ⟨q, r, p, rfl, hE2, hb2⟩)))
  obtain ⟨G, hG⟩ : ∃ G, G = w.heap.size + 1 + 1 := ⟨_, rfl⟩
  rw [← hG] at kr ⊢
  have hwG : w.heap.size + 1 < G := by omega
  clear hG
  have hGl := kr.lt
  have hr2 := kr.below hb2 kr.lt
  have hb2w := hb1.trans (hb2.mono hb1.size)
  obtain ⟨B, hB⟩ : ∃ B, B = (((w.alloc (Obj.cells (cells key).toArray 34)).alloc (Obj.cells (cells c).toArray 34)).alloc (.cells (cells (List.replicate n 0)).toArray 5)).heap.size := ⟨_, rfl⟩
  rw [← hB] at hE2 hGl
  have hM0 : 0 = min 0 n := by omega
  clear hB hb2 hb1 k0 k01 kr hmk HBL
  go_loopw [9] (fun va wr => ∃ k K M : Nat, Hid (K = 16 * k) ∧ K ≤ n + 15 ∧ M = min K n ∧ va = .int .i64 (K : Int) ∧ SEnv B key c k q r p wr ∧ Blk wr G 5 (strR key c n M) ∧ Below w.heap.size w wr) (fun a _ => n + 15 - (intOf a).toNat)
  case atStart => exact ⟨0, 0, 0, Lib.hid rfl, by omega, hM0, rfl, hE2, hr2, hb2w⟩
  case round =>
    clear hE2 hr2 hb2w hM0
    obtain ⟨k, K, M, HKk, hk, hM, rfl, hE, hr, hb⟩ := hrel
    by_cases hlt : K < n
    · have hMk : M = K := by omega
      rw [hMk] at hr
      clear hM hMk
      have hK := HKk.out
      have hstp := fun m hm => strR_step key c n k m hm
      have htl := tell_any B key c k q r p wr HK.out hE
      obtain ⟨X, hX⟩ : ∃ X, X = enc (kall key) (plusC c k) := ⟨_, rfl⟩
      have hXl : X.length = 16 := by rw [hX]; exact enc_len _ _
      rw [← hX] at htl
      simp only [← hX] at hstp
      have hXL : (cells X).length = 16 := by rw [length_cells, hXl]
      have hZL : (cells Z16).length = 16 := by rw [length_cells, Z16_len]
      have HXL := Lib.hid hXL
      have HZL := Lib.hid hZL
      have HXl := Lib.hid hXl
      have hEl := hE.lr
      have hEq := hE.lq
      have hEp := hE.lp
      simp only [← hK] at hstp
      clear hK
      have hKl : (strR key c n K).length = n := strR_len _ _ _ _ (by omega)
      have HKl := Lib.hid hKl
      have hnK : (n = K) = False := by simp; omega
      have hki : (K : Int) < (n : Int) := by omega
      have hkle : (K : Int) ≤ (n : Int) := by omega
      have HT := Lib.hid htl
      have HSP := Lib.hid hstp
      have hsb := hb.size
      have hGB : G < wr.heap.size := hr.lt
      clear hX hXl hXL hZL hKl htl hstp hE
      go_wp2_with (first
        | (go_at_call 71; ((with_reducible refine HT.out.mono ?_); rintro e w3 ⟨rfl, hE3, hg3⟩; have hr3 := (hr.grown hg3 (by intro hh; injection hh with hh; omega)).alloc (.cells (cells Z16).toArray 34); have hE3a := hE3.alloc (.cells (cells Z16).toArray 34); have hsz3 := hg3.size; have hb3 := (hb.grown hg3 hsb (fun i hi => by injection hi with hi; omega)).alloc (by omega) (.cells (cells Z16).toArray 34); have hx3 := BlkV.new w3 34 (cells Z16)))
        | ((with_reducible refine wpList_st rfl 34 (.tmp 10) (.tmp 26) rfl w3.heap.size 0 (cells X) rfl rfl 34 _ hx3 (by rw [HXL.out, HZL.out]; omega) (row16 HXL.out) (cells_one _) ?_); intro w4 hB4 ho4; rw [splice_all _ _ (by rw [HXL.out, HZL.out])] at hB4))
      have hE4 := hE3a.only ho4 (by have := hE3.hq.lt; omega) (by have := hE3.hr.lt; omega) (by have := hE3.hp.lt; omega)
      have hr4 := Blk.only hr3 ho4 (by omega)
      have hb4 := hb3.trans (ho4.below (by omega))
      have hXlt : G < w3.heap.size := by omega
      clear hE3a hr3 hb3 hx3 ho4 hE3 hg3
      go_still_tail 4, (by kernel_rfl)
      change wpList _ _ _ _ _ w4.drew
      have hE5 := hE4.drew
      have hr5 := hr4.drew
      have hb5 := hb4.drew
      have hX5 : Blk w4.drew w3.heap.size 34 X := BlkV.drew hB4
      generalize w4.drew = w5 at *
      clear hE4 hr4 hb4 hB4
      obtain ⟨m, hm⟩ : ∃ m, m = min 16 (n - K) := ⟨_, rfl⟩
      have hsp := HSP.out m hm
      have hmp : 0 < m := by omega
      have hKm : K + m = min (K + 16) n := by omega
      have hXr := hX5.rd HXl.out (Nat.le_refl 16) (by simp [maxLen])
      have HM := Lib.hid hm
      have HSM := Lib.hid hsp
      have HKM := Lib.hid hKm
      have hnl : K + (n - K) ≤ (cells (strR key c n K)).length := by rw [length_cells, HKl.out]; omega
      have HNL := Lib.hid hnl
      clear hm hsp hKm hnl
      go_wp2_with (first
        | ((with_reducible refine wpList_cp rfl (.tmp 29) (.tmp 30) rfl Tryd.underlying22 u8_inf G K (n - K) (n - K) 5 (cells (strR key c n K)) rfl hr5.v (some ⟨w3.heap.size, 0, none⟩) 16 16 X rfl hXr HNL.out m HM.out hmp ?_); intro w6 hB6 ho6; rw [HSM.out] at hB6))
      have hE6 := hE5.onlyLow ho6 hGl
      have hb6 := hb5.trans (ho6.below (by omega))
      have hr6 : Blk w6 G 5 (strR key c n (K + m)) := hB6
      go_roundw
      case rel => exact ⟨k + 1, K + 16, K + m, Lib.hid (by have := HKk.out; omega), by omega, HKM.out, by go_num, hE6, hr6, hb6⟩
      case measure => simp [intOf]; omega
    · have hMn : M = n := by omega
      rw [hMn, strR_all] at hr
      go_wp2
      go_ret
      exact ⟨G, rfl, by omega, hr, hb⟩
end Go.Proofs.YtmkeioeodlidgaaDoor

namespace Go.Proofs.YtmkeioeodlidgaaDoor
open Go.RowKit
set_option linter.unusedVariables false

theorem boxes2 (w : World) (key c : List UInt8) : Below w.heap.size w ((w.alloc (Obj.cells (cells key).toArray 34)).alloc (Obj.cells (cells c).toArray 34)) ∧
    Blk ((w.alloc (Obj.cells (cells key).toArray 34)).alloc (Obj.cells (cells c).toArray 34)) w.heap.size 34 key ∧
    Blk ((w.alloc (Obj.cells (cells key).toArray 34)).alloc (Obj.cells (cells c).toArray 34)) (w.heap.size + 1) 34 c :=
  ⟨((Below.refl _ _).alloc (Nat.le_refl _) _).alloc (by simp) _, (Blk.new _ _ _).alloc _, Blk.new_at _ _ _ _ _ (by simp) rfl⟩

set_option maxRecDepth 100000 in
set_option maxHeartbeats 1000000 in
theorem cipher_big (key c : List UInt8) (A : Option Addr) (n cap : Nat) (w : World) (hn : 4096 < n) (hs : n ≤ 9223372036854775807) :
    Calls Tryd.prog 35 #[.agg (cells key).toArray, .agg (cells c).toArray, .slice A n cap] w fun e w' => e = .returned (.slice none 0 0) ∧ Below w.heap.size w w' := by
  obtain ⟨hb0, _, _⟩ := boxes2 w key c
  have hd : decide ((4096 : Int) < (n : Int)) = true := by simp; omega
  go_enter Tryd.func35, Tryd.ntmps35
  go_wp2
  go_ret
  exact ⟨rfl, hb0⟩

set_option maxRecDepth 100000 in
set_option maxHeartbeats 1000000 in
theorem cipher_any (key c : List UInt8) (A : Option Addr) (n cap : Nat) (bs : List UInt8) (w : World) (hk : key.length = 16) (hc : c.length = 16) (hr : RdS w A n cap bs) (hn : n ≤ 4096) :
    Calls Tryd.prog 35 #[.agg (cells key).toArray, .agg (cells c).toArray, .slice A n cap] w fun e w' => ∃ v, e = .returned v ∧ w'.ownsRow w.heap.size 5 1 v n (cells (cph key c bs)) ∧ Below w.heap.size w w' := by
  obtain ⟨hb0, h0, h1⟩ := boxes2 w key c
  have hl := hr.len
  have HKL : Hid ((cells key).length = 16) := Lib.hid (by rw [length_cells, hk])
  have HCL : Hid ((cells c).length = 16) := Lib.hid (by rw [length_cells, hc])
  have hd : decide ((4096 : Int) < (n : Int)) = false := by simp; omega
  have hr1 := hr.below hb0
  rcases Nat.eq_zero_or_pos n with hz | hz
  · subst hz
    have hbs : bs = [] := List.eq_nil_of_length_eq_zero hl
    subst hbs
    have hby := fun wx => bytes_none key c 0 wx (by omega)
    have HB := Lib.hid hby
    clear hk hc hby
    go_enter Tryd.func35, Tryd.ntmps35
    go_wp2_with (first
      | (with_reducible refine wpList_ld rfl 34 (.tmp 3) rfl w.heap.size 0 rfl (cells key) (h0.v.range 0 _ (by simp)) (row16 HKL.out) ?_)
      | (with_reducible refine wpList_ld rfl 34 (.tmp 4) rfl (w.heap.size + 1) 0 rfl (cells c) (h1.v.range 0 _ (by simp)) (row16 HCL.out) ?_)
      | (go_at_call 51; ((with_reducible refine (HB.out _).mono ?_); rintro e w2 ⟨rfl, hb2⟩))
      | (go_at_call 49; ((with_reducible refine (take_noneS _ _ _ _).mono ?_); rintro e w3 ⟨rfl, rfl⟩)))
    go_ret
    exact ⟨_, rfl, World.ownsRow_nil _ _ _ _, hb0.trans (hb2.mono hb0.size)⟩
  · have hfl := cph_fill key c bs
    rw [hl] at hfl
    have hby := fun wx => bytes_any key c n wx hk hc (by omega) hn
    have HB := Lib.hid hby
    have HF := Lib.hid hfl
    have HS := Lib.hid (strm_len key c n)
    obtain ⟨S, hS⟩ : ∃ S, S = strm key c n := ⟨_, rfl⟩
    rw [← hS] at HB HF HS
    have hsz := hb0.size
    have HL := Lib.hid hl
    clear hk hc hby hfl hS hl
    go_enter Tryd.func35, Tryd.ntmps35
    go_wp2_with (first
      | (with_reducible refine wpList_ld rfl 34 (.tmp 3) rfl w.heap.size 0 rfl (cells key) (h0.v.range 0 _ (by simp)) (row16 HKL.out) ?_)
      | (with_reducible refine wpList_ld rfl 34 (.tmp 4) rfl (w.heap.size + 1) 0 rfl (cells c) (h1.v.range 0 _ (by simp)) (row16 HCL.out) ?_)
      | (go_at_call 51; ((with_reducible refine (HB.out _).mono ?_); rintro e w2 ⟨g, rfl, hg, hB2, hb2⟩; have hr2 := hr1.below hb2; have hof := hr1.off_lt hg))
      | (go_at_call 49; ((with_reducible refine (take_any g 0 n n _ S A n cap bs w2 hB2 hr2 hof (Nat.le_refl _) (by rw [HS.out]; omega)).mono ?_); rintro e w3 ⟨rfl, hB3, ho3⟩)))
    go_ret
    rw [HF.out] at hB3
    exact ⟨_, rfl, hB3.owns (by rw [cph_len, HL.out]) (by simp only [maxLen]; omega) (by omega), (hb0.trans (hb2.mono hb0.size)).trans (ho3.below (by omega))⟩

/-- Fourteen zeros, and their type. -/
theorem row14_ : RowTy Tryd.prog 35 14 := ⟨_, Tryd.underlying35, rfl, by kernel_rfl⟩
theorem row14 {n : Nat} (h : n = 14) : RowTy Tryd.prog 35 n := h ▸ row14_
theorem first_boxes (w : World) (salt : List UInt8) : Below w.heap.size w (((w.alloc (Obj.cells (cells salt).toArray 35)).alloc (Obj.cells (cells Z16).toArray 34)).alloc (Obj.cells (cells Z16).toArray 34)) ∧
    Blk (((w.alloc (Obj.cells (cells salt).toArray 35)).alloc (Obj.cells (cells Z16).toArray 34)).alloc (Obj.cells (cells Z16).toArray 34)) w.heap.size 35 salt ∧
    Blk (((w.alloc (Obj.cells (cells salt).toArray 35)).alloc (Obj.cells (cells Z16).toArray 34)).alloc (Obj.cells (cells Z16).toArray 34)) (w.heap.size + 1) 34 Z16 ∧
    Blk (((w.alloc (Obj.cells (cells salt).toArray 35)).alloc (Obj.cells (cells Z16).toArray 34)).alloc (Obj.cells (cells Z16).toArray 34)) (w.heap.size + 1 + 1) 34 Z16 :=
  ⟨(((Below.refl _ _).alloc (Nat.le_refl _) _).alloc (by simp) _).alloc (by simp; omega) _, ((Blk.new _ _ _).alloc _).alloc _, (Blk.new_at _ _ _ _ _ (by simp) rfl).alloc _, Blk.new_at _ _ _ _ _ (by simp) rfl⟩
theorem salt_splice (salt : List UInt8) (h : salt.length = 14) : splice (cells Z16) 0 (cells (salt.take 14)) = cells (saltZ salt) := by
  rw [List.take_of_length_le (by omega), splice, saltZ, cells_append]
  simp [cells, h, Z16]

set_option maxRecDepth 100000 in
set_option maxHeartbeats 1000000 in
theorem first_any (salt : List UInt8) (s x : Nat) (w : World) (hs : salt.length = 14) (hsl : s < 4294967296) (hx : x < 18446744073709551616) :
    Calls Tryd.prog 33 #[.agg (cells salt).toArray, .int .u32 (s : Int), .int .u64 (x : Int)] w fun e w' => e = .returned (.agg (cells (firstC salt s x)).toArray) ∧ Below w.heap.size w w' := by
  have hz := zero16
  obtain ⟨hb0, h0, h1, h2⟩ := first_boxes w salt
  have hsp := salt_splice salt hs
  have hfc : (cells (firstC salt s x)).length = 16 := by rw [length_cells, firstC_len _ _ _ hs]
  have hsz : (saltZ salt).length = 16 := saltZ_len _ hs
  obtain ⟨F, hF⟩ : ∃ F, F = firstC salt s x := ⟨_, rfl⟩
  have hF2 : fillO (xrB (saltZ salt) (beb 4 s ++ beb 6 x) 4) 4 (saltZ salt) 10 = F := by rw [hF]; rfl
  rw [← hF] at hfc ⊢
  obtain ⟨SZ, hSZ⟩ : ∃ SZ, SZ = saltZ salt := ⟨_, rfl⟩
  rw [← hSZ] at hsp hsz hF2
  have hZL : (cells Z16).length = 16 := by rw [length_cells, Z16_len]
  have HZL := Lib.hid hZL
  have HSP := Lib.hid hsp
  have HFC := Lib.hid hfc
  have HSZ := Lib.hid hsz
  have HF2 := Lib.hid hF2
  have hp1 : ∀ wx : World, Calls Tryd.prog 29 #[.slice none 0 0, .int .i64 4, .int .u64 (s : Int)] wx fun e w' => e = .returned (.slice (some ⟨wx.heap.size, 0, none⟩) 4 4) ∧ Blk w' wx.heap.size 5 (beb 4 s) ∧ Below wx.heap.size wx w' := fun wx => put_some none 0 0 [] 4 s wx (RdS.nil _) (by omega) (by omega) (by omega) (by omega)
  have hp2 : ∀ (wx : World) (A : Option Addr) (c : Nat), RdS wx A 4 c (beb 4 s) → Calls Tryd.prog 29 #[.slice A 4 c, .int .i64 6, .int .u64 (x : Int)] wx fun e w' => e = .returned (.slice (some ⟨wx.heap.size, 0, none⟩) 10 10) ∧ Blk w' wx.heap.size 5 (beb 4 s ++ beb 6 x) ∧ Below wx.heap.size wx w' := fun wx A c hr => put_some A 4 c (beb 4 s) 6 x wx hr (by omega) (by omega) hx (by omega)
  have hrd1 : ∀ (wx : World) (g : Nat), Blk wx g 5 (beb 4 s) → RdS wx (some ⟨g, 0, none⟩) 4 4 (beb 4 s) := fun wx g h => h.rd (length_beb _ _) (Nat.le_refl _) (by simp [maxLen])
  have hrd2 : ∀ (wx : World) (g : Nat), Blk wx g 5 (beb 4 s ++ beb 6 x) → RdS wx (some ⟨g, 0, none⟩) 10 10 (beb 4 s ++ beb 6 x) := fun wx g h => h.rd (by rw [List.length_append, length_beb, length_beb]) (Nat.le_refl _) (by simp [maxLen])
  have HP1 := Lib.hid hp1
  have HP2 := Lib.hid hp2
  have hwr : IntKind.u64.wrap (s : Int) = (s : Int) := by rw [IntKind.wrap_u64]; omega
  clear hZL hsp hfc hsz hF hF2 hSZ hp1 hp2
  go_enter Tryd.func33, Tryd.ntmps33
  go_wp2
  go_still_tail 2, (by kernel_rfl)
  change wpList _ _ _ _ _ (World.drew _)
  have k0 := (h0.drew).rd hs (Nat.le_refl 14) (by simp [maxLen])
  have k1 := h1.drew
  have k2 := h2.drew
  have kb := hb0.drew
  generalize (((w.alloc (Obj.cells (cells salt).toArray 35)).alloc (Obj.cells (cells Z16).toArray 34)).alloc (Obj.cells (cells Z16).toArray 34)).drew = w2 at *
  clear h0 h1 h2 hb0 hs
  go_wp2_with (first
    | ((with_reducible refine wpList_cp rfl (.tmp 9) (.tmp 10) rfl Tryd.underlying22 u8_inf (w.heap.size + 1 + 1) 0 16 16 34 (cells Z16) rfl k2.v (some ⟨w.heap.size, 0, none⟩) 14 14 salt rfl k0 (by rw [HZL.out]; omega) 14 (by decide) (by omega) ?_); intro w3 hB3 ho3; rw [HSP.out] at hB3; have j1 := Blk.only k1 ho3 (by omega); have jb := kb.trans (ho3.below (by omega)))
    | (go_at_call 29; ((with_reducible refine (HP1.out w3).mono ?_); rintro e w4 ⟨rfl, hB4, hb4⟩; have hR4 := hrd1 w4 _ hB4))
    | (go_at_call 29; ((with_reducible refine (HP2.out w4 _ _ hR4).mono ?_); rintro e w5 ⟨rfl, hB5, hb5⟩; have hR5 := hrd2 w5 _ hB5; have hS5 : Blk w5 (w.heap.size + 1 + 1) 34 SZ := Blk.below (Blk.below hB3 hb4 hB3.lt) hb5 (Nat.lt_of_lt_of_le hB3.lt hb4.size); have h15 := (j1.below hb4 j1.lt).below hb5 (Nat.lt_of_lt_of_le j1.lt hb4.size); have hb5w := (jb.trans (hb4.mono jb.size)).trans (hb5.mono (Nat.le_trans jb.size hb4.size)); have hgl := Nat.lt_of_lt_of_le hB3.lt hb4.size; have hof5 : OffN (some ⟨w4.heap.size, 0, none⟩) 10 (w.heap.size + 1 + 1) := (fun _ ad hA => by injection hA with hA; subst hA; show w4.heap.size ≠ _; omega)))
    | (go_at_call 49; ((with_reducible refine (take_any (w.heap.size + 1 + 1) 4 12 12 _ SZ (some ⟨w4.heap.size, 0, none⟩) 10 10 (beb 4 s ++ beb 6 x) w5 hS5 hR5 hof5 (by omega) (by rw [HSZ.out]; omega)).mono ?_); rintro e w6 ⟨rfl, hB6, ho6⟩; have hF6 : Blk w6 (w.heap.size + 1 + 1) 34 F := HF2.out ▸ hB6; have h16 := Blk.only h15 ho6 (by omega); have hb6 := hb5w.trans (ho6.below (by omega))))
    | (with_reducible refine wpList_ld rfl 34 (.tmp 7) rfl (w.heap.size + 1 + 1) 0 rfl (cells F) (hF6.v.range 0 _ (by simp)) (row16 HFC.out) ?_)
    | ((with_reducible refine wpList_st rfl 34 (.tmp 6) (.tmp 20) rfl (w.heap.size + 1) 0 (cells F) rfl rfl 34 _ h16.v (by rw [HFC.out, HZL.out]; omega) (row16 HFC.out) (cells_one _) ?_); intro w7 hB7 ho7; rw [splice_all _ _ (by rw [HFC.out, HZL.out])] at hB7))
  exact ret_row (by rfl) (by rfl) hB7 (row16 HFC.out) (by rfl) ⟨rfl, hb6.trans (ho7.below (by omega))⟩
end Go.Proofs.YtmkeioeodlidgaaDoor

namespace Go.Proofs.YtmkeioeodlidgaaDoor
open Go.RowKit
set_option linter.unusedVariables false

theorem ofInt_i64 (a : Nat) (ha : a < 9223372036854775808) : (BitVec.ofInt 64 (a : Int)).toNat = a := by
  rw [BitVec.ofInt_natCast, BitVec.toNat_ofNat]; exact Nat.mod_eq_of_lt (by omega)
theorem i64_xor_nat (a b : Nat) (ha : a < 65536) (hb : b < 65536) : bits BinOp.xor IntKind.i64 (a : Int) (b : Int) = ((a ^^^ b : Nat) : Int) := by
  have hx : a ^^^ b < 2 ^ 16 := Nat.xor_lt_two_pow (by omega) (by omega)
  show IntKind.i64.wrap ((BitVec.ofInt 64 (a : Int) ^^^ BitVec.ofInt 64 (b : Int)).toNat : Int) = _
  rw [BitVec.toNat_xor, ofInt_i64 a (by omega), ofInt_i64 b (by omega)]
  exact IntWalk.i64_in _ (by omega)
theorem i64_and_one (a : Nat) (ha : a < 65536) : bits BinOp.and IntKind.i64 (a : Int) 1 = ((a % 2 : Nat) : Int) := by
  have hx : a % 2 < 2 := Nat.mod_lt _ (by omega)
  show IntKind.i64.wrap ((BitVec.ofInt 64 (a : Int) &&& BitVec.ofInt 64 ((1 : Nat) : Int)).toNat : Int) = _
  rw [BitVec.toNat_and, ofInt_i64 a (by omega), ofInt_i64 1 (by omega), Nat.and_one_is_mod]
  exact IntWalk.i64_in _ (by omega)
theorem wrap64_small (n : Nat) (h : n < 65536) : wrap64 (n : Int) = (n : Int) := by unfold wrap64; omega
theorem pow_le7 (k : Nat) (hk : k < 8) : 2 ^ k ≤ 128 := Nat.pow_le_pow_right (n := 2) (i := k) (j := 7) (by omega) (by omega)
theorem pow_lt8 (k : Nat) (hk : k ≤ 8) : 2 ^ k ≤ 256 := Nat.pow_le_pow_right (n := 2) (i := k) (j := 8) (by omega) (by omega)
end Go.Proofs.YtmkeioeodlidgaaDoor

namespace Go.Proofs.YtmkeioeodlidgaaDoor
open Go.RowKit
set_option linter.unusedVariables false

theorem rd_one8 (w : World) (b : UInt8) (i : Int) (h : i = (b.toNat : Int)) (e : TypeId) : RdS (w.alloc (.cells #[.int .u8 i] e)) (some ⟨w.heap.size, 0, none⟩) 1 1 [b] := by
  subst h
  exact (Blk.new w e [b]).rd rfl (Nat.le_refl _) (by simp [maxLen])
/-- The length in a slot. -/
def lenB : Value → Nat
  | .slice _ n _ => n
  | _ => 0
theorem pow_take (k : Nat) (hk : k < 255) : powT.take (k + 1) = powT.take k ++ [pw k] := by
  rw [List.take_succ_eq_append_getElem (by rw [powT_len]; exact hk)]
  have : powT[k]'(by rw [powT_len]; exact hk) = pw k := by
    unfold pw
    rw [List.getD_eq_getElem?_getD, List.getElem?_eq_getElem (by rw [powT_len]; exact hk)]; rfl
  rw [this]
theorem pow_cell (k m : Nat) (hm : m < k) (hk : k ≤ 255) : (cells (powT.take k))[m]? = some (.int .u8 ((pw m).toNat : Int)) := by
  rw [cells_at (by rw [List.length_take, powT_len]; omega)]
  unfold pw
  simp only [List.getD_eq_getElem?_getD, List.getElem?_take]
  rw [if_pos hm]

end Go.Proofs.YtmkeioeodlidgaaDoor

namespace Go.Proofs.YtmkeioeodlidgaaDoor
open Go.RowKit
set_option linter.unusedVariables false

/-- The document's cipher lies in block p: its boxes, and its words. -/
structure RCiph (w : World) (p gB gW cW : Nat) (key : List UInt8) : Prop where
  c0 : w.cell? ⟨p, 0, none⟩ = some (.slice (some ⟨gB, 0, none⟩) 256 256)
  c1 : w.cell? ⟨p, 1, none⟩ = some (.slice (some ⟨gW, 0, none⟩) 44 cW)
  lp : p < w.heap.size
  lB : gB < w.heap.size
  lW : gW < w.heap.size
  box : ∀ i, i < 256 → w.cell? ⟨gB, i, none⟩ = some (.int .u8 ((boxT.getD i 0).toNat : Int))
  words : ∀ j, j < 44 → ∃ b o c, w.cell? ⟨gW, j, none⟩ = some (.slice (some ⟨b, o, none⟩) 4 c) ∧ b < w.heap.size ∧ ∀ i, i < 4 → w.cell? ⟨b, o + i, none⟩ = some (.int .u8 (((wd key j).getD i 0).toNat : Int))
theorem RCiph.below {w w' : World} {p gB gW cW : Nat} {key : List UInt8} (h : RCiph w p gB gW cW key) (hb : Below w.heap.size w w') : RCiph w' p gB gW cW key :=
  ⟨(hb.cell (p := ⟨p, 0, none⟩) h.lp).trans h.c0, (hb.cell (p := ⟨p, 1, none⟩) h.lp).trans h.c1, Nat.lt_of_lt_of_le h.lp hb.size, Nat.lt_of_lt_of_le h.lB hb.size, Nat.lt_of_lt_of_le h.lW hb.size,
    fun i hi => (hb.cell (p := ⟨gB, i, none⟩) h.lB).trans (h.box i hi), fun j hj => by
      obtain ⟨b, o, c, h1, h2, h3⟩ := h.words j hj
      exact ⟨b, o, c, (hb.cell (p := ⟨gW, j, none⟩) h.lW).trans h1, Nat.lt_of_lt_of_le h2 hb.size, fun i hi => (hb.cell (p := ⟨b, o + i, none⟩) h2).trans (h3 i hi)⟩⟩

/-- What is there all along in Block: what came in, the answer's place, the matrix's row. -/
structure BEnv (w : World) (x : List UInt8) (wr : World) : Prop where
  i : Blk wr w.heap.size 34 x
  r : Blk wr (w.heap.size + 1) 34 Z16
  m : Blk wr (w.heap.size + 1 + 1) 157 [2, 3, 1, 1]
  b : Below w.heap.size w wr
section
variable {w : World} {x : List UInt8} {wr w' : World}
theorem BEnv.only (h : BEnv w x wr) {g : Nat} (ho : Only g wr w') (hg : w.heap.size + 3 ≤ g) : BEnv w x w' := ⟨Blk.only h.i ho (by omega), Blk.only h.r ho (by omega), Blk.only h.m ho (by omega), h.b.trans (ho.below (by omega))⟩
theorem BEnv.alloc (h : BEnv w x wr) (o : Obj) : BEnv w x (wr.alloc o) := ⟨h.i.alloc o, h.r.alloc o, h.m.alloc o, h.b.alloc h.b.size o⟩
theorem BEnv.drew (h : BEnv w x wr) : BEnv w x wr.drew := ⟨h.i, h.r, h.m, h.b.drew⟩
theorem BEnv.drewN (h : BEnv w x wr) (n : Nat) : BEnv w x (wr.drewN n) := ⟨h.i, h.r, h.m, ⟨h.b.os, h.b.tape, h.b.output, h.b.size, h.b.block⟩⟩
end
theorem benv_start (w : World) (x : List UInt8) : BEnv w x ((((w.alloc (.cells (cells x).toArray 34)).alloc (.cells (cells Z16).toArray 34)).alloc (.cells #[.int .u8 2, .int .u8 3, .int .u8 1, .int .u8 1] 157)).alloc (.cells (cells Z16).toArray 34)) ∧
    Blk ((((w.alloc (.cells (cells x).toArray 34)).alloc (.cells (cells Z16).toArray 34)).alloc (.cells #[.int .u8 2, .int .u8 3, .int .u8 1, .int .u8 1] 157)).alloc (.cells (cells Z16).toArray 34)) (w.heap.size + 1 + 1 + 1) 34 Z16 :=
  ⟨⟨(((Blk.new _ _ _).alloc _).alloc _).alloc _, ((Blk.new_at _ _ _ _ _ (by simp) rfl).alloc _).alloc _, (Blk.new_at _ _ _ [2, 3, 1, 1] _ (by simp) rfl).alloc _, ((((Below.refl _ _).alloc (Nat.le_refl _) _).alloc (by simp) _).alloc (by simp; omega) _).alloc (by simp; omega) _⟩, Blk.new_at _ _ _ _ _ (by simp) rfl⟩
/-- The state ahead of round r. -/
def stR (ks x : List UInt8) (r : Nat) : List UInt8 := if r ≤ 10 then encR ks x (r - 1) else enc ks x
theorem stR_len (ks x : List UInt8) (r : Nat) : (stR ks x r).length = 16 := by
  unfold stR
  split
  · exact encR_len _ _ _
  · exact enc_len _ _
theorem stR_low (ks x : List UInt8) (r : Nat) (h1 : 1 ≤ r) (h : r < 10) : stR ks x (r + 1) = addK ks r (mulC (subR (stR ks x r))) := by
  unfold stR
  rw [if_pos (by omega), if_pos (by omega), show r + 1 - 1 = (r - 1) + 1 by omega, encR, show r - 1 + 1 = r by omega]
theorem stR_top (ks x : List UInt8) : stR ks x 11 = addK ks 10 (subR (stR ks x 10)) := rfl
theorem stR_one (ks x : List UInt8) : stR ks x 1 = addK ks 0 x := rfl
theorem rx_step (s : List UInt8) (col row k : Nat) (T : Nat) (hT : T = timesN (rowM row k) (s.getD (4 * col + k) 0).toNat) (v : Int) (hv : v = ((rx s col row (k + 1)).toNat : Int)) (a : Int) (ha : a = ((rx s col row k).toNat : Int)) : bits BinOp.xor IntKind.u8 a (T : Int) = v := by
  have hl := timesN_lt (rowM row k) (s.getD (4 * col + k) 0).toNat
  subst ha; subst hv; subst hT
  have := xr8 (rx s col row k) (UInt8.ofNat (timesN (rowM row k) (s.getD (4 * col + k) 0).toNat))
  rw [UInt8.toNat_ofNat', Nat.mod_eq_of_lt hl] at this
  exact this
theorem rowM_nat (row k : Nat) : (([2, 3, 1, 1] : List UInt8).getD ((k + 4 - row) % 4) 0).toNat = rowM row k := by
  unfold rowM
  have h : (k + 4 - row) % 4 < 4 := Nat.mod_lt _ (by omega)
  rcases (show (k + 4 - row) % 4 = 0 ∨ (k + 4 - row) % 4 = 1 ∨ (k + 4 - row) % 4 = 2 ∨ (k + 4 - row) % 4 = 3 by omega) with e | e | e | e <;> rw [e] <;> rfl

end Go.Proofs.YtmkeioeodlidgaaDoor
