/- Contracts of package aes: Block. No statement is proved here. -/
import Derived.Test.YtmfceenkndjjoaaAes8
namespace Go.Proofs.Ytmfceenkndjjoaa
open Go.RowKit
set_option linter.unusedVariables false

theorem block_base (w : World) (x : List UInt8) : Below w.heap.size w ((w.alloc (Obj.cells (cells x).toArray 22)).alloc (Obj.cells (cells Z16).toArray 22)) ∧
    Blk ((w.alloc (Obj.cells (cells x).toArray 22)).alloc (Obj.cells (cells Z16).toArray 22)) w.heap.size 22 x ∧
    Blk ((w.alloc (Obj.cells (cells x).toArray 22)).alloc (Obj.cells (cells Z16).toArray 22)) (w.heap.size + 1) 22 Z16 ∧
    ((w.alloc (Obj.cells (cells x).toArray 22)).alloc (Obj.cells (cells Z16).toArray 22)).heap.size = w.heap.size + 1 + 1 :=
  ⟨((Below.refl _ _).alloc (Nat.le_refl _) _).alloc (by simp) _, (Blk.new _ _ _).alloc _, Blk.new_at _ _ _ _ _ (by simp) rfl, by simp⟩

set_option maxRecDepth 100000 in
set_option maxHeartbeats 1000000 in
theorem block_none (x : List UInt8) (w : World) (hx : x.length = 16) :
    Calls Try.prog 21 #[.pointer none, .agg (cells x).toArray] w fun e w' => e = .returned (.agg (cells x).toArray) ∧ Below w.heap.size w w' := by
  have hz := zero16
  obtain ⟨hb0, h0, h1, _⟩ := block_base w x
  have hXL : (cells x).length = 16 := by rw [length_cells, hx]
  have HXL := Lib.hid hXL
  have hZL : (cells Z16).length = 16 := by rw [length_cells, Z16_len]
  have HZL := Lib.hid hZL
  clear hx hXL hZL
  go_enter Try.func21, Try.ntmps21
  go_wp2_with (first
    | (with_reducible refine wpList_ld rfl 22 (.tmp 3) rfl w.heap.size 0 rfl (cells x) (h0.v.range 0 _ (by simp)) (row16 HXL.out) ?_)
    | ((with_reducible refine wpList_st rfl 22 (.tmp 4) (.tmp 17) rfl (w.heap.size + 1) 0 (cells x) rfl rfl 22 _ h1.v (by rw [HXL.out, HZL.out]; omega) (row16 HXL.out) (cells_one _) ?_); intro w2 hB2 ho2; rw [splice_all _ _ (by rw [HXL.out, HZL.out])] at hB2))
  exact ret_row (by rfl) (by rfl) hB2 (row16 HXL.out) (by rfl) ⟨rfl, hb0.trans (ho2.below (by omega))⟩

set_option maxRecDepth 100000 in
set_option maxHeartbeats 2000000 in
theorem block_some (p : Nat) (e : TypeId) (ks x : List UInt8) (w : World) (hx : x.length = 16) (hk : ks.length = 176) (hc : BlkV w p e (ciph ks)) :
    Calls Try.prog 21 #[.pointer (some ⟨p, 0, none⟩), .agg (cells x).toArray] w fun e w' => e = .returned (.agg (cells (enc ks x)).toArray) ∧ Below w.heap.size w w' := by
  have hz := zero16
  have hpl := hc.lt
  obtain ⟨hb0, h0, h1, hsz⟩ := block_base w x
  have hcz : boxT.getD 0 0 = 99 := rfl
  have hcell := (hc.below hb0 hpl).cell 0
  rw [ciph_box (by omega), hcz] at hcell
  have hcell' : ((w.alloc (Obj.cells (cells x).toArray 22)).alloc (Obj.cells (cells Z16).toArray 22)).cell? ⟨p, 0, none⟩ = some (.int .u8 99) := hcell
  have hw0 : w.cell? ⟨p, 0, none⟩ = some (.int .u8 99) := by
    rw [hc.cell 0, ciph_box (by omega), hcz]; rfl
  have hXL : (cells x).length = 16 := by rw [length_cells, hx]
  have HXL := Lib.hid hXL
  have hZL : (cells Z16).length = 16 := by rw [length_cells, Z16_len]
  have HZL := Lib.hid hZL
  have hB2 : Blk (((w.alloc (Obj.cells (cells x).toArray 22)).alloc (Obj.cells (cells Z16).toArray 22)).alloc (Obj.cells (cells Z16).toArray 22)) (w.heap.size + 1 + 1) 22 Z16 := Blk.new_at _ _ _ _ _ (by simp) rfl
  have h1a := h1.alloc (.cells (cells Z16).toArray 22)
  have hba := hb0.alloc (by omega) (.cells (cells Z16).toArray 22)
  have HX := Lib.hid hx
  have HK := Lib.hid hk
  clear hx hXL hZL hk hcz hcell hsz
  go_enter Try.func21, Try.ntmps21
  go_wp2_with (first
    | (with_reducible refine wpList_ld rfl 22 (.tmp 3) rfl w.heap.size 0 rfl (cells x) (h0.v.range 0 _ (by simp)) (row16 HXL.out) ?_)
    | ((with_reducible refine wpList_st rfl 22 (.tmp 5) (.tmp 18) rfl (w.heap.size + 1 + 1) 0 (cells x) rfl rfl 22 _ hB2.v (by rw [HXL.out, HZL.out]; omega) (row16 HXL.out) (cells_one _) ?_); intro w2 hB3 ho2; rw [splice_all _ _ (by rw [HXL.out, HZL.out])] at hB3; have j1 := Blk.only h1a ho2 (by omega); have jb := hba.trans (ho2.below (by omega)); have jB : Blk w2 (w.heap.size + 1 + 1) 22 x := hB3; have jc := hc.below jb hpl)
    | (go_at_call 27; ((with_reducible refine (takeKey_any p (w.heap.size + 1 + 1) 0 e ks x 0 w2 (by omega) rfl HK.out HX.out jc jB (by omega)).mono ?_); rintro e w3 ⟨rfl, hB4, ho3⟩; have k1 := Blk.only j1 ho3 (by omega); have kb := jb.trans (ho3.below (by omega)))))
  have k2 : Blk w3 (w.heap.size + 1 + 1) 22 (encR ks x (1 - 1)) := hB4
  clear hB4 ho3 j1 jb jB jc hB3 ho2 hba h1a hB2 h1 h0 hb0 hcell' hw0
  go_loopw [6] (fun vi wr => ∃ r : Nat, 1 ≤ r ∧ r ≤ 10 ∧ vi = .int .i64 r ∧ Blk wr (w.heap.size + 1 + 1) 22 (encR ks x (r - 1)) ∧ Blk wr (w.heap.size + 1) 22 Z16 ∧ Below w.heap.size w wr) (fun i _ => 10 - (intOf i).toNat)
  case atStart => exact ⟨1, by omega, by omega, rfl, k2, k1, kb⟩
  case round =>
    clear k1 k2 kb
    obtain ⟨r, hr1, hr, rfl, h2, h1, hb⟩ := hrel
    have hc1 := hc.below hb hpl
    have hlen := encR_len ks x (r - 1)
    by_cases hlt : r < 10
    · have hnext : encR ks x (r + 1 - 1) = addK ks r (mulC (subR (encR ks x (r - 1)))) := by
        rw [show r + 1 - 1 = (r - 1) + 1 by omega, encR, show r - 1 + 1 = r by omega]
      obtain ⟨S, hS⟩ : ∃ S, S = encR ks x (r - 1) := ⟨_, rfl⟩
      rw [← hS] at h2 hlen hnext
      have HN := Lib.hid hnext
      have HL := Lib.hid hlen
      have hri : (r : Int) < 10 := by omega
      clear hS hnext hlen
      go_wp2_with (first
        | (go_at_call 28; ((with_reducible refine (takeBox_any p (w.heap.size + 1 + 1) e ks S wr HL.out hc1 h2 (by omega)).mono ?_); rintro e w4 ⟨rfl, hB4, hg4⟩; have hb4 := hb.grown hg4 hb.size (fun q hq => by injection hq with hq; omega); have h14 := h1.grown hg4 (by intro h; injection h with h; omega); have hc4 := hc.below hb4 hpl))
        | (go_at_call 29; ((with_reducible refine (multiply_any (w.heap.size + 1 + 1) (subR S) w4 (subR_len _) hB4).mono ?_); rintro e w5 ⟨rfl, hB5, ho5⟩; have hb5 := hb4.trans (ho5.below (by omega)); have h15 := Blk.only h14 ho5 (by omega); have hc5 := hc.below hb5 hpl))
        | (go_at_call 27; ((with_reducible refine (takeKey_any p (w.heap.size + 1 + 1) r _ ks (mulC (subR S)) (r : Int) w5 (by omega) rfl HK.out (mulC_len _) hc5 hB5 (by omega)).mono ?_); rintro e w6 ⟨rfl, hB6, ho6⟩; have hb6 := hb5.trans (ho6.below (by omega)); have h16 := Blk.only h15 ho6 (by omega))))
      rw [← HN.out] at hB6
      clear hB5 hB4 h14 h15 hb4 hb5 hc4 hc5 ho5 ho6 hg4
      go_roundw
      case rel => exact ⟨r + 1, by omega, by omega, by go_num, hB6, h16, hb6⟩
      case measure => simp [intOf]; omega
    · obtain rfl : r = 10 := by omega
      have hfin : enc ks x = addK ks 10 (subR (encR ks x 9)) := rfl
      obtain ⟨S, hS⟩ : ∃ S, S = encR ks x (10 - 1) := ⟨_, rfl⟩
      have hS' : S = encR ks x 9 := hS
      rw [← hS] at h2 hlen
      rw [← hS'] at hfin
      have HF := Lib.hid hfin
      have HL := Lib.hid hlen
      have hEL : (cells (enc ks x)).length = 16 := by rw [length_cells, enc_len]
      have HEL := Lib.hid hEL
      clear hS hS' hfin hlen hEL
      go_wp2_with (first
        | (go_at_call 28; ((with_reducible refine (takeBox_any p (w.heap.size + 1 + 1) e ks S wr HL.out hc1 h2 (by omega)).mono ?_); rintro e w4 ⟨rfl, hB4, hg4⟩; have hb4 := hb.grown hg4 hb.size (fun q hq => by injection hq with hq; omega); have h14 := h1.grown hg4 (by intro h; injection h with h; omega); have hc4 := hc.below hb4 hpl))
        | (go_at_call 27; ((with_reducible refine (takeKey_any p (w.heap.size + 1 + 1) 10 _ ks (subR S) 10 w4 (by omega) rfl HK.out (subR_len _) hc4 hB4 (by omega)).mono ?_); rintro e w6 ⟨rfl, hB6, ho6⟩; rw [← HF.out] at hB6; have hb6 := hb4.trans (ho6.below (by omega)); have h16 := Blk.only h14 ho6 (by omega)))
        | (with_reducible refine wpList_ld rfl 22 (.tmp 5) rfl (w.heap.size + 1 + 1) 0 rfl (cells (enc ks x)) (hB6.v.range 0 _ (by simp)) (row16 HEL.out) ?_)
        | ((with_reducible refine wpList_st rfl 22 (.tmp 4) (.tmp 35) rfl (w.heap.size + 1) 0 (cells (enc ks x)) rfl rfl 22 _ h16.v (by rw [HEL.out, HZL.out]; omega) (row16 HEL.out) (cells_one _) ?_); intro w7 hB7 ho7; rw [splice_all _ _ (by rw [HEL.out, HZL.out])] at hB7))
      exact ret_row (by rfl) (by rfl) hB7 (row16 HEL.out) (by rfl) ⟨rfl, hb6.trans (ho7.below (by omega))⟩
end Go.Proofs.Ytmfceenkndjjoaa
