/- Several texts in one: plain words and walks. No statement is proved here. -/
import Derived.Test.YtheefckohnaceaaGreatDoorZM9
import Derived.BigQuiet
namespace Go.Proofs.YtheefckohnaceaaGreatDoor
open Go.RowKit
set_option linter.unusedVariables false

structure RCiph (w : World) (p gB gW cW : Nat) (key : List UInt8) : Prop where
 c0 : w.cell? ⟨p, 0, none⟩ = some (.slice (some ⟨gB, 0, none⟩) 256 256)
 c1 : w.cell? ⟨p, 1, none⟩ = some (.slice (some ⟨gW, 0, none⟩) 44 cW)
 lp : p < w.heap.size
 lB : gB < w.heap.size
 lW : gW < w.heap.size
 box : ∀ i, i < 256 → w.cell? ⟨gB, i, none⟩ = some (.int .u8 ((boxT.getD i 0).toNat : Int))
 words : ∀ j, j < 44 → ∃ b o c, w.cell? ⟨gW, j, none⟩ = some (.slice (some ⟨b, o, none⟩) 4 c) ∧ b < w.heap.size ∧ ∀ i, i < 4 → w.cell? ⟨b, o + i, none⟩ = some (.int .u8 (((wd key j).getD i 0).toNat : Int))
theorem RCiph.below {w w' : World} {p gB gW cW : Nat} {key : List UInt8} (h : RCiph w p gB gW cW key) (hb : Below w.heap.size w w') : RCiph w' p gB gW cW key :=
 ⟨(hb.cell (p := ⟨p, 0, none⟩) h.lp).trans h.c0, (hb.cell (p := ⟨p, 1, none⟩) h.lp).trans h.c1, Nat.lt_of_lt_of_le h.lp hb.size, Nat.lt_of_lt_of_le h.lB hb.size, Nat.lt_of_lt_of_le h.lW hb.size,
  fun i hi => (hb.cell (p := ⟨gB, i, none⟩) h.lB).trans (h.box i hi), fun j hj => by
   obtain ⟨b, o, c, h1, h2, h3⟩ := h.words j hj
   exact ⟨b, o, c, (hb.cell (p := ⟨gW, j, none⟩) h.lW).trans h1, Nat.lt_of_lt_of_le h2 hb.size, fun i hi => (hb.cell (p := ⟨b, o + i, none⟩) h2).trans (h3 i hi)⟩⟩

structure BEnv (w : World) (x : List UInt8) (wr : World) : Prop where
 i : Blk wr w.heap.size 22 x
 r : Blk wr (w.heap.size + 1) 22 Z16
 m : Blk wr (w.heap.size + 1 + 1) 173 [2, 3, 1, 1]
 b : Below w.heap.size w wr
section
variable {w : World} {x : List UInt8} {wr w' : World}
theorem BEnv.only (h : BEnv w x wr) {g : Nat} (ho : Only g wr w') (hg : w.heap.size + 3 ≤ g) : BEnv w x w' := ⟨Blk.only h.i ho (by omega), Blk.only h.r ho (by omega), Blk.only h.m ho (by omega), h.b.trans (ho.below (by omega))⟩
theorem BEnv.alloc (h : BEnv w x wr) (o : Obj) : BEnv w x (wr.alloc o) := ⟨h.i.alloc o, h.r.alloc o, h.m.alloc o, h.b.alloc h.b.size o⟩
theorem BEnv.drew (h : BEnv w x wr) : BEnv w x wr.drew := ⟨h.i, h.r, h.m, h.b.drew⟩
theorem BEnv.drewN (h : BEnv w x wr) (n : Nat) : BEnv w x (wr.drewN n) := ⟨h.i, h.r, h.m, ⟨h.b.os, h.b.tape, h.b.output, h.b.size, h.b.block⟩⟩
end
theorem benv_start (w : World) (x : List UInt8) : BEnv w x ((((w.alloc (.cells (cells x).toArray 22)).alloc (.cells (cells Z16).toArray 22)).alloc (.cells #[.int .u8 2, .int .u8 3, .int .u8 1, .int .u8 1] 173)).alloc (.cells (cells Z16).toArray 22)) ∧
 Blk ((((w.alloc (.cells (cells x).toArray 22)).alloc (.cells (cells Z16).toArray 22)).alloc (.cells #[.int .u8 2, .int .u8 3, .int .u8 1, .int .u8 1] 173)).alloc (.cells (cells Z16).toArray 22)) (w.heap.size + 1 + 1 + 1) 22 Z16 :=
 ⟨⟨(((Blk.new _ _ _).alloc _).alloc _).alloc _, ((Blk.new_at _ _ _ _ _ (by simp) rfl).alloc _).alloc _, (Blk.new_at _ _ _ [2, 3, 1, 1] _ (by simp) rfl).alloc _, ((((Below.refl _ _).alloc (Nat.le_refl _) _).alloc (by simp) _).alloc (by simp; omega) _).alloc (by simp; omega) _⟩, Blk.new_at _ _ _ _ _ (by simp) rfl⟩
def stR (ks x : List UInt8) (r : Nat) : List UInt8 := if r ≤ 10 then encR ks x (r - 1) else enc ks x
theorem stR_len (ks x : List UInt8) (r : Nat) : (stR ks x r).length = 16 := by
 unfold stR
 split
 · exact encR_len _ _ _
 · exact enc_len _ _
theorem stR_low (ks x : List UInt8) (r : Nat) (h1 : 1 ≤ r) (h : r < 10) : stR ks x (r + 1) = addK ks r (mulC (subR (stR ks x r))) := by
 unfold stR
 rw [if_pos (by omega), if_pos (by omega), show r + 1 - 1 = (r - 1) + 1 by omega, encR, show r - 1 + 1 = r by omega]
theorem stR_top (ks x : List UInt8) : stR ks x 11 = addK ks 10 (subR (stR ks x 10)) := rfl
theorem stR_one (ks x : List UInt8) : stR ks x 1 = addK ks 0 x := rfl
theorem rx_step (s : List UInt8) (col row k : Nat) (T : Nat) (hT : T = timesN (rowM row k) (s.getD (4 * col + k) 0).toNat) (v : Int) (hv : v = ((rx s col row (k + 1)).toNat : Int)) (a : Int) (ha : a = ((rx s col row k).toNat : Int)) : bits BinOp.xor IntKind.u8 a (T : Int) = v := by
 have hl := timesN_lt (rowM row k) (s.getD (4 * col + k) 0).toNat
 subst ha; subst hv; subst hT
 have := xr8 (rx s col row k) (UInt8.ofNat (timesN (rowM row k) (s.getD (4 * col + k) 0).toNat))
 rw [UInt8.toNat_ofNat', Nat.mod_eq_of_lt hl] at this
 exact this
theorem rowM_nat (row k : Nat) : (([2, 3, 1, 1] : List UInt8).getD ((k + 4 - row) % 4) 0).toNat = rowM row k := by
 unfold rowM
 have h : (k + 4 - row) % 4 < 4 := Nat.mod_lt _ (by omega)
 rcases (show (k + 4 - row) % 4 = 0 ∨ (k + 4 - row) % 4 = 1 ∨ (k + 4 - row) % 4 = 2 ∨ (k + 4 - row) % 4 = 3 by omega) with e | e | e | e <;> rw [e] <;> rfl

set_option maxRecDepth 100000 in
set_option maxHeartbeats 4000000 in
theorem rblock_any (p gB gW cW : Nat) (key x : List UInt8) (w : World) (hx : x.length = 16) (hRC : RCiph w p gB gW cW key) :
 Calls Tryz.prog 87 #[.pointer (some ⟨p, 0, none⟩), .agg (cells x).toArray] w fun e w' => e = .returned (.agg (cells (enc (kall key) x)).toArray) ∧ Below w.heap.size w w' := by
 have hz := zero16
 have hz4 : ∀ wx : World, (zeroValue 173).run Tryz.prog wx = .ok (.agg #[.int .u8 0, .int .u8 0, .int .u8 0, .int .u8 0]) wx := fun wx => by kernel_rfl
 obtain ⟨hE0, hs0⟩ := benv_start w x
 have HX := Lib.hid hx
 have hZL : (cells Z16).length = 16 := by rw [length_cells, Z16_len]
 have HZL := Lib.hid hZL
 clear hx hZL
 go_enter Tryz.func87, Tryz.ntmps87
 have hs1 : Blk ((((w.alloc (.cells (cells x).toArray 22)).alloc (.cells (cells Z16).toArray 22)).alloc (.cells #[.int .u8 2, .int .u8 3, .int .u8 1, .int .u8 1] 173)).alloc (.cells (cells Z16).toArray 22)) (w.heap.size + 1 + 1 + 1) 22 (fillAt (addB (kall key) 0 x) Z16 0) := by rw [fillAt_zero]; exact hs0
 clear hs0
 go_wp2
 go_loopw [7] (fun vi wr => ∃ i : Nat, i ≤ 16 ∧ vi = .int .i64 i ∧ Blk wr (w.heap.size + 1 + 1 + 1) 22 (fillAt (addB (kall key) 0 x) Z16 i) ∧ BEnv w x wr) (fun i _ => 16 - (intOf i).toNat)
 case atStart => exact ⟨0, by omega, rfl, hs1, hE0⟩
 case round =>
  clear hs1 hE0
  obtain ⟨i, hi, rfl, hs, hE⟩ := hrel
  by_cases hlt : i < 16
  · obtain ⟨J, hJ⟩ : ∃ J, J = i / 4 := ⟨_, rfl⟩
    obtain ⟨L, hL⟩ : ∃ L, L = i % 4 := ⟨_, rfl⟩
    have hC := hRC.below hE.b
    obtain ⟨b, o, cb, hcW, hbl, hcb⟩ := hC.words J (by omega)
    have hcL := hcb L (by omega)
    have hc1 := hC.c1
    have hwk : (wd key J).getD L 0 = (kall key).getD (16 * 0 + i) 0 := by
     rw [wd_get _ _ _ (by omega), show 4 * J + L = 16 * 0 + i by omega]
    rw [hwk] at hcL
    have hct := hE.i.cell (j := i) (by rw [HX.out]; exact hlt)
    have hsl : (fillAt (addB (kall key) 0 x) Z16 i).length = 16 := by rw [fillAt_len _ _ _ (by rw [Z16_len]; omega), Z16_len]
    have hcs := hs.cell (j := i) (by rw [hsl]; exact hlt)
    have hfs := hs.frozen i
    have hst := hs.set_ i (addB (kall key) 0 x i)
    rw [fillAt_step _ _ _ (by rw [Z16_len]; exact hlt)] at hst
    have hEs := hE.only (Only.set wr (w.heap.size + 1 + 1 + 1) i (.int .u8 ((addB (kall key) 0 x i).toNat : Int))) (by omega)
    obtain ⟨a, ha, a1, a2⟩ := u8_ex (x.getD i 0)
    obtain ⟨kb, hkb, kb1, kb2⟩ := u8_ex ((kall key).getD (16 * 0 + i) 0)
    obtain ⟨v, hv, v1, v2⟩ := u8_ex (addB (kall key) 0 x i)
    have hx := xr8i (k := v) ha hkb (by rw [hv]; rfl)
    rw [← ha] at hct
    rw [← hkb] at hcL
    rw [← hv] at hst hEs
    obtain ⟨y, hy⟩ : ∃ y : Int, y = (((fillAt (addB (kall key) 0 x) Z16 i).getD i 0).toNat : Int) := ⟨_, rfl⟩
    rw [← hy] at hcs
    have e1 : (i : Int).tdiv 4 = (J : Int) := by rw [Int.tdiv_eq_ediv_of_nonneg (by omega)]; omega
    have e2 : (i : Int).tmod 4 = (L : Int) := by rw [Int.tmod_eq_emod_of_nonneg (by omega)]; omega
    have e5 : IntKind.i64.wrap (J : Int) = (J : Int) := IntWalk.i64_in _ (by omega)
    have e6 : IntKind.i64.wrap (L : Int) = (L : Int) := IntWalk.i64_in _ (by omega)
    have f1 : (i : Int) < 16 := by omega
    have f2 : (J : Int) < 44 := by omega
    have f3 : (L : Int) < 4 := by omega
    have f4 : J < 44 := by omega
    have f5 : L < 4 := by omega
    clear hsl hwk ha hkb hv hy hJ hL hcb hC hbl
    go_wp2
    go_still_tail 18, (by kernel_rfl)
    change wpList _ _ _ _ _ wr.drew
    clear e1 e2 e5 e6 f2 f3 f4 f5 hct hcL hcW hc1
    go_wp2
    go_roundw
    case rel => exact ⟨i + 1, by omega, by go_num, hst, hEs.drew⟩
    case measure => simp [intOf]; omega
  · obtain rfl : i = 16 := by omega
    rw [fillAt_all _ _ _ Z16_len] at hs
    have hst1 : Blk wr (w.heap.size + 1 + 1 + 1) 22 (stR (kall key) x 1) := by rw [stR_one]; exact hs
    clear hs
    go_wp2
    simp only [Int.cast_ofNat_Int]
    go_loopw [8] (fun vr wr => ∃ r : Nat, 1 ≤ r ∧ r ≤ 11 ∧ vr = .int .i64 r ∧ Blk wr (w.heap.size + 1 + 1 + 1) 22 (stR (kall key) x r) ∧ BEnv w x wr) (fun i _ => 11 - (intOf i).toNat)
    case atStart => exact ⟨1, by omega, by omega, rfl, hst1, hE⟩
    case round =>
     clear hst1 hE
     obtain ⟨r, hr1, hr, rfl, hs, hE⟩ := hrel
     by_cases hlt : r ≤ 10
     · have hS := stR_len (kall key) x r
       obtain ⟨S, hSe⟩ : ∃ S, S = stR (kall key) x r := ⟨_, rfl⟩
       rw [← hSe] at hs hS
       have HS := Lib.hid hS
       have HSE := Lib.hid hSe
       have hd10 : decide ((r : Int) ≤ 10) = true := by simp; omega
       obtain ⟨T, hT⟩ : ∃ T, T = wr.heap.size := ⟨_, rfl⟩
       have hTs : w.heap.size + 3 < T := by have := hs.lt; omega
       have ht : Blk (wr.alloc (.cells (cells Z16).toArray 22)) T 22 (fillAt (subB S) Z16 (4 * 0)) := by rw [fillAt_zero]; exact Blk.new_at _ _ _ _ _ hT.symm rfl
       have hs2 := hs.alloc (.cells (cells Z16).toArray 22)
       have hE2 := hE.alloc (.cells (cells Z16).toArray 22)
       clear hs hE hS hSe
       have HT := Lib.hid hT
       clear hT
       go_wp2
       rw [← HT.out]
       clear hd10
       go_loopw [10] (fun vc wr => ∃ c : Nat, c ≤ 4 ∧ vc = .int .i64 c ∧ Blk wr T 22 (fillAt (subB S) Z16 (4 * c)) ∧ Blk wr (w.heap.size + 1 + 1 + 1) 22 S ∧ BEnv w x wr) (fun i _ => 4 - (intOf i).toNat)
       case atStart => exact ⟨0, by omega, rfl, ht, hs2, hE2⟩
       case round =>
        clear ht hs2 hE2
        obtain ⟨c, hc, rfl, ht, hs, hE⟩ := hrel
        by_cases hltc : c < 4
        · have hdc : decide ((c : Int) < 4) = true := by simp; omega
          go_wp2
          clear hdc
          go_loopw [11] (fun vi wr => ∃ q : Nat, q ≤ 4 ∧ vi = .int .i64 q ∧ Blk wr T 22 (fillAt (subB S) Z16 (4 * c + q)) ∧ Blk wr (w.heap.size + 1 + 1 + 1) 22 S ∧ BEnv w x wr) (fun i _ => 4 - (intOf i).toNat)
          case atStart => exact ⟨0, by omega, rfl, ht, hs, hE⟩
          case round =>
           clear ht hs hE
           obtain ⟨q, hq4, rfl, ht, hs, hE⟩ := hrel
           by_cases hltq : q < 4
           · obtain ⟨I, hI⟩ : ∃ I, I = 4 * c + q := ⟨_, rfl⟩
             obtain ⟨g, hg⟩ : ∃ g, g = (c + q) % 4 := ⟨_, rfl⟩
             obtain ⟨F, hF⟩ : ∃ F, F = 4 * g + q := ⟨_, rfl⟩
             have hsub : subB S I = sb (S.getD F 0) := by
              unfold subB
              rw [hI, show (4 * c + q) / 4 = c by omega, show (4 * c + q) % 4 = q by omega, hF, hg]
             have hC := hRC.below hE.b
             have hc0 := hC.c0
             have hbx := hC.box (S.getD F 0).toNat (UInt8.toNat_lt _)
             have hcw := hs.cell (j := F) (by rw [HS.out]; omega)
             have htl : (fillAt (subB S) Z16 (4 * c + q)).length = 16 := by rw [fillAt_len _ _ _ (by rw [Z16_len]; omega), Z16_len]
             have hcell := ht.cell (j := I) (by rw [htl]; omega)
             have hfr := ht.frozen I
             have hst := ht.set_ I (subB S I)
             rw [hI, fillAt_step _ _ _ (by rw [Z16_len]; omega), show 4 * c + q + 1 = 4 * c + (q + 1) by omega, ← hI] at hst
             have hss := hs.far (p := ⟨T, I, none⟩) (by simp; omega) (.int .u8 ((subB S I).toNat : Int))
             have hEs := hE.only (Only.set wr T I (.int .u8 ((subB S I).toNat : Int))) (by omega)
             have hbd : boxT.getD (S.getD F 0).toNat 0 = sb (S.getD F 0) := rfl
             rw [hbd, ← hsub] at hbx
             have hyl := (S.getD F 0).toNat_lt
             obtain ⟨y, hy⟩ : ∃ y, y = (S.getD F 0).toNat := ⟨_, rfl⟩
             rw [← hy] at hcw hbx hyl
             obtain ⟨v, hv⟩ : ∃ v : Int, v = ((subB S I).toNat : Int) := ⟨_, rfl⟩
             rw [← hv] at hst hss hEs hbx
             obtain ⟨u, hu⟩ : ∃ u : Int, u = (((fillAt (subB S) Z16 (4 * c + q)).getD I 0).toNat : Int) := ⟨_, rfl⟩
             rw [← hu] at hcell
             have e1 : IntKind.i64.wrap (4 * (c : Int)) = 4 * (c : Int) := IntWalk.i64_in _ (by omega)
             have e2 : IntKind.i64.wrap (4 * (c : Int) + (q : Int)) = (I : Int) := by
              rw [show 4 * (c : Int) + (q : Int) = (I : Int) by omega]; exact IntWalk.i64_in _ (by omega)
             have e3 : IntKind.i64.wrap ((c : Int) + (q : Int)) = (c : Int) + (q : Int) := IntWalk.i64_in _ (by omega)
             have e4 : ((c : Int) + (q : Int)).tmod 4 = (g : Int) := by rw [Int.tmod_eq_emod_of_nonneg (by omega)]; omega
             have e5 : IntKind.i64.wrap (g : Int) = (g : Int) := IntWalk.i64_in _ (by omega)
             have e6 : IntKind.i64.wrap (4 * (g : Int)) = 4 * (g : Int) := IntWalk.i64_in _ (by omega)
             have e7 : IntKind.i64.wrap (4 * (g : Int) + (q : Int)) = (F : Int) := by
              rw [show 4 * (g : Int) + (q : Int) = (F : Int) by omega]; exact IntWalk.i64_in _ (by omega)
             have f1 : (I : Int) < 16 := by omega
             have f2 : I < 16 := by omega
             have f3 : (F : Int) < 16 := by omega
             have f4 : F < 16 := by omega
             have f5 : (y : Int) < 256 := by omega
             have f6 : y < 256 := by omega
             clear hF hg hsub hbd hy hv hu hI htl hC
             go_wp2
             go_still_tail 20, (by kernel_rfl)
             change wpList _ _ _ _ _ wr.drew
             clear e1 e2 e3 e4 e5 e6 e7 f1 f2 f3 f4 f5 f6 hcw hbx hc0
             go_wp2
             go_roundw
             case rel => exact ⟨q + 1, by omega, by go_num, hst, hss, hEs.drew⟩
             case measure => simp [intOf]; omega
           · obtain rfl : q = 4 := by omega
             go_wp2
             go_roundw
             case rel => exact ⟨c + 1, by omega, by go_num, by rw [show 4 * (c + 1) = 4 * c + 4 by omega]; exact ht, hs, hE⟩
             case measure => simp [intOf]; omega
        · obtain rfl : c = 4 := by omega
          have h16 : fillAt (subB S) Z16 (4 * 4) = subR S := fillAt_all _ _ _ Z16_len
          rw [h16] at ht
          have hsR := subR_len S
          by_cases hltr : r < 10
          · have hfin := stR_low (kall key) x r hr1 hltr
            rw [← HSE.out] at hfin
            have HFIN := Lib.hid hfin
            have hdr : decide ((r : Int) < 10) = true := by simp; omega
            have hRL : (cells (subR S)).length = 16 := by rw [length_cells, hsR]
            have HRL := Lib.hid hRL
            have hsz := ht.lt
            obtain ⟨U, hU⟩ : ∃ U, U = wr.heap.size := ⟨_, rfl⟩
            have hu0 := BlkV.new_at wr U 22 (cells Z16) _ hU.symm rfl
            have ht1 := ht.alloc (.cells (cells Z16).toArray 22)
            have hs1 := hs.alloc (.cells (cells Z16).toArray 22)
            have hE1 := hE.alloc (.cells (cells Z16).toArray 22)
            have hTU : T < U := by omega
            have HU := Lib.hid hU
            have HSR := Lib.hid hsR
            clear hfin h16 hRL hsR hU hsz
            go_wp2_with (first
             | (with_reducible refine wpList_ld rfl 22 (.tmp 9) rfl T 0 rfl (cells (subR S)) (ht.v.range 0 _ (by simp)) (row16 HRL.out) ?_)
             | (rw [← HU.out]; ((with_reducible refine wpList_st rfl 22 (.tmp 12) (.tmp 75) rfl U 0 (cells (subR S)) rfl rfl 22 _ hu0 (by rw [HRL.out, HZL.out]; omega) (row16 HRL.out) (cells_one _) ?_); intro w4 hB4 ho4; rw [splice_all _ _ (by rw [HRL.out, HZL.out])] at hB4)))
            have ht2 : Blk w4 T 22 (fillAt (mulB (subR S)) (subR S) (4 * 0)) := by rw [fillAt_zero]; exact Blk.only ht1 ho4 (by omega)
            have hs2 := Blk.only hs1 ho4 (by omega)
            have hE2 := hE1.only ho4 (by omega)
            have hu2 : Blk w4 U 22 (subR S) := hB4
            clear ht hs hE ht1 hs1 hE1 hu0 hB4 ho4 hdr
            go_loopw [13] (fun vc wr => ∃ c : Nat, c ≤ 4 ∧ vc = .int .i64 c ∧ Blk wr T 22 (fillAt (mulB (subR S)) (subR S) (4 * c)) ∧ Blk wr U 22 (subR S) ∧ Blk wr (w.heap.size + 1 + 1 + 1) 22 S ∧ BEnv w x wr) (fun i _ => 4 - (intOf i).toNat)
            case atStart => exact ⟨0, by omega, rfl, ht2, hu2, hs2, hE2⟩
            case round =>
             clear ht2 hu2 hs2 hE2
             obtain ⟨c, hc, rfl, ht, hu, hs, hE⟩ := hrel
             by_cases hltc : c < 4
             · have hdc : decide ((c : Int) < 4) = true := by simp; omega
               go_wp2
               clear hdc
               go_loopw [14] (fun vi wr => ∃ q : Nat, q ≤ 4 ∧ vi = .int .i64 q ∧ Blk wr T 22 (fillAt (mulB (subR S)) (subR S) (4 * c + q)) ∧ Blk wr U 22 (subR S) ∧ Blk wr (w.heap.size + 1 + 1 + 1) 22 S ∧ BEnv w x wr) (fun i _ => 4 - (intOf i).toNat)
               case atStart => exact ⟨0, by omega, rfl, ht, hu, hs, hE⟩
               case round =>
                clear ht hu hs hE
                obtain ⟨q, hq4, rfl, ht, hu, hs, hE⟩ := hrel
                by_cases hltq : q < 4
                · have hdq : decide ((q : Int) < 4) = true := by simp; omega
                  have hx0 : (0 : Int) = ((rx (subR S) c q 0).toNat : Int) := rfl
                  have HX0 := Lib.hid hx0
                  clear hx0
                  go_wp2
                  clear hdq
                  go_loopw [15, 16] (fun vx vk wr => ∃ k : Nat, k ≤ 4 ∧ vx = .int .u8 ((rx (subR S) c q k).toNat : Int) ∧ vk = .int .i64 k ∧ Blk wr T 22 (fillAt (mulB (subR S)) (subR S) (4 * c + q)) ∧ Blk wr U 22 (subR S) ∧ Blk wr (w.heap.size + 1 + 1 + 1) 22 S ∧ BEnv w x wr) (fun _ k _ => 4 - (intOf k).toNat)
                  case atStart => exact ⟨0, by omega, by rw [← HX0.out], rfl, ht, hu, hs, hE⟩
                  case round =>
                   clear ht hu hs hE
                   obtain ⟨k, hk4, rfl, rfl, ht, hu, hs, hE⟩ := hrel
                   by_cases hltk : k < 4
                   · obtain ⟨m, hm⟩ : ∃ m, m = (k + 4 - q) % 4 := ⟨_, rfl⟩
                     obtain ⟨F, hF⟩ : ∃ F, F = 4 * c + k := ⟨_, rfl⟩
                     have hcm := hE.m.cell (j := m) (by simp; omega)
                     have hcu := hu.cell (j := F) (by rw [HSR.out]; omega)
                     have hmn := rowM_nat q k
                     rw [← hm] at hmn
                     have hcall := fun wx => rtimes_any (([2, 3, 1, 1] : List UInt8).getD m 0) ((subR S).getD F 0) _ _ wx rfl rfl
                     obtain ⟨M, hM⟩ : ∃ M : UInt8, M = ([2, 3, 1, 1] : List UInt8).getD m 0 := ⟨_, rfl⟩
                     rw [← hM] at hcm hmn
                     simp only [← hM] at hcall
                     obtain ⟨W, hW⟩ : ∃ W, W = timesN M.toNat ((subR S).getD F 0).toNat := ⟨_, rfl⟩
                     simp only [← hW] at hcall
                     have hWr : W = timesN (rowM q k) ((subR S).getD (4 * c + k) 0).toNat := by rw [hW, hmn, hF]
                     obtain ⟨a, ha, a1, a2⟩ := u8_ex (rx (subR S) c q k)
                     obtain ⟨v, hv, v1, v2⟩ := u8_ex (rx (subR S) c q (k + 1))
                     have hxx := rx_step (subR S) c q k W hWr v hv a ha
                     obtain ⟨y, hy⟩ : ∃ y : Int, y = (((subR S).getD F 0).toNat : Int) := ⟨_, rfl⟩
                     obtain ⟨z, hz⟩ : ∃ z : Int, z = (M.toNat : Int) := ⟨_, rfl⟩
                     rw [← hy] at hcu
                     rw [← hz] at hcm
                     simp only [← hy, ← hz] at hcall
                     rw [← ha]
                     have HV := Lib.hid hv
                     have HC := Lib.hid hcall
                     have e1 : IntKind.i64.wrap ((k : Int) - (q : Int)) = (k : Int) - (q : Int) := IntWalk.i64_in _ (by omega)
                     have e2 : IntKind.i64.wrap ((k : Int) - (q : Int) + 4) = (k : Int) - (q : Int) + 4 := IntWalk.i64_in _ (by omega)
                     have e3 : ((k : Int) - (q : Int) + 4).tmod 4 = (m : Int) := by rw [Int.tmod_eq_emod_of_nonneg (by omega)]; omega
                     have e4 : IntKind.i64.wrap (m : Int) = (m : Int) := IntWalk.i64_in _ (by omega)
                     have e5 : IntKind.i64.wrap (4 * (c : Int)) = 4 * (c : Int) := IntWalk.i64_in _ (by omega)
                     have e6 : IntKind.i64.wrap (4 * (c : Int) + (k : Int)) = (F : Int) := by
                      rw [show 4 * (c : Int) + (k : Int) = (F : Int) by omega]; exact IntWalk.i64_in _ (by omega)
                     have f1 : (m : Int) < 4 := by omega
                     have f2 : m < 4 := by omega
                     have f3 : (F : Int) < 16 := by omega
                     have f4 : F < 16 := by omega
                     clear hcall hM hW hWr hv ha hy hz hmn hm hF
                     go_wp2
                     go_quiet (first | (go_at_call 107; exact Calls.quiet_of_same ((Hid.out HC _).mono fun _ _ ⟨h, h2⟩ => ⟨h, h2.symm⟩)))
                     have ht' : Blk (wr.drewN nq) T 22 (fillAt (mulB (subR S)) (subR S) (4 * c + q)) := ht
                     have hu' : Blk (wr.drewN nq) U 22 (subR S) := hu
                     have hs' : Blk (wr.drewN nq) (w.heap.size + 1 + 1 + 1) 22 S := hs
                     have hE' := hE.drewN nq
                     clear ht hu hs hE e1 e2 e3 e4 e5 e6 f1 f2 f3 f4 hcm hcu
                     generalize wr.drewN nq = w7 at *
                     go_wp2
                     go_roundw
                     case rel => exact ⟨k + 1, by omega, by rw [← HV.out], by go_num, ht', hu', hs', hE'⟩
                     case measure => simp [intOf]; omega
                   · obtain rfl : k = 4 := by omega
                     rw [rx_all (subR S) c q hltq]
                     obtain ⟨I, hI⟩ : ∃ I, I = 4 * c + q := ⟨_, rfl⟩
                     have htl : (fillAt (mulB (subR S)) (subR S) (4 * c + q)).length = 16 := by rw [fillAt_len _ _ _ (by rw [HSR.out]; omega), HSR.out]
                     have hcell := ht.cell (j := I) (by rw [htl]; omega)
                     have hfr := ht.frozen I
                     have hst := ht.set_ I (mulB (subR S) I)
                     rw [hI, fillAt_step _ _ _ (by rw [HSR.out]; omega), show 4 * c + q + 1 = 4 * c + (q + 1) by omega, ← hI] at hst
                     have hus := hu.far (p := ⟨T, I, none⟩) (by simp; omega) (.int .u8 ((mulB (subR S) I).toNat : Int))
                     have hss := hs.far (p := ⟨T, I, none⟩) (by simp; omega) (.int .u8 ((mulB (subR S) I).toNat : Int))
                     have hEs := hE.only (Only.set wr T I (.int .u8 ((mulB (subR S) I).toNat : Int))) (by omega)
                     rw [← hI]
                     obtain ⟨v, hv⟩ : ∃ v : Int, v = ((mulB (subR S) I).toNat : Int) := ⟨_, rfl⟩
                     rw [← hv] at hst hus hss hEs ⊢
                     obtain ⟨y, hy⟩ : ∃ u : Int, u = (((fillAt (mulB (subR S)) (subR S) (4 * c + q)).getD I 0).toNat : Int) := ⟨_, rfl⟩
                     rw [← hy] at hcell
                     have e2 : 4 * (c : Int) + (q : Int) = (I : Int) := by omega
                     have f1 : (I : Int) < 16 := by omega
                     clear hv hy hI htl
                     go_wp2
                     clear e2 f1
                     go_roundw
                     case rel => exact ⟨q + 1, by omega, by go_num, hst, hus, hss, hEs⟩
                     case measure => simp [intOf]; omega
                · obtain rfl : q = 4 := by omega
                  go_wp2
                  go_roundw
                  case rel => exact ⟨c + 1, by omega, by go_num, by rw [show 4 * (c + 1) = 4 * c + 4 by omega]; exact ht, hu, hs, hE⟩
                  case measure => simp [intOf]; omega
             · obtain rfl : c = 4 := by omega
               have h16 : fillAt (mulB (subR S)) (subR S) (4 * 4) = mulC (subR S) := fillAt_all _ _ _ HSR.out
               rw [h16] at ht
               have hmL := mulC_len (subR S)
               obtain ⟨TT, hTTe⟩ : ∃ TT, TT = mulC (subR S) := ⟨_, rfl⟩
               have hfin2 : stR (kall key) x (r + 1) = addK (kall key) r TT := by rw [hTTe]; exact HFIN.out
               rw [← hTTe] at ht hmL
               have HFIN2 := Lib.hid hfin2
               have HTT := Lib.hid hmL
               have hrr : r < 11 := by omega
               clear h16 hTTe hmL hfin2 hu
               go_wp2
               simp only [Int.cast_ofNat_Int]
               go_loopw [17] (fun vi wr => ∃ i : Nat, i ≤ 16 ∧ vi = .int .i64 i ∧ Blk wr (w.heap.size + 1 + 1 + 1) 22 (fillAt (addB (kall key) r TT) S i) ∧ Blk wr T 22 TT ∧ BEnv w x wr) (fun i _ => 16 - (intOf i).toNat)
               case atStart => exact ⟨0, by omega, rfl, by rw [fillAt_zero]; exact hs, ht, hE⟩
               case round =>
                clear hs ht hE
                obtain ⟨i, hi, rfl, hs, ht, hE⟩ := hrel
                by_cases hlt3 : i < 16
                · obtain ⟨J, hJ⟩ : ∃ J, J = 4 * r + i / 4 := ⟨_, rfl⟩
                  obtain ⟨L, hL⟩ : ∃ L, L = i % 4 := ⟨_, rfl⟩
                  obtain ⟨D, hD⟩ : ∃ D, D = i / 4 := ⟨_, rfl⟩
                  have hC := hRC.below hE.b
                  obtain ⟨b, o, cb, hcW, hbl, hcb⟩ := hC.words J (by omega)
                  have hcL := hcb L (by omega)
                  have hc1 := hC.c1
                  have hwk : (wd key J).getD L 0 = (kall key).getD (16 * r + i) 0 := by
                   rw [wd_get _ _ _ (by omega), show 4 * J + L = 16 * r + i by omega]
                  rw [hwk] at hcL
                  have hct := ht.cell (j := i) (by rw [HTT.out]; exact hlt3)
                  have hsl : (fillAt (addB (kall key) r TT) S i).length = 16 := by rw [fillAt_len _ _ _ (by rw [HS.out]; omega), HS.out]
                  have hcs := hs.cell (j := i) (by rw [hsl]; exact hlt3)
                  have hfs := hs.frozen i
                  have hst := hs.set_ i (addB (kall key) r TT i)
                  rw [fillAt_step _ _ _ (by rw [HS.out]; exact hlt3)] at hst
                  have hts := ht.far (p := ⟨w.heap.size + 1 + 1 + 1, i, none⟩) (by simp; omega) (.int .u8 ((addB (kall key) r TT i).toNat : Int))
                  have hEs := hE.only (Only.set wr (w.heap.size + 1 + 1 + 1) i (.int .u8 ((addB (kall key) r TT i).toNat : Int))) (by omega)
                  obtain ⟨a, ha, a1, a2⟩ := u8_ex (TT.getD i 0)
                  obtain ⟨kb, hkb, kb1, kb2⟩ := u8_ex ((kall key).getD (16 * r + i) 0)
                  obtain ⟨v, hv, v1, v2⟩ := u8_ex (addB (kall key) r TT i)
                  have hx := xr8i (k := v) ha hkb (by rw [hv]; rfl)
                  rw [← ha] at hct
                  rw [← hkb] at hcL
                  rw [← hv] at hst hts hEs
                  obtain ⟨y, hy⟩ : ∃ y : Int, y = (((fillAt (addB (kall key) r TT) S i).getD i 0).toNat : Int) := ⟨_, rfl⟩
                  rw [← hy] at hcs
                  have e1 : (i : Int).tdiv 4 = (D : Int) := by rw [Int.tdiv_eq_ediv_of_nonneg (by omega)]; omega
                  have e2 : (i : Int).tmod 4 = (L : Int) := by rw [Int.tmod_eq_emod_of_nonneg (by omega)]; omega
                  have e3 : IntKind.i64.wrap (4 * (r : Int)) = 4 * (r : Int) := IntWalk.i64_in _ (by omega)
                  have e4 : IntKind.i64.wrap (4 * (r : Int) + (D : Int)) = (J : Int) := by rw [show 4 * (r : Int) + (D : Int) = (J : Int) by omega]; exact IntWalk.i64_in _ (by omega)
                  have e5 : IntKind.i64.wrap (D : Int) = (D : Int) := IntWalk.i64_in _ (by omega)
                  have e6 : IntKind.i64.wrap (L : Int) = (L : Int) := IntWalk.i64_in _ (by omega)
                  have f1 : (i : Int) < 16 := by omega
                  have f2 : (J : Int) < 44 := by omega
                  have f3 : (L : Int) < 4 := by omega
                  have f4 : J < 44 := by omega
                  have f5 : L < 4 := by omega
                  have HRr := Lib.hid hrr
                  clear hsl hwk ha hkb hv hy hJ hL hD hcb hC hbl hrr
                  go_wp2
                  go_still_tail 21, (by kernel_rfl)
                  change wpList _ _ _ _ _ wr.drew
                  clear e1 e2 e3 e4 e5 e6 f2 f3 f4 f5 hct hcL hcW hc1
                  go_wp2
                  have hrr := HRr.out
                  clear HRr
                  go_roundw
                  case rel => exact ⟨i + 1, by omega, by go_num, hst, hts, hEs.drew⟩
                  case measure => simp [intOf]; omega
                · obtain rfl : i = 16 := by omega
                  rw [fillAt_all _ _ _ HS.out] at hs
                  go_wp2
                  go_roundw
                  case rel => exact ⟨r + 1, by omega, by omega, by go_num, by rw [HFIN2.out]; exact hs, hE⟩
                  case measure => simp [intOf]; omega
          · have hr10 : r = 10 := by omega
            have hdr : decide ((r : Int) < 10) = false := by simp; omega
            obtain ⟨TT, hTTe⟩ : ∃ TT, TT = subR S := ⟨_, rfl⟩
            have hfin2 : stR (kall key) x (r + 1) = addK (kall key) r TT := by
             rw [hTTe, HSE.out, hr10]
             exact stR_top (kall key) x
            rw [← hTTe] at ht hsR
            have HFIN2 := Lib.hid hfin2
            have HTT := Lib.hid hsR
            have hrr : r < 11 := by omega
            clear h16 hTTe hsR hfin2 hr10
            go_wp2
            simp only [Int.cast_ofNat_Int]
            clear hdr
            go_loopw [17] (fun vi wr => ∃ i : Nat, i ≤ 16 ∧ vi = .int .i64 i ∧ Blk wr (w.heap.size + 1 + 1 + 1) 22 (fillAt (addB (kall key) r TT) S i) ∧ Blk wr T 22 TT ∧ BEnv w x wr) (fun i _ => 16 - (intOf i).toNat)
            case atStart => exact ⟨0, by omega, rfl, by rw [fillAt_zero]; exact hs, ht, hE⟩
            case round =>
             clear hs ht hE
             obtain ⟨i, hi, rfl, hs, ht, hE⟩ := hrel
             by_cases hlt3 : i < 16
             · obtain ⟨J, hJ⟩ : ∃ J, J = 4 * r + i / 4 := ⟨_, rfl⟩
               obtain ⟨L, hL⟩ : ∃ L, L = i % 4 := ⟨_, rfl⟩
               obtain ⟨D, hD⟩ : ∃ D, D = i / 4 := ⟨_, rfl⟩
               have hC := hRC.below hE.b
               obtain ⟨b, o, cb, hcW, hbl, hcb⟩ := hC.words J (by omega)
               have hcL := hcb L (by omega)
               have hc1 := hC.c1
               have hwk : (wd key J).getD L 0 = (kall key).getD (16 * r + i) 0 := by
                rw [wd_get _ _ _ (by omega), show 4 * J + L = 16 * r + i by omega]
               rw [hwk] at hcL
               have hct := ht.cell (j := i) (by rw [HTT.out]; exact hlt3)
               have hsl : (fillAt (addB (kall key) r TT) S i).length = 16 := by rw [fillAt_len _ _ _ (by rw [HS.out]; omega), HS.out]
               have hcs := hs.cell (j := i) (by rw [hsl]; exact hlt3)
               have hfs := hs.frozen i
               have hst := hs.set_ i (addB (kall key) r TT i)
               rw [fillAt_step _ _ _ (by rw [HS.out]; exact hlt3)] at hst
               have hts := ht.far (p := ⟨w.heap.size + 1 + 1 + 1, i, none⟩) (by simp; omega) (.int .u8 ((addB (kall key) r TT i).toNat : Int))
               have hEs := hE.only (Only.set wr (w.heap.size + 1 + 1 + 1) i (.int .u8 ((addB (kall key) r TT i).toNat : Int))) (by omega)
               obtain ⟨a, ha, a1, a2⟩ := u8_ex (TT.getD i 0)
               obtain ⟨kb, hkb, kb1, kb2⟩ := u8_ex ((kall key).getD (16 * r + i) 0)
               obtain ⟨v, hv, v1, v2⟩ := u8_ex (addB (kall key) r TT i)
               have hx := xr8i (k := v) ha hkb (by rw [hv]; rfl)
               rw [← ha] at hct
               rw [← hkb] at hcL
               rw [← hv] at hst hts hEs
               obtain ⟨y, hy⟩ : ∃ y : Int, y = (((fillAt (addB (kall key) r TT) S i).getD i 0).toNat : Int) := ⟨_, rfl⟩
               rw [← hy] at hcs
               have e1 : (i : Int).tdiv 4 = (D : Int) := by rw [Int.tdiv_eq_ediv_of_nonneg (by omega)]; omega
               have e2 : (i : Int).tmod 4 = (L : Int) := by rw [Int.tmod_eq_emod_of_nonneg (by omega)]; omega
               have e3 : IntKind.i64.wrap (4 * (r : Int)) = 4 * (r : Int) := IntWalk.i64_in _ (by omega)
               have e4 : IntKind.i64.wrap (4 * (r : Int) + (D : Int)) = (J : Int) := by rw [show 4 * (r : Int) + (D : Int) = (J : Int) by omega]; exact IntWalk.i64_in _ (by omega)
               have e5 : IntKind.i64.wrap (D : Int) = (D : Int) := IntWalk.i64_in _ (by omega)
               have e6 : IntKind.i64.wrap (L : Int) = (L : Int) := IntWalk.i64_in _ (by omega)
               have f1 : (i : Int) < 16 := by omega
               have f2 : (J : Int) < 44 := by omega
               have f3 : (L : Int) < 4 := by omega
               have f4 : J < 44 := by omega
               have f5 : L < 4 := by omega
               have HRr := Lib.hid hrr
               clear hsl hwk ha hkb hv hy hJ hL hD hcb hC hbl hrr
               go_wp2
               go_still_tail 21, (by kernel_rfl)
               change wpList _ _ _ _ _ wr.drew
               clear e1 e2 e3 e4 e5 e6 f2 f3 f4 f5 hct hcL hcW hc1
               go_wp2
               have hrr := HRr.out
               clear HRr
               go_roundw
               case rel => exact ⟨i + 1, by omega, by go_num, hst, hts, hEs.drew⟩
               case measure => simp [intOf]; omega
             · obtain rfl : i = 16 := by omega
               rw [fillAt_all _ _ _ HS.out] at hs
               go_wp2
               go_roundw
               case rel => exact ⟨r + 1, by omega, by omega, by go_num, by rw [HFIN2.out]; exact hs, hE⟩
               case measure => simp [intOf]; omega
     · obtain rfl : r = 11 := by omega
       have hfin : stR (kall key) x 11 = enc (kall key) x := rfl
       rw [hfin] at hs
       have hEL : (cells (enc (kall key) x)).length = 16 := by rw [length_cells, enc_len]
       have HEL := Lib.hid hEL
       clear hfin hEL
       go_wp2_with (first
        | (with_reducible refine wpList_ld rfl 22 (.tmp 6) rfl (w.heap.size + 1 + 1 + 1) 0 rfl (cells (enc (kall key) x)) (hs.v.range 0 _ (by simp)) (row16 HEL.out) ?_)
        | ((with_reducible refine wpList_st rfl 22 (.tmp 4) (.tmp 135) rfl (w.heap.size + 1) 0 (cells (enc (kall key) x)) rfl rfl 22 _ hE.r.v (by rw [HEL.out, HZL.out]; omega) (row16 HEL.out) (cells_one _) ?_); intro w5 hB5 ho5; rw [splice_all _ _ (by rw [HEL.out, HZL.out])] at hB5))
       exact ret_row (by rfl) (by rfl) hB5 (row16 HEL.out) (by rfl) ⟨rfl, hE.b.trans (ho5.below (by omega))⟩
end Go.Proofs.YtheefckohnaceaaGreatDoor
