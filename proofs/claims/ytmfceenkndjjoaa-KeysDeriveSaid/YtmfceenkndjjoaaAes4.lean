/- Contracts of package aes: a block's steps. No statement is proved here. -/
import Derived.Test.YtmfceenkndjjoaaAes3
namespace Go.Proofs.Ytmfceenkndjjoaa
open Go.RowKit
set_option linter.unusedVariables false

/-- A cipher lies in block p: the box, and the words. -/
def ciph (ks : List UInt8) : List Value := cells boxT ++ cells ks
theorem ciph_box {ks : List UInt8} {i : Nat} (h : i < 256) : (ciph ks)[i]? = some (.int .u8 ((boxT.getD i 0).toNat : Int)) := by
  unfold ciph
  rw [List.getElem?_append_left (by rw [length_cells, boxT_len]; exact h)]
  exact cells_at (by rw [boxT_len]; exact h)
theorem ciph_key {ks : List UInt8} {i : Nat} (h : i < ks.length) : (ciph ks)[256 + i]? = some (.int .u8 ((ks.getD i 0).toNat : Int)) := by
  unfold ciph
  rw [List.getElem?_append_right (by rw [length_cells, boxT_len]; omega), length_cells, boxT_len, show 256 + i - 256 = i by omega]
  exact cells_at h
theorem grown_drew {w w' : World} {row : Option Nat} (h : w.grownBy w' row) : w.grownBy w'.drew row := ⟨h.os, h.tape, h.output, h.size, h.block⟩
theorem Only.drew {g : Nat} {w w' : World} (h : Only g w w') : Only g w w'.drew := ⟨h.os, h.tape, h.output, h.size, h.block⟩

set_option maxRecDepth 100000 in
set_option maxHeartbeats 1000000 in
theorem takeKey_any (p g r : Nat) (e : TypeId) (ks s : List UInt8) (ri : Int) (w : World) (hr : r ≤ 10) (hri : ri = (r : Int)) (hk : ks.length = 176) (hs : s.length = 16) (hc : BlkV w p e (ciph ks)) (hb : Blk w g 22 s) (hpg : p ≠ g) :
    Calls Try.prog 27 #[.pointer (some ⟨p, 0, none⟩), .pointer (some ⟨g, 0, none⟩), .int .i64 ri] w fun e w' => e = .returned (.tuple #[]) ∧ Blk w' g 22 (addK ks r s) ∧ Only g w w' := by
  subst hri
  have HK := Lib.hid hk
  have HS := Lib.hid hs
  have h0 : Blk w g 22 (fillAt (addB ks r s) s 0) := by rw [fillAt_zero]; exact hb
  clear hk hs
  go_enter Try.func27, Try.ntmps27
  go_wp2
  go_loopw [7] (fun vi wr => ∃ k : Nat, k ≤ 16 ∧ vi = .int .i64 k ∧ Blk wr g 22 (fillAt (addB ks r s) s k) ∧ Only g w wr) (fun i _ => 16 - (intOf i).toNat)
  case atStart => exact ⟨0, by omega, rfl, h0, Only.refl _ _⟩
  case round =>
    clear h0 hb
    obtain ⟨k, hk, rfl, h1, ho⟩ := hrel
    by_cases hlt : k < 16
    · have hcell := h1.cell (j := k) (by rw [fillAt_len _ _ _ (by rw [HS.out]; omega), HS.out]; exact hlt)
      rw [fillAt_ge _ _ _ _ (Nat.le_refl _)] at hcell
      have hfr := h1.frozen k
      have hck := ((hc.only ho hpg).cell (256 + (16 * r + k))).trans (ciph_key (by rw [HK.out]; omega))
      have hst := h1.set_ k (addB ks r s k)
      rw [fillAt_step _ _ _ (by rw [HS.out]; exact hlt)] at hst
      have hoo := ho.trans (Only.set wr g k (.int .u8 ((addB ks r s k).toNat : Int)))
      have hx : bits BinOp.xor IntKind.u8 ((s.getD k 0).toNat : Int) ((ks.getD (16 * r + k) 0).toNat : Int) = ((addB ks r s k).toNat : Int) := xr8 _ _
      obtain ⟨y, hy⟩ : ∃ y : Int, y = ((s.getD k 0).toNat : Int) := ⟨_, rfl⟩
      obtain ⟨z, hz⟩ : ∃ z : Int, z = ((ks.getD (16 * r + k) 0).toNat : Int) := ⟨_, rfl⟩
      obtain ⟨v, hv⟩ : ∃ v : Int, v = ((addB ks r s k).toNat : Int) := ⟨_, rfl⟩
      rw [← hv] at hst hoo hx
      rw [← hy] at hcell hx
      rw [← hz] at hck hx
      clear hv hy hz
      obtain ⟨R, hR⟩ : ∃ R, R = 16 * r + k := ⟨_, rfl⟩
      rw [← hR] at hck
      have e1 : IntKind.i64.wrap ((r : Int) * 16) = (r : Int) * 16 := IntWalk.i64_in _ (by omega)
      have e2 : IntKind.i64.wrap ((r : Int) * 16 + (k : Int)) = (R : Int) := by
        rw [show (r : Int) * 16 + (k : Int) = (R : Int) by omega]; exact IntWalk.i64_in _ (by omega)
      have e3 : R < 176 := by omega
      have e4 : (R : Int) < 176 := by omega
      have e5 : (k : Int) < 16 := by omega
      have HC := Lib.hid hc
      clear hR hc
      go_wp2
      go_still_tail 17, (by kernel_rfl)
      change wpList _ _ _ _ _ wr.drew
      clear e1 e2 e3 e4 e5 hck
      go_wp2
      go_roundw
      case rel => exact ⟨k + 1, by omega, by go_num, hst, hoo.drew⟩
      case measure => simp [intOf]; omega
    · obtain rfl : k = 16 := by omega
      rw [fillAt_all _ _ _ HS.out] at h1
      go_wp2
      go_end0
      exact ⟨rfl, h1, ho⟩

set_option maxRecDepth 100000 in
set_option maxHeartbeats 1000000 in
theorem takeBox_any (p g : Nat) (e : TypeId) (ks s : List UInt8) (w : World) (hs : s.length = 16) (hc : BlkV w p e (ciph ks)) (hb : Blk w g 22 s) (hpg : p ≠ g) :
    Calls Try.prog 28 #[.pointer (some ⟨p, 0, none⟩), .pointer (some ⟨g, 0, none⟩)] w fun e w' => e = .returned (.tuple #[]) ∧ Blk w' g 22 (subR s) ∧ w.grownBy w' (some g) := by
  have hz := zero16
  have hpl := hc.lt
  have hgl := hb.lt
  have hg1 := hb.alloc (.cells (cells Z16).toArray 22)
  have hc1 := hc.alloc (.cells (cells Z16).toArray 22)
  have ht1 : BlkV (w.alloc (.cells (cells Z16).toArray 22)) w.heap.size 22 (cells Z16) := BlkV.new _ _ _
  have hSL : (cells s).length = 16 := by rw [length_cells, hs]
  have hZL : (cells Z16).length = 16 := by rw [length_cells, Z16_len]
  have HSL := Lib.hid hSL
  have HZL := Lib.hid hZL
  have HS := Lib.hid hs
  clear hSL hZL hs
  go_enter Try.func28, Try.ntmps28
  go_wp2_with (first
    | (with_reducible refine wpList_ld rfl 22 (.tmp 9) rfl g 0 rfl (cells s) (hb.v.range 0 _ (by simp)) (row16 HSL.out) ?_)
    | ((with_reducible refine wpList_st rfl 22 (.tmp 4) (.tmp 10) rfl w.heap.size 0 (cells s) rfl rfl 22 _ ht1 (by rw [HSL.out, HZL.out]; omega) (row16 HSL.out) (cells_one _) ?_); intro w2 hB2 ho2; rw [splice_all _ _ (by rw [HSL.out, HZL.out])] at hB2))
  have k1 : Blk w2 g 22 (fillAt (subB s) s (4 * 0)) := by rw [fillAt_zero]; exact Blk.only hg1 ho2 (by omega)
  have k2 : Blk w2 w.heap.size 22 s := hB2
  have k3 : w.grownBy w2 (some g) := grown_of_below (((Below.refl w.heap.size w).alloc (Nat.le_refl _) _).trans (ho2.below (Nat.le_refl _))) _
  clear hB2 ho2 ht1 hc1 hg1 hb
  go_loopw [11] (fun vi wr => ∃ c : Nat, c ≤ 4 ∧ vi = .int .i64 c ∧ Blk wr g 22 (fillAt (subB s) s (4 * c)) ∧ Blk wr w.heap.size 22 s ∧ w.grownBy wr (some g)) (fun i _ => 4 - (intOf i).toNat)
  case atStart => exact ⟨0, by omega, rfl, k1, k2, k3⟩
  case round =>
    clear k1 k2 k3
    obtain ⟨c, hc4, rfl, h1, h2, hg⟩ := hrel
    by_cases hlt : c < 4
    · have hcd : decide ((c : Int) < 4) = true := by simp; omega
      go_wp2
      clear hcd
      go_loopw [14] (fun vi wx => ∃ r : Nat, r ≤ 4 ∧ vi = .int .i64 r ∧ Blk wx g 22 (fillAt (subB s) s (4 * c + r)) ∧ Blk wx w.heap.size 22 s ∧ w.grownBy wx (some g)) (fun i _ => 4 - (intOf i).toNat)
      case atStart => exact ⟨0, by omega, rfl, h1, h2, hg⟩
      case round =>
        clear h1 h2 hg
        obtain ⟨r, hr4, rfl, h1, h2, hg⟩ := hrel
        by_cases hlt2 : r < 4
        · obtain ⟨I, hI⟩ : ∃ I, I = 4 * c + r := ⟨_, rfl⟩
          obtain ⟨q, hq⟩ : ∃ q, q = (c + r) % 4 := ⟨_, rfl⟩
          obtain ⟨F, hF⟩ : ∃ F, F = 4 * q + r := ⟨_, rfl⟩
          have hsub : subB s I = sb (s.getD F 0) := by
            unfold subB
            rw [hI, show (4 * c + r) / 4 = c by omega, show (4 * c + r) % 4 = r by omega, hF, hq]
          have hcell := h1.cell (j := I) (by rw [fillAt_len _ _ _ (by rw [HS.out]; omega), HS.out]; omega)
          have hfr := h1.frozen I
          have hcw := h2.cell (j := F) (by rw [HS.out]; omega)
          have hbx := ((hc.grown hg (by simp; exact hpg)).cell (s.getD F 0).toNat).trans (ciph_box (UInt8.toNat_lt _))
          have hst := h1.set_ I (subB s I)
          rw [hI, fillAt_step _ _ _ (by rw [HS.out]; omega), show 4 * c + r + 1 = 4 * c + (r + 1) by omega, ← hI] at hst
          have h2s := h2.far (p := ⟨g, I, none⟩) (by simp; omega) (.int .u8 ((subB s I).toNat : Int))
          have hgs := hg.trans (Only.set wr g I (.int .u8 ((subB s I).toNat : Int))).grown
          have hbd : boxT.getD (s.getD F 0).toNat 0 = sb (s.getD F 0) := rfl
          rw [hbd, ← hsub] at hbx
          have hyl := (s.getD F 0).toNat_lt
          obtain ⟨y, hy⟩ : ∃ y, y = (s.getD F 0).toNat := ⟨_, rfl⟩
          rw [← hy] at hcw hbx hyl
          obtain ⟨v, hv⟩ : ∃ v : Int, v = ((subB s I).toNat : Int) := ⟨_, rfl⟩
          rw [← hv] at hst h2s hgs hbx
          obtain ⟨u, hu⟩ : ∃ u : Int, u = (((fillAt (subB s) s (4 * c + r)).getD I 0).toNat : Int) := ⟨_, rfl⟩
          rw [← hu] at hcell
          have hmod : ((c : Int) + r) % 4 = (q : Int) := by omega
          have e1 : IntKind.i64.wrap ((c : Int) * 4) = (c : Int) * 4 := IntWalk.i64_in _ (by omega)
          have e2 : IntKind.i64.wrap ((c : Int) * 4 + (r : Int)) = (I : Int) := by
            rw [show (c : Int) * 4 + (r : Int) = (I : Int) by omega]; exact IntWalk.i64_in _ (by omega)
          have e3 : IntKind.i64.wrap ((q : Int) * 4) = (q : Int) * 4 := IntWalk.i64_in _ (by omega)
          have e4 : IntKind.i64.wrap ((q : Int) * 4 + (r : Int)) = (F : Int) := by
            rw [show (q : Int) * 4 + (r : Int) = (F : Int) by omega]; exact IntWalk.i64_in _ (by omega)
          have f1 : (I : Int) < 16 := by omega
          have f2 : I < 16 := by omega
          have f3 : (F : Int) < 16 := by omega
          have f4 : F < 16 := by omega
          have f5 : (y : Int) < 256 := by omega
          have HC := Lib.hid hc
          have HGR := Lib.hid hg
          clear hF hq hsub hbd hy hv hu hI hc hg
          go_wp2
          go_still_tail 18, (by kernel_rfl)
          change wpList _ _ _ _ _ wr.drew
          clear e1 e2 e3 e4 f1 f2 f3 f4 f5 hcw hbx hmod
          go_wp2
          go_roundw
          case rel => exact ⟨r + 1, by omega, by go_num, hst, h2s, grown_drew hgs⟩
          case measure => simp [intOf]; omega
        · obtain rfl : r = 4 := by omega
          go_wp2
          go_roundw
          case rel => exact ⟨c + 1, by omega, by go_num, by rw [show 4 * (c + 1) = 4 * c + 4 by omega]; exact h1, h2, hg⟩
          case measure => simp [intOf]; omega
    · obtain rfl : c = 4 := by omega
      rw [show 4 * 4 = 16 from rfl, fillAt_all _ _ _ HS.out] at h1
      go_wp2
      go_end0
      exact ⟨rfl, h1, hg⟩
end Go.Proofs.Ytmfceenkndjjoaa
