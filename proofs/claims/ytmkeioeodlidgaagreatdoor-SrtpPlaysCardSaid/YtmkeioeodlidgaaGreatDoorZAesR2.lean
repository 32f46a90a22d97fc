/- Several texts in one: plain words and walks. No statement is proved here. -/
import Derived.Test.YtmkeioeodlidgaaGreatDoorZM11
import Derived.Test.YtmkeioeodlidgaaGreatDoorZM10
import Derived.Test.YtmkeioeodlidgaaGreatDoorZM1
namespace Go.Proofs.YtmkeioeodlidgaaGreatDoor
open Go.RowKit
set_option linter.unusedVariables false

theorem rd_one8 (w : World) (b : UInt8) (i : Int) (h : i = (b.toNat : Int)) (e : TypeId) : RdS (w.alloc (.cells #[.int .u8 i] e)) (some ⟨w.heap.size, 0, none⟩) 1 1 [b] := by
 subst h
 exact (Blk.new w e [b]).rd rfl (Nat.le_refl _) (by simp [maxLen])
def lenB : Value → Nat
 | .slice _ n _ => n
 | _ => 0
theorem pow_take (k : Nat) (hk : k < 255) : powT.take (k + 1) = powT.take k ++ [pw k] := by
 rw [List.take_succ_eq_append_getElem (by rw [powT_len]; exact hk)]
 have : powT[k]'(by rw [powT_len]; exact hk) = pw k := by
  unfold pw
  rw [List.getD_eq_getElem?_getD, List.getElem?_eq_getElem (by rw [powT_len]; exact hk)]; rfl
 rw [this]
theorem pow_cell (k m : Nat) (hm : m < k) (hk : k ≤ 255) : (cells (powT.take k))[m]? = some (.int .u8 ((pw m).toNat : Int)) := by
 rw [cells_at (by rw [List.length_take, powT_len]; omega)]
 unfold pw
 simp only [List.getD_eq_getElem?_getD, List.getElem?_take]
 rw [if_pos hm]

set_option maxRecDepth 100000 in
set_option maxHeartbeats 1000000 in
theorem boxes_any (w : World) : Calls Tryz.prog 97 #[] w fun e w' => ∃ g : Nat, e = .returned (.slice (some ⟨g, 0, none⟩) 256 256) ∧ w.heap.size ≤ g ∧ Blk w' g 5 boxT ∧ Below w.heap.size w w' := by
 have hb0 : Below w.heap.size w (w.alloc (.cells #[.int .u8 1] 5)) := (Below.refl _ _).alloc (Nat.le_refl _) _
 have ht1 : powT.take 1 = [1] := rfl
 have h0 : (w.alloc (.cells #[.int .u8 1] 5)).ownsRow w.heap.size 5 1 (.slice (some ⟨w.heap.size, 0, none⟩) 1 1) 1 (cells (powT.take 1)) := by
  rw [ht1]
  exact (Blk.new w 5 [1]).owns rfl (by simp [maxLen]) (Nat.le_refl _)
 have hmk : ∀ wx : World, (Instr.makeSlice 35 (.int .i64 256) (.int .i64 256)).run Tryz.prog wx = .ok (.slice (some ⟨wx.heap.size, 0, none⟩) 256 256) (wx.alloc (.cells (cells Z256).toArray 5)) := fun wx => run_makeB (P := Tryz.prog) Tryz.underlying35 u8_inf .i64 .i64 256 256 256 rfl rfl (by omega) wx
 clear ht1
 go_enter Tryz.func97, Tryz.ntmps97
 go_wp2
 go_loopw [1] (fun v wr => ∃ (k : Nat) (A : Option Addr) (c : Nat), 1 ≤ k ∧ k ≤ 255 ∧ v = .slice A k c ∧ wr.ownsRow w.heap.size 5 1 (.slice A k c) k (cells (powT.take k)) ∧ Below w.heap.size w wr) (fun v _ => 255 - lenB v)
 case atStart => exact ⟨1, _, _, by omega, by omega, rfl, h0, hb0⟩
 case round =>
  clear h0 hb0
  obtain ⟨k, A, c, h1, hk, rfl, ho, hb⟩ := hrel
  obtain ⟨g, cap, hv, hbg, hgl⟩ := ho.form (by omega)
  injection hv with hv1 _ hv3
  subst hv1; subst hv3
  by_cases hlt : k < 255
  · obtain ⟨m, rfl⟩ : ∃ m, k = m + 1 := ⟨k - 1, by omega⟩
    have hcell := ho.cellAt m (by omega)
    rw [pow_cell (m + 1) m (by omega) hk] at hcell
    have hcall := fun wx => rtimes_any (pw m) 3 ((pw m).toNat : Int) 3 wx rfl rfl
    have hp3 : timesN (pw m).toNat (3 : UInt8).toNat = (pw (m + 1)).toNat := by
     have := times_three' (pw m)
     rw [pw_succ m (by omega)]
     exact this
    simp only [hp3] at hcall
    have HPT := Lib.hid (pow_take (m + 1) hlt)
    obtain ⟨a, ha⟩ : ∃ a : Int, a = ((pw m).toNat : Int) := ⟨_, rfl⟩
    rw [← ha] at hcell
    simp only [← ha] at hcall
    obtain ⟨P, hP⟩ : ∃ P, P = pw (m + 1) := ⟨_, rfl⟩
    rw [← hP] at hcall HPT
    obtain ⟨z, hz, hz1, hz2⟩ := u8_ex P
    simp only [← hz] at hcall
    have HZ := Lib.hid hz
    have HC := Lib.hid hcall
    have hmi : (m : Int) + 1 < 255 := by omega
    have hw3 := hb.size
    clear hcall hp3 ha hP hz h1
    go_wp2_with (first
     | (go_at_call 98; ((with_reducible refine (Hid.out HC _).mono ?_); rintro e w' ⟨rfl, rfl⟩))
     | (at_builtin; refine wpList_append_rd _ rfl (.tmp 8) (.tmp 16) rfl Tryz.underlying35 u8_inf w.heap.size (.slice (some ⟨g, 0, none⟩) (m + 1) c) (m + 1) (powT.take (m + 1)) rfl (ho.alloc _) (some ⟨wr.heap.size, 0, none⟩) 1 1 [P] rfl (rd_one8 wr P z HZ.out _) (by omega) (by simp; omega) ?_; intro v2 w2 hown2 hg2 hat2))
    obtain ⟨A3, c3, hv2⟩ := own_form hown2
    have hltb := ho.lt
    have hb2 := (hb.alloc hb.size (.cells #[.int .u8 z] 5)).grown hg2 (Nat.le_trans hb.size (by simp)) (fun q hq => by have := (hltb q hq).1; omega)
    subst hv2
    rw [← HPT.out] at hown2
    go_roundw
    case rel => exact ⟨m + 1 + 1, A3, c3, by omega, by omega, rfl, hown2, hb2⟩
    case measure => simp [lenB]; omega
  · obtain rfl : k = 255 := by omega
    rw [List.take_of_length_le (by rw [powT_len]; omega)] at ho
    obtain ⟨wq, hwq⟩ : ∃ x : World, x = wr := ⟨_, rfl⟩
    subst hwq
    have hrp : ∀ wx, Below wq.heap.size wq wx → ∀ j, j < 255 → wx.cell? ⟨g, j, none⟩ = some (.int .u8 ((pw j).toNat : Int)) := by
     intro wx hbx j hj
     rw [hbx.cell (p := ⟨g, j, none⟩) hgl, ho.cellAt j (by omega)]
     exact cells_at (by rw [powT_len]; exact hj)
    have hlw := hb.size
    have hmx := fun wx => rmix_any 0 0 wx rfl
    have HM := Lib.hid hmx
    have hset : (cells Z256).set 0 (.int .u8 ((mx 0).toNat : Int)) = cells (boxAt 0) := cells_set Z256 0 (mx 0)
    have HS := Lib.hid hset
    have h2 : Blk (wq.alloc (.cells (cells (boxAt 0)).toArray 5)) wq.heap.size 5 (boxAt 0) := Blk.new _ _ _
    have h2b : Below wq.heap.size wq (wq.alloc (.cells (cells (boxAt 0)).toArray 5)) := (Below.refl _ _).alloc (Nat.le_refl _) _
    have HRP := Lib.hid hrp
    clear hmx hset hrp ho
    go_wp2_with (first
     | (go_at_call 109; ((with_reducible refine (Hid.out HM _).mono ?_); rintro e w' ⟨rfl, rfl⟩)))
    rw [HS.out]
    clear HS HM hmk
    generalize wq.alloc (.cells (cells (boxAt 0)).toArray 5) = w2 at *
    have hw2s : wq.heap.size < w2.heap.size := h2.lt
    go_loopw [3] (fun vi wx => ∃ j : Nat, j ≤ 255 ∧ vi = .int .i64 j ∧ Blk wx wq.heap.size 5 (boxAt j) ∧ Below wq.heap.size wq wx) (fun i _ => 255 - (intOf i).toNat)
    case atStart => exact ⟨0, by omega, rfl, h2, h2b⟩
    case round =>
     clear h2 h2b
     obtain ⟨j, hj, rfl, h2, h2b⟩ := hrel
     by_cases hlt : j < 255
     · obtain ⟨M, hM⟩ : ∃ M, M = (255 - j) % 255 := ⟨_, rfl⟩
       have hcj := HRP.out wr h2b j hlt
       have hcM := HRP.out wr h2b M (by omega)
       have hmx := fun wx => rmix_any (pw M) ((pw M).toNat : Int) wx rfl
       have hnx : boxAt (j + 1) = (boxAt j).set (pw j).toNat (mx (pw M)) := by rw [boxAt, hM]
       have hpl := (pw j).toNat_lt
       have hcell := h2.cell (j := (pw j).toNat) (by rw [boxAt_len]; exact hpl)
       have hfr := h2.frozen (pw j).toNat
       have s2 := h2.set_ (pw j).toNat (mx (pw M))
       rw [← hnx] at s2
       have sb := h2b.setCell (p := ⟨wq.heap.size, (pw j).toNat, none⟩) (by simp) (.int .u8 ((mx (pw M)).toNat : Int))
       obtain ⟨y, hy⟩ : ∃ y : Int, y = (((boxAt j).getD (pw j).toNat 0).toNat : Int) := ⟨_, rfl⟩
       rw [← hy] at hcell
       obtain ⟨p, hp⟩ : ∃ p, p = (pw j).toNat := ⟨_, rfl⟩
       obtain ⟨q, hq⟩ : ∃ q : Int, q = ((pw M).toNat : Int) := ⟨_, rfl⟩
       obtain ⟨v, hv⟩ : ∃ q : Int, q = ((mx (pw M)).toNat : Int) := ⟨_, rfl⟩
       simp only [← hq, ← hv] at hmx
       rw [← hp] at hcell hfr s2 sb hpl hcj
       rw [← hq] at hcM
       rw [← hv] at s2 sb
       have HMX := Lib.hid hmx
       have e1 : IntKind.i64.wrap (255 - (j : Int)) = 255 - (j : Int) := IntWalk.i64_in _ (by omega)
       have e2 : (255 - (j : Int)).tmod 255 = (M : Int) := by
        rw [Int.tmod_eq_emod_of_nonneg (by omega)]; omega
       have e3 : IntKind.i64.wrap (M : Int) = (M : Int) := IntWalk.i64_in _ (by omega)
       have f1 : (j : Int) < 255 := by omega
       have f2 : (M : Int) < 255 := by omega
       have f3 : (p : Int) < 256 := by omega
       have f4 : M < 255 := by omega
       have f5 : p < 256 := by omega
       clear hmx hnx hy hp hM hq hv
       go_wp2
       go_still_tail 13, (by kernel_rfl)
       still_call ((Hid.out HMX _).mono fun _ _ ⟨h, h2⟩ => ⟨h, h2.symm⟩)
       repeat still_step
       refine wpStill_nil ?_
       change wpList _ _ _ _ _ wr.drew
       clear e1 e2 e3 f1 f2 f3 hcM hcj
       go_wp2
       go_roundw
       case rel => exact ⟨j + 1, by omega, by go_num, s2, sb.drew⟩
       case measure => simp [intOf]; omega
     · obtain rfl : j = 255 := by omega
       rw [boxAt_all] at h2
       have hfin := hb.trans (h2b.mono hb.size)
       go_wp2
       go_ret
       exact ⟨wq.heap.size, rfl, hlw, h2, hfin⟩
end Go.Proofs.YtmkeioeodlidgaaGreatDoor
