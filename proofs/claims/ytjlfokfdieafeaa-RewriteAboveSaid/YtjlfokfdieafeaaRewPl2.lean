/- RewritePlays' walk: whatever is followed and mapped, each place is the document's. -/
import Derived.Test.YtjlfokfdieafeaaRewPl
namespace Go.Proofs.Ytjlfokfdieafeaa
open Go.RowKit
set_option linter.unusedVariables false

theorem Bth22.blk {T : World → Value → Wtr → (Nat → Prop) → Prop} {w0 wx : World} {q : Addr} {g : Nat} {s t : Wtr} {K : Nat → Prop} (h : Bth22 T w0 K q g s t wx) : ∃ vO, BlkV wx g 38 (wcells t vO) := by
  obtain ⟨F, ⟨F1, F2, a1, ⟨g2, vO, e1, h1, ho, _⟩, _⟩, _⟩ := h.ex
  cases e1
  exact ⟨vO, h1⟩
theorem Bth22.first {T : World → Value → Wtr → (Nat → Prop) → Prop} {w0 wx : World} {q : Addr} {g : Nat} {s : Wtr} {K : Nat → Prop} (hL : Lone T) (h : Bth22 T w0 K q g s wz wx) (f : Int) (hf : ¬ f < 0) : Bth22 T w0 K q g s (staW wz f) (wx.setCell ⟨g, 0, none⟩ (.int .i64 f)) := by
  obtain ⟨F, f1, f2⟩ := h.two hL r22_lone
  exact (f2 _ _ _ (r22_first f1 f hf).stpB).1.less (fun k hk => .inl hk)
theorem opw_at {w : World} {A : Option Addr} {l : List Opw} (hr : RdG 4 w A (l.map Opw.row)) (hl : ∀ o ∈ l, OpwRd w o) {k : Nat} (hk : k < l.length) :
    ∃ b off, ∃ o : Opw, A = some ⟨b, off, none⟩ ∧ OkM2 o.x ∧ b < w.heap.size ∧ ∀ wx, Below w.heap.size w wx → wx.cell? ⟨b, off + k * 4, none⟩ = some (.bool o.m) ∧ wx.cell? ⟨b, off + k * 4 + 1, none⟩ = some (.int .i64 o.x.i) ∧ wx.cell? ⟨b, off + k * 4 + 2, none⟩ = some (.int .u32 o.x.st) ∧ wx.cell? ⟨b, off + k * 4 + 3, none⟩ = some (.int .u16 o.x.pc) := by
  obtain ⟨b, off, hA, hlt, hc⟩ := hr.2 (by simp; omega)
  have hc2 := fun d hd => hc k (by simpa using hk) d hd
  have hrow : (l.map Opw.row).getD k [] = (l[k]'hk).row := by simp [List.getD, hk]
  rw [hrow] at hc2
  exact ⟨b, off, l[k]'hk, hA, hl _ (List.getElem_mem hk), hlt, fun wx hb => ⟨(hb.cell (p := ⟨b, off + k * 4, none⟩) hlt).trans (hc2 0 (by omega)), (hb.cell (p := ⟨b, off + k * 4 + 1, none⟩) hlt).trans (hc2 1 (by omega)), (hb.cell (p := ⟨b, off + k * 4 + 2, none⟩) hlt).trans (hc2 2 (by omega)), (hb.cell (p := ⟨b, off + k * 4 + 3, none⟩) hlt).trans (hc2 3 (by omega))⟩⟩
theorem mcell_new (w : World) (i st pc : Int) (j : Nat) (v : Value) (hv : ([.int .i64 i, .int .u32 st, .int .u16 pc] : List Value)[j]? = some v) : (w.alloc (.cells #[.int .i64 i, .int .u32 st, .int .u16 pc] 35)).cell? ⟨w.heap.size, j, none⟩ = some v := ((BlkV.new w 35 [.int .i64 i, .int .u32 st, .int .u16 pc]).cell j).trans hv
/-- A variable that is kept reads as it did. -/
theorem kept_cells {wx wy : World} {K : Nat → Prop} {i st pc : Int} {b : Nat} (h : SamK K wx wy) (hb : K b) (hc : BlkV wx b 35 [.int .i64 i, .int .u32 st, .int .u16 pc]) : BlkV wy b 35 [.int .i64 i, .int .u32 st, .int .u16 pc] := (h b hb).trans hc
theorem mcells3 {wx : World} {i st pc : Int} {b : Nat} (hc : BlkV wx b 35 [.int .i64 i, .int .u32 st, .int .u16 pc]) : wx.cell? ⟨b, 0, none⟩ = some (.int .i64 i) ∧ wx.cell? ⟨b, 1, none⟩ = some (.int .u32 st) ∧ wx.cell? ⟨b, 2, none⟩ = some (.int .u16 pc) ∧ b < wx.heap.size := ⟨(hc.cell 0).trans rfl, (hc.cell 1).trans rfl, (hc.cell 2).trans rfl, hc.lt⟩
set_option maxRecDepth 100000 in
set_option maxHeartbeats 4000000 in
theorem rewritePlays_walk {T : World → Value → Wtr → (Nat → Prop) → Prop} (hT : Tells22 T) (f : Int) (A : Option Addr) (c : Nat) (l : List Opw) (w : World) (hf : -9223372036854775808 ≤ f ∧ f ≤ 9223372036854775807) (hr : RdG 4 w A (l.map Opw.row)) (hsm : l.length ≤ 9223372036854775807) (hl : ∀ o ∈ l, OpwRd w o) :
    Calls Try.prog 3 #[.int .i64 f, .slice A l.length c] w fun e w' => e = .returned (.bool true) ∧ Below w.heap.size w w' := by
  have H := Lib.hid hT
  obtain ⟨zc, hz1, hz2⟩ := hT.zero
  have HZ2 := Lib.hid hz2
  have HAL := Lib.hid (alive_any22 hT w)
  have HR := Lib.hid (fun k hk => opw_at hr hl (k := k) hk)
  obtain ⟨n, hn⟩ : ∃ n, n = l.length := ⟨_, rfl⟩
  rw [← hn] at hsm HR ⊢
  have hzr : ∀ wx : World, (zeroValue 38).run Try.prog wx = .ok (.agg #[.int .i64 0, .bool false, .int .i64 0, .int .u32 0, .int .u16 0, .int .i64 0, .int .u32 0, .int .u16 0, .slice none 0 0]) wx := fun wx => by kernel_rfl
  clear hT hz2 hr hl hn
  by_cases hbig : 46116860184273879 < f
  · go_enter Try.func3, Try.ntmps3
    go_wp2_with (go_at_call 6; ((with_reducible refine (Hid.out HAL).mono ?_); rintro e wa ⟨rfl, hba⟩))
    go_ret
    exact ⟨rfl, hba⟩
  have hs0 : OkW (staW wz f) (((0 : Nat) : Int) + 1 * 46116860184273880) := staW_ok (wz_ok.mono (by decide)) (by omega)
  have hs0 : OkW (staW wz f) ((((0 : Nat) : Int) + 1) * 46116860184273880) := hs0.mono (by decide)
  have hfol0 : (staW wz f).fol = false → (staW wz f).O = [] := fun _ => by unfold staW; split <;> rfl
  have hlen0 : (staW wz f).O.length ≤ 0 := by rw [staW_len]; exact Nat.le_refl _
  have HS0 := Lib.hid (And.intro hs0 (And.intro hlen0 hfol0))
  clear hs0 hfol0 hlen0
  go_enter Try.func3, Try.ntmps3
  go_upto_region 8 with (first
    | (go_at_call 6; ((with_reducible refine (Hid.out HAL).mono ?_); rintro e wa ⟨rfl, hba⟩; have HBA := Lib.hid hba; have HP0 := Lib.hid ((OnK.pair (t := wz) (wy := (wa.alloc (.cells zc 32)).alloc (.cells #[.int .i64 0, .bool false, .int .i64 0, .int .u32 0, .int .u16 0, .int .i64 0, .int .u32 0, .int .u16 0, .slice none 0 0] 38)) H.out.lone (Rew.zero (T := T) (w0 := wa) (wx := wa) (Below.refl _ _) HZ2.out) ⟨r22_zero _, fun k hk => by rw [hk]; exact Nat.le_refl _, (Below.refl _ _).alloc (Nat.le_refl _) _⟩).1); have P0 := Lib.hid (Bth22.start H.out HP0.out f hf _ rfl); clear hba HP0))
    | (go_at_call 7; ((with_reducible refine (Hid.out P0).mono ?_); rintro e w2 ⟨rfl, HK2⟩; clear P0)))
  obtain ⟨p, hp⟩ : ∃ p, p = wa.heap.size := ⟨_, rfl⟩
  obtain ⟨g, hg⟩ : ∃ g, g = wa.heap.size + 1 := ⟨_, rfl⟩
  have HB2 : Hid (Bth22 T wa (fun _ => False) ⟨p, 0, none⟩ g (staW wz f) wz w2) := Lib.hid (by rw [hp, hg]; have := HK2.out.1; rw [World.size_alloc] at this; exact this)
  rw [← hg, ← hp]
  clear hp hg HK2
  obtain ⟨vO, hblk⟩ := HB2.out.blk
  have d0 : w2.cell? ⟨g, 0, none⟩ = some (.int .i64 0) := (hblk.cell 0).trans rfl
  have d1 : w2.frozen? ⟨g, 0, none⟩ = false := hblk.frozen 0
  have d2 := hblk.lt
  clear hblk
  go_upto_if 22 with (fail)
  go_cut [7] (fun _ wx => Hid (Ply22 T wa ⟨p, 0, none⟩ g 0 (staW wz f) wx))
  case first =>
    by_cases hfn : f < 0
    · have e0 : staW wz f = wz := by unfold staW; rw [if_pos (.inl hfn)]
      have HFN : Hid (Ply22 T wa ⟨p, 0, none⟩ g 0 (staW wz f) w2) := Lib.hid ⟨by have := HB2.out; rw [e0] at this ⊢; exact this, HS0.out.1, HS0.out.2.1, HS0.out.2.2⟩
      have hfn2 : ¬ 0 ≤ f := by omega
      clear e0 HB2
      go_wp2
      go_meet
      exact HFN
    · have HFN : Hid (Ply22 T wa ⟨p, 0, none⟩ g 0 (staW wz f) (w2.setCell ⟨g, 0, none⟩ (.int .i64 f))) := Lib.hid ⟨Bth22.first H.out.lone HB2.out f hfn, HS0.out.1, HS0.out.2.1, HS0.out.2.2⟩
      have hfn2 : 0 ≤ f := by omega
      clear HB2
      go_wp2
      go_meet
      exact HFN
  case rest =>
    clear d0 d1 d2 HB2 HZ2 HAL hz1 hzr HS0
    have HCUT := hcut
    clear hcut
    go_wp2
    go_loopw [7] (fun vi wr => ∃ (k : Nat) (s : Wtr), k ≤ n ∧ k ≤ 40 ∧ vi = .int .i64 k ∧ Hid (Ply22 T wa ⟨p, 0, none⟩ g k s wr)) (fun i _ => n - (intOf i).toNat)
    case atStart => exact ⟨0, _, by omega, by omega, rfl, HCUT⟩
    case round =>
      clear HCUT
      obtain ⟨k, s, hk, hk40, rfl, HS⟩ := hrel
      have HE := Lib.hid (HBA.out.trans (HS.out.b.below.mono HBA.out.size))
      by_cases hl1 : k < n
      · have hki : (k : Int) < (n : Int) := by omega
        by_cases hl2 : k < 40
        · have hk40i : (k : Int) < 40 := by omega
          obtain ⟨b, off, o, rfl, hx, hblt, hcs⟩ := HR.out k hl1
          obtain ⟨m, i, st, pc⟩ := o
          simp only at hcs hx
          have HX := Lib.hid hx
          obtain ⟨q0, q1, q2, q3⟩ := hcs wr HE.out
          have hbz : b < wr.heap.size := Nat.lt_of_lt_of_le hblt HE.out.size
          clear hcs hx
          by_cases hgr : 46116860184273879 < i
          · clear HS
            go_wp2
            go_ret
            exact ⟨rfl, HE.out.alloc HE.out.size _⟩
          have hok : OkM ⟨i, st, pc⟩ := ⟨⟨HX.out.1.1, by simp only; omega⟩, HX.out.2⟩
          have HOM := Lib.hid hok
          have hC : (⟨i, st, pc⟩ : Mpd).i ≤ 46116860184273879 := by simp only; omega
          have HC := Lib.hid hC
          have HKX := Lib.hid (Bth22.keep H.out.lone HS.out.b (.cells #[.int .i64 i, .int .u32 st, .int .u16 pc] 35))
          have HXB := Lib.hid (BlkV.new wr 35 [.int .i64 i, .int .u32 st, .int .u16 pc])
          have hokB : OkW s (((k : Int) + 1) * 46116860184273880) := HS.out.ok
          have HOK := Lib.hid hokB
          have hlen := HS.out.len
          have hl1000 : s.O.length ≤ 1000 := by omega
          have hB1 : ((k : Int) + 1) * 46116860184273880 ≤ 4611686018427387904 := by omega
          have hsum := sum_ok22 hokB (x := ⟨i, st, pc⟩) HC.out (by omega)
          have HSM := Lib.hid (And.intro hsum (And.intro hl1000 hB1))
          have HFO := Lib.hid HS.out.fol
          have HLN := Lib.hid hlen
          clear hok hC hokB hlen hl1000 hB1 hsum HS
          go_upto_if 49 with (fail)
          go_cut [9, 10, 11, 12] (fun _ _ _ _ wx => ∃ s, Hid (Ply22 T wa ⟨p, 0, none⟩ g (k + 1) s wx))
          case first =>
            cases m with
            | true =>
              obtain ⟨y, hy⟩ : ∃ y, mapY s ⟨i, st, pc⟩ = y := ⟨_, rfl⟩
              obtain ⟨z, hz⟩ : ∃ z, mapE s ⟨i, st, pc⟩ = z := ⟨_, rfl⟩
              have P1 := Lib.hid (Bth22.map H.out HKX.out HOK.out (by have := HSM.out.2.2; omega) ⟨i, st, pc⟩ HOM.out HSM.out.1 HSM.out.2.1 y z hy hz)
              have P2 := Lib.hid (fun wx o (h : Bth22 T wa (fun k => False ∨ k = wr.heap.size) ⟨p, 0, none⟩ g (mapW s ⟨i, st, pc⟩) s wx) => Bth22.rmap H.out.lone (Bth22.keep H.out.lone h o) HOK.out (by have := HSM.out.2.2; omega) ⟨i, st, pc⟩ HOM.out HSM.out.1 HSM.out.2.1 y z hy hz)
              have HFIN : Hid (∀ wx o (K : Nat → Prop), Bth22 T wa K ⟨p, 0, none⟩ g (mapW s ⟨i, st, pc⟩) (mapW s ⟨i, st, pc⟩) wx → Ply22 T wa ⟨p, 0, none⟩ g (k + 1) (mapW s ⟨i, st, pc⟩) (wx.alloc o)) := Lib.hid (fun wx o K h => ⟨(OnK.less (Bth22.on H.out.lone h ((Below.refl wx.heap.size wx).alloc (Nat.le_refl _) o)).1 (fun k hk => hk.elim)), (mapW_ok HOK.out HC.out (by decide)).mono (by rw [Int.natCast_add]; omega), by have := mapW_len s ⟨i, st, pc⟩; have := HLN.out; omega, mapW_fol HFO.out _⟩)
              obtain ⟨yi, ys, yp⟩ := y
              simp only at P1 P2
              clear hy hz HSM HFO HLN HOM HC
              go_wp2_with (first
                | (go_at_call 8; ((with_reducible refine (Hid.out P1).mono ?_); rintro e w4 ⟨rfl, HK4⟩; obtain ⟨x0, x1, x2, x3⟩ := mcells3 (kept_cells HK4.out.2 (.inr rfl) HXB.out); have P3 := Lib.hid (fun o => P2.out w4 o HK4.out.1); clear P1 P2))
                | (go_at_call 9; ((with_reducible refine (Hid.out P3 _).mono ?_); rintro e w5 ⟨rfl, HK5⟩; obtain ⟨y0, y1, y2, y3⟩ := mcells3 (kept_cells HK5.out.2 (.inr rfl) (BlkV.new w4 35 [.int .i64 yi, .int .u32 ys, .int .u16 yp])); clear P3)))
              go_meet
              exact ⟨_, Lib.hid (HFIN.out _ _ _ HK5.out.1)⟩
            | false =>
              obtain ⟨z, hz⟩ : ∃ z, folE ⟨i, st, pc⟩ = z := ⟨_, rfl⟩
              have hwd : ∀ wx : World, Below wx.heap.size wx wx.drew := fun wx => ⟨rfl, rfl, rfl, Nat.le_refl _, fun _ _ => rfl⟩
              have P1 := Lib.hid (Bth22.follow H.out (Bth22.on H.out.lone HKX.out (hwd _)).1 HOK.out HSM.out.2.2 ⟨i, st, pc⟩ HOM.out HSM.out.2.1 z hz)
              have P2 := Lib.hid (fun wx (h : Bth22 T wa (fun k => False ∨ k = wr.heap.size) ⟨p, 0, none⟩ g (folW s ⟨i, st, pc⟩) s wx) => Bth22.rfollow H.out.lone h HOK.out HSM.out.2.2 ⟨i, st, pc⟩ HOM.out HSM.out.2.1 z hz)
              have HFIN : Hid (∀ wx (K : Nat → Prop), Bth22 T wa K ⟨p, 0, none⟩ g (folW s ⟨i, st, pc⟩) (folW s ⟨i, st, pc⟩) wx → Ply22 T wa ⟨p, 0, none⟩ g (k + 1) (folW s ⟨i, st, pc⟩) wx) := Lib.hid (fun wx K h => ⟨h.less (fun k hk => hk.elim), (folW_ok HOK.out HOM.out).mono (by rw [Int.natCast_add]; omega), by rw [folW_len]; have := HLN.out; omega, folW_fol HFO.out _⟩)
              have HC3 : Hid (∀ wx, BlkV wx wr.heap.size 35 [.int .i64 i, .int .u32 st, .int .u16 pc] → wx.cell? ⟨wr.heap.size, 0, none⟩ = some (.int .i64 i) ∧ wx.cell? ⟨wr.heap.size, 1, none⟩ = some (.int .u32 st) ∧ wx.cell? ⟨wr.heap.size, 2, none⟩ = some (.int .u16 pc)) := Lib.hid (fun wx h => ⟨(mcells3 h).1, (mcells3 h).2.1, (mcells3 h).2.2.1⟩)
              have HS0 := Lib.hid (HC3.out (wr.alloc (.cells #[.int .i64 i, .int .u32 st, .int .u16 pc] 35)).drew HXB.out)
              clear hz HSM HFO HLN HOM HC hwd q0 q1 q2 q3
              go_upto_region 21 with (fail)
              go_region_held3 (fun wx => wx.cell? ⟨wr.heap.size, 0, none⟩ = some (.int .i64 i) ∧ wx.cell? ⟨wr.heap.size, 1, none⟩ = some (.int .u32 st) ∧ wx.cell? ⟨wr.heap.size, 2, none⟩ = some (.int .u16 pc))
                (first | with_reducible exact HS0.out | with_reducible exact HS4.out)
                (first
                  | (go_at_call 10; (with_reducible refine (Hid.out P1).mono ?_); rintro e w4 ⟨rfl, HK4⟩; have hx4 := kept_cells HK4.out.2 (.inr rfl) HXB.out; have HX4 := Lib.hid hx4; have HS4 := Lib.hid (HC3.out w4 hx4); have P3 := Lib.hid (P2.out w4 HK4.out.1); clear hx4)
                  | (go_at_call 11; (with_reducible refine (Hid.out P3).mono ?_); rintro e w5 ⟨rfl, HK5⟩; have HS4 := Lib.hid (HC3.out w5 (kept_cells HK5.out.2 (.inr rfl) HX4.out))))
              go_wp2
              go_meet
              exact ⟨_, Lib.hid (HFIN.out _ _ HK5.out.1)⟩
          case rest =>
            clear q0 q1 q2 q3 HKX HXB HOK HSM HFO HLN HOM HC hbz
            obtain ⟨s, HS⟩ := hcut
            obtain ⟨hv, hhv⟩ : ∃ hv, highW s = hv := ⟨_, rfl⟩
            have HHV := Lib.hid hhv
            have hl1 : s.O.length ≤ 1000 := by have := HS.out.len; omega
            have HL1 := Lib.hid hl1
            have P1 := Lib.hid (Bth22.high H.out HS.out.b HS.out.ok hl1 hv hhv)
            have HFIN : Hid (∀ wx, Bth22 T wa (fun _ => False) ⟨p, 0, none⟩ g s s wx → Ply22 T wa ⟨p, 0, none⟩ g (k + 1) s wx) := Lib.hid (fun wx h => ⟨h, HS.out.ok, HS.out.len, HS.out.fol⟩)
            have HFO := Lib.hid HS.out.fol
            obtain ⟨on, hon⟩ : ∃ on, on = s.O.length := ⟨_, rfl⟩
            have HON := Lib.hid hon
            clear hhv hl1 HS hon
            by_cases ho : 0 < on
            · have hft : s.fol = true := by
                cases h : s.fol with
                | true => rfl
                | false => exfalso; have h2 := HFO.out h; rw [HON.out, h2] at ho; exact absurd ho (by simp)
              have HFT := Lib.hid hft
              have hoi : (0 : Int) < (on : Int) := by omega
              clear hft ho
              go_wp2_with (first
                | (go_at_call 12; ((with_reducible refine (Hid.out P1).mono ?_); rintro e w6 ⟨rfl, HK6⟩; have P2 := Lib.hid (Bth22.rhigh H.out.lone HK6.out.1 HL1.out hv HHV.out); clear P1))
                | (go_at_call 13; ((with_reducible refine (Hid.out P2).mono ?_); rintro e w7 ⟨rfl, HK7⟩; obtain ⟨c1, A9, c9, c8⟩ := HK7.out.1.cells; rw [← HON.out] at c8; have P3 := Lib.hid (Bth22.start H.out HK7.out.1 5 (by decide) s (sta_is HFT.out 5)); clear P2))
                | (go_at_call 7; ((with_reducible refine (Hid.out P3).mono ?_); rintro e w8 ⟨rfl, HK8⟩; clear P3)))
              go_roundw
              case rel => exact ⟨k + 1, s, by omega, by omega, by go_num, Lib.hid (HFIN.out _ HK8.out.1)⟩
              case measure => (simp [intOf]; try omega)
            · have hoi : ¬ (0 : Int) < (on : Int) := by omega
              cases hff : s.fol with
              | true =>
                have HFT := Lib.hid hff
                clear hff ho
                go_wp2_with (first
                  | (go_at_call 12; ((with_reducible refine (Hid.out P1).mono ?_); rintro e w6 ⟨rfl, HK6⟩; have P2 := Lib.hid (Bth22.rhigh H.out.lone HK6.out.1 HL1.out hv HHV.out); clear P1))
                  | (go_at_call 13; ((with_reducible refine (Hid.out P2).mono ?_); rintro e w7 ⟨rfl, HK7⟩; obtain ⟨c1, A9, c9, c8⟩ := HK7.out.1.cells; rw [← HON.out] at c8; rw [HFT.out] at c1; have P3 := Lib.hid (Bth22.start H.out HK7.out.1 5 (by decide) s (sta_is HFT.out 5)); clear P2))
                  | (go_at_call 7; ((with_reducible refine (Hid.out P3).mono ?_); rintro e w8 ⟨rfl, HK8⟩; clear P3)))
                go_roundw
                case rel => exact ⟨k + 1, s, by omega, by omega, by go_num, Lib.hid (HFIN.out _ HK8.out.1)⟩
                case measure => (simp [intOf]; try omega)
              | false =>
                have HFF := Lib.hid hff
                clear hff ho
                go_wp2_with (first
                  | (go_at_call 12; ((with_reducible refine (Hid.out P1).mono ?_); rintro e w6 ⟨rfl, HK6⟩; have P2 := Lib.hid (Bth22.rhigh H.out.lone HK6.out.1 HL1.out hv HHV.out); clear P1))
                  | (go_at_call 13; ((with_reducible refine (Hid.out P2).mono ?_); rintro e w7 ⟨rfl, HK7⟩; obtain ⟨c1, A9, c9, c8⟩ := HK7.out.1.cells; rw [← HON.out] at c8; rw [HFF.out] at c1; clear P2)))
                go_roundw
                case rel => exact ⟨k + 1, s, by omega, by omega, by go_num, Lib.hid (HFIN.out _ HK7.out.1)⟩
                case measure => (simp [intOf]; try omega)
        · have hk40i : ¬ (k : Int) < 40 := by omega
          clear HS
          go_wp2
          go_ret
          exact ⟨rfl, HE.out⟩
      · have hki : ¬ (k : Int) < (n : Int) := by omega
        clear HS
        go_wp2
        go_ret
        exact ⟨rfl, HE.out⟩
end Go.Proofs.Ytjlfokfdieafeaa
