/- LossesNone's and LossesReports' walks (printed by gen/losl2.py). -/
import Derived.Test.YtkmacpmdgbhhkaaLosL1
import Derived.Laws.StructEq
import Derived.Deep.RegionHeld3
namespace Go.Proofs.Ytkmacpmdgbhhkaa
open Go.RowKit
set_option linter.unusedVariables false

theorem lossesNone_walk {T : World → Value → Kpr → (Nat → Prop) → Prop} (hT : Tells20 T) (i tk : Int) (w : World) :
    Calls Try.prog 6 #[.int .i64 i, .int .i64 tk] w fun e w' => e = .returned (.bool true) ∧ Below w.heap.size w w' := by
  have HA := Lib.hid (alive_any20 hT w)
  have H := Lib.hid hT
  clear hT
  go_enter Try.func6, Try.ntmps6
  go_wp2_with (first
    | (go_at_call 7; ((with_reducible refine (Hid.out HA).mono ?_); rintro e w1 ⟨rfl, hb1⟩; have HB := Lib.hid hb1; clear hb1))
    | (go_at_call 13; ((with_reducible refine (H.out.cameNil _ _ _).mono ?_); rintro e w2 ⟨rfl, hb2⟩))
    | (go_at_call 15; ((with_reducible refine (H.out.missingNil _).mono ?_); rintro e w3 ⟨Am, cm, rfl, hb3⟩))
    | (go_at_call 11; ((with_reducible refine (H.out.askNil _ _).mono ?_); rintro e w4 ⟨Aa, ca, rfl, hb4⟩)))
  go_ret
  have b1 := HB.out
  have b2 := b1.trans (hb2.out.mono b1.size)
  have b3 := b2.trans (hb3.out.mono b2.size)
  exact ⟨rfl, b3.trans (hb4.out.mono b3.size)⟩

/-- The three boxes of a report and two standings. -/
structure Box20 (g : Nat) (rep a b : List Value) (W : World) : Prop where
  r : BlkV W g 48 rep
  a : BlkV W (g + 1) 50 a
  b : BlkV W (g + 1 + 1) 50 b
theorem Box20.below {g : Nat} {rep a b : List Value} {W W2 : World} (h : Box20 g rep a b W) (hb : Below W.heap.size W W2) : Box20 g rep a b W2 := ⟨h.r.below hb h.r.lt, h.a.below hb h.a.lt, h.b.below hb h.b.lt⟩
theorem Box20.cells {g : Nat} {S Fr0 Lo Hi J La De aE aR aH bE bR bH : Int} {aV bV : Bool} {W : World} (h : Box20 g [.int .u32 S, .int .u8 Fr0, .int .i32 Lo, .int .u32 Hi, .int .u32 J, .int .u32 La, .int .u32 De] [.int .i64 aE, .int .i64 aR, .int .i64 aH, .bool aV] [.int .i64 bE, .int .i64 bR, .int .i64 bH, .bool bV] W) :
    W.cell? ⟨g, 0, none⟩ = some (.int .u32 S) ∧ W.cell? ⟨g, 1, none⟩ = some (.int .u8 Fr0) ∧ W.cell? ⟨g, 2, none⟩ = some (.int .i32 Lo) ∧ W.cell? ⟨g, 3, none⟩ = some (.int .u32 Hi) ∧ W.cell? ⟨g, 4, none⟩ = some (.int .u32 J) ∧ W.cell? ⟨g, 5, none⟩ = some (.int .u32 La) ∧ W.cell? ⟨g, 6, none⟩ = some (.int .u32 De) ∧ W.cell? ⟨g + 1, 0, none⟩ = some (.int .i64 aE) ∧ W.cell? ⟨g + 1, 1, none⟩ = some (.int .i64 aR) ∧ W.cell? ⟨g + 1, 2, none⟩ = some (.int .i64 aH) ∧ W.cell? ⟨g + 1, 3, none⟩ = some (.bool aV) ∧ W.cell? ⟨g + 1 + 1, 0, none⟩ = some (.int .i64 bE) ∧ W.cell? ⟨g + 1 + 1, 1, none⟩ = some (.int .i64 bR) ∧ W.cell? ⟨g + 1 + 1, 2, none⟩ = some (.int .i64 bH) ∧ W.cell? ⟨g + 1 + 1, 3, none⟩ = some (.bool bV) :=
  ⟨(h.r.cell 0).trans rfl, (h.r.cell 1).trans rfl, (h.r.cell 2).trans rfl, (h.r.cell 3).trans rfl, (h.r.cell 4).trans rfl, (h.r.cell 5).trans rfl, (h.r.cell 6).trans rfl, (h.a.cell 0).trans rfl, (h.a.cell 1).trans rfl, (h.a.cell 2).trans rfl, (h.a.cell 3).trans rfl, (h.b.cell 0).trans rfl, (h.b.cell 1).trans rfl, (h.b.cell 2).trans rfl, (h.b.cell 3).trans rfl⟩
set_option maxRecDepth 100000 in
set_option maxHeartbeats 1000000 in
theorem lossesReports_walk {T : World → Value → Kpr → (Nat → Prop) → Prop} (hT : Tells20 T) (S Fr0 Lo Hi J La De aE aR aH bE bR bH : Int) (aV bV : Bool) (w : World) :
    Calls Try.prog 5 #[.agg #[.int .u32 S, .int .u8 Fr0, .int .i32 Lo, .int .u32 Hi, .int .u32 J, .int .u32 La, .int .u32 De], .agg #[.int .i64 aE, .int .i64 aR, .int .i64 aH, .bool aV], .agg #[.int .i64 bE, .int .i64 bR, .int .i64 bH, .bool bV]] w fun e w' => e = .returned (.bool true) ∧ Below w.heap.size w w' := by
  have HA := Lib.hid (fun wx => alive_any20 hT wx)
  have hb0 : Below w.heap.size w (((w.alloc (.cells #[.int .u32 S, .int .u8 Fr0, .int .i32 Lo, .int .u32 Hi, .int .u32 J, .int .u32 La, .int .u32 De] 48)).alloc (.cells #[.int .i64 aE, .int .i64 aR, .int .i64 aH, .bool aV] 50)).alloc (.cells #[.int .i64 bE, .int .i64 bR, .int .i64 bH, .bool bV] 50)) := (((Below.refl _ _).alloc (Nat.le_refl _) _).alloc (by simp) _).alloc (by simp; omega) _
  have hB0 : Box20 w.heap.size [.int .u32 S, .int .u8 Fr0, .int .i32 Lo, .int .u32 Hi, .int .u32 J, .int .u32 La, .int .u32 De] [.int .i64 aE, .int .i64 aR, .int .i64 aH, .bool aV] [.int .i64 bE, .int .i64 bR, .int .i64 bH, .bool bV] (((w.alloc (.cells #[.int .u32 S, .int .u8 Fr0, .int .i32 Lo, .int .u32 Hi, .int .u32 J, .int .u32 La, .int .u32 De] 48)).alloc (.cells #[.int .i64 aE, .int .i64 aR, .int .i64 aH, .bool aV] 50)).alloc (.cells #[.int .i64 bE, .int .i64 bR, .int .i64 bH, .bool bV] 50)) :=
    ⟨((BlkV.new w _ _).alloc _).alloc _, (BlkV.new_at _ _ _ _ _ (by simp) rfl).alloc _, BlkV.new_at _ _ _ _ _ (by simp) rfl⟩
  obtain ⟨W1, hW1⟩ : ∃ W1, W1 = (((w.alloc (.cells #[.int .u32 S, .int .u8 Fr0, .int .i32 Lo, .int .u32 Hi, .int .u32 J, .int .u32 La, .int .u32 De] 48)).alloc (.cells #[.int .i64 aE, .int .i64 aR, .int .i64 aH, .bool aV] 50)).alloc (.cells #[.int .i64 bE, .int .i64 bR, .int .i64 bH, .bool bV] 50)) := ⟨_, rfl⟩
  rw [← hW1] at hb0 hB0
  have HB0 := Lib.hid (And.intro hb0 hB0)
  have HW1 := Lib.hid hW1
  have HP := Lib.hid (fun h1 h2 h3 h4 wx => hT.report S Fr0 Lo Hi J La De aE aR aH bE bR bH aV bV wx h1 h2 h3 h4)
  have HR := Lib.hid (fun h1 h2 h3 h4 wx => rrep_any20 S Fr0 Lo Hi J La De aE aR aH bE bR bH aV bV wx h1 h2 h3 h4)
  clear hb0 hB0 hW1 hT
  go_enter Try.func5, Try.ntmps5
  go_upto_region 3 with (go_at_call 7; (rw [← HW1.out]; (with_reducible refine (HA.out _).mono ?_); rintro e w2 ⟨rfl, hb2⟩; have HB2 := Lib.hid (And.intro (HB0.out.1.trans (hb2.mono HB0.out.1.size)) (HB0.out.2.below hb2)); clear hb2))
  obtain ⟨g, hg⟩ : ∃ g, g = w.heap.size := ⟨_, rfl⟩
  have HB3 : Hid (Below w.heap.size w w2 ∧ Box20 g [.int .u32 S, .int .u8 Fr0, .int .i32 Lo, .int .u32 Hi, .int .u32 J, .int .u32 La, .int .u32 De] [.int .i64 aE, .int .i64 aR, .int .i64 aH, .bool aV] [.int .i64 bE, .int .i64 bR, .int .i64 bH, .bool bV] w2) := Lib.hid (by rw [hg]; exact HB2.out)
  have HBE := Lib.hid HB3.out.1
  rw [← hg]
  clear hg HB2 HB0 HW1 HA
  have ca0 := (HB3.out.2.a.cell 0).trans rfl
  have ca1 := (HB3.out.2.a.cell 1).trans rfl
  have cb0 := (HB3.out.2.b.cell 0).trans rfl
  have cb1 := (HB3.out.2.b.cell 1).trans rfl
  by_cases h0 : 1099511627776 < aE
  · clear HP HR HB3
    go_wp2
    go_ret
    exact ⟨rfl, HBE.out⟩
  by_cases h1 : 1099511627776 < aR
  · clear HP HR HB3
    go_wp2
    go_ret
    exact ⟨rfl, HBE.out⟩
  by_cases h2 : 1099511627776 < bE
  · clear HP HR HB3
    go_wp2
    go_ret
    exact ⟨rfl, HBE.out⟩
  by_cases h3 : 1099511627776 < bR
  · clear HP HR HB3
    go_wp2
    go_ret
    exact ⟨rfl, HBE.out⟩
  by_cases h4 : aE < -1099511627776
  · clear HP HR HB3
    go_wp2
    go_ret
    exact ⟨rfl, HBE.out⟩
  by_cases h5 : aR < -1099511627776
  · clear HP HR HB3
    go_wp2
    go_ret
    exact ⟨rfl, HBE.out⟩
  by_cases h6 : bE < -1099511627776
  · clear HP HR HB3
    go_wp2
    go_ret
    exact ⟨rfl, HBE.out⟩
  by_cases h7 : bR < -1099511627776
  · clear HP HR HB3
    go_wp2
    go_ret
    exact ⟨rfl, HBE.out⟩
  have HP2 := Lib.hid (HP.out (by omega) (by omega) (by omega) (by omega))
  have HR2 := Lib.hid (HR.out (by omega) (by omega) (by omega) (by omega))
  clear HP HR
  go_upto_region 5 with (fail)
  obtain ⟨fr, hfr⟩ : ∃ fr, fr = frcK aE aR bE bR := ⟨_, rfl⟩
  obtain ⟨lo, hlo⟩ : ∃ lo, lo = lostK bE bR := ⟨_, rfl⟩
  obtain ⟨hi, hhi⟩ : ∃ hi, hi = bH % 4294967296 := ⟨_, rfl⟩
  rw [← hfr, ← hlo, ← hhi] at HP2 HR2
  have hd : Below w2.heap.size w2 w2.drew := ⟨rfl, rfl, rfl, Nat.le_refl _, fun _ _ => rfl⟩
  have HB4 := Lib.hid (And.intro (HBE.out.trans (hd.mono HBE.out.size)) (HB3.out.2.below hd))
  have HS0 := Lib.hid HB4.out.2.cells
  clear ca0 ca1 cb0 cb1 hfr hlo hhi HB3 HBE hd
  go_region_held3 (fun wx => wx.cell? ⟨g, 0, none⟩ = some (.int .u32 S) ∧ wx.cell? ⟨g, 1, none⟩ = some (.int .u8 Fr0) ∧ wx.cell? ⟨g, 2, none⟩ = some (.int .i32 Lo) ∧ wx.cell? ⟨g, 3, none⟩ = some (.int .u32 Hi) ∧ wx.cell? ⟨g, 4, none⟩ = some (.int .u32 J) ∧ wx.cell? ⟨g, 5, none⟩ = some (.int .u32 La) ∧ wx.cell? ⟨g, 6, none⟩ = some (.int .u32 De) ∧ wx.cell? ⟨g + 1, 0, none⟩ = some (.int .i64 aE) ∧ wx.cell? ⟨g + 1, 1, none⟩ = some (.int .i64 aR) ∧ wx.cell? ⟨g + 1, 2, none⟩ = some (.int .i64 aH) ∧ wx.cell? ⟨g + 1, 3, none⟩ = some (.bool aV) ∧ wx.cell? ⟨g + 1 + 1, 0, none⟩ = some (.int .i64 bE) ∧ wx.cell? ⟨g + 1 + 1, 1, none⟩ = some (.int .i64 bR) ∧ wx.cell? ⟨g + 1 + 1, 2, none⟩ = some (.int .i64 bH) ∧ wx.cell? ⟨g + 1 + 1, 3, none⟩ = some (.bool bV))
    (first | with_reducible exact HS0.out | with_reducible exact HS3.out | with_reducible exact HS4.out)
    (first
      | (go_at_call 17; (with_reducible refine (HP2.out _).mono ?_); rintro e w3 ⟨rfl, hb3⟩; have HB5 := Lib.hid (And.intro (HB4.out.1.trans (hb3.mono HB4.out.1.size)) (HB4.out.2.below hb3)); have HS3 := Lib.hid HB5.out.2.cells; clear hb3)
      | (go_at_call 18; (with_reducible refine (HR2.out _).mono ?_); rintro e w4 ⟨rfl, hb4⟩; have HB6 := Lib.hid (And.intro (HB5.out.1.trans (hb4.mono HB5.out.1.size)) (HB5.out.2.below hb4)); have HS4 := Lib.hid HB6.out.2.cells; clear hb4))
  go_wp2
  go_ret
  exact ⟨rfl, HB6.out.1⟩
end Go.Proofs.Ytkmacpmdgbhhkaa
