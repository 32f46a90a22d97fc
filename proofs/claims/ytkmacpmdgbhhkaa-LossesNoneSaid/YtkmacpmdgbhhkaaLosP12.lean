/- Contracts of package losses: Report, its fraction. No statement is proved here. -/
import Derived.Test.YtkmacpmdgbhhkaaLosP11
namespace Go.Proofs.Ytkmacpmdgbhhkaa
open Go.RowKit
set_option linter.unusedVariables false

set_option maxHeartbeats 1000000 in
theorem frc_any20 (aE aR aH bE bR bH : Int) (aV bV : Bool) (w : World) (h1 : -1099511627776 ≤ aE ∧ aE ≤ 1099511627776) (h2 : -1099511627776 ≤ aR ∧ aR ≤ 1099511627776) (h3 : -1099511627776 ≤ bE ∧ bE ≤ 1099511627776) (h4 : -1099511627776 ≤ bR ∧ bR ≤ 1099511627776) :
    Calls Try.prog 29 #[.agg #[.int .i64 aE, .int .i64 aR, .int .i64 aH, .bool aV], .agg #[.int .i64 bE, .int .i64 bR, .int .i64 bH, .bool bV]] w fun e w' => e = .returned (.int .u8 (frcK aE aR bE bR)) ∧ Below w.heap.size w w' := by
  have hb : ∀ o o2 q, Below w.heap.size w (((w.alloc o).alloc o2).drewN q) := fun o o2 q => (((Below.refl _ _).alloc (Nat.le_refl _) _).alloc (by simp) _).trans ⟨rfl, rfl, rfl, Nat.le_refl _, fun _ _ => rfl⟩
  have HB := Lib.hid hb
  clear hb
  by_cases c1 : bE ≤ aE
  · have HR : Hid (frcK aE aR bE bR = 0) := Lib.hid (by unfold frcK; rw [if_neg (by omega)])
    go_enter Try.func29, Try.ntmps29
    go_wp2
    go_ret
    exact ⟨by rw [HR.out]; rfl, HB.out _ _ 0⟩
  · by_cases c2 : bR ≤ aR
    · have HR : Hid (frcK aE aR bE bR = 255) := Lib.hid (by
        unfold frcK
        have h5 : bE - aE ≤ (bE - bR) - (aE - aR) := by omega
        have h6 : 256 ≤ ((bE - bR) - (aE - aR)) * 256 / (bE - aE) := by
          rw [Int.le_ediv_iff_mul_le (by omega)]
          omega
        rw [if_pos (by omega), if_pos (by omega)])
      go_enter Try.func29, Try.ntmps29
      go_wp2
      go_ret
      exact ⟨by rw [HR.out]; rfl, HB.out _ _ 0⟩
    · obtain ⟨e, he⟩ : ∃ e : Nat, (e : Int) = bE - aE := ⟨(bE - aE).toNat, by omega⟩
      obtain ⟨c, hc⟩ : ∃ c : Nat, (c : Int) = bR - aR := ⟨(bR - aR).toNat, by omega⟩
      have HC1 := Lib.hid (fun wx => above_any20 aE bE (e : Int) wx he (by omega) (by omega) (by omega))
      have HC2 := Lib.hid (fun wx => above_any20 aR bR (c : Int) wx hc (by omega) (by omega) (by omega))
      have he2 : 0 < e ∧ e ≤ 2199023255552 := by omega
      by_cases c3 : e ≤ c
      · have HR : Hid (frcK aE aR bE bR = 0) := Lib.hid (by unfold frcK; rw [if_neg (by omega)])
        have c3i : (e : Int) ≤ (c : Int) := by omega
        clear he hc
        go_enter Try.func29, Try.ntmps29
        go_wp2
        go_quiet (first
          | (go_at_call 35; with_reducible exact Calls.quiet_of_same (Hid.out HC1 _))
          | (go_at_call 35; with_reducible exact Calls.quiet_of_same (Hid.out HC2 _)))
        go_wp2
        go_ret
        exact ⟨by rw [HR.out]; rfl, HB.out _ _ _⟩
      · obtain ⟨x, hx⟩ : ∃ x : Nat, (e : Int) - (c : Int) = (x : Int) := ⟨e - c, by omega⟩
        have hxe : x < e := by omega
        have hq1 : x * 256 / e < 256 := by
          rw [Nat.div_lt_iff_lt_mul (by omega)]
          omega
        have HR : Hid (frcK aE aR bE bR = ((x * 256 / e : Nat) : Int)) := Lib.hid (by
          unfold frcK
          have e1 : (bE - bR) - (aE - aR) = (x : Int) := by omega
          have e2 : (x : Int) * 256 / (bE - aE) = ((x * 256 / e : Nat) : Int) := by rw [← he]; simp
          rw [e1, e2, if_pos (by omega), if_neg (by omega)])
        have HM := Lib.hid (fun wx => mul256_any20 x (by omega) wx)
        have HD := Lib.hid (fun wx => div_any20 (x * 256) e (by omega) (by omega) wx)
        obtain ⟨q, hq⟩ : ∃ q, q = x * 256 / e := ⟨_, rfl⟩
        rw [← hq] at HR HD hq1
        rw [show ((x * 256 : Nat) : Int) = (x : Int) * 256 by omega] at HD
        have c3i : ¬ (e : Int) ≤ (c : Int) := by omega
        have hqw : IntKind.u8.wrap (q : Int) = (q : Int) := by rw [IntKind.wrap_u8]; omega
        clear he hc hq c3
        go_enter Try.func29, Try.ntmps29
        go_wp2
        go_quiet (first
          | (go_at_call 35; with_reducible exact Calls.quiet_of_same (Hid.out HC1 _))
          | (go_at_call 35; with_reducible exact Calls.quiet_of_same (Hid.out HC2 _)))
        go_wp2_with (first
          | (go_at_call 36; ((with_reducible refine (Hid.out HM _).mono ?_); rintro e' w' ⟨rfl, rfl⟩))
          | (go_at_call 37; ((with_reducible refine (Hid.out HD _).mono ?_); rintro e' w' ⟨r, rfl, nn, rfl⟩)))
        go_ret
        exact ⟨by rw [HR.out]; rfl, HB.out _ _ _⟩
theorem Rep20.bel {w W W2 : World} {g : Nat} {rep a b zr : List Value} (h : Rep20 w g rep a b zr W) (hb : Below W.heap.size W W2) : Rep20 w g rep a b zr W2 :=
  ⟨h.r.below hb h.r.lt, h.a.below hb h.a.lt, h.b.below hb h.b.lt, h.z.below hb h.z.lt, h.below.trans (hb.mono h.below.size), h.le⟩
theorem rowStd20 {a b c d : Value} : RowTy Try.prog 50 [a, b, c, d].length := ⟨_, Try.underlying50, rfl, by kernel_rfl⟩
set_option maxRecDepth 100000 in
set_option maxHeartbeats 1000000 in
theorem report_any20 (S Fr0 Lo Hi J La De aE aR aH bE bR bH : Int) (aV bV : Bool) (w : World) (h1 : -1099511627776 ≤ aE ∧ aE ≤ 1099511627776) (h2 : -1099511627776 ≤ aR ∧ aR ≤ 1099511627776) (h3 : -1099511627776 ≤ bE ∧ bE ≤ 1099511627776) (h4 : -1099511627776 ≤ bR ∧ bR ≤ 1099511627776) :
    Calls Try.prog 17 #[.agg #[.int .u32 S, .int .u8 Fr0, .int .i32 Lo, .int .u32 Hi, .int .u32 J, .int .u32 La, .int .u32 De], .agg #[.int .i64 aE, .int .i64 aR, .int .i64 aH, .bool aV], .agg #[.int .i64 bE, .int .i64 bR, .int .i64 bH, .bool bV]] w fun e w' =>
      e = .returned (.agg #[.int .u32 S, .int .u8 (frcK aE aR bE bR), .int .i32 (lostK bE bR), .int .u32 (bH % 4294967296), .int .u32 J, .int .u32 La, .int .u32 De]) ∧ Below w.heap.size w w' := by
  have hzr : ∀ wx : World, (zeroValue 48).run Try.prog wx = .ok (.agg #[.int .u32 0, .int .u8 0, .int .i32 0, .int .u32 0, .int .u32 0, .int .u32 0, .int .u32 0]) wx := fun wx => by kernel_rfl
  have HLO := Lib.hid (fun wx => lost_any20 bE bR bH bV wx h3 h4)
  have HFR := Lib.hid (fun wx => frc_any20 aE aR aH bE bR bH aV bV wx h1 h2 h3 h4)
  have wh : IntKind.u32.wrap bH = bH % 4294967296 := by rw [IntKind.wrap_u32]
  obtain ⟨hi, hhi⟩ : ∃ hi, hi = bH % 4294967296 := ⟨_, rfl⟩
  obtain ⟨lo, hlo⟩ : ∃ lo, lo = lostK bE bR := ⟨_, rfl⟩
  obtain ⟨fr, hfr⟩ : ∃ fr, fr = frcK aE aR bE bR := ⟨_, rfl⟩
  rw [← hlo] at HLO
  rw [← hfr] at HFR
  rw [← hhi] at wh
  rw [← hhi, ← hlo, ← hfr]
  clear hhi hlo hfr h1 h2 h3 h4
  go_enter Try.func17, Try.ntmps17
  go_upto_region 1 with (fail)
  have HREP : Rep20 w w.heap.size [.int .u32 S, .int .u8 Fr0, .int .i32 Lo, .int .u32 Hi, .int .u32 J, .int .u32 La, .int .u32 De] [.int .i64 aE, .int .i64 aR, .int .i64 aH, .bool aV] [.int .i64 bE, .int .i64 bR, .int .i64 bH, .bool bV] [.int .u32 0, .int .u8 0, .int .i32 0, .int .u32 0, .int .u32 0, .int .u32 0, .int .u32 0]
      ((((w.alloc (.cells #[.int .u32 S, .int .u8 Fr0, .int .i32 Lo, .int .u32 Hi, .int .u32 J, .int .u32 La, .int .u32 De] 48)).alloc (.cells #[.int .i64 aE, .int .i64 aR, .int .i64 aH, .bool aV] 50)).alloc (.cells #[.int .i64 bE, .int .i64 bR, .int .i64 bH, .bool bV] 50)).alloc (.cells #[.int .u32 0, .int .u8 0, .int .i32 0, .int .u32 0, .int .u32 0, .int .u32 0, .int .u32 0] 48)) :=
    ⟨(((BlkV.new w _ _).alloc _).alloc _).alloc _, ((BlkV.new_at _ _ _ _ _ (by simp) rfl).alloc _).alloc _, (BlkV.new_at _ _ _ _ _ (by simp) rfl).alloc _, BlkV.new_at _ _ _ _ _ (by simp) rfl, ((((Below.refl _ _).alloc (Nat.le_refl _) _).alloc (by simp) _).alloc (by simp; omega) _).alloc (by simp; omega) _, Nat.le_refl _⟩
  obtain ⟨W, hW⟩ : ∃ W, W = ((((w.alloc (.cells #[.int .u32 S, .int .u8 Fr0, .int .i32 Lo, .int .u32 Hi, .int .u32 J, .int .u32 La, .int .u32 De] 48)).alloc (.cells #[.int .i64 aE, .int .i64 aR, .int .i64 aH, .bool aV] 50)).alloc (.cells #[.int .i64 bE, .int .i64 bR, .int .i64 bH, .bool bV] 50)).alloc (.cells #[.int .u32 0, .int .u8 0, .int .i32 0, .int .u32 0, .int .u32 0, .int .u32 0, .int .u32 0] 48)) := ⟨_, rfl⟩
  rw [← hW] at HREP ⊢
  clear hW
  obtain ⟨g, hg⟩ : ∃ g, g = w.heap.size := ⟨_, rfl⟩
  rw [← hg] at HREP ⊢
  clear hg
  have cb2 : W.cell? ⟨g + 1 + 1, 2, none⟩ = some (.int .i64 bH) := (HREP.b.cell 2).trans rfl
  have c3 : W.cell? ⟨g, 3, none⟩ = some (.int .u32 Hi) := (HREP.r.cell 3).trans rfl
  have f3 : W.frozen? ⟨g, 3, none⟩ = false := HREP.r.frozen 3
  have gl := HREP.r.lt
  have H0 := Lib.hid HREP
  clear HREP
  go_upto_region 2 with (fail)
  have H1 := Lib.hid (H0.out.set_r 3 (.int .u32 hi))
  obtain ⟨W1, hW1⟩ : ∃ W1, W1 = W.setCell ⟨g, 3, none⟩ (.int .u32 hi) := ⟨_, rfl⟩
  rw [← hW1] at H1 ⊢
  clear hW1 cb2 c3 f3 gl H0
  have RB1 : Hid (W1.rangeAt (g + 1 + 1) 0 [.int .i64 bE, .int .i64 bR, .int .i64 bH, .bool bV]) := Lib.hid (H1.out.b.range 0 _ (fun i _ => by rw [Nat.zero_add]))
  go_upto_region 3 with (first
    | (with_reducible refine wpList_ld rfl 50 (.tmp 5) rfl (g + 1 + 1) 0 rfl _ RB1.out rowStd20 ?_)
    | (go_at_call 28; ((with_reducible refine (Hid.out HLO _).mono ?_); rintro e w2 ⟨rfl, hb2⟩; have H2 := Lib.hid (H1.out.bel hb2); have c2 : w2.cell? ⟨g, 2, none⟩ = some (.int .i32 Lo) := (H2.out.r.cell 2).trans rfl; have f2 : w2.frozen? ⟨g, 2, none⟩ = false := H2.out.r.frozen 2; have g2 := H2.out.r.lt; clear hb2)))
  have H3 := Lib.hid (H2.out.set_r 2 (.int .i32 lo))
  obtain ⟨W3, hW3⟩ : ∃ W3, W3 = w2.setCell ⟨g, 2, none⟩ (.int .i32 lo) := ⟨_, rfl⟩
  rw [← hW3] at H3 ⊢
  clear hW3 c2 f2 g2 H2 RB1 H1
  have RA3 : Hid (W3.rangeAt (g + 1) 0 [.int .i64 aE, .int .i64 aR, .int .i64 aH, .bool aV]) := Lib.hid (H3.out.a.range 0 _ (fun i _ => by rw [Nat.zero_add]))
  have RB3 : Hid (W3.rangeAt (g + 1 + 1) 0 [.int .i64 bE, .int .i64 bR, .int .i64 bH, .bool bV]) := Lib.hid (H3.out.b.range 0 _ (fun i _ => by rw [Nat.zero_add]))
  go_upto_region 4 with (first
    | (with_reducible refine wpList_ld rfl 50 (.tmp 4) rfl (g + 1) 0 rfl _ RA3.out rowStd20 ?_)
    | (with_reducible refine wpList_ld rfl 50 (.tmp 5) rfl (g + 1 + 1) 0 rfl _ RB3.out rowStd20 ?_)
    | (go_at_call 29; ((with_reducible refine (Hid.out HFR _).mono ?_); rintro e w4 ⟨rfl, hb4⟩; have H4 := Lib.hid (H3.out.bel hb4); have c4 : w4.cell? ⟨g, 1, none⟩ = some (.int .u8 Fr0) := (H4.out.r.cell 1).trans rfl; have f4 : w4.frozen? ⟨g, 1, none⟩ = false := H4.out.r.frozen 1; have g4 := H4.out.r.lt; clear hb4)))
  have H5 := Lib.hid (H4.out.set_r 1 (.int .u8 fr))
  obtain ⟨W5, hW5⟩ : ∃ W5, W5 = w4.setCell ⟨g, 1, none⟩ (.int .u8 fr) := ⟨_, rfl⟩
  rw [← hW5] at H5 ⊢
  clear hW5 c4 f4 g4 H4 RA3 RB3 H3
  have HRG : Hid (W5.rangeAt g 0 [.int .u32 S, .int .u8 fr, .int .i32 lo, .int .u32 hi, .int .u32 J, .int .u32 La, .int .u32 De]) := Lib.hid (H5.out.r.range 0 _ (fun i _ => by rw [Nat.zero_add]; rfl))
  go_wp2_with (first
    | ((with_reducible refine wpList_ld rfl 48 (.tmp 3) rfl g 0 rfl _ HRG.out rowRep ?_))
    | ((refine wpList_st rfl 48 (.tmp 6) (.tmp 18) rfl (g + 1 + 1 + 1) 0 [.int .u32 S, .int .u8 fr, .int .i32 lo, .int .u32 hi, .int .u32 J, .int .u32 La, .int .u32 De] rfl rfl 48 _ H5.out.z (Nat.le_of_eq rfl) rowRep rep_one ?_); intro w6 hB6 ho6; rw [splice_all _ _ (by rfl)] at hB6))
  exact ret_row (by rfl) (by rfl) hB6 rowRep (by rfl) ⟨rfl, H5.out.below.trans (ho6.below (by have := H5.out.le; omega))⟩
end Go.Proofs.Ytkmacpmdgbhhkaa
