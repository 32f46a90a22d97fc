/- What the document's answers for layer 20 (tenailleref20) answer: a report of standings, its walk. No statement is proved here. -/
import Derived.Test.YtkmacpmdgbhhkaaLosRep
import Derived.Test.YtkmacpmdgbhhkaaMem
namespace Go.Proofs.Ytkmacpmdgbhhkaa
open Go.RowKit
set_option linter.unusedVariables false

/-- The four blocks of a report under way: the report, both standings, the result. -/
structure Rep20 (w : World) (g : Nat) (rep a b zr : List Value) (W : World) : Prop where
  r : BlkV W g 48 rep
  a : BlkV W (g + 1) 50 a
  b : BlkV W (g + 1 + 1) 50 b
  z : BlkV W (g + 1 + 1 + 1) 48 zr
  below : Below w.heap.size w W
  le : w.heap.size ≤ g
section
variable {w W W2 : World} {g : Nat} {rep a b zr : List Value}
theorem Rep20.set_r (h : Rep20 w g rep a b zr W) (j : Nat) (v : Value) : Rep20 w g (rep.set j v) a b zr (W.setCell ⟨g, j, none⟩ v) := by
  have ho := Only.set W g j v
  exact ⟨h.r.set_ j v, h.a.only ho (by omega), h.b.only ho (by omega), h.z.only ho (by omega), h.below.trans (ho.below h.le), h.le⟩
theorem Rep20.drewN (h : Rep20 w g rep a b zr W) (n : Nat) : Rep20 w g rep a b zr (W.drewN n) := ⟨h.r, h.a, h.b, h.z, h.below.trans ⟨rfl, rfl, rfl, Nat.le_refl _, fun _ _ => rfl⟩, h.le⟩
end

theorem rep_one {a b c d e f g : Int} : ∀ v ∈ ([.int .u32 a, .int .u8 b, .int .i32 c, .int .u32 d, .int .u32 e, .int .u32 f, .int .u32 g] : List Value), v.oneCell' = true := by simp [Value.oneCell']
theorem rowRep {a b c d e f g : Value} : RowTy Try.prog 48 [a, b, c, d, e, f, g].length := ⟨_, Try.underlying48, rfl, by kernel_rfl⟩
set_option maxRecDepth 100000 in
set_option maxHeartbeats 1000000 in
theorem rrep_any20 (S Fr0 Lo Hi J La De aE aR aH bE bR bH : Int) (aV bV : Bool) (w : World) (h1 : -1099511627776 ≤ aE ∧ aE ≤ 1099511627776) (h2 : -1099511627776 ≤ aR ∧ aR ≤ 1099511627776) (h3 : -1099511627776 ≤ bE ∧ bE ≤ 1099511627776) (h4 : -1099511627776 ≤ bR ∧ bR ≤ 1099511627776) :
    Calls Try.prog 18 #[.agg #[.int .u32 S, .int .u8 Fr0, .int .i32 Lo, .int .u32 Hi, .int .u32 J, .int .u32 La, .int .u32 De], .agg #[.int .i64 aE, .int .i64 aR, .int .i64 aH, .bool aV], .agg #[.int .i64 bE, .int .i64 bR, .int .i64 bH, .bool bV]] w fun e w' =>
      e = .returned (.agg #[.int .u32 S, .int .u8 (frcK aE aR bE bR), .int .i32 (lostK bE bR), .int .u32 (bH % 4294967296), .int .u32 J, .int .u32 La, .int .u32 De]) ∧ Below w.heap.size w w' := by
  have hzr : ∀ wx : World, (zeroValue 48).run Try.prog wx = .ok (.agg #[.int .u32 0, .int .u8 0, .int .i32 0, .int .u32 0, .int .u32 0, .int .u32 0, .int .u32 0]) wx := fun wx => by kernel_rfl
  obtain ⟨s, hs⟩ : ∃ s, s = bE - aE := ⟨_, rfl⟩
  obtain ⟨lo, hlo⟩ : ∃ lo, lo = bE - bR := ⟨_, rfl⟩
  obtain ⟨d, hd⟩ : ∃ d, d = aE - aR := ⟨_, rfl⟩
  obtain ⟨q, hq⟩ : ∃ q, q = lo - d := ⟨_, rfl⟩
  have HFR : Hid (frcK aE aR bE bR = if 0 < s ∧ 0 < q then (if 255 < q * 256 / s then 255 else q * 256 / s) else 0) := Lib.hid (by rw [hq, hlo, hd, hs]; rfl)
  have HLO : Hid (lostK bE bR = if 8388607 < lo then 8388607 else if lo < -8388608 then -8388608 else lo) := Lib.hid (by rw [hlo]; rfl)
  have ws : IntKind.i64.wrap (bE - aE) = s := by rw [IntKind.wrap_i64]; omega
  have wl : IntKind.i64.wrap (bE - bR) = lo := by rw [IntKind.wrap_i64]; omega
  have wd : IntKind.i64.wrap (aE - aR) = d := by rw [IntKind.wrap_i64]; omega
  have wq : IntKind.i64.wrap (lo - d) = q := by rw [IntKind.wrap_i64]; omega
  have bs : -2199023255552 ≤ s ∧ s ≤ 2199023255552 := by omega
  have bl : -2199023255552 ≤ lo ∧ lo ≤ 2199023255552 := by omega
  have bq : -4398046511104 ≤ q ∧ q ≤ 4398046511104 := by omega
  have wh : IntKind.u32.wrap bH = bH % 4294967296 := by rw [IntKind.wrap_u32]
  obtain ⟨hi, hhi⟩ : ∃ hi, hi = bH % 4294967296 := ⟨_, rfl⟩
  rw [← hhi] at wh ⊢
  clear hs hlo hd hq hhi
  go_enter Try.func18, Try.ntmps18
  go_upto_region 1 with (fail)
  have HREP : Rep20 w w.heap.size [.int .u32 S, .int .u8 Fr0, .int .i32 Lo, .int .u32 Hi, .int .u32 J, .int .u32 La, .int .u32 De] [.int .i64 aE, .int .i64 aR, .int .i64 aH, .bool aV] [.int .i64 bE, .int .i64 bR, .int .i64 bH, .bool bV] [.int .u32 0, .int .u8 0, .int .i32 0, .int .u32 0, .int .u32 0, .int .u32 0, .int .u32 0]
      ((((w.alloc (.cells #[.int .u32 S, .int .u8 Fr0, .int .i32 Lo, .int .u32 Hi, .int .u32 J, .int .u32 La, .int .u32 De] 48)).alloc (.cells #[.int .i64 aE, .int .i64 aR, .int .i64 aH, .bool aV] 50)).alloc (.cells #[.int .i64 bE, .int .i64 bR, .int .i64 bH, .bool bV] 50)).alloc (.cells #[.int .u32 0, .int .u8 0, .int .i32 0, .int .u32 0, .int .u32 0, .int .u32 0, .int .u32 0] 48)) :=
    ⟨(((BlkV.new w _ _).alloc _).alloc _).alloc _, ((BlkV.new_at _ _ _ _ _ (by simp) rfl).alloc _).alloc _, (BlkV.new_at _ _ _ _ _ (by simp) rfl).alloc _, BlkV.new_at _ _ _ _ _ (by simp) rfl, ((((Below.refl _ _).alloc (Nat.le_refl _) _).alloc (by simp) _).alloc (by simp; omega) _).alloc (by simp; omega) _, Nat.le_refl _⟩
  obtain ⟨W, hW⟩ : ∃ W, W = ((((w.alloc (.cells #[.int .u32 S, .int .u8 Fr0, .int .i32 Lo, .int .u32 Hi, .int .u32 J, .int .u32 La, .int .u32 De] 48)).alloc (.cells #[.int .i64 aE, .int .i64 aR, .int .i64 aH, .bool aV] 50)).alloc (.cells #[.int .i64 bE, .int .i64 bR, .int .i64 bH, .bool bV] 50)).alloc (.cells #[.int .u32 0, .int .u8 0, .int .i32 0, .int .u32 0, .int .u32 0, .int .u32 0, .int .u32 0] 48)) := ⟨_, rfl⟩
  rw [← hW] at HREP ⊢
  clear hW
  obtain ⟨g, hg⟩ : ∃ g, g = w.heap.size := ⟨_, rfl⟩
  rw [← hg] at HREP ⊢
  clear hg
  have ca0 := (HREP.a.cell 0).trans rfl
  have ca1 := (HREP.a.cell 1).trans rfl
  have cb0 := (HREP.b.cell 0).trans rfl
  have cb1 := (HREP.b.cell 1).trans rfl
  have H0 := Lib.hid HREP
  clear HREP
  go_upto_region 2 with (fail)
  go_quiet (fail)
  have H1 := Lib.hid (H0.out.drewN nq)
  obtain ⟨W1, hW1⟩ : ∃ W1, W1 = W.drewN nq := ⟨_, rfl⟩
  rw [← hW1] at H1 ⊢
  clear hW1 ca0 ca1 cb0 cb1 H0
  have cb2 := (H1.out.b.cell 2).trans rfl
  have f3 := H1.out.r.frozen 3
  have c3 := (H1.out.r.cell 3).trans rfl
  have f1 := H1.out.r.frozen 1
  have c1 := (H1.out.r.cell 1).trans rfl
  have gl := H1.out.r.lt
  have HQ : (¬ (0 < s ∧ 0 < q) ∧ Hid (frcK aE aR bE bR = 0)) ∨ (0 < s ∧ 0 < q ∧ ∃ f, (q * 256).tdiv s = f ∧ IntKind.i64.wrap f = f ∧ IntKind.i64.wrap (q * 256) = q * 256 ∧ 0 ≤ f ∧ ((255 < f ∧ Hid (frcK aE aR bE bR = 255)) ∨ (¬ 255 < f ∧ IntKind.u8.wrap f = f ∧ Hid (frcK aE aR bE bR = f)))) := by
    by_cases hc : 0 < s ∧ 0 < q
    · refine .inr ⟨hc.1, hc.2, (q * 256).tdiv s, rfl, ?_⟩
      have e : (q * 256).tdiv s = q * 256 / s := Int.tdiv_eq_ediv_of_nonneg (by omega)
      have l1 : 0 ≤ q * 256 / s := Int.ediv_nonneg (by omega) (by omega)
      have l2 : q * 256 / s ≤ q * 256 := Int.ediv_le_self _ (by omega)
      have h5 := HFR.out
      rw [if_pos hc] at h5
      rw [e]
      obtain ⟨f, hf⟩ : ∃ f, f = q * 256 / s := ⟨_, rfl⟩
      rw [← hf] at l1 l2 h5 ⊢
      refine ⟨by rw [IntKind.wrap_i64]; omega, by rw [IntKind.wrap_i64]; omega, l1, ?_⟩
      by_cases h6 : 255 < f
      · exact .inl ⟨h6, Lib.hid (by rw [if_pos h6] at h5; exact h5)⟩
      · exact .inr ⟨h6, by rw [IntKind.wrap_u8]; omega, Lib.hid (by rw [if_neg h6] at h5; exact h5)⟩
    · exact .inl ⟨hc, Lib.hid (by have := HFR.out; rw [if_neg hc] at this; exact this)⟩
  have HL : (8388607 < lo ∧ Hid (lostK bE bR = 8388607)) ∨ (¬ 8388607 < lo ∧ lo < -8388608 ∧ Hid (lostK bE bR = -8388608)) ∨ (¬ 8388607 < lo ∧ ¬ lo < -8388608 ∧ IntKind.i32.wrap lo = lo ∧ Hid (lostK bE bR = lo)) := by
    have h5 := HLO.out
    by_cases h6 : 8388607 < lo
    · rw [if_pos h6] at h5; exact .inl ⟨h6, Lib.hid h5⟩
    · rw [if_neg h6] at h5
      by_cases h7 : lo < -8388608
      · rw [if_pos h7] at h5; exact .inr (.inl ⟨h6, h7, Lib.hid h5⟩)
      · rw [if_neg h7] at h5; exact .inr (.inr ⟨h6, h7, by rw [IntKind.wrap_i32]; omega, Lib.hid h5⟩)
  have w32a : IntKind.i32.wrap 8388607 = 8388607 := by decide
  have w32b : IntKind.i32.wrap (-8388608) = -8388608 := by decide
  have w8 : IntKind.u8.wrap 255 = 255 := by decide
  go_upto_region 5 with (fail)
  have H2 := Lib.hid ((H1.out.set_r 3 (.int .u32 hi)).set_r 1 (.int .u8 0))
  obtain ⟨W2, hW2⟩ : ∃ W2, W2 = (W1.setCell ⟨g, 3, none⟩ (.int .u32 hi)).setCell ⟨g, 1, none⟩ (.int .u8 0) := ⟨_, rfl⟩
  rw [← hW2] at H2 ⊢
  clear hW2 cb2 f3 c3 f1 c1 gl H1 HFR HLO ws wl wd wq wh h1 h2 h3 h4
  have f1 := H2.out.r.frozen 1
  have f2 := H2.out.r.frozen 2
  have c1 := (H2.out.r.cell 1).trans rfl
  have c2 := (H2.out.r.cell 2).trans rfl
  have gl := H2.out.r.lt
  rcases HQ with ⟨hc, HFQ⟩ | ⟨hc1, hc2, f, hf1, hf2, hf3, hf4, hf5⟩
  · by_cases hs0 : 0 < s
    · have hq0 : ¬ 0 < q := fun h => hc ⟨hs0, h⟩
      clear hc
      go_upto_region 10 with (fail)
      rcases HL with ⟨l1, HLQ⟩ | ⟨l1, l2, HLQ⟩ | ⟨l1, l2, l3, HLQ⟩
      · have hR := H2.out.set_r 2 (.int .i32 8388607)
        obtain ⟨W5, hW5⟩ : ∃ W5, W5 = W2.setCell ⟨g, 2, none⟩ (.int .i32 8388607) := ⟨_, rfl⟩
        rw [← hW5] at hR
        have HR := Lib.hid hR
        have HRG : Hid (W5.rangeAt g 0 [.int .u32 S, .int .u8 0, .int .i32 8388607, .int .u32 hi, .int .u32 J, .int .u32 La, .int .u32 De]) := Lib.hid (hR.r.range 0 _ (fun i _ => by rw [Nat.zero_add]; rfl))
        have HWE := Lib.hid hW5
        clear hR hW5
        go_upto_region 15 with (fail)
        rw [← HWE.out]
        go_wp2_with (first
          | ((with_reducible refine wpList_ld rfl 48 (.tmp 3) rfl g 0 rfl _ HRG.out rowRep ?_))
          | ((refine wpList_st rfl 48 (.tmp 6) (.tmp 55) rfl (g + 1 + 1 + 1) 0 [.int .u32 S, .int .u8 0, .int .i32 8388607, .int .u32 hi, .int .u32 J, .int .u32 La, .int .u32 De] rfl rfl 48 _ HR.out.z (Nat.le_of_eq rfl) rowRep rep_one ?_); intro w6 hB6 ho6; rw [splice_all _ _ (by rfl)] at hB6))
        exact ret_row (by rfl) (by rfl) hB6 rowRep (by rfl) ⟨by rw [HLQ.out, HFQ.out], HR.out.below.trans (ho6.below (by have := HR.out.le; omega))⟩
      · have hR := H2.out.set_r 2 (.int .i32 (-8388608))
        obtain ⟨W5, hW5⟩ : ∃ W5, W5 = W2.setCell ⟨g, 2, none⟩ (.int .i32 (-8388608)) := ⟨_, rfl⟩
        rw [← hW5] at hR
        have HR := Lib.hid hR
        have HRG : Hid (W5.rangeAt g 0 [.int .u32 S, .int .u8 0, .int .i32 (-8388608), .int .u32 hi, .int .u32 J, .int .u32 La, .int .u32 De]) := Lib.hid (hR.r.range 0 _ (fun i _ => by rw [Nat.zero_add]; rfl))
        have HWE := Lib.hid hW5
        clear hR hW5
        go_upto_region 15 with (fail)
        rw [← HWE.out]
        go_wp2_with (first
          | ((with_reducible refine wpList_ld rfl 48 (.tmp 3) rfl g 0 rfl _ HRG.out rowRep ?_))
          | ((refine wpList_st rfl 48 (.tmp 6) (.tmp 55) rfl (g + 1 + 1 + 1) 0 [.int .u32 S, .int .u8 0, .int .i32 (-8388608), .int .u32 hi, .int .u32 J, .int .u32 La, .int .u32 De] rfl rfl 48 _ HR.out.z (Nat.le_of_eq rfl) rowRep rep_one ?_); intro w6 hB6 ho6; rw [splice_all _ _ (by rfl)] at hB6))
        exact ret_row (by rfl) (by rfl) hB6 rowRep (by rfl) ⟨by rw [HLQ.out, HFQ.out], HR.out.below.trans (ho6.below (by have := HR.out.le; omega))⟩
      · have hR := H2.out.set_r 2 (.int .i32 lo)
        obtain ⟨W5, hW5⟩ : ∃ W5, W5 = W2.setCell ⟨g, 2, none⟩ (.int .i32 lo) := ⟨_, rfl⟩
        rw [← hW5] at hR
        have HR := Lib.hid hR
        have HRG : Hid (W5.rangeAt g 0 [.int .u32 S, .int .u8 0, .int .i32 lo, .int .u32 hi, .int .u32 J, .int .u32 La, .int .u32 De]) := Lib.hid (hR.r.range 0 _ (fun i _ => by rw [Nat.zero_add]; rfl))
        have HWE := Lib.hid hW5
        clear hR hW5
        go_upto_region 15 with (fail)
        rw [← HWE.out]
        go_wp2_with (first
          | ((with_reducible refine wpList_ld rfl 48 (.tmp 3) rfl g 0 rfl _ HRG.out rowRep ?_))
          | ((refine wpList_st rfl 48 (.tmp 6) (.tmp 55) rfl (g + 1 + 1 + 1) 0 [.int .u32 S, .int .u8 0, .int .i32 lo, .int .u32 hi, .int .u32 J, .int .u32 La, .int .u32 De] rfl rfl 48 _ HR.out.z (Nat.le_of_eq rfl) rowRep rep_one ?_); intro w6 hB6 ho6; rw [splice_all _ _ (by rfl)] at hB6))
        exact ret_row (by rfl) (by rfl) hB6 rowRep (by rfl) ⟨by rw [HLQ.out, HFQ.out], HR.out.below.trans (ho6.below (by have := HR.out.le; omega))⟩
    · clear hc
      go_upto_region 10 with (fail)
      rcases HL with ⟨l1, HLQ⟩ | ⟨l1, l2, HLQ⟩ | ⟨l1, l2, l3, HLQ⟩
      · have hR := H2.out.set_r 2 (.int .i32 8388607)
        obtain ⟨W5, hW5⟩ : ∃ W5, W5 = W2.setCell ⟨g, 2, none⟩ (.int .i32 8388607) := ⟨_, rfl⟩
        rw [← hW5] at hR
        have HR := Lib.hid hR
        have HRG : Hid (W5.rangeAt g 0 [.int .u32 S, .int .u8 0, .int .i32 8388607, .int .u32 hi, .int .u32 J, .int .u32 La, .int .u32 De]) := Lib.hid (hR.r.range 0 _ (fun i _ => by rw [Nat.zero_add]; rfl))
        have HWE := Lib.hid hW5
        clear hR hW5
        go_upto_region 15 with (fail)
        rw [← HWE.out]
        go_wp2_with (first
          | ((with_reducible refine wpList_ld rfl 48 (.tmp 3) rfl g 0 rfl _ HRG.out rowRep ?_))
          | ((refine wpList_st rfl 48 (.tmp 6) (.tmp 55) rfl (g + 1 + 1 + 1) 0 [.int .u32 S, .int .u8 0, .int .i32 8388607, .int .u32 hi, .int .u32 J, .int .u32 La, .int .u32 De] rfl rfl 48 _ HR.out.z (Nat.le_of_eq rfl) rowRep rep_one ?_); intro w6 hB6 ho6; rw [splice_all _ _ (by rfl)] at hB6))
        exact ret_row (by rfl) (by rfl) hB6 rowRep (by rfl) ⟨by rw [HLQ.out, HFQ.out], HR.out.below.trans (ho6.below (by have := HR.out.le; omega))⟩
      · have hR := H2.out.set_r 2 (.int .i32 (-8388608))
        obtain ⟨W5, hW5⟩ : ∃ W5, W5 = W2.setCell ⟨g, 2, none⟩ (.int .i32 (-8388608)) := ⟨_, rfl⟩
        rw [← hW5] at hR
        have HR := Lib.hid hR
        have HRG : Hid (W5.rangeAt g 0 [.int .u32 S, .int .u8 0, .int .i32 (-8388608), .int .u32 hi, .int .u32 J, .int .u32 La, .int .u32 De]) := Lib.hid (hR.r.range 0 _ (fun i _ => by rw [Nat.zero_add]; rfl))
        have HWE := Lib.hid hW5
        clear hR hW5
        go_upto_region 15 with (fail)
        rw [← HWE.out]
        go_wp2_with (first
          | ((with_reducible refine wpList_ld rfl 48 (.tmp 3) rfl g 0 rfl _ HRG.out rowRep ?_))
          | ((refine wpList_st rfl 48 (.tmp 6) (.tmp 55) rfl (g + 1 + 1 + 1) 0 [.int .u32 S, .int .u8 0, .int .i32 (-8388608), .int .u32 hi, .int .u32 J, .int .u32 La, .int .u32 De] rfl rfl 48 _ HR.out.z (Nat.le_of_eq rfl) rowRep rep_one ?_); intro w6 hB6 ho6; rw [splice_all _ _ (by rfl)] at hB6))
        exact ret_row (by rfl) (by rfl) hB6 rowRep (by rfl) ⟨by rw [HLQ.out, HFQ.out], HR.out.below.trans (ho6.below (by have := HR.out.le; omega))⟩
      · have hR := H2.out.set_r 2 (.int .i32 lo)
        obtain ⟨W5, hW5⟩ : ∃ W5, W5 = W2.setCell ⟨g, 2, none⟩ (.int .i32 lo) := ⟨_, rfl⟩
        rw [← hW5] at hR
        have HR := Lib.hid hR
        have HRG : Hid (W5.rangeAt g 0 [.int .u32 S, .int .u8 0, .int .i32 lo, .int .u32 hi, .int .u32 J, .int .u32 La, .int .u32 De]) := Lib.hid (hR.r.range 0 _ (fun i _ => by rw [Nat.zero_add]; rfl))
        have HWE := Lib.hid hW5
        clear hR hW5
        go_upto_region 15 with (fail)
        rw [← HWE.out]
        go_wp2_with (first
          | ((with_reducible refine wpList_ld rfl 48 (.tmp 3) rfl g 0 rfl _ HRG.out rowRep ?_))
          | ((refine wpList_st rfl 48 (.tmp 6) (.tmp 55) rfl (g + 1 + 1 + 1) 0 [.int .u32 S, .int .u8 0, .int .i32 lo, .int .u32 hi, .int .u32 J, .int .u32 La, .int .u32 De] rfl rfl 48 _ HR.out.z (Nat.le_of_eq rfl) rowRep rep_one ?_); intro w6 hB6 ho6; rw [splice_all _ _ (by rfl)] at hB6))
        exact ret_row (by rfl) (by rfl) hB6 rowRep (by rfl) ⟨by rw [HLQ.out, HFQ.out], HR.out.below.trans (ho6.below (by have := HR.out.le; omega))⟩
  · rcases hf5 with ⟨f5, HFQ⟩ | ⟨f5, f6, HFQ⟩
    · go_upto_region 10 with (fail)
      have H3 := Lib.hid (H2.out.set_r 1 (.int .u8 255))
      obtain ⟨W3, hW3⟩ : ∃ W3, W3 = W2.setCell ⟨g, 1, none⟩ (.int .u8 255) := ⟨_, rfl⟩
      rw [← hW3] at H3 ⊢
      clear hW3 f1 c1 f2 c2 gl
      have f2 := H3.out.r.frozen 2
      have c2 := (H3.out.r.cell 2).trans rfl
      have gl := H3.out.r.lt
      rcases HL with ⟨l1, HLQ⟩ | ⟨l1, l2, HLQ⟩ | ⟨l1, l2, l3, HLQ⟩
      · have hR := H3.out.set_r 2 (.int .i32 8388607)
        obtain ⟨W5, hW5⟩ : ∃ W5, W5 = W3.setCell ⟨g, 2, none⟩ (.int .i32 8388607) := ⟨_, rfl⟩
        rw [← hW5] at hR
        have HR := Lib.hid hR
        have HRG : Hid (W5.rangeAt g 0 [.int .u32 S, .int .u8 255, .int .i32 8388607, .int .u32 hi, .int .u32 J, .int .u32 La, .int .u32 De]) := Lib.hid (hR.r.range 0 _ (fun i _ => by rw [Nat.zero_add]; rfl))
        have HWE := Lib.hid hW5
        clear hR hW5
        go_upto_region 15 with (fail)
        rw [← HWE.out]
        go_wp2_with (first
          | ((with_reducible refine wpList_ld rfl 48 (.tmp 3) rfl g 0 rfl _ HRG.out rowRep ?_))
          | ((refine wpList_st rfl 48 (.tmp 6) (.tmp 55) rfl (g + 1 + 1 + 1) 0 [.int .u32 S, .int .u8 255, .int .i32 8388607, .int .u32 hi, .int .u32 J, .int .u32 La, .int .u32 De] rfl rfl 48 _ HR.out.z (Nat.le_of_eq rfl) rowRep rep_one ?_); intro w6 hB6 ho6; rw [splice_all _ _ (by rfl)] at hB6))
        exact ret_row (by rfl) (by rfl) hB6 rowRep (by rfl) ⟨by rw [HLQ.out, HFQ.out], HR.out.below.trans (ho6.below (by have := HR.out.le; omega))⟩
      · have hR := H3.out.set_r 2 (.int .i32 (-8388608))
        obtain ⟨W5, hW5⟩ : ∃ W5, W5 = W3.setCell ⟨g, 2, none⟩ (.int .i32 (-8388608)) := ⟨_, rfl⟩
        rw [← hW5] at hR
        have HR := Lib.hid hR
        have HRG : Hid (W5.rangeAt g 0 [.int .u32 S, .int .u8 255, .int .i32 (-8388608), .int .u32 hi, .int .u32 J, .int .u32 La, .int .u32 De]) := Lib.hid (hR.r.range 0 _ (fun i _ => by rw [Nat.zero_add]; rfl))
        have HWE := Lib.hid hW5
        clear hR hW5
        go_upto_region 15 with (fail)
        rw [← HWE.out]
        go_wp2_with (first
          | ((with_reducible refine wpList_ld rfl 48 (.tmp 3) rfl g 0 rfl _ HRG.out rowRep ?_))
          | ((refine wpList_st rfl 48 (.tmp 6) (.tmp 55) rfl (g + 1 + 1 + 1) 0 [.int .u32 S, .int .u8 255, .int .i32 (-8388608), .int .u32 hi, .int .u32 J, .int .u32 La, .int .u32 De] rfl rfl 48 _ HR.out.z (Nat.le_of_eq rfl) rowRep rep_one ?_); intro w6 hB6 ho6; rw [splice_all _ _ (by rfl)] at hB6))
        exact ret_row (by rfl) (by rfl) hB6 rowRep (by rfl) ⟨by rw [HLQ.out, HFQ.out], HR.out.below.trans (ho6.below (by have := HR.out.le; omega))⟩
      · have hR := H3.out.set_r 2 (.int .i32 lo)
        obtain ⟨W5, hW5⟩ : ∃ W5, W5 = W3.setCell ⟨g, 2, none⟩ (.int .i32 lo) := ⟨_, rfl⟩
        rw [← hW5] at hR
        have HR := Lib.hid hR
        have HRG : Hid (W5.rangeAt g 0 [.int .u32 S, .int .u8 255, .int .i32 lo, .int .u32 hi, .int .u32 J, .int .u32 La, .int .u32 De]) := Lib.hid (hR.r.range 0 _ (fun i _ => by rw [Nat.zero_add]; rfl))
        have HWE := Lib.hid hW5
        clear hR hW5
        go_upto_region 15 with (fail)
        rw [← HWE.out]
        go_wp2_with (first
          | ((with_reducible refine wpList_ld rfl 48 (.tmp 3) rfl g 0 rfl _ HRG.out rowRep ?_))
          | ((refine wpList_st rfl 48 (.tmp 6) (.tmp 55) rfl (g + 1 + 1 + 1) 0 [.int .u32 S, .int .u8 255, .int .i32 lo, .int .u32 hi, .int .u32 J, .int .u32 La, .int .u32 De] rfl rfl 48 _ HR.out.z (Nat.le_of_eq rfl) rowRep rep_one ?_); intro w6 hB6 ho6; rw [splice_all _ _ (by rfl)] at hB6))
        exact ret_row (by rfl) (by rfl) hB6 rowRep (by rfl) ⟨by rw [HLQ.out, HFQ.out], HR.out.below.trans (ho6.below (by have := HR.out.le; omega))⟩
    · go_upto_region 10 with (fail)
      have H3 := Lib.hid (H2.out.set_r 1 (.int .u8 f))
      obtain ⟨W3, hW3⟩ : ∃ W3, W3 = W2.setCell ⟨g, 1, none⟩ (.int .u8 f) := ⟨_, rfl⟩
      rw [← hW3] at H3 ⊢
      clear hW3 f1 c1 f2 c2 gl
      have f2 := H3.out.r.frozen 2
      have c2 := (H3.out.r.cell 2).trans rfl
      have gl := H3.out.r.lt
      rcases HL with ⟨l1, HLQ⟩ | ⟨l1, l2, HLQ⟩ | ⟨l1, l2, l3, HLQ⟩
      · have hR := H3.out.set_r 2 (.int .i32 8388607)
        obtain ⟨W5, hW5⟩ : ∃ W5, W5 = W3.setCell ⟨g, 2, none⟩ (.int .i32 8388607) := ⟨_, rfl⟩
        rw [← hW5] at hR
        have HR := Lib.hid hR
        have HRG : Hid (W5.rangeAt g 0 [.int .u32 S, .int .u8 f, .int .i32 8388607, .int .u32 hi, .int .u32 J, .int .u32 La, .int .u32 De]) := Lib.hid (hR.r.range 0 _ (fun i _ => by rw [Nat.zero_add]; rfl))
        have HWE := Lib.hid hW5
        clear hR hW5
        go_upto_region 15 with (fail)
        rw [← HWE.out]
        go_wp2_with (first
          | ((with_reducible refine wpList_ld rfl 48 (.tmp 3) rfl g 0 rfl _ HRG.out rowRep ?_))
          | ((refine wpList_st rfl 48 (.tmp 6) (.tmp 55) rfl (g + 1 + 1 + 1) 0 [.int .u32 S, .int .u8 f, .int .i32 8388607, .int .u32 hi, .int .u32 J, .int .u32 La, .int .u32 De] rfl rfl 48 _ HR.out.z (Nat.le_of_eq rfl) rowRep rep_one ?_); intro w6 hB6 ho6; rw [splice_all _ _ (by rfl)] at hB6))
        exact ret_row (by rfl) (by rfl) hB6 rowRep (by rfl) ⟨by rw [HLQ.out, HFQ.out], HR.out.below.trans (ho6.below (by have := HR.out.le; omega))⟩
      · have hR := H3.out.set_r 2 (.int .i32 (-8388608))
        obtain ⟨W5, hW5⟩ : ∃ W5, W5 = W3.setCell ⟨g, 2, none⟩ (.int .i32 (-8388608)) := ⟨_, rfl⟩
        rw [← hW5] at hR
        have HR := Lib.hid hR
        have HRG : Hid (W5.rangeAt g 0 [.int .u32 S, .int .u8 f, .int .i32 (-8388608), .int .u32 hi, .int .u32 J, .int .u32 La, .int .u32 De]) := Lib.hid (hR.r.range 0 _ (fun i _ => by rw [Nat.zero_add]; rfl))
        have HWE := Lib.hid hW5
        clear hR hW5
        go_upto_region 15 with (fail)
        rw [← HWE.out]
        go_wp2_with (first
          | ((with_reducible refine wpList_ld rfl 48 (.tmp 3) rfl g 0 rfl _ HRG.out rowRep ?_))
          | ((refine wpList_st rfl 48 (.tmp 6) (.tmp 55) rfl (g + 1 + 1 + 1) 0 [.int .u32 S, .int .u8 f, .int .i32 (-8388608), .int .u32 hi, .int .u32 J, .int .u32 La, .int .u32 De] rfl rfl 48 _ HR.out.z (Nat.le_of_eq rfl) rowRep rep_one ?_); intro w6 hB6 ho6; rw [splice_all _ _ (by rfl)] at hB6))
        exact ret_row (by rfl) (by rfl) hB6 rowRep (by rfl) ⟨by rw [HLQ.out, HFQ.out], HR.out.below.trans (ho6.below (by have := HR.out.le; omega))⟩
      · have hR := H3.out.set_r 2 (.int .i32 lo)
        obtain ⟨W5, hW5⟩ : ∃ W5, W5 = W3.setCell ⟨g, 2, none⟩ (.int .i32 lo) := ⟨_, rfl⟩
        rw [← hW5] at hR
        have HR := Lib.hid hR
        have HRG : Hid (W5.rangeAt g 0 [.int .u32 S, .int .u8 f, .int .i32 lo, .int .u32 hi, .int .u32 J, .int .u32 La, .int .u32 De]) := Lib.hid (hR.r.range 0 _ (fun i _ => by rw [Nat.zero_add]; rfl))
        have HWE := Lib.hid hW5
        clear hR hW5
        go_upto_region 15 with (fail)
        rw [← HWE.out]
        go_wp2_with (first
          | ((with_reducible refine wpList_ld rfl 48 (.tmp 3) rfl g 0 rfl _ HRG.out rowRep ?_))
          | ((refine wpList_st rfl 48 (.tmp 6) (.tmp 55) rfl (g + 1 + 1 + 1) 0 [.int .u32 S, .int .u8 f, .int .i32 lo, .int .u32 hi, .int .u32 J, .int .u32 La, .int .u32 De] rfl rfl 48 _ HR.out.z (Nat.le_of_eq rfl) rowRep rep_one ?_); intro w6 hB6 ho6; rw [splice_all _ _ (by rfl)] at hB6))
        exact ret_row (by rfl) (by rfl) hB6 rowRep (by rfl) ⟨by rw [HLQ.out, HFQ.out], HR.out.below.trans (ho6.below (by have := HR.out.le; omega))⟩
end Go.Proofs.Ytkmacpmdgbhhkaa
