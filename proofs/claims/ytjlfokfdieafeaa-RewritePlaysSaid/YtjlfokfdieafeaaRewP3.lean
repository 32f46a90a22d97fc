/- Contracts of package rewrite: Follow; what has no place. No statement is proved here. -/
import Derived.Test.YtjlfokfdieafeaaRewP2
namespace Go.Proofs.Ytjlfokfdieafeaa
open Go.RowKit
set_option linter.unusedVariables false

section
variable {w w2 : World} {g : Nat} {s : Wtr}
theorem PRew.below (h : PRew w g s) (hb : Below w.heap.size w w2) : PRew w2 g s := ⟨h.blk.below hb h.blk.lt, h.th, h.top⟩
theorem PRew.far (h : PRew w g s) {r : Nat} (hr : r ≠ g) (ho : Only r w w2) : PRew w2 g s := ⟨h.blk.only ho (fun e => hr e.symm), h.th, h.top⟩
end
theorem st_six {f : Int} {t h o t2 h2 : Mpd} : splice (rwc f t h o) 1 [.int .u64 t2.i, .int .u32 t2.st, .int .u16 t2.pc, .int .u64 h2.i, .int .u32 h2.st, .int .u16 h2.pc] = rwc f t2 h2 o := rfl
theorem st_three {f : Int} {t h o o2 : Mpd} : splice (rwc f t h o) 7 [.int .u64 o2.i, .int .u32 o2.st, .int .u16 o2.pc] = rwc f t h o2 := rfl
theorem six_fit {f : Int} {t h o : Mpd} {a b c d e j : Value} : 1 + [a, b, c, d, e, j].length ≤ (rwc f t h o).length := by show 1 + 6 ≤ 10; omega
theorem six_one (a b c d e f : Int) : ∀ v ∈ ([.int .u64 a, .int .u32 b, .int .u16 c, .int .u64 d, .int .u32 e, .int .u16 f] : List Value), v.oneCell' = true := by simp [Value.oneCell']
theorem three_one (a b c : Int) : ∀ v ∈ ([.int .u64 a, .int .u32 b, .int .u16 c] : List Value), v.oneCell' = true := by simp [Value.oneCell']
theorem three_fit {f : Int} {t h o : Mpd} {a b c : Value} : 7 + [a, b, c].length ≤ (rwc f t h o).length := by show 7 + 3 ≤ 10; omega
set_option maxRecDepth 100000 in
theorem follow_any22 (g : Nat) (s : Wtr) (x : Mpd) (B : Int) (w : World) (h : PRew w g s) (hk : OkW s B) (hB : B ≤ 9223372036854775807) (hx : OkM x) :
    Calls Try.prog 10 #[.pointer (some ⟨g, 0, none⟩), .agg #[.int .i64 x.i, .int .u32 x.st, .int .u16 x.pc]] w fun e w' => e = .returned (.int .i64 (folE x)) ∧ Hid (PRew w' g (folW s x) ∧ Fr (fun k => k = g) w w') := by
  have gl := h.blk.lt
  have HH := Lib.hid h
  by_cases hi : x.i < 0
  · have HE : Hid (folE x = 10 ∧ folW s x = s) := Lib.hid ⟨by unfold folE; rw [if_pos hi], by unfold folW; rw [if_pos hi]⟩
    have hd : decide (x.i < 0) = true := by simpa using hi
    obtain ⟨xi, xs, xp⟩ := x
    simp only at *
    clear h hk hx
    go_enter Try.func10, Try.ntmps10
    go_wp2
    go_ret
    exact ⟨ret_i64W HE.out.1.symm, Lib.hid (by rw [HE.out.2]; exact ⟨HH.out.below (twoN w _), Fr.of_below (twoN w _)⟩)⟩
  · have HE : Hid (folE x = 0 ∧ folW s x = ⟨s.first, true, x, hereW s, s.O⟩) := Lib.hid ⟨by unfold folE; rw [if_neg hi], by unfold folW; rw [if_neg hi]⟩
    have hd : decide (x.i < 0) = false := by simpa using hi
    have HS := Lib.hid (fun wx => spotOf_any x wx ⟨by omega, by have := hx.1.2; omega⟩)
    have HG := Lib.hid (fun wx (hb : Below w.heap.size w wx) => begin_any22 g s B wx (h.below hb) hk hB)
    have HX : Hid (0 ≤ x.i) := Lib.hid (by omega)
    have HXE : Hid (∀ W : World, PRew W g ⟨s.first, true, x, hereW s, s.O⟩ ↔ BlkV W g 32 (rwc s.first ⟨x.i + 1, x.st, x.pc⟩ ⟨(hereW s).i + 1, (hereW s).st, (hereW s).pc⟩ (toS s))) := Lib.hid (fun W => ⟨fun h => h.blk, fun h1 => ⟨h1, fun _ => by simp only; omega, h.top⟩⟩)
    obtain ⟨xi, xs, xp⟩ := x
    simp only at *
    clear h hk hx hi
    go_enter Try.func10, Try.ntmps10
    go_wp2_with (first
      | (go_at_call 15; ((with_reducible refine (Hid.out HS _).mono ?_); rintro e w1 ⟨rfl, HB1⟩; have HB2 : Hid (Below w.heap.size w w1) := Lib.hid ((twoN w _).trans (HB1.out.mono (by simp))); have HG1 := Lib.hid (HG.out w1 HB2.out)))
      | (go_at_call 18; ((with_reducible refine (Hid.out HG1).mono ?_); rintro e w2 ⟨rfl, HB3⟩; have HB4 : Hid (Below w.heap.size w w2) := Lib.hid (HB2.out.trans (HB3.out.mono HB2.out.size)); have gl2 : g < w2.heap.size := (HH.out.below HB4.out).blk.lt))
      | ((refine wpList_st rfl 30 (.tmp 19) (.tmp 17) rfl g 1 [.int .u64 (xi + 1), .int .u32 xs, .int .u16 xp, .int .u64 ((hereW s).i + 1), .int .u32 (hereW s).st, .int .u16 (hereW s).pc] rfl rfl 32 _ (HH.out.below HB4.out).blk six_fit rowSo (six_one _ _ _ _ _ _) ?_); intro w7 hB7 ho7))
    go_ret
    exact ⟨ret_i64W HE.out.1.symm, Lib.hid (by rw [HE.out.2, HXE.out]; exact ⟨hB7, Fr.behind HB4.out (Fr.of_only ho7 rfl)⟩)⟩
set_option maxRecDepth 100000 in
theorem map_no22 (g : Nat) (s : Wtr) (x : Mpd) (w : World) (h : PRew w g s) (hx : OkM x) (ht : s.th.i ≤ 9223372036854775807) (he : mapE s x ≠ 0) :
    Calls Try.prog 8 #[.pointer (some ⟨g, 0, none⟩), .agg #[.int .i64 x.i, .int .u32 x.st, .int .u16 x.pc]] w fun e w' => e = .returned (.tuple #[.agg #[.int .i64 0, .int .u32 0, .int .u16 0], .int .i64 (mapE s x)]) ∧ Hid (PRew w' g s ∧ Fr (fun k => k = g) w w') := by
  have gl := h.blk.lt
  have HH := Lib.hid h
  have HFo := Lib.hid (fun X Y => follows_any22 g s ((w.alloc X).alloc Y) (h.below (twoBelow w X Y)))
  have HX : Hid (∀ wx : World, Below w.heap.size w wx → PRew wx g s ∧ Fr (fun k => k = g) w wx) := Lib.hid (fun wx hb => ⟨h.below hb, Fr.of_below hb⟩)
  have HE : Hid (mapE s x = if s.fol = false ∨ x.i < 0 then 10 else if x.i < s.th.i then 5 else 0) := Lib.hid rfl
  have HNE := Lib.hid he
  have hz := zMp
  by_cases h1 : s.fol = false
  · rw [if_pos (.inl h1)] at HE
    rw [h1] at HFo
    obtain ⟨xi, xs, xp⟩ := x
    simp only at *
    clear h he hx
    go_enter Try.func8, Try.ntmps8
    go_wp2_with (first
      | (go_at_call 14; ((with_reducible refine (Hid.out HFo _ _).mono ?_); rintro e w1 ⟨rfl, rfl⟩))
      | ((refine wpList_st rfl 35 (.tmp 4) (.tmp 21) rfl (w.heap.size + 1) 0 [.int .i64 0, .int .u32 0, .int .u16 0] rfl rfl 35 _ (twoB w _ [.int .i64 0, .int .u32 0, .int .u16 0] 35) (Nat.le_of_eq rfl) rowM (m_one _ _ _) ?_); intro w7 hB7 ho7; rw [splice_all _ _ (by rfl)] at hB7))
    exact ret_row2 (by rfl) (by rfl) hB7 rowM (by rfl) ⟨ret_two22 rfl rfl rfl HE.out.symm, Lib.hid (HX.out _ ((twoBelow w _ _).trans (ho7.below (by omega))))⟩
  have h2 : s.fol = true := by simpa using h1
  rw [h2] at HFo
  by_cases h3 : x.i < 0
  · rw [if_pos (.inr h3)] at HE
    have hd : decide (x.i < 0) = true := by simpa using h3
    obtain ⟨xi, xs, xp⟩ := x
    simp only at *
    clear h he hx
    go_enter Try.func8, Try.ntmps8
    go_wp2_with (first
      | (go_at_call 14; ((with_reducible refine (Hid.out HFo _ _).mono ?_); rintro e w1 ⟨rfl, rfl⟩))
      | ((refine wpList_st rfl 35 (.tmp 4) (.tmp 21) rfl (w.heap.size + 1) 0 [.int .i64 0, .int .u32 0, .int .u16 0] rfl rfl 35 _ (twoB w _ [.int .i64 0, .int .u32 0, .int .u16 0] 35) (Nat.le_of_eq rfl) rowM (m_one _ _ _) ?_); intro w7 hB7 ho7; rw [splice_all _ _ (by rfl)] at hB7))
    exact ret_row2 (by rfl) (by rfl) hB7 rowM (by rfl) ⟨ret_two22 rfl rfl rfl HE.out.symm, Lib.hid (HX.out _ ((twoBelow w _ _).trans (ho7.below (by omega))))⟩
  rw [if_neg (by rw [h2]; simp; omega)] at HE
  by_cases h4 : x.i < s.th.i
  · rw [if_pos h4] at HE
    have hd : decide (x.i < 0) = false := by simpa using h3
    have hd2 : decide (x.i < s.th.i) = true := by simpa using h4
    have HS := Lib.hid (fun wx => spotOf_any x wx ⟨by omega, by have := hx.1.2; omega⟩)
    have hth : thS s = ⟨s.th.i + 1, s.th.st, s.th.pc⟩ := by unfold thS upS; rw [h2]; rfl
    have HC : Hid (∀ wx, Below w.heap.size w wx → g < wx.heap.size ∧ wx.cell? ⟨g, 1, none⟩ = some (.int .u64 (s.th.i + 1))) := Lib.hid (fun wx hb => ⟨(h.below hb).blk.lt, ((h.below hb).blk.cell 1).trans (by rw [hth]; rfl)⟩)
    obtain ⟨xi, xs, xp⟩ := x
    simp only at *
    clear h he hx hth h1 h2 h3 h4 ht
    go_enter Try.func8, Try.ntmps8
    go_upto_region 4 with (first
      | (go_at_call 14; ((with_reducible refine (Hid.out HFo _ _).mono ?_); rintro e w1 ⟨rfl, rfl⟩))
      | (go_at_call 15; ((with_reducible refine (Hid.out HS _).mono ?_); rintro e w2 ⟨rfl, HB1⟩; have HB2 : Hid (Below w.heap.size w w2 ∧ BlkV w2 (w.heap.size + 1) 35 [.int .i64 0, .int .u32 0, .int .u16 0]) := Lib.hid ⟨(twoBelow w _ _).trans (HB1.out.mono (by simp; omega)), (twoB w _ [.int .i64 0, .int .u32 0, .int .u16 0] 35).below HB1.out (by simp)⟩; have gl2 := (HC.out w2 HB2.out.1).1; have c1 := (HC.out w2 HB2.out.1).2)))
    go_quiet (fail)
    have HB9 : Hid (BlkV ((w2.alloc (.cells #[.int .u64 (xi + 1), .int .u32 xs, .int .u16 xp] 28)).drewN nq) (w.heap.size + 1) 35 [.int .i64 0, .int .u32 0, .int .u16 0] ∧ Below w.heap.size w ((w2.alloc (.cells #[.int .u64 (xi + 1), .int .u32 xs, .int .u16 xp] 28)).drewN nq)) := Lib.hid ⟨HB2.out.2.alloc _, (HB2.out.1.alloc HB2.out.1.size _).trans ⟨rfl, rfl, rfl, Nat.le_refl _, fun _ _ => rfl⟩⟩
    go_wp2_with (((refine wpList_st rfl 35 (.tmp 4) (.tmp 33) rfl (w.heap.size + 1) 0 [.int .i64 0, .int .u32 0, .int .u16 0] rfl rfl 35 _ HB9.out.1 (Nat.le_of_eq rfl) rowM (m_one _ _ _) ?_); intro w7 hB7 ho7; rw [splice_all _ _ (by rfl)] at hB7))
    exact ret_row2 (by rfl) (by rfl) hB7 rowM (by rfl) ⟨ret_two22 rfl rfl rfl HE.out.symm, Lib.hid (HX.out _ (HB9.out.2.trans (ho7.below (by omega))))⟩
  · rw [if_neg h4] at HE
    exact absurd HE.out HNE.out
end Go.Proofs.Ytjlfokfdieafeaa
