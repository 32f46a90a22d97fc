/- Contracts of package rewrite: a packet's place. No statement is proved here. -/
import Derived.Test.YtjlfokfdieafeaaRewP3
import Derived.Deep.RegionLaw
namespace Go.Proofs.Ytjlfokfdieafeaa
open Go.RowKit
set_option linter.unusedVariables false

theorem topI_app (xs ys : List Int) : ∀ k, k ≤ xs.length → topI (xs ++ ys) k = topI xs k
  | 0, _ => rfl
  | k + 1, h => by
    have ih := topI_app xs ys k (by omega)
    have g1 : ∀ j, j < xs.length → (xs ++ ys).getD j 0 = xs.getD j 0 := fun j hj => by simp [List.getD, List.getElem?_append_left hj]
    have e1 : topI (xs ++ ys) (k + 1) = if topI (xs ++ ys) k < 0 ∨ (xs ++ ys).getD (topI (xs ++ ys) k).toNat 0 ≤ (xs ++ ys).getD k 0 then (k : Int) else topI (xs ++ ys) k := rfl
    have e2 : topI xs (k + 1) = if topI xs k < 0 ∨ xs.getD (topI xs k).toNat 0 ≤ xs.getD k 0 then (k : Int) else topI xs k := rfl
    rw [e1, e2, ih, g1 k (by omega)]
    by_cases h0 : k = 0
    · subst h0
      have : topI xs 0 < 0 := by simp [topI]
      rw [if_pos (.inl this), if_pos (.inl this)]
    · obtain ⟨m, h1, h2, _⟩ := topI_facts xs k (by omega)
      rw [h1, Int.toNat_natCast, g1 m (by omega)]
/-- What is the highest behind a place. -/
theorem toS_map {s : Wtr} {B : Int} (hk : OkW s B) (y : Mpd) (hy : 0 ≤ y.i) (s2 : Wtr) (h2 : s2.O = s.O ++ [y]) : toS s2 = if (toS s).i ≤ y.i + 1 then ⟨y.i + 1, y.st, y.pc⟩ else toS s := by
  have hl : (idxW s.O).length = s.O.length := by simp [idxW]
  have e0 : idxW s2.O = idxW s.O ++ [y.i] := by rw [h2]; simp [idxW]
  have e1 : topW s2 = if topW s < 0 ∨ (idxW s.O ++ [y.i]).getD (topW s).toNat 0 ≤ y.i then (s.O.length : Int) else topW s := by
    have g0 : (idxW s.O ++ [y.i]).getD s.O.length 0 = y.i := by rw [← hl]; simp [List.getD]
    have e : topW s2 = if topI (idxW s.O ++ [y.i]) s.O.length < 0 ∨ (idxW s.O ++ [y.i]).getD (topI (idxW s.O ++ [y.i]) s.O.length).toNat 0 ≤ (idxW s.O ++ [y.i]).getD s.O.length 0 then (s.O.length : Int) else topI (idxW s.O ++ [y.i]) s.O.length := by
      unfold topW
      rw [e0, h2, List.length_append]
      rfl
    rw [e, g0, topI_app _ _ _ (by omega)]
    rfl
  have gy : s2.O.getD s.O.length mz = y := by rw [h2]; simp [List.getD]
  unfold toS
  rcases topW_facts s with ⟨h1, h3⟩ | ⟨m, h1, h3, _⟩
  · rw [h1] at e1 ⊢
    rw [if_pos (.inl (by omega))] at e1
    rw [e1, if_neg (by omega), Int.toNat_natCast, gy, if_pos (by omega : (-1 : Int) < 0), if_pos (by simp only [mz]; omega)]
  · rw [h1, Int.toNat_natCast] at e1
    have gm : (idxW s.O ++ [y.i]).getD m 0 = (s.O.getD m mz).i := by
      rw [← idxW_at]
      simp [List.getD, List.getElem?_append_left (by rw [hl]; exact h3 : m < (idxW s.O).length)]
    rw [gm] at e1
    have g2 : s2.O.getD m mz = s.O.getD m mz := by rw [h2]; simp [List.getD, List.getElem?_append_left h3]
    rw [h1, if_neg (by omega : ¬ (m : Int) < 0), Int.toNat_natCast]
    simp only
    by_cases h4 : (s.O.getD m mz).i ≤ y.i
    · rw [if_pos (.inr h4)] at e1
      rw [e1, if_neg (by omega), Int.toNat_natCast, gy, if_pos (by omega)]
    · rw [if_neg (by omega)] at e1
      rw [e1, if_neg (by omega), Int.toNat_natCast, g2, if_neg (by omega)]
theorem fin_fr22 {w wa wb wd : World} {g r : Nat} (hb : Below w.heap.size w wa) (h1 : Only g wa wb) (h2 : Only r wb wd) (hr : w.heap.size ≤ r) : Fr (fun k => k = g) w wd :=
  (Fr.behind hb (Fr.of_only (F := fun k => k = g) h1 rfl)).trans (Fr.of_only (F := fun k => k = r) h2 rfl) (fun i hi => .inr (by rw [hi]; exact hr))
set_option maxRecDepth 100000 in
set_option maxHeartbeats 4000000 in
theorem map_ok22 (g : Nat) (s : Wtr) (x : Mpd) (B : Int) (w : World) (h : PRew w g s) (hk : OkW s B) (hB : B ≤ 9223372036854775807) (hx : OkM x) (hs : s.fol = true → s.he.i + (x.i - s.th.i) ≤ 9223372036854775807) (he : mapE s x = 0) :
    Calls Try.prog 8 #[.pointer (some ⟨g, 0, none⟩), .agg #[.int .i64 x.i, .int .u32 x.st, .int .u16 x.pc]] w fun e w' => e = .returned (.tuple #[.agg #[.int .i64 (plcW s x).i, .int .u32 (plcW s x).st, .int .u16 (plcW s x).pc], .int .i64 0]) ∧ Hid (PRew w' g (mapW s x) ∧ Fr (fun k => k = g) w w') := by
  obtain ⟨hf, hx0, hxt⟩ := mapE_ok he
  have gl := h.blk.lt
  have hth := hk.th.2 hf
  have hsm := hs hf
  have k1 := hk.th.1
  have k2 := hk.he
  obtain ⟨kx1, kx2, kx3⟩ := hx
  obtain ⟨kt1, kt2, kt3⟩ := k1
  have HFo := Lib.hid (fun X Y => follows_any22 g s ((w.alloc X).alloc Y) (h.below (twoBelow w X Y)))
  rw [hf] at HFo
  have hz := zMp
  have hz2 := zSp
  have hd : decide (x.i < 0) = false := by simpa using (by omega : ¬ x.i < 0)
  have hd2 : decide (x.i < s.th.i) = false := by simpa using (by omega : ¬ x.i < s.th.i)
  have HS := Lib.hid (fun wx => spotOf_any x wx ⟨by omega, by omega⟩)
  obtain ⟨P, hP⟩ : ∃ P, P = plcW s x := ⟨_, rfl⟩
  have hp := plcW_ok hk (C := x.i) (Int.le_refl _) he
  have hpi : (plcW s x).i ≤ 9223372036854775807 := by unfold plcW; simp only; omega
  have HPL := Lib.hid (fun wx => place_any22 ⟨s.th.i + 1, s.th.st, s.th.pc⟩ ⟨s.he.i + 1, s.he.st, s.he.pc⟩ ⟨x.i + 1, x.st, x.pc⟩ wx (by simp only; omega) (by simp only; omega) (by simp only; omega))
  have hpe : s.he.i + 1 + (x.i + 1 - (s.th.i + 1)) = (plcW s x).i + 1 := by unfold plcW; simp only; omega
  simp only at HPL
  rw [hpe] at HPL
  have HPL2 : Hid (∀ wx, Calls Try.prog 16 #[.agg #[.int .u64 (s.th.i + 1), .int .u32 s.th.st, .int .u16 s.th.pc, .int .u64 (s.he.i + 1), .int .u32 s.he.st, .int .u16 s.he.pc], .agg #[.int .u64 (x.i + 1), .int .u32 x.st, .int .u16 x.pc]] wx fun e w' => e = .returned (.agg #[.int .u64 (P.i + 1), .int .u32 P.st, .int .u16 P.pc]) ∧ Hid (Below wx.heap.size wx w')) := Lib.hid (by rw [hP]; exact HPL.out)
  have HW : Hid (mapW s x = ⟨s.first, s.fol, s.th, s.he, s.O ++ [P]⟩) := Lib.hid (by unfold mapW; rw [if_pos he, hP])
  have HT : Hid (toS (mapW s x) = if (toS s).i ≤ P.i + 1 then ⟨P.i + 1, P.st, P.pc⟩ else toS s) := Lib.hid (toS_map hk P (by rw [hP]; exact hp.1.1) _ (by rw [HW.out]))
  rw [← hP] at hp hpi
  have HM := Lib.hid (fun wx => mapped_any22 ⟨P.i + 1, P.st, P.pc⟩ wx (by simp only; omega))
  have hmi : P.i + 1 - 1 = P.i := by omega
  simp only [hmi] at HM
  have hd3 : decide (P.i < 0) = false := by simpa using (by omega : ¬ P.i < 0)
  have HC : Hid (∀ wx, Below w.heap.size w wx → (g < wx.heap.size ∧ wx.cell? ⟨g, 1, none⟩ = some (.int .u64 (s.th.i + 1)) ∧ wx.cell? ⟨g, 2, none⟩ = some (.int .u32 s.th.st) ∧ wx.cell? ⟨g, 3, none⟩ = some (.int .u16 s.th.pc) ∧ wx.cell? ⟨g, 4, none⟩ = some (.int .u64 (s.he.i + 1)) ∧ wx.cell? ⟨g, 5, none⟩ = some (.int .u32 s.he.st) ∧ wx.cell? ⟨g, 6, none⟩ = some (.int .u16 s.he.pc) ∧ wx.cell? ⟨g, 7, none⟩ = some (.int .u64 (toS s).i))) := Lib.hid (fun wx hb => by
    have hb2 := (h.below hb).blk
    have e1 : thS s = ⟨s.th.i + 1, s.th.st, s.th.pc⟩ := by unfold thS upS; rw [hf]; rfl
    have e2 : heS s = ⟨s.he.i + 1, s.he.st, s.he.pc⟩ := by unfold heS upS; rw [hf]; rfl
    rw [e1, e2] at hb2
    exact ⟨hb2.lt, (hb2.cell 1).trans rfl, (hb2.cell 2).trans rfl, (hb2.cell 3).trans rfl, (hb2.cell 4).trans rfl, (hb2.cell 5).trans rfl, (hb2.cell 6).trans rfl, (hb2.cell 7).trans rfl⟩)
  have HH := Lib.hid h
  rw [← hP]
  obtain ⟨xi, xs, xp⟩ := x
  simp only at *
  clear h he hk hs hP HPL hpe hf hx0 hxt hth hsm k2 kt1 kt2 kt3 hB
  have HPi := Lib.hid hp
  have HPj := Lib.hid hpi
  clear hp hpi kx1 kx2 kx3 hmi
  go_enter Try.func8, Try.ntmps8
  go_upto_region 4 with (first
    | (go_at_call 14; ((with_reducible refine (Hid.out HFo _ _).mono ?_); rintro e w1 ⟨rfl, rfl⟩))
    | (go_at_call 15; ((with_reducible refine (Hid.out HS _).mono ?_); rintro e w2 ⟨rfl, HB1⟩; have HB2 : Hid (Below w.heap.size w w2 ∧ BlkV w2 (w.heap.size + 1) 35 [.int .i64 0, .int .u32 0, .int .u16 0]) := Lib.hid ⟨(twoBelow w _ _).trans (HB1.out.mono (by simp; omega)), (twoB w _ [.int .i64 0, .int .u32 0, .int .u16 0] 35).below HB1.out (by simp)⟩; have gl2 := (HC.out w2 HB2.out.1).1; have c1 := (HC.out w2 HB2.out.1).2.1)))
  go_quiet (fail)
  have HB9 : Hid (BlkV ((w2.alloc (.cells #[.int .u64 (xi + 1), .int .u32 xs, .int .u16 xp] 28)).drewN nq) (w.heap.size + 1) 35 [.int .i64 0, .int .u32 0, .int .u16 0] ∧ BlkV ((w2.alloc (.cells #[.int .u64 (xi + 1), .int .u32 xs, .int .u16 xp] 28)).drewN nq) w2.heap.size 28 [.int .u64 (xi + 1), .int .u32 xs, .int .u16 xp] ∧ Below w.heap.size w ((w2.alloc (.cells #[.int .u64 (xi + 1), .int .u32 xs, .int .u16 xp] 28)).drewN nq)) := Lib.hid ⟨HB2.out.2.alloc _, BlkV.new w2 _ _, (HB2.out.1.alloc HB2.out.1.size _).trans ⟨rfl, rfl, rfl, Nat.le_refl _, fun _ _ => rfl⟩⟩
  obtain ⟨W4, hW4⟩ : ∃ W4, W4 = (w2.alloc (.cells #[.int .u64 (xi + 1), .int .u32 xs, .int .u16 xp] 28)).drewN nq := ⟨_, rfl⟩
  obtain ⟨r6, hr6⟩ : ∃ r6, r6 = w2.heap.size := ⟨_, rfl⟩
  rw [← hW4, ← hr6] at HB9
  rw [← hW4, ← hr6]
  clear hW4 hr6 c1 gl2 HB2 HB1
  go_upto_region 6 with (fail)
  go_cut [7] (fun v wx => ∃ k, v = .pointer (some ⟨k, 0, none⟩) ∧ Hid (BlkV wx k 28 [.int .u64 (P.i + 1), .int .u32 P.st, .int .u16 P.pc] ∧ W4.heap.size ≤ k ∧ Below W4.heap.size W4 wx))
  case first =>
    obtain ⟨gl4, c1, c2, c3, c4, c5, c6, _⟩ := HC.out W4 HB9.out.2.2
    have d0 : W4.cell? ⟨r6, 0, none⟩ = some (.int .u64 (xi + 1)) := (HB9.out.2.1.cell 0).trans rfl
    have d1 : W4.cell? ⟨r6, 1, none⟩ = some (.int .u32 xs) := (HB9.out.2.1.cell 1).trans rfl
    have d2 : W4.cell? ⟨r6, 2, none⟩ = some (.int .u16 xp) := (HB9.out.2.1.cell 2).trans rfl
    have rl4 : r6 < W4.heap.size := HB9.out.2.1.lt
    go_region_law (first
      | (go_simp; go_at_call 16; ((with_reducible refine (Hid.out HPL2 _).mono ?_); rintro e w5 ⟨rfl, HB5⟩; have HX5 : Hid (BlkV w5 W4.heap.size 28 [.int .u64 0, .int .u32 0, .int .u16 0] ∧ Below W4.heap.size W4 w5) := Lib.hid ⟨((BlkV.new W4 28 [.int .u64 0, .int .u32 0, .int .u16 0]).drew).below HB5.out (by simp [World.drew]), ((twoN W4 _).drew).trans (HB5.out.mono (by simp [World.drew]))⟩; have x0 : w5.cell? ⟨W4.heap.size, 0, none⟩ = some (.int .u64 0) := (HX5.out.1.cell 0).trans rfl; have x1 : w5.cell? ⟨W4.heap.size, 1, none⟩ = some (.int .u32 0) := (HX5.out.1.cell 1).trans rfl; have x2 : w5.cell? ⟨W4.heap.size, 2, none⟩ = some (.int .u16 0) := (HX5.out.1.cell 2).trans rfl; have f0 := HX5.out.1.frozen 0; have f1 := HX5.out.1.frozen 1; have f2 := HX5.out.1.frozen 2; have wl5 := HX5.out.1.lt))
      | (go_simp; go_at_call 16; ((with_reducible refine (Hid.out HPL2 _).mono ?_); rintro e w5 ⟨rfl, HB5⟩; have HX6 : Hid (Below W4.heap.size W4 w5) := Lib.hid (((Below.refl W4.heap.size W4).drew).trans HB5.out))))
    all_goals (go_wp2_with fail; go_meet; first
      | exact ⟨w5.heap.size, rfl, Lib.hid ⟨BlkV.new w5 _ _, HX6.out.size, HX6.out.alloc HX6.out.size _⟩⟩
      | exact ⟨W4.heap.size, rfl, Lib.hid ⟨((HX5.out.1.set_ 0 _).set_ 1 _).set_ 2 _, Nat.le_refl _, ((HX5.out.2.setCell (Nat.le_refl _) _).setCell (Nat.le_refl _) _).setCell (Nat.le_refl _) _⟩⟩)
  case rest =>
    obtain ⟨k, rfl, HM7⟩ := hcut
    have HQ7 : Hid (BlkV wc (w.heap.size + 1) 35 [.int .i64 0, .int .u32 0, .int .u16 0] ∧ Below w.heap.size w wc) := Lib.hid ⟨HB9.out.1.below HM7.out.2.2 HB9.out.1.lt, HB9.out.2.2.trans (HM7.out.2.2.mono HB9.out.2.2.size)⟩
    have m0 : wc.cell? ⟨k, 0, none⟩ = some (.int .u64 (P.i + 1)) := (HM7.out.1.cell 0).trans rfl
    have m1 : wc.cell? ⟨k, 1, none⟩ = some (.int .u32 P.st) := (HM7.out.1.cell 1).trans rfl
    have m2 : wc.cell? ⟨k, 2, none⟩ = some (.int .u16 P.pc) := (HM7.out.1.cell 2).trans rfl
    have ml := HM7.out.1.lt
    have HK : Hid (k ≠ g ∧ w.heap.size + 1 < k) := Lib.hid (by
      have h1 := HM7.out.2.1
      have h2 := HB9.out.1.lt
      omega)
    go_upto_region 10 with (go_at_call 17; ((with_reducible refine (Hid.out HM _).mono ?_); rintro e w8 ⟨rfl, HB8⟩; have n0 : w8.cell? ⟨k, 0, none⟩ = some (.int .u64 (P.i + 1)) := ((HM7.out.1.below HB8.out HM7.out.1.lt).cell 0).trans rfl; have gc8 := HC.out w8 (HQ7.out.2.trans (HB8.out.mono HQ7.out.2.size)); have gl8 := gc8.1; have c7 := gc8.2.2.2.2.2.2.2; have kl8 := (HM7.out.1.below HB8.out HM7.out.1.lt).lt; clear gc8 m0 m1 m2 ml))
    go_quiet (fail)
    have HQ8 : Hid (Below w.heap.size w ((w8.alloc (.cells #[.int .i64 P.i, .int .u32 P.st, .int .u16 P.pc] 35)).drewN nq) ∧ BlkV ((w8.alloc (.cells #[.int .i64 P.i, .int .u32 P.st, .int .u16 P.pc] 35)).drewN nq) (w.heap.size + 1) 35 [.int .i64 0, .int .u32 0, .int .u16 0] ∧ BlkV ((w8.alloc (.cells #[.int .i64 P.i, .int .u32 P.st, .int .u16 P.pc] 35)).drewN nq) k 28 [.int .u64 (P.i + 1), .int .u32 P.st, .int .u16 P.pc] ∧ BlkV ((w8.alloc (.cells #[.int .i64 P.i, .int .u32 P.st, .int .u16 P.pc] 35)).drewN nq) w8.heap.size 35 [.int .i64 P.i, .int .u32 P.st, .int .u16 P.pc] ∧ w8.heap.size ≠ g ∧ w.heap.size + 1 ≠ w8.heap.size) := by
      have b8 := HQ7.out.2.trans (HB8.out.mono HQ7.out.2.size)
      have z8 := HQ7.out.1.below HB8.out HQ7.out.1.lt
      refine Lib.hid ⟨(b8.alloc b8.size _).trans ⟨rfl, rfl, rfl, Nat.le_refl _, fun _ _ => rfl⟩, z8.alloc _, (HM7.out.1.below HB8.out HM7.out.1.lt).alloc _, BlkV.new w8 _ _, ?_, ?_⟩
      · have := b8.size; omega
      · have := z8.lt; omega
    obtain ⟨W9, hW9⟩ : ∃ W9, W9 = (w8.alloc (.cells #[.int .i64 P.i, .int .u32 P.st, .int .u16 P.pc] 35)).drewN nq := ⟨_, rfl⟩
    obtain ⟨r8, hr8⟩ : ∃ r8, r8 = w8.heap.size := ⟨_, rfl⟩
    rw [← hW9, ← hr8] at HQ8
    rw [← hW9, ← hr8]
    clear hW9 hr8 n0 c7 gl8 kl8 HB8
    have n0 : W9.cell? ⟨k, 0, none⟩ = some (.int .u64 (P.i + 1)) := (HQ8.out.2.2.1.cell 0).trans rfl
    have n1 : W9.cell? ⟨k, 1, none⟩ = some (.int .u32 P.st) := (HQ8.out.2.2.1.cell 1).trans rfl
    have n2 : W9.cell? ⟨k, 2, none⟩ = some (.int .u16 P.pc) := (HQ8.out.2.2.1.cell 2).trans rfl
    have nl := HQ8.out.2.2.1.lt
    have HP9 : Hid (PRew W9 g s) := Lib.hid (HH.out.below HQ8.out.1)
    have gl9 : g < W9.heap.size := HP9.out.blk.lt
    by_cases h9 : (toS s).i ≤ P.i + 1
    · have hd4 : decide (P.i + 1 < (toS s).i) = false := by simpa using (by omega : ¬ P.i + 1 < (toS s).i)
      rw [if_pos h9] at HT
      have hd5 : decide ((toS s).i ≤ P.i + 1) = true := by simpa using h9
      go_wp2_with (first
        | ((refine wpList_st rfl 28 (.tmp 57) (.tmp 55) rfl g 7 [.int .u64 (P.i + 1), .int .u32 P.st, .int .u16 P.pc] rfl rfl 32 _ HP9.out.blk three_fit rowSp (three_one _ _ _) ?_); intro w11 hB11 ho11; have HO11 := Lib.hid (And.intro hB11 ho11); clear hB11 ho11; have HR11 : Hid (BlkV w11 r8 35 [.int .i64 P.i, .int .u32 P.st, .int .u16 P.pc] ∧ BlkV w11 (w.heap.size + 1) 35 [.int .i64 0, .int .u32 0, .int .u16 0]) := Lib.hid ⟨HQ8.out.2.2.2.1.only HO11.out.2 HQ8.out.2.2.2.2.1, HQ8.out.2.1.only HO11.out.2 (by omega)⟩; have y0 : w11.cell? ⟨r8, 0, none⟩ = some (.int .i64 P.i) := (HR11.out.1.cell 0).trans rfl; have y1 : w11.cell? ⟨r8, 1, none⟩ = some (.int .u32 P.st) := (HR11.out.1.cell 1).trans rfl; have y2 : w11.cell? ⟨r8, 2, none⟩ = some (.int .u16 P.pc) := (HR11.out.1.cell 2).trans rfl; have yl := HR11.out.1.lt)
        | ((refine wpList_st rfl 35 (.tmp 4) (.tmp 58) rfl (w.heap.size + 1) 0 [.int .i64 P.i, .int .u32 P.st, .int .u16 P.pc] rfl rfl 35 _ HR11.out.2 (Nat.le_of_eq rfl) rowM (m_one _ _ _) ?_); intro w12 hB12 ho12; rw [splice_all _ _ (by rfl)] at hB12))
      exact ret_row2 (by rfl) (by rfl) hB12 rowM (by rfl) ⟨rfl, Lib.hid ⟨⟨by rw [HT.out, HW.out]; exact HO11.out.1.only ho12 (by omega), by rw [HW.out]; exact HH.out.th, by rw [HT.out]; simp only; have := HPj.out; omega⟩, fin_fr22 HQ8.out.1 HO11.out.2 ho12 (by omega)⟩⟩
    · have hd4 : decide (P.i + 1 < (toS s).i) = true := by simpa using (by omega : P.i + 1 < (toS s).i)
      rw [if_neg h9] at HT
      have hd5 : decide ((toS s).i ≤ P.i + 1) = false := by simpa using h9
      have y0 : W9.cell? ⟨r8, 0, none⟩ = some (.int .i64 P.i) := (HQ8.out.2.2.2.1.cell 0).trans rfl
      have y1 : W9.cell? ⟨r8, 1, none⟩ = some (.int .u32 P.st) := (HQ8.out.2.2.2.1.cell 1).trans rfl
      have y2 : W9.cell? ⟨r8, 2, none⟩ = some (.int .u16 P.pc) := (HQ8.out.2.2.2.1.cell 2).trans rfl
      have yl := HQ8.out.2.2.2.1.lt
      go_wp2_with (((refine wpList_st rfl 35 (.tmp 4) (.tmp 58) rfl (w.heap.size + 1) 0 [.int .i64 P.i, .int .u32 P.st, .int .u16 P.pc] rfl rfl 35 _ HQ8.out.2.1 (Nat.le_of_eq rfl) rowM (m_one _ _ _) ?_); intro w12 hB12 ho12; rw [splice_all _ _ (by rfl)] at hB12))
      exact ret_row2 (by rfl) (by rfl) hB12 rowM (by rfl) ⟨rfl, Lib.hid ⟨⟨by rw [HT.out, HW.out]; exact HP9.out.blk.only ho12 (by omega), by rw [HW.out]; exact HH.out.th, by rw [HT.out]; exact HH.out.top⟩, Fr.of_below (HQ8.out.1.trans (ho12.below (by omega)))⟩⟩
end Go.Proofs.Ytjlfokfdieafeaa
