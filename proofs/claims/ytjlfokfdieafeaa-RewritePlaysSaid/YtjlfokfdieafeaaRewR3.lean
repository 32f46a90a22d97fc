/- What the document's answers for layer 22 (tenailleref22) answer: a packet that has no place. No statement is proved here. -/
import Derived.Test.YtjlfokfdieafeaaRewR2
namespace Go.Proofs.Ytjlfokfdieafeaa
open Go.RowKit
set_option linter.unusedVariables false

theorem ret_two22 {a b c d e f g h : Int} (h1 : a = e) (h2 : b = f) (h3 : c = g) (h4 : d = h) : Ending.returned (.tuple #[.agg #[.int .i64 a, .int .u32 b, .int .u16 c], .int .i64 d]) = .returned (.tuple #[.agg #[.int .i64 e, .int .u32 f, .int .u16 g], .int .i64 h]) := by rw [h1, h2, h3, h4]
set_option maxRecDepth 100000 in
theorem rmap_no22 (g : Nat) (s : Wtr) (F : Nat → Prop) (x : Mpd) (B : Int) (w : World) (h : R22 w (.pointer (some ⟨g, 0, none⟩)) s F) (he : mapE s x ≠ 0) :
    Calls Try.prog 9 #[.pointer (some ⟨g, 0, none⟩), .agg #[.int .i64 x.i, .int .u32 x.st, .int .u16 x.pc]] w fun e w' => e = .returned (.tuple #[.agg #[.int .i64 0, .int .u32 0, .int .u16 0], .int .i64 (mapE s x)]) ∧ Hid (StpK R22 (.pointer (some ⟨g, 0, none⟩)) s F w w') := by
  obtain ⟨g2, vO, e, hB, ho, hF⟩ := h
  cases e
  have gl := hB.lt
  have c1 : w.cell? ⟨g, 1, none⟩ = some (.bool s.fol) := (hB.cell 1).trans rfl
  have c2 : w.cell? ⟨g, 2, none⟩ = some (.int .i64 s.th.i) := (hB.cell 2).trans rfl
  have hz : ∀ wx : World, (zeroValue 35).run Try.prog wx = .ok (.agg #[.int .i64 0, .int .u32 0, .int .u16 0]) wx := fun wx => by kernel_rfl
  have HX : Hid (∀ w', Below w.heap.size w w' → StpK R22 (.pointer (some ⟨g, 0, none⟩)) s F w w') := Lib.hid (fun w' hb => ⟨F, ⟨g, vO, rfl, hB.below hb hB.lt, own_fr ho (Fr.of_below (F := fun _ => False) hb) (fun k hk e => e), hF⟩, Fr.of_below hb, fun k hk => .inl hk⟩)
  have HE : Hid (mapE s x = if s.fol = false ∨ x.i < 0 then 10 else if x.i < s.th.i then 5 else 0) := Lib.hid rfl
  have HNE := Lib.hid he
  obtain ⟨xi, xs, xp⟩ := x
  obtain ⟨fi, fo, th, hh, O⟩ := s
  simp only at c1 c2 HE
  clear hB ho hF he
  by_cases h1 : fo = false
  · subst h1
    rw [if_pos (.inl rfl)] at HE
    go_enter Try.func9, Try.ntmps9
    go_wp2_with (((refine wpList_st rfl 35 (.tmp 4) (.tmp 18) rfl (w.heap.size + 1) 0 [.int .i64 0, .int .u32 0, .int .u16 0] rfl rfl 35 _ (twoB w _ [.int .i64 0, .int .u32 0, .int .u16 0] 35) (Nat.le_of_eq rfl) rowM (m_one _ _ _) ?_); intro w7 hB7 ho7; rw [splice_all _ _ (by rfl)] at hB7))
    exact ret_row2 (by rfl) (by rfl) hB7 rowM (by rfl) ⟨ret_two22 rfl rfl rfl HE.out.symm, Lib.hid (HX.out _ ((twoBelow w _ _).trans (ho7.below (by omega))))⟩
  obtain rfl : fo = true := by simpa using h1
  by_cases h2 : xi < 0
  · rw [if_pos (.inr h2)] at HE
    go_enter Try.func9, Try.ntmps9
    go_wp2_with (((refine wpList_st rfl 35 (.tmp 4) (.tmp 18) rfl (w.heap.size + 1) 0 [.int .i64 0, .int .u32 0, .int .u16 0] rfl rfl 35 _ (twoB w _ [.int .i64 0, .int .u32 0, .int .u16 0] 35) (Nat.le_of_eq rfl) rowM (m_one _ _ _) ?_); intro w7 hB7 ho7; rw [splice_all _ _ (by rfl)] at hB7))
    exact ret_row2 (by rfl) (by rfl) hB7 rowM (by rfl) ⟨ret_two22 rfl rfl rfl HE.out.symm, Lib.hid (HX.out _ ((twoBelow w _ _).trans (ho7.below (by omega))))⟩
  rw [if_neg (by simp; omega)] at HE
  by_cases h3 : xi < th.i
  · rw [if_pos h3] at HE
    go_enter Try.func9, Try.ntmps9
    go_upto_region 3 with (fail)
    go_quiet (fail)
    have HB9 : Hid (BlkV (((w.alloc (.cells #[.int .i64 xi, .int .u32 xs, .int .u16 xp] 35)).alloc (.cells #[.int .i64 0, .int .u32 0, .int .u16 0] 35)).drewN nq) (w.heap.size + 1) 35 [.int .i64 0, .int .u32 0, .int .u16 0] ∧ Below w.heap.size w (((w.alloc (.cells #[.int .i64 xi, .int .u32 xs, .int .u16 xp] 35)).alloc (.cells #[.int .i64 0, .int .u32 0, .int .u16 0] 35)).drewN nq)) := Lib.hid ⟨twoB w _ [.int .i64 0, .int .u32 0, .int .u16 0] 35, (twoBelow w _ _).trans ⟨rfl, rfl, rfl, Nat.le_refl _, fun _ _ => rfl⟩⟩
    go_wp2_with (((refine wpList_st rfl 35 (.tmp 4) (.tmp 27) rfl (w.heap.size + 1) 0 [.int .i64 0, .int .u32 0, .int .u16 0] rfl rfl 35 _ HB9.out.1 (Nat.le_of_eq rfl) rowM (m_one _ _ _) ?_); intro w7 hB7 ho7; rw [splice_all _ _ (by rfl)] at hB7))
    exact ret_row2 (by rfl) (by rfl) hB7 rowM (by rfl) ⟨ret_two22 rfl rfl rfl HE.out.symm, Lib.hid (HX.out _ (HB9.out.2.trans (ho7.below (by omega))))⟩
  · rw [if_neg h3] at HE
    exact absurd HE.out HNE.out
end Go.Proofs.Ytjlfokfdieafeaa
