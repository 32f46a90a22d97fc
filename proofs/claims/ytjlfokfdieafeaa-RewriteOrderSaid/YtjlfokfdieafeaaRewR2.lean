/- What the document's answers for layer 22 (tenailleref22) answer: a source is followed. No statement is proved here. -/
import Derived.Test.YtjlfokfdieafeaaRewR1
namespace Go.Proofs.Ytjlfokfdieafeaa
open Go.RowKit
set_option linter.unusedVariables false

theorem rowM : RowTy Try.prog 35 3 := ⟨_, Try.underlying35, rfl, by kernel_rfl⟩
theorem m_one (a b c : Int) : ∀ v ∈ ([.int .i64 a, .int .u32 b, .int .u16 c] : List Value), v.oneCell' = true := by simp [Value.oneCell']
theorem neW : (35 : TypeId) ≠ 38 := by decide
/-- The world behind a source's beginning, but for what is higher. -/
def W22 (w : World) (g : Nat) (first xi xs xp : Int) : World :=
  ((((((((w.setCell ⟨g, 2, none⟩ (.int .i64 xi)).setCell ⟨g, 3, none⟩ (.int .u32 xs)).setCell ⟨g, 4, none⟩ (.int .u16 xp)).setCell ⟨g, 1, none⟩ (.bool true)).setCell ⟨g, 5, none⟩ (.int .i64 first)).setCell ⟨g, 6, none⟩ (.int .u32 0)).setCell ⟨g, 7, none⟩ (.int .u16 0)).alloc (.cells #[.int .i64 xi, .int .u32 xs, .int .u16 xp] 35))
theorem w22_facts {w : World} {g : Nat} {s : Wtr} {vO : Value} {F : Nat → Prop} (x : Mpd) (hB : BlkV w g 38 (wcells s vO)) (ho : w.ownsRow 0 35 3 vO s.O.length (mcells s.O)) (hg : F g) :
    BlkV (W22 w g s.first x.i x.st x.pc) g 38 (wcells ⟨s.first, true, x, ⟨s.first, 0, 0⟩, s.O⟩ vO) ∧ (W22 w g s.first x.i x.st x.pc).ownsRow 0 35 3 vO s.O.length (mcells s.O) ∧ Fr F w (W22 w g s.first x.i x.st x.pc) := by
  have h1 := (((((((hB.set_ 2 (.int .i64 x.i)).set_ 3 (.int .u32 x.st)).set_ 4 (.int .u16 x.pc)).set_ 1 (.bool true)).set_ 5 (.int .i64 s.first)).set_ 6 (.int .u32 0)).set_ 7 (.int .u16 0)).alloc (.cells #[.int .i64 x.i, .int .u32 x.st, .int .u16 x.pc] 35)
  have o := ((((((Only.set w g 2 (.int .i64 x.i)).trans (Only.set _ g 3 (.int .u32 x.st))).trans (Only.set _ g 4 (.int .u16 x.pc))).trans (Only.set _ g 1 (.bool true))).trans (Only.set _ g 5 (.int .i64 s.first))).trans (Only.set _ g 6 (.int .u32 0))).trans (Only.set _ g 7 (.int .u16 0))
  refine ⟨h1, ?_, (Fr.of_only (F := F) o hg).then ((Below.refl _ _).alloc (Nat.le_refl _) _)⟩
  exact (own_fr ho (Fr.of_only (F := fun k => k = g) o rfl) (fun k hk e => own_ne ho hB neW (by rw [← e]; exact hk))).alloc _

set_option maxRecDepth 100000 in
theorem rfollow_any22 (g : Nat) (s : Wtr) (F : Nat → Prop) (x : Mpd) (B : Int) (w : World) (h : R22 w (.pointer (some ⟨g, 0, none⟩)) s F) (hk : OkW s B) (hB0 : B ≤ 4611686018427387904) (hx : OkM x) (hl : s.O.length ≤ 1000) :
    Calls Try.prog 11 #[.pointer (some ⟨g, 0, none⟩), .agg #[.int .i64 x.i, .int .u32 x.st, .int .u16 x.pc]] w fun e w' => e = .returned (.int .i64 (folE x)) ∧ Hid (StpK R22 (.pointer (some ⟨g, 0, none⟩)) (folW s x) F w w') := by
  obtain ⟨g2, vO, e, hB, ho, hF⟩ := h
  cases e
  have HB := Lib.hid hB
  have HF := Lib.hid hF
  have HO := Lib.hid ho
  have gl := hB.lt
  have HK := Lib.hid hk
  by_cases hi : x.i < 0
  · have HE : Hid (folE x = 10 ∧ folW s x = s) := Lib.hid ⟨by unfold folE; rw [if_pos hi], by unfold folW; rw [if_pos hi]⟩
    obtain ⟨xi, xs, xp⟩ := x
    simp only at *
    have HX : Hid (∀ c, StpK R22 (.pointer (some ⟨g, 0, none⟩)) s F w (w.alloc c)) := Lib.hid (fun c => ⟨F, ⟨g, vO, rfl, hB.alloc _, ho.alloc _, hF⟩, Fr.of_below ((Below.refl _ _).alloc (Nat.le_refl _) _), fun k hk => .inl hk⟩)
    clear hB ho hF hk
    go_enter Try.func11, Try.ntmps11
    go_wp2
    go_ret
    exact ⟨ret_i64W HE.out.1.symm, Lib.hid (by rw [HE.out.2]; exact HX.out _)⟩
  · have c0 : w.cell? ⟨g, 0, none⟩ = some (.int .i64 s.first) := (hB.cell 0).trans rfl
    have c1 : w.cell? ⟨g, 1, none⟩ = some (.bool s.fol) := (hB.cell 1).trans rfl
    have c2 : w.cell? ⟨g, 2, none⟩ = some (.int .i64 s.th.i) := (hB.cell 2).trans rfl
    have c3 : w.cell? ⟨g, 3, none⟩ = some (.int .u32 s.th.st) := (hB.cell 3).trans rfl
    have c4 : w.cell? ⟨g, 4, none⟩ = some (.int .u16 s.th.pc) := (hB.cell 4).trans rfl
    have c5 : w.cell? ⟨g, 5, none⟩ = some (.int .i64 s.he.i) := (hB.cell 5).trans rfl
    have c6 : w.cell? ⟨g, 6, none⟩ = some (.int .u32 s.he.st) := (hB.cell 6).trans rfl
    have c7 : w.cell? ⟨g, 7, none⟩ = some (.int .u16 s.he.pc) := (hB.cell 7).trans rfl
    have c8 : w.cell? ⟨g, 8, none⟩ = some vO := (hB.cell 8).trans rfl
    have f1 := hB.frozen 1
    have f2 := hB.frozen 2
    have f3 := hB.frozen 3
    have f4 := hB.frozen 4
    have f5 := hB.frozen 5
    have f6 := hB.frozen 6
    have f7 := hB.frozen 7
    have hz : ∀ wx : World, (zeroValue 35).run Try.prog wx = .ok (.agg #[.int .i64 0, .int .u32 0, .int .u16 0]) wx := fun wx => by kernel_rfl
    obtain ⟨xi, xs, xp⟩ := x
    simp only at *
    clear hB ho hF hk
    go_enter Try.func11, Try.ntmps11
    go_upto_region 6 with (fail)
    have HW := Lib.hid (w22_facts (F := F) (x := ⟨xi, xs, xp⟩) HB.out HO.out ((HF.out g).2 (.inl rfl)))
    obtain ⟨w5, hw5⟩ : ∃ w5, w5 = W22 w g s.first xi xs xp := ⟨_, rfl⟩
    have hw6 := hw5
    unfold W22 at hw6
    rw [← hw6]
    simp only at HW
    rw [← hw5] at HW
    clear hw5 hw6 c0 c1 c2 c3 c4 c5 c6 c7 c8 f1 f2 f3 f4 f5 f6 f7 gl
    have hB5 := HW.out.1
    have HT := Lib.hid (rtop_any22 g ⟨s.first, true, ⟨xi, xs, xp⟩, ⟨s.first, 0, 0⟩, s.O⟩ vO w5 HW.out.1 HW.out.2.1 hl)
    have HFIN : Hid (∀ y w9, y = hereW s → BlkV w9 g 38 (wcells ⟨s.first, true, ⟨xi, xs, xp⟩, y, s.O⟩ vO) → Fr (fun k => k = g) w5 w9 → StpK R22 (.pointer (some ⟨g, 0, none⟩)) (folW s ⟨xi, xs, xp⟩) F w w9) := Lib.hid (fun y w9 hy hb hf => by
      have e : folW s ⟨xi, xs, xp⟩ = ⟨s.first, true, ⟨xi, xs, xp⟩, y, s.O⟩ := by unfold folW; rw [if_neg hi, hy]
      rw [e]
      exact ⟨F, ⟨g, vO, rfl, hb, own_fr HW.out.2.1 hf (fun k hk e => own_ne HW.out.2.1 HW.out.1 neW (by rw [← e]; exact hk)), HF.out⟩, HW.out.2.2.trans hf (fun k hk => .inl ((HF.out k).2 (.inl hk))), fun k hk => .inl hk⟩)
    have HE : Hid (folE ⟨xi, xs, xp⟩ = 0) := Lib.hid (by unfold folE; rw [if_neg hi])
    rcases topW_facts s with ⟨h1, h2⟩ | ⟨m, h1, h2, _⟩
    · have HH : Hid (hereW s = ⟨s.first, 0, 0⟩) := Lib.hid (by unfold hereW; rw [h1]; rfl)
      rw [show topW ⟨s.first, true, ⟨xi, xs, xp⟩, ⟨s.first, 0, 0⟩, s.O⟩ = -1 from h1] at HT
      clear hB5 h1 h2
      go_wp2_with (go_at_call 19; ((with_reducible refine (Hid.out HT).mono ?_); rintro e w1 ⟨rfl, q, rfl⟩))
      go_ret
      exact ⟨ret_i64W HE.out.symm, Lib.hid (HFIN.out _ (w5.drewN q) HH.out.symm HW.out.1 (Fr.of_below ⟨rfl, rfl, rfl, Nat.le_refl _, fun _ _ => rfl⟩))⟩
    · have ht : s.O.getD m mz ∈ s.O := by
        have e : s.O.getD m mz = s.O[m] := by simp [List.getD, h2]
        rw [e]; exact List.getElem_mem h2
      have htb := HK.out.O _ ht
      have HH : Hid (hereW s = ⟨(s.O.getD m mz).i + 1, ((s.O.getD m mz).st + 3000) % 4294967296, ((s.O.getD m mz).pc + 1) % 32768⟩) := Lib.hid (by unfold hereW; rw [h1, if_neg (by omega), Int.toNat_natCast])
      rw [show topW ⟨s.first, true, ⟨xi, xs, xp⟩, ⟨s.first, 0, 0⟩, s.O⟩ = m from h1] at HT
      have HT2 : Hid (Calls Try.prog 19 #[.pointer (some ⟨g, 0, none⟩)] w5 fun e w' => e = .returned (.int .i64 m) ∧ Hid (BlkV w' g 38 (wcells ⟨s.first, true, ⟨xi, xs, xp⟩, ⟨s.first, 0, 0⟩, s.O⟩ vO) ∧ w'.ownsRow 0 35 3 vO s.O.length (mcells s.O) ∧ Below w5.heap.size w5 w')) := Lib.hid (by
        refine HT.out.mono ?_
        rintro e w' ⟨rfl, q, rfl⟩
        exact ⟨rfl, Lib.hid ⟨HW.out.1, HW.out.2.1, rfl, rfl, rfl, Nat.le_refl _, fun _ _ => rfl⟩⟩)
      obtain ⟨t, hte⟩ : ∃ t, t = s.O.getD m mz := ⟨_, rfl⟩
      have HTE := Lib.hid hte
      rw [← hte] at htb HH
      obtain ⟨ti, ts, tp⟩ := t
      simp only at htb HH
      have e1 : (tp + 1) % 65536 = tp + 1 := by omega
      have e2 : (tp + 1).tmod 32768 = (tp + 1) % 32768 := Int.tmod_eq_emod_of_nonneg (by omega)
      have e3 : (tp + 1) % 32768 % 65536 = (tp + 1) % 32768 := by omega
      clear hB5 h1 hte ht HT
      go_upto_region 8 with (go_at_call 19; ((with_reducible refine (Hid.out HT2).mono ?_); rintro e w1 ⟨rfl, HQ⟩))
      obtain ⟨b, c, hvO, _, hbl, hcell⟩ := own_mpds HQ.out.2.1 (by omega)
      subst hvO
      obtain ⟨q0, q1, q2⟩ := hcell m h2
      rw [← HTE.out] at q0 q1 q2
      simp only at q0 q1 q2
      have c8 : w1.cell? ⟨g, 8, none⟩ = some (.slice (some ⟨b, 0, none⟩) s.O.length c) := (HQ.out.1.cell 8).trans rfl
      obtain ⟨N, hN⟩ : ∃ N, N = s.O.length := ⟨_, rfl⟩
      rw [← hN] at c8 h2 hl
      have hmi : (m : Int) < (N : Int) := by omega
      have gl1 := HQ.out.1.lt
      have HST : Hid (∀ w7, BlkV w7 w1.heap.size 35 [.int .i64 ti, .int .u32 ts, .int .u16 tp] → Only w1.heap.size (w1.alloc (.cells #[.int .i64 0, .int .u32 0, .int .u16 0] 35)) w7 → BlkV w7 g 38 (wcells ⟨s.first, true, ⟨xi, xs, xp⟩, ⟨s.first, 0, 0⟩, s.O⟩ (.slice (some ⟨b, 0, none⟩) s.O.length c)) ∧ Fr (fun k => k = g) w5 w7) := Lib.hid (fun w7 h7 o7 => ⟨(HQ.out.1.alloc _).only o7 (by omega), (Fr.of_below HQ.out.2.2).trans ((Fr.of_below (F := fun k => k = w1.heap.size) ((Below.refl w1.heap.size w1).alloc (Nat.le_refl _) _)).trans (Fr.of_only (F := fun k => k = w1.heap.size) o7 rfl) (fun i hi => .inl hi)) (fun i hi => .inr (by rw [hi]; exact HQ.out.2.2.size))⟩)
      clear hcell hN
      go_upto_region 9 with (((refine wpList_st rfl 35 (.tmp 6) (.tmp 35) rfl w1.heap.size 0 [.int .i64 ti, .int .u32 ts, .int .u16 tp] rfl rfl 35 _ (BlkV.new w1 35 [.int .i64 0, .int .u32 0, .int .u16 0]) (Nat.le_of_eq rfl) rowM (m_one _ _ _) ?_); intro w7 hB7 ho7; rw [splice_all _ _ (by rfl)] at hB7))
      have HG := Lib.hid (HST.out w7 hB7 ho7)
      have k0 : w7.cell? ⟨w1.heap.size, 0, none⟩ = some (.int .i64 ti) := (hB7.cell 0).trans rfl
      have k1 : w7.cell? ⟨w1.heap.size, 1, none⟩ = some (.int .u32 ts) := (hB7.cell 1).trans rfl
      have k2 : w7.cell? ⟨w1.heap.size, 2, none⟩ = some (.int .u16 tp) := (hB7.cell 2).trans rfl
      have c5 : w7.cell? ⟨g, 5, none⟩ = some (.int .i64 s.first) := (HG.out.1.cell 5).trans rfl
      have c6 : w7.cell? ⟨g, 6, none⟩ = some (.int .u32 0) := (HG.out.1.cell 6).trans rfl
      have c7 : w7.cell? ⟨g, 7, none⟩ = some (.int .u16 0) := (HG.out.1.cell 7).trans rfl
      have f5 := HG.out.1.frozen 5
      have f6 := HG.out.1.frozen 6
      have f7 := HG.out.1.frozen 7
      have gl := HG.out.1.lt
      have HF9 := Lib.hid (HFIN.out ⟨ti + 1, (ts + 3000) % 4294967296, (tp + 1) % 32768⟩ (((w7.setCell ⟨g, 5, none⟩ (.int .i64 (ti + 1))).setCell ⟨g, 6, none⟩ (.int .u32 ((ts + 3000) % 4294967296))).setCell ⟨g, 7, none⟩ (.int .u16 ((tp + 1) % 32768))) HH.out.symm (((HG.out.1.set_ 5 _).set_ 6 _).set_ 7 _) (HG.out.2.trans (Fr.of_only (F := fun k => k = g) (((Only.set w7 g 5 _).trans (Only.set _ g 6 _)).trans (Only.set _ g 7 _)) rfl) (fun i hi => .inl hi)))
      clear hB7 ho7 q0 q1 q2 c8 HST
      go_wp2
      go_ret
      exact ⟨ret_i64W HE.out.symm, HF9⟩
end Go.Proofs.Ytjlfokfdieafeaa
