/- The document's keeper as an object beside the program's; what statements look at (great). No statement is proved here. -/
import Derived.Test.YtkmacpmdgbhhkaaLosL1
import Derived.Test.YtkmacpmdgbhhkaaRtcpArg
namespace Go.Proofs.Ytkmacpmdgbhhkaa
open Go.RowKit
set_option linter.unusedVariables false

/-- The document's keeper at a pointer. -/
def R20 (w : World) (v : Value) (s : Kpr) (F : Nat → Prop) : Prop := ∃ g vI vT vN, v = .pointer (some ⟨g, 0, none⟩) ∧ RKp 0 g s vI vT vN w ∧ ∀ k, F k ↔ FKp g vI vT vN k
theorem RKp.low_ {g : Nat} {s : Kpr} {vI vT vN : Value} {w : World} (h : RKp 0 g s vI vT vN w) : ∀ k, FKp g vI vT vN k → k < w.heap.size := by
  rintro k (rfl | hk | hk | hk)
  · exact h.lt
  · exact (h.oi.lt k hk).2
  · exact (h.ot.lt k hk).2
  · exact (h.on.lt k hk).2
theorem r20_lone : Lone R20 where
  low := fun w p s F ⟨g, vI, vT, vN, _, h, hF⟩ k hk => h.low_ k ((hF k).1 hk)
  stay := fun w w2 p s F ⟨g, vI, vT, vN, hp, h, hF⟩ hz hk => ⟨g, vI, vT, vN, hp, ⟨(hk g ((hF g).2 (.inl rfl))).trans h.blk, own_at_same h.oi (fun k h1 => hk k ((hF k).2 (.inr (.inl h1)))), own_at_same h.ot (fun k h1 => hk k ((hF k).2 (.inr (.inr (.inl h1))))), own_at_same h.on (fun k h1 => hk k ((hF k).2 (.inr (.inr (.inr h1))))), h.ne⟩, hF⟩
theorem r20_new (p : Int) (w : World) :
    Calls Try.prog 9 #[.int .i64 p] w fun e w' => ∃ g F, e = .returned (.pointer (some ⟨g, 0, none⟩)) ∧ Hid (R20 w' (.pointer (some ⟨g, 0, none⟩)) (newK p) F ∧ (∀ k, F k → w.heap.size ≤ k) ∧ Below w.heap.size w w') := by
  refine (rnew_any20 p w).mono ?_
  rintro e w' ⟨g, rfl, hk⟩
  refine ⟨g, fun k => k = g, rfl, Lib.hid ⟨⟨g, _, _, _, rfl, hk.out.2.1.low, fun k => ?_⟩, fun k hk2 => by rw [hk2]; exact hk.out.1, hk.out.2.2⟩⟩
  unfold FKp
  simp [Value.ownBlock]
theorem r20_came (v : Value) (g : Nat) (hv : v = .pointer (some ⟨g, 0, none⟩)) (s : Kpr) (F : Nat → Prop) (i tk : Int) (w : World) (h : R20 w v s F) (hk : KOk s) (hi : -9223372036854775808 ≤ i ∧ i ≤ 9223372036854775807) (hm : s.h ≤ 9223372036854775807) :
    Calls Try.prog 14 #[.pointer (some ⟨g, 0, none⟩), .int .i64 i, .int .i64 tk] w fun e w' => e = .returned (.tuple #[]) ∧ Hid (StpK R20 v (cameK s i tk) F w w') := by
  subst hv
  obtain ⟨g2, vI, vT, vN, e1, h1, hF⟩ := h
  cases e1
  refine (rcame_any20 g s vI vT vN i tk w h1 hk hi hm).mono ?_
  rintro e w' ⟨rfl, vI', vT', vN', hw⟩
  exact ⟨rfl, Lib.hid ⟨FKp g vI' vT' vN', ⟨g, vI', vT', vN', rfl, hw.kp, fun k => Iff.rfl⟩, hw.fr.mono (fun k h => (hF k).2 h), fun k h => (hw.own k h).imp (hF k).2 id⟩⟩
theorem neL : (35 : TypeId) ≠ 41 ∧ (35 : TypeId) ≠ 2 ∧ (35 : TypeId) ≠ 3 := by decide
theorem r20_ask (v : Value) (g : Nat) (hv : v = .pointer (some ⟨g, 0, none⟩)) (s : Kpr) (F : Nat → Prop) (tk : Int) (w : World) (h : R20 w v s F) (hk : KOk s) (ht1 : -4611686018427387904 ≤ tk ∧ tk ≤ 4611686018427387904) (hp : s.p ≤ 1000000000) (L : List (Nat × Nat)) (n : Nat) (hL : lsL (askK s tk).2 = L) (hn : L.length = n) :
    Calls Try.prog 12 #[.pointer (some ⟨g, 0, none⟩), .int .i64 tk] w fun e w' => ∃ A c, e = .returned (.slice A n c) ∧ Hid (RdL w' A n L ∧ StpB R20 v (askK s tk).1 F (BlkOf A n) w w') := by
  subst hv
  subst hn
  subst hL
  obtain ⟨g2, vI, vT, vN, e1, h1, hF⟩ := h
  cases e1
  have hpp := hk.p
  have hfit : ∀ x ∈ (askK s tk).2, x < 65536 := fun x hx => by
    obtain ⟨_, asked, h2, _⟩ := askM_each s.p tk s.M []
    have : x ∈ asked.map (fun x => (x.i % 65536).toNat) := by
      have e : (askK s tk).2 = asked.map (fun x => (x.i % 65536).toNat) := by simpa [askK] using h2
      rw [← e]; exact hx
    obtain ⟨y, _, rfl⟩ := List.mem_map.1 this
    omega
  refine (rask_any20 g s vI vT vN tk w h1 hk (by omega) (by omega)).mono ?_
  rintro e w' ⟨A, c, rfl, hw⟩
  obtain ⟨ho, vI', vT', vN', hy⟩ := hw.out
  refine ⟨A, c, rfl, Lib.hid ⟨RdL.of_own ho (lsL_fit _ hfit), FKp g vI' vT' vN', ⟨g, vI', vT', vN', rfl, hy.kp, fun k => Iff.rfl⟩, hy.fr.mono (fun k h => (hF k).2 h), fun k h => (hy.own k h).imp (hF k).2 id, ?_⟩⟩
  rintro k ⟨hn, ad, hA, rfl⟩
  obtain ⟨b, hb, hge⟩ := own_block2 ho hn
  rw [hA] at hb
  cases hb
  have hob : (Value.slice A (lsL (askK s tk).2).length c).ownBlock = some b := by rw [hA]; rfl
  refine ⟨hge, (ho.lt b hob).2, ?_⟩
  rintro (hk2 | hk2 | hk2 | hk2)
  · exact own_ne ho hy.kp.blk neL.1 (by rw [hob]; exact congrArg some hk2)
  · exact own_apart ho hy.kp.oi neL.2.1 b hob hk2
  · exact own_apart ho hy.kp.ot neL.2.2 b hob hk2
  · exact own_apart ho hy.kp.on neL.2.1 b hob hk2

/-- More than statements look at. -/
def gr20 (i t : Int) : Bool := decide (4611686018427387904 < i ∨ 4611686018427387904 < t ∨ i < -4611686018427387904 ∨ t < -4611686018427387904)
theorem ret_bK {a b : Bool} (h : a = b) : Ending.returned (.bool a) = .returned (.bool b) := by rw [h]
theorem great20_any (a : Bool) (i t : Int) (w : World) :
    Calls Try.prog 10 #[.agg #[.bool a, .int .i64 i, .int .i64 t]] w fun e w' => e = .returned (.bool (gr20 i t)) ∧ Below w.heap.size w w' := by
  have HB : Hid (Below w.heap.size w (w.alloc (.cells #[.bool a, .int .i64 i, .int .i64 t] 30))) := Lib.hid ((Below.refl _ _).alloc (Nat.le_refl _) _)
  have HG : Hid (gr20 i t = decide (4611686018427387904 < i ∨ 4611686018427387904 < t ∨ i < -4611686018427387904 ∨ t < -4611686018427387904)) := Lib.hid rfl
  by_cases k1 : 4611686018427387904 < i
  · go_enter Try.func10, Try.ntmps10
    go_wp2
    go_ret
    exact ⟨ret_bK (HG.out.trans (decide_eq_true (by omega))).symm, HB.out⟩
  by_cases k2 : 4611686018427387904 < t
  · go_enter Try.func10, Try.ntmps10
    go_wp2
    go_ret
    exact ⟨ret_bK (HG.out.trans (decide_eq_true (by omega))).symm, HB.out⟩
  by_cases k3 : i < -4611686018427387904
  · go_enter Try.func10, Try.ntmps10
    go_wp2
    go_ret
    exact ⟨ret_bK (HG.out.trans (decide_eq_true (by omega))).symm, HB.out⟩
  by_cases k4 : t < -4611686018427387904
  · go_enter Try.func10, Try.ntmps10
    go_wp2
    go_ret
    exact ⟨ret_bK (HG.out.trans (decide_eq_true (by omega))).symm, HB.out⟩
  go_enter Try.func10, Try.ntmps10
  go_wp2
  go_ret
  exact ⟨ret_bK (HG.out.trans (decide_eq_false (by omega))).symm, HB.out⟩
end Go.Proofs.Ytkmacpmdgbhhkaa
