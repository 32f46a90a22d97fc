/- What the document's answers for layer 23 (tenailleref23) answer. No statement is proved here. -/
import Derived.Test.YtejkballndfmmaaProg
import Derived.Test.YtejkballndfmmaaLayNum
import Derived.Test.YtejkballndfmmaaTwoK
import Derived.WalkKit
import Derived.KernelRfl
import Derived.IntWalk
import Derived.LoopTactic
import Derived.Lib.Hide
import Derived.OpenShut
import Derived.BigQuiet
import Derived.Deep.DeepCutAuto
namespace Go.Proofs.Ytejkballndfmmaa
open Go.RowKit
set_option linter.unusedVariables false

/-- The document's chooser at a pointer. -/
def R23 (w : World) (v : Value) (s : Chs) (F : Nat → Prop) : Prop := ∃ g, v = .pointer (some ⟨g, 0, none⟩) ∧ BlkV w g 37 [.int .i64 s.m, .int .i64 s.w, .int .i64 s.g] ∧ ∀ k, F k ↔ k = g
theorem r23_lone : Lone R23 where
  low := fun w p s F ⟨g, _, h, hF⟩ k hk => by rw [(hF k).1 hk]; exact h.lt
  stay := fun w w2 p s F ⟨g, hp, h, hF⟩ hz hk => ⟨g, hp, (hk g ((hF g).2 rfl)).trans h, hF⟩
theorem ret_two23 {a b c d : Bool} (h : a = b) (h2 : c = d) : Ending.returned (.tuple #[.bool a, .bool c]) = .returned (.tuple #[.bool b, .bool d]) := by rw [h, h2]
theorem rnew_any23 (m : Int) (w : World) :
    Calls Try.prog 8 #[.int .i64 m] w fun e w' => ∃ g F, e = .returned (.pointer (some ⟨g, 0, none⟩)) ∧ Hid (R23 w' (.pointer (some ⟨g, 0, none⟩)) (newC m) F ∧ (∀ k, F k → w.heap.size ≤ k) ∧ Below w.heap.size w w') := by
  go_enter Try.func8, Try.ntmps8
  go_wp2
  go_ret
  exact ⟨w.heap.size, fun k => k = w.heap.size, rfl, Lib.hid ⟨⟨_, rfl, BlkV.new_at _ _ _ _ _ rfl rfl, fun k => Iff.rfl⟩, fun k hk => by rw [hk]; exact Nat.le_refl _, (Below.refl _ _).alloc (Nat.le_refl _) _⟩⟩
theorem rwant_any23 (g : Nat) (s : Chs) (F : Nat → Prop) (l : Int) (w : World) (h : R23 w (.pointer (some ⟨g, 0, none⟩)) s F) :
    Calls Try.prog 12 #[.pointer (some ⟨g, 0, none⟩), .int .i64 l] w fun e w' => e = .returned (.int .i64 (wantE s l)) ∧ Hid (StpK R23 (.pointer (some ⟨g, 0, none⟩)) (wantS s l) F w w') := by
  obtain ⟨g2, e, hB, hF⟩ := h
  cases e
  have c0 := (hB.cell 0).trans rfl
  have c1 := (hB.cell 1).trans rfl
  have c2 := (hB.cell 2).trans rfl
  have f1 := hB.frozen 1
  have f2 := hB.frozen 2
  have gl := hB.lt
  have HB := Lib.hid hB
  have HF := Lib.hid hF
  clear hB hF
  by_cases h1 : l < -1
  · have HE : Hid (wantE s l = 9 ∧ wantS s l = s) := Lib.hid ⟨by unfold wantE; rw [if_pos (.inl h1)], by unfold wantS; rw [if_pos (.inl h1)]⟩
    go_enter Try.func12, Try.ntmps12
    go_wp2
    go_ret
    exact ⟨by rw [HE.out.1]; rfl, Lib.hid ⟨F, ⟨g, rfl, by rw [HE.out.2]; exact HB.out, HF.out⟩, Fr.refl _ _, fun k hk => .inl hk⟩⟩
  by_cases h2 : s.m ≤ l
  · have HE : Hid (wantE s l = 9 ∧ wantS s l = s) := Lib.hid ⟨by unfold wantE; rw [if_pos (.inr h2)], by unfold wantS; rw [if_pos (.inr h2)]⟩
    go_enter Try.func12, Try.ntmps12
    go_wp2
    go_ret
    exact ⟨by rw [HE.out.1]; rfl, Lib.hid ⟨F, ⟨g, rfl, by rw [HE.out.2]; exact HB.out, HF.out⟩, Fr.refl _ _, fun k hk => .inl hk⟩⟩
  have HE : Hid (wantE s l = 0 ∧ wantS s l = ⟨s.m, l, if l = -1 then -1 else s.g⟩) := Lib.hid ⟨by unfold wantE; rw [if_neg (by omega)], by unfold wantS; rw [if_neg (by omega)]⟩
  by_cases h3 : l = -1
  · subst h3
    go_enter Try.func12, Try.ntmps12
    go_wp2
    go_ret
    refine ⟨by rw [HE.out.1]; rfl, Lib.hid ⟨F, ⟨g, rfl, by rw [HE.out.2]; exact (HB.out.set_ 1 _).set_ 2 _, HF.out⟩, ?_, fun k hk => .inl hk⟩⟩
    exact Fr.of_only (F := F) ((Only.set w g 1 _).trans (Only.set _ g 2 _)) ((HF.out g).2 rfl)
  · have h3b : (l == -1) = false := by simpa using h3
    go_enter Try.func12, Try.ntmps12
    go_wp2
    go_ret
    refine ⟨by rw [HE.out.1]; rfl, Lib.hid ⟨F, ⟨g, rfl, by rw [HE.out.2]; simp only [if_neg h3]; exact HB.out.set_ 1 _, HF.out⟩, ?_, fun k hk => .inl hk⟩⟩
    exact Fr.of_only (F := F) (Only.set w g 1 _) ((HF.out g).2 rfl)
theorem rtake_any23 (g : Nat) (s : Chs) (F : Nat → Prop) (l : Int) (k : Bool) (w : World) (h : R23 w (.pointer (some ⟨g, 0, none⟩)) s F) :
    Calls Try.prog 10 #[.pointer (some ⟨g, 0, none⟩), .int .i64 l, .bool k] w fun e w' => e = .returned (.tuple #[.bool (takeA s l k), .bool (takeT s l k)]) ∧ Hid (StpK R23 (.pointer (some ⟨g, 0, none⟩)) (takeS s l k) F w w') := by
  obtain ⟨g2, e, hB, hF⟩ := h
  cases e
  have c0 := (hB.cell 0).trans rfl
  have c1 := (hB.cell 1).trans rfl
  have c2 := (hB.cell 2).trans rfl
  have f2 := hB.frozen 2
  have gl := hB.lt
  have HB := Lib.hid hB
  have HF := Lib.hid hF
  have HFA : Hid (∀ a, (takeA s l k = a ∧ takeT s l k = false ∧ takeS s l k = s) → Ending.returned (.tuple #[.bool a, .bool false]) = .returned (.tuple #[.bool (takeA s l k), .bool (takeT s l k)]) ∧ Hid (StpK R23 (.pointer (some ⟨g, 0, none⟩)) (takeS s l k) F w w)) := Lib.hid (fun a ⟨e1, e2, e3⟩ => ⟨ret_two23 e1.symm e2.symm, Lib.hid ⟨F, ⟨g, rfl, by rw [e3]; exact HB.out, HF.out⟩, Fr.refl _ _, fun k hk => .inl hk⟩⟩)
  clear hB hF
  by_cases h1 : l < 0
  · have HE : Hid (takeA s l k = false ∧ takeT s l k = false ∧ takeS s l k = s) := Lib.hid (by rcases take_ways s l k with h | ⟨h, _⟩ | ⟨h, _⟩; exact h; exact absurd (of_decide_eq_true h) (by omega); exact absurd (of_decide_eq_true h) (by omega))
    go_enter Try.func10, Try.ntmps10
    go_wp2
    go_ret2
    exact HFA.out _ HE.out
  by_cases h2 : s.m ≤ l
  · have HE : Hid (takeA s l k = false ∧ takeT s l k = false ∧ takeS s l k = s) := Lib.hid (by rcases take_ways s l k with h | ⟨h, _⟩ | ⟨h, _⟩; exact h; exact absurd (of_decide_eq_true h) (by omega); exact absurd (of_decide_eq_true h) (by omega))
    go_enter Try.func10, Try.ntmps10
    go_wp2
    go_ret2
    exact HFA.out _ HE.out
  by_cases h3 : s.g = l
  · have HE : Hid (takeA s l k = true ∧ takeT s l k = false ∧ takeS s l k = s) := Lib.hid (by rcases take_ways s l k with ⟨h, _⟩ | h | ⟨_, h, _⟩; exact absurd (of_decide_eq_false h) (by omega); exact ⟨h.1, h.2.1, h.2.2.1⟩; exact absurd (of_decide_eq_true h) (by omega))
    have h3b : (s.g == l) = true := by simpa using h3
    go_enter Try.func10, Try.ntmps10
    go_wp2
    go_ret2
    exact HFA.out _ HE.out
  have h3b : (s.g == l) = false := by simpa using h3
  by_cases h4 : k = true ∧ s.w = l
  · obtain ⟨rfl, h4⟩ := h4
    have h4b : (s.w == l) = true := by simpa using h4
    have HE : Hid (takeA s l true = true ∧ takeT s l true = true ∧ takeS s l true = ⟨s.m, s.w, l⟩) := Lib.hid (by
      have ht : takeT s l true = true := decide_eq_true ⟨by omega, by omega, h3, rfl, h4⟩
      exact ⟨decide_eq_true ⟨by omega, by omega, .inr ⟨rfl, h4⟩⟩, ht, by unfold takeS; rw [if_pos ht]⟩)
    go_enter Try.func10, Try.ntmps10
    go_wp2
    go_ret2
    refine ⟨ret_two23 HE.out.1.symm HE.out.2.1.symm, Lib.hid ⟨F, ⟨g, rfl, by rw [HE.out.2.2]; exact HB.out.set_ 2 _, HF.out⟩, ?_, fun k hk => .inl hk⟩⟩
    exact Fr.of_only (F := F) (Only.set w g 2 _) ((HF.out g).2 rfl)
  · have HE : Hid (takeA s l k = false ∧ takeT s l k = false ∧ takeS s l k = s) := Lib.hid (by rcases take_ways s l k with h | ⟨_, _, _, h⟩ | ⟨_, _, _, h5, h6, _⟩; exact h; exact absurd h h3; exact absurd ⟨h5, h6⟩ h4)
    cases k with
    | false =>
      go_enter Try.func10, Try.ntmps10
      go_wp2
      go_ret2
      exact HFA.out _ HE.out
    | true =>
      have h5b : (s.w == l) = false := by
        have : s.w ≠ l := fun h => h4 ⟨rfl, h⟩
        simpa using this
      clear h4
      go_enter Try.func10, Try.ntmps10
      go_wp2
      go_ret2
      exact HFA.out _ HE.out
end Go.Proofs.Ytejkballndfmmaa
