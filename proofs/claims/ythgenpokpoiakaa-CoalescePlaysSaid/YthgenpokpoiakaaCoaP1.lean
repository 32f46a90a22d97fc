/- Contracts of package coalesce: a gate's block, what is due, what is asked for; what the laws ask, brought together. No statement is proved here. -/
import Derived.Test.YthgenpokpoiakaaCoaL1
import Derived.BigQuiet
namespace Go.Proofs.Ythgenpokpoiakaa
open Go.RowKit
set_option linter.unusedVariables false

def lstG (s : Gte) : Int := s.O.getLast?.getD 0
def coc (i : Int) (s : Gte) : List Value := [.int .i64 i, .bool s.a, .int .i64 (lstG s), .int .i64 s.O.length]
/-- Block g is the gate: the interval as it came, the asking, the last request's tick, how many went out. -/
structure PCoa (w : World) (g : Nat) (i : Int) (s : Gte) : Prop where
  blk : BlkV w g 39 (coc i s)
  i : s.I = if i < 1 then 1 else i
section
variable {w w' : World} {g : Nat} {i : Int} {s : Gte}
theorem PCoa.lt (h : PCoa w g i s) : g < w.heap.size := BlkV.lt h.blk
theorem PCoa.c0 (h : PCoa w g i s) : w.cell? ⟨g, 0, none⟩ = some (.int .i64 i) := (BlkV.cell h.blk 0).trans rfl
theorem PCoa.c1 (h : PCoa w g i s) : w.cell? ⟨g, 1, none⟩ = some (.bool s.a) := (BlkV.cell h.blk 1).trans rfl
theorem PCoa.c2 (h : PCoa w g i s) : w.cell? ⟨g, 2, none⟩ = some (.int .i64 (lstG s)) := (BlkV.cell h.blk 2).trans rfl
theorem PCoa.c3 (h : PCoa w g i s) : w.cell? ⟨g, 3, none⟩ = some (.int .i64 s.O.length) := (BlkV.cell h.blk 3).trans rfl
theorem PCoa.fr (h : PCoa w g i s) (j : Nat) : w.frozen? ⟨g, j, none⟩ = false := BlkV.frozen h.blk j
theorem PCoa.below (h : PCoa w g i s) (hb : Below w.heap.size w w') : PCoa w' g i s := ⟨BlkV.below h.blk hb h.lt, h.i⟩
end
/-- What is said of a gate: it lies in one block of its own. -/
def T24 (w : World) (v : Value) (s : Gte) (F : Nat → Prop) : Prop := ∃ g i, v = .pointer (some ⟨g, 0, none⟩) ∧ PCoa w g i s ∧ ∀ k, F k ↔ k = g
theorem lone24 : Lone T24 where
  low := fun w p s F ⟨g, i, _, h, hF⟩ k hk => by rw [(hF k).1 hk]; exact h.lt
  stay := fun w w2 p s F ⟨g, i, h0, h, hF⟩ hz hk => ⟨g, i, h0, ⟨(hk g ((hF g).2 rfl)).trans h.blk, h.i⟩, hF⟩
/-- A step behind which the gate lies where it lay. -/
theorem t24_stp {w w1 w2 : World} {g : Nat} {i : Int} {s2 : Gte} {F : Nat → Prop} (hF : ∀ k, F k ↔ k = g) (hb : Below w.heap.size w w1) (ho : Only g w1 w2) (h : PCoa w2 g i s2) : StpK T24 (.pointer (some ⟨g, 0, none⟩)) s2 F w w2 :=
  ⟨F, ⟨g, i, rfl, h, hF⟩, Fr.behind hb (Fr.of_only ho ((hF g).2 rfl)), fun k hk => .inl hk⟩
theorem lst_last (s : Gte) (h : s.O.length ≠ 0) : s.O.getLast? = some (lstG s) := by
  unfold lstG
  cases e : s.O.getLast? with
  | none => exact absurd (by simpa using List.getLast?_eq_none_iff.1 e) h
  | some x => rfl
/-- Is it due, by numbers? -/
theorem due_is (s : Gte) (t : Int) : dueB s t = (s.a && (decide ((s.O.length : Int) = 0) || (decide (lstG s ≤ t) && decide (s.I ≤ t - lstG s)))) ∨ s.I ≤ 0 := by
  by_cases hI : s.I ≤ 0
  · exact .inr hI
  · refine .inl ?_
    unfold dueB
    congr 1
    by_cases h : s.O.length = 0
    · rw [decide_eq_true (show lateG s t from fun x hx => by rw [List.eq_nil_of_length_eq_zero h] at hx; simp at hx)]
      simp [h]
    · have hl := lst_last s h
      have hn : decide ((s.O.length : Int) = 0) = false := decide_eq_false (by omega)
      rw [hn, Bool.false_or]
      by_cases h2 : s.I ≤ t - lstG s
      · rw [decide_eq_true (show lateG s t from fun x hx => by rw [hl] at hx; simp at hx; rw [← hx]; exact h2), decide_eq_true h2, decide_eq_true (by omega)]
        rfl
      · rw [decide_eq_false (show ¬ lateG s t from fun hx => h2 (hx _ (by rw [hl]; simp))), decide_eq_false h2, Bool.and_false]

theorem new_any24 (i : Int) (w : World) (hi : -9223372036854775808 ≤ i ∧ i ≤ 9223372036854775807) :
    Calls Try.prog 7 #[.int .i64 i] w fun e w' => ∃ q F, e = .returned (.pointer (some q)) ∧ Hid (T24 w' (.pointer (some q)) (newG i) F ∧ (∀ k, F k → w.heap.size ≤ k) ∧ Below w.heap.size w w') := by
  clear hi
  go_enter Try.func7, Try.ntmps7
  go_wp2
  go_ret
  exact ⟨_, (fun k => k = w.heap.size), rfl, Lib.hid ⟨⟨_, i, rfl, ⟨BlkV.new w _ (coc i (newG i)), rfl⟩, fun k => Iff.rfl⟩, fun k hk => by omega, (Below.refl _ _).alloc (Nat.le_refl _) _⟩⟩

theorem ask_nil24 (w : World) : Calls Try.prog 9 #[.pointer none] w fun e w' => e = .returned (.tuple #[]) ∧ Hid (Below w.heap.size w w') := by
  go_enter Try.func9, Try.ntmps9
  go_wp2
  go_end0
  exact ⟨rfl, Lib.hid (Below.refl _ _)⟩
theorem came_nil24 (w : World) : Calls Try.prog 12 #[.pointer none] w fun e w' => e = .returned (.tuple #[]) ∧ Hid (Below w.heap.size w w') := by
  go_enter Try.func12, Try.ntmps12
  go_wp2
  go_end0
  exact ⟨rfl, Lib.hid (Below.refl _ _)⟩
theorem due_nil24 (w : World) (t : Int) : Calls Try.prog 10 #[.pointer none, .int .i64 t] w fun e w' => e = .returned (.bool false) ∧ Hid (Below w.heap.size w w') := by
  go_enter Try.func10, Try.ntmps10
  go_wp2
  go_ret
  exact ⟨rfl, Lib.hid (Below.refl _ _)⟩
theorem asked_nil24 (w : World) : Calls Try.prog 13 #[.pointer none] w fun e w' => e = .returned (.bool false) ∧ Hid (Below w.heap.size w w') := by
  go_enter Try.func13, Try.ntmps13
  go_wp2
  go_ret
  exact ⟨rfl, Lib.hid (Below.refl _ _)⟩
theorem sent_nil24 (w : World) : Calls Try.prog 14 #[.pointer none] w fun e w' => e = .returned (.int .i64 0) ∧ Hid (Below w.heap.size w w') := by
  go_enter Try.func14, Try.ntmps14
  go_wp2
  go_ret
  exact ⟨rfl, Lib.hid (Below.refl _ _)⟩

theorem ask_any24 (g : Nat) (i : Int) (s : Gte) (F : Nat → Prop) (w : World) (h : PCoa w g i s) (hF : ∀ k, F k ↔ k = g) :
    Calls Try.prog 9 #[.pointer (some ⟨g, 0, none⟩)] w fun e w' => e = .returned (.tuple #[]) ∧ Hid (StpK T24 (.pointer (some ⟨g, 0, none⟩)) (askG s) F w w') := by
  have f1 := h.fr 1
  have c1 := h.c1
  have HF := Lib.hid hF
  have HS : Hid (PCoa (w.setCell ⟨g, 1, none⟩ (.bool true)) g i (askG s)) := Lib.hid ⟨BlkV.set_ h.blk 1 _, h.i⟩
  clear h hF
  go_enter Try.func9, Try.ntmps9
  go_wp2
  go_end0
  exact ⟨rfl, Lib.hid (t24_stp HF.out (Below.refl _ _) (Only.set _ _ _ _) HS.out)⟩
theorem came_any24 (g : Nat) (i : Int) (s : Gte) (F : Nat → Prop) (w : World) (h : PCoa w g i s) (hF : ∀ k, F k ↔ k = g) :
    Calls Try.prog 12 #[.pointer (some ⟨g, 0, none⟩)] w fun e w' => e = .returned (.tuple #[]) ∧ Hid (StpK T24 (.pointer (some ⟨g, 0, none⟩)) (cameG s) F w w') := by
  have f1 := h.fr 1
  have c1 := h.c1
  have HF := Lib.hid hF
  have HS : Hid (PCoa (w.setCell ⟨g, 1, none⟩ (.bool false)) g i (cameG s)) := Lib.hid ⟨BlkV.set_ h.blk 1 _, h.i⟩
  clear h hF
  go_enter Try.func12, Try.ntmps12
  go_wp2
  go_end0
  exact ⟨rfl, Lib.hid (t24_stp HF.out (Below.refl _ _) (Only.set _ _ _ _) HS.out)⟩
theorem asked_any24 (g : Nat) (i : Int) (s : Gte) (w : World) (h : PCoa w g i s) :
    Calls Try.prog 13 #[.pointer (some ⟨g, 0, none⟩)] w fun e w' => e = .returned (.bool s.a) ∧ ∃ m, w' = w.drewN m := by
  have c1 := h.c1
  obtain ⟨x, a, y⟩ := s
  simp only at c1 ⊢
  clear h
  go_enter Try.func13, Try.ntmps13
  go_wp2
  go_ret
  exact ⟨rfl, 0, rfl⟩
theorem sent_any24 (g : Nat) (i : Int) (s : Gte) (w : World) (h : PCoa w g i s) :
    Calls Try.prog 14 #[.pointer (some ⟨g, 0, none⟩)] w fun e w' => e = .returned (.int .i64 s.O.length) ∧ ∃ m, w' = w.drewN m := by
  have c3 := h.c3
  clear h
  go_enter Try.func14, Try.ntmps14
  go_wp2
  go_ret
  exact ⟨rfl, 0, rfl⟩
end Go.Proofs.Ythgenpokpoiakaa
