/- Plain words on gates that make few requests (layer 24). Names no program. No statement is proved here. -/
import Derived.Test.YthgenpokpoiakaaOnK
namespace Go.Proofs.Ythgenpokpoiakaa
set_option linter.unusedVariables false

/-- A gate: the interval, is a picture asked for, the requests' ticks. -/
structure Gte where
  I : Int
  a : Bool
  O : List Int
def newG (i : Int) : Gte := ⟨if i < 1 then 1 else i, false, []⟩
def askG (s : Gte) : Gte := ⟨s.I, true, s.O⟩
def cameG (s : Gte) : Gte := ⟨s.I, false, s.O⟩
/-- Is it due, but for the asking? -/
def lateG (s : Gte) (t : Int) : Prop := ∀ x ∈ s.O.getLast?, s.I ≤ t - x
instance (s : Gte) (t : Int) : Decidable (lateG s t) := by unfold lateG; infer_instance
def dueB (s : Gte) (t : Int) : Bool := s.a && decide (lateG s t)
def dueG (s : Gte) (t : Int) : Gte := if dueB s t = true then ⟨s.I, false, s.O ++ [t]⟩ else s
/-- What is so of all gates. -/
structure OkG (s : Gte) : Prop where
  I : 1 ≤ s.I ∧ s.I ≤ 9223372036854775807
  O : ∀ x ∈ s.O, -4611686018427387903 ≤ x ∧ x ≤ 4611686018427387903
theorem newG_ok {i : Int} (h : i ≤ 9223372036854775807) : OkG (newG i) := ⟨by unfold newG; simp only; split <;> omega, by unfold newG; simp⟩
theorem askG_ok {s : Gte} (h : OkG s) : OkG (askG s) := ⟨h.I, h.O⟩
theorem cameG_ok {s : Gte} (h : OkG s) : OkG (cameG s) := ⟨h.I, h.O⟩
theorem dueG_ok {s : Gte} (h : OkG s) {t : Int} (ht : -4611686018427387903 ≤ t ∧ t ≤ 4611686018427387903) : OkG (dueG s t) := by
  unfold dueG
  split
  · refine ⟨h.I, fun x hx => ?_⟩
    simp only [List.mem_append, List.mem_singleton] at hx
    rcases hx with hx | rfl
    · exact h.O x hx
    · exact ht
  · exact h
theorem dueG_len (s : Gte) (t : Int) : (dueG s t).O.length ≤ s.O.length + 1 := by
  unfold dueG
  split
  · simp
  · omega
/-- The two ways of a tick. -/
theorem due_ways (s : Gte) (t : Int) : (dueB s t = false ∧ dueG s t = s ∧ (s.a = true → ∃ x ∈ s.O.getLast?, t - x < s.I)) ∨ (dueB s t = true ∧ dueG s t = ⟨s.I, false, s.O ++ [t]⟩ ∧ s.a = true ∧ lateG s t) := by
  by_cases h : dueB s t = true
  · refine .inr ⟨h, by unfold dueG; rw [if_pos h], ?_⟩
    unfold dueB at h
    simp only [Bool.and_eq_true, decide_eq_true_eq] at h
    exact h
  · refine .inl ⟨by simpa using h, by unfold dueG; rw [if_neg h], fun ha => ?_⟩
    unfold dueB at h
    rw [ha] at h
    simp only [Bool.true_and, decide_eq_true_eq] at h
    unfold lateG at h
    simp only [Classical.not_forall, Int.not_le] at h
    obtain ⟨x, hx, h⟩ := h
    exact ⟨x, hx, h⟩
end Go.Proofs.Ythgenpokpoiakaa
