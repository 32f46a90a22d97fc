/- Plain words on choosers among layers (layer 23). Names no program. No statement is proved here. -/
import Derived.Test.YtejkballndfmmaaOnK
namespace Go.Proofs.Ytejkballndfmmaa
set_option linter.unusedVariables false

/-- A chooser: how many layers, which is wanted, which goes. -/
structure Chs where
  m : Int
  w : Int
  g : Int
def newC (m : Int) : Chs := ⟨m, -1, -1⟩
def wantE (s : Chs) (l : Int) : Int := if l < -1 ∨ s.m ≤ l then 9 else 0
def wantS (s : Chs) (l : Int) : Chs := if l < -1 ∨ s.m ≤ l then s else ⟨s.m, l, if l = -1 then -1 else s.g⟩
def takeA (s : Chs) (l : Int) (k : Bool) : Bool := decide (0 ≤ l ∧ l < s.m ∧ (s.g = l ∨ (k = true ∧ s.w = l)))
def takeT (s : Chs) (l : Int) (k : Bool) : Bool := decide (0 ≤ l ∧ l < s.m ∧ s.g ≠ l ∧ k = true ∧ s.w = l)
def takeS (s : Chs) (l : Int) (k : Bool) : Chs := if takeT s l k = true then ⟨s.m, s.w, l⟩ else s
/-- What is so of all choosers. -/
structure OkC (s : Chs) : Prop where
  m : 1 ≤ s.m ∧ s.m ≤ 4
  w : -1 ≤ s.w ∧ s.w < s.m
  g : -1 ≤ s.g ∧ s.g < s.m
theorem newC_ok {m : Int} (h : 1 ≤ m ∧ m ≤ 4) : OkC (newC m) := ⟨h, by simp only [newC]; omega, by simp only [newC]; omega⟩
theorem wantS_ok {s : Chs} (h : OkC s) (l : Int) : OkC (wantS s l) := by
  have h1 := h.m; have h2 := h.w; have h3 := h.g
  unfold wantS
  split
  · exact h
  · refine ⟨h1, by simp only; omega, ?_⟩
    simp only
    split <;> omega
theorem takeS_ok {s : Chs} (h : OkC s) (l : Int) (k : Bool) : OkC (takeS s l k) := by
  unfold takeS
  split
  · rename_i ht
    have := of_decide_eq_true ht
    exact ⟨h.m, h.w, by simp only; omega⟩
  · exact h
theorem wantS_g (s : Chs) (l : Int) : (wantS s l).g = s.g ∨ (wantS s l).g = -1 := by
  unfold wantS
  split
  · exact .inl rfl
  · simp only
    split
    · exact .inr rfl
    · exact .inl rfl
/-- The three ways of a packet. -/
theorem take_ways (s : Chs) (l : Int) (k : Bool) : (takeA s l k = false ∧ takeT s l k = false ∧ takeS s l k = s) ∨ (takeA s l k = true ∧ takeT s l k = false ∧ takeS s l k = s ∧ s.g = l) ∨ (takeA s l k = true ∧ takeT s l k = true ∧ takeS s l k = ⟨s.m, s.w, l⟩ ∧ k = true ∧ s.w = l ∧ s.g ≠ l) := by
  unfold takeA takeT takeS takeT
  by_cases h1 : 0 ≤ l ∧ l < s.m
  · by_cases h2 : s.g = l
    · exact .inr (.inl ⟨decide_eq_true (by omega), decide_eq_false (by omega), by rw [if_neg (by rw [decide_eq_false (by omega)]; decide)], h2⟩)
    · by_cases h3 : k = true ∧ s.w = l
      · exact .inr (.inr ⟨decide_eq_true ⟨h1.1, h1.2, .inr h3⟩, decide_eq_true ⟨h1.1, h1.2, h2, h3⟩, by rw [if_pos (decide_eq_true ⟨h1.1, h1.2, h2, h3⟩)], h3.1, h3.2, h2⟩)
      · have e : decide (0 ≤ l ∧ l < s.m ∧ s.g ≠ l ∧ k = true ∧ s.w = l) = false := decide_eq_false (fun h => h3 h.2.2.2)
        exact .inl ⟨decide_eq_false (fun h => h.2.2.elim h2 h3), e, by rw [e]; rfl⟩
  · have e : decide (0 ≤ l ∧ l < s.m ∧ s.g ≠ l ∧ k = true ∧ s.w = l) = false := decide_eq_false (fun h => h1 ⟨h.1, h.2.1⟩)
    exact .inl ⟨decide_eq_false (fun h => h1 ⟨h.1, h.2.1⟩), e, by rw [e]; rfl⟩
end Go.Proofs.Ytejkballndfmmaa
