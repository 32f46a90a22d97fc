/- Plain words on ladders (layer 21): strikes, ticks, states. Names no program. No statement is proved here. -/
import Derived.WalkKit
namespace Go.Proofs.Ytbghpgflfaheiaa
set_option linter.unusedVariables false

/-- A ladder: its rungs (soft, hard, decay), its strikes, the ticks left, was Quarantine reached. -/
structure Ldr where
  S : Int
  H : Int
  D : Int
  k : Int
  l : Int
  sh : Bool
/-- May rungs be? -/
def mayR (S H D : Int) : Prop := 1 ≤ S ∧ S < H ∧ H ≤ 1000 ∧ 1 ≤ D
def newR (S H D : Int) : Ldr := ⟨S, H, D, 0, D, false⟩
/-- How many strikes there are behind n more. -/
def addR (k n : Int) : Int := if 1000 < k + n then 1000 else k + n
def strR (s : Ldr) (n : Int) : Ldr := if n < 1 then s else { s with k := addR s.k n, l := s.D, sh := s.sh || decide (s.H ≤ addR s.k n) }
def tikR (s : Ldr) : Ldr := if s.sh then s else if s.l = 1 then { s with k := if 0 < s.k then s.k - 1 else s.k, l := s.D } else { s with l := s.l - 1 }
def staR (s : Ldr) : Int := if s.sh then 2 else if s.S ≤ s.k then 1 else 0
/-- So many ticks. -/
def tksR (s : Ldr) : Nat → Ldr
  | 0 => s
  | j + 1 => tikR (tksR s j)
/-- What is so of all of them. -/
structure OkR (s : Ldr) : Prop where
  may : mayR s.S s.H s.D
  D : s.D ≤ 9223372036854775807
  k0 : 0 ≤ s.k
  k1 : s.k ≤ 1000
  l0 : 1 ≤ s.l
  l1 : s.l ≤ s.D
theorem newR_ok {S H D : Int} (h : mayR S H D) (hD : D ≤ 9223372036854775807) : OkR (newR S H D) := ⟨h, hD, by simp [newR], by simp [newR], h.2.2.2, Int.le_refl _⟩
theorem addR_bd {k n : Int} (h : 0 ≤ k) (h1 : k ≤ 1000) (hn : 1 ≤ n) : 0 ≤ addR k n ∧ addR k n ≤ 1000 := by unfold addR; split <;> omega
theorem strR_ok {s : Ldr} (h : OkR s) (n : Int) : OkR (strR s n) := by
  unfold strR
  split
  · exact h
  · have := addR_bd h.k0 h.k1 (show 1 ≤ n by omega)
    exact ⟨h.may, h.D, this.1, this.2, h.may.2.2.2, Int.le_refl _⟩
theorem tikR_ok {s : Ldr} (h : OkR s) : OkR (tikR s) := by
  have a := h.k0; have b := h.k1; have c := h.l0; have d := h.l1
  unfold tikR
  split
  · exact h
  · split
    · exact ⟨h.may, h.D, by simp only; split <;> omega, by simp only; split <;> omega, h.may.2.2.2, Int.le_refl _⟩
    · exact ⟨h.may, h.D, a, b, by simp only; omega, by simp only; omega⟩
theorem tksR_ok {s : Ldr} (h : OkR s) : ∀ j, OkR (tksR s j)
  | 0 => h
  | j + 1 => tikR_ok (tksR_ok h j)
theorem tikR_rungs (s : Ldr) : (tikR s).S = s.S ∧ (tikR s).H = s.H ∧ (tikR s).D = s.D := by
  unfold tikR; split
  · exact ⟨rfl, rfl, rfl⟩
  · split <;> exact ⟨rfl, rfl, rfl⟩
theorem strR_rungs (s : Ldr) (n : Int) : (strR s n).S = s.S ∧ (strR s n).H = s.H ∧ (strR s n).D = s.D := by
  unfold strR; split <;> exact ⟨rfl, rfl, rfl⟩
/-- In Quarantine nothing turns. -/
theorem tksR_shut {s : Ldr} (h : s.sh = true) : ∀ j, tksR s j = s
  | 0 => rfl
  | j + 1 => by rw [tksR, tksR_shut h j]; simp [tikR, h]
/-- How it decays: j ticks are c whole ones and r. -/
theorem tksR_decay {s : Ldr} (ok : OkR s) (h : s.sh = false) (hl : s.l = s.D) : ∀ j : Nat, ∃ c r : Int, (j : Int) = c * s.D + r ∧ 0 ≤ r ∧ r < s.D ∧ 0 ≤ c ∧ (tksR s j).sh = false ∧ (tksR s j).l = s.D - r ∧ (tksR s j).D = s.D ∧ (tksR s j).k = (if s.k ≤ c then 0 else s.k - c)
  | 0 => ⟨0, 0, by omega, by omega, by have := ok.may.2.2.2; omega, by omega, h, by simp [tksR, hl], rfl, by have := ok.k0; simp only [tksR]; split <;> omega⟩
  | j + 1 => by
    obtain ⟨c, r, h1, h2, h3, h4, h5, h6, h7, h8⟩ := tksR_decay ok h hl j
    by_cases hr : r + 1 < s.D
    · refine ⟨c, r + 1, by omega, by omega, hr, h4, ?_⟩
      have e : ¬ (tksR s j).l = 1 := by omega
      simp only [tksR, tikR, h5, e, if_false, Bool.false_eq_true]
      exact ⟨trivial, by omega, h7, h8⟩
    · refine ⟨c + 1, 0, by rw [Int.add_mul]; omega, by omega, by omega, by omega, ?_⟩
      have e : (tksR s j).l = 1 := by omega
      have k0 := ok.k0
      simp only [tksR, tikR, h5, e, if_true, if_false, Bool.false_eq_true]
      refine ⟨trivial, by omega, h7, ?_⟩
      rw [h8]
      split <;> split <;> split <;> omega
theorem decay_le {s : Ldr} (ok : OkR s) (h : s.sh = false) (hl : s.l = s.D) (j : Nat) : 0 ≤ s.k - (tksR s j).k ∧ s.k - (tksR s j).k ≤ (j : Int) / s.D + 1 := by
  obtain ⟨c, r, h1, h2, h3, h4, _, _, _, h8⟩ := tksR_decay ok h hl j
  have hD : 0 < s.D := by omega
  have e : (j : Int) / s.D = c := by
    rw [h1, Int.add_comm, Int.add_mul_ediv_right _ _ (by omega), Int.ediv_eq_zero_of_lt h2 h3, Int.zero_add]
  have k0 := ok.k0
  rw [e, h8]
  split <;> omega
/-- Without strikes it is Good. -/
theorem good_tik {s : Ldr} (ok : OkR s) (h : s.sh = false) (hk : s.k = 0) : (tikR s).sh = false ∧ (tikR s).k = 0 ∧ staR (tikR s) = 0 := by
  have hS := ok.may.1
  have key : (tikR s).sh = false ∧ (tikR s).k = 0 := by
    unfold tikR
    rw [if_neg (by simp [h])]
    split
    · exact ⟨h, by simp [hk]⟩
    · exact ⟨h, hk⟩
  refine ⟨key.1, key.2, ?_⟩
  unfold staR
  rw [key.1, key.2, (tikR_rungs s).1, if_neg (by simp), if_neg (by omega)]
theorem str_zero (s : Ldr) : strR s 0 = s := by simp [strR]
end Go.Proofs.Ytbghpgflfaheiaa
