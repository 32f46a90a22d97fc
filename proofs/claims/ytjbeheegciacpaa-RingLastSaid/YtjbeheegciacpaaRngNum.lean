/- Plain words on rings (layer 19): packets as they came and as they stand, the least one, what is dropped, what a ring of packets is behind a step. Names no function of the program. No statement is proved here. -/
import Derived.Test.YtjbeheegciacpaaInts
namespace Go.Proofs.Ytjbeheegciacpaa
open Go.RowKit
set_option linter.unusedVariables false

/-- A packet: an index and bytes. -/
abbrev Pck := Int × List UInt8
/-- The cells of a row of texts. -/
def tcells (L : List (List UInt8)) : List Value := L.map fun t => .string (txt t)
theorem tcells_len (L : List (List UInt8)) : (tcells L).length = L.length := by simp [tcells]
theorem tcells_at {L : List (List UInt8)} {j : Nat} (h : j < L.length) : (tcells L)[j]? = some (.string (txt (L.getD j []))) := by simp [tcells, List.getD, h]
theorem tcells_snoc (L : List (List UInt8)) (x : List UInt8) : tcells (L ++ [x]) = tcells L ++ [.string (txt x)] := by simp [tcells]
theorem own_txts {w : World} {base n : Nat} {e : TypeId} {v : Value} {L : List (List UInt8)} (h : w.ownsRow base e 1 v n (tcells L)) (hn : 0 < n) :
    ∃ g c, v = .slice (some ⟨g, 0, none⟩) n c ∧ base ≤ g ∧ g < w.heap.size ∧ ∀ j, j < n → w.cell? ⟨g, j, none⟩ = some (.string (txt (L.getD j []))) := by
  have hl : L.length = n := by simpa [tcells_len] using h.1
  obtain ⟨g, c, rfl, hb, hlt⟩ := h.form hn
  exact ⟨g, c, rfl, hb, hlt, fun j hj => by rw [h.cellAt j (by omega), tcells_at (by omega)]⟩

/-- The first place of an index; -1: none. -/
def atL (xs : List Int) (i : Int) : Int := if xs.idxOf i < xs.length then xs.idxOf i else -1
theorem atL_no {xs : List Int} {i : Int} (h : i ∉ xs) : atL xs i = -1 := by
  unfold atL; rw [if_neg]; rw [List.idxOf_lt_length_iff]; exact h
theorem atL_at {xs : List Int} {i : Int} {k : Nat} (hk : k < xs.length) (he : xs.getD k 0 = i) (hno : i ∉ xs.take k) : atL xs i = k := by
  have e : xs[k] = i := by simpa [List.getD, hk] using he
  have h1 : xs.idxOf i = k := by
    rw [← List.take_append_drop k xs, List.idxOf_append, if_neg hno, List.drop_eq_getElem_cons hk, e]
    simp; omega
  unfold atL; rw [if_pos (by rw [h1]; exact hk), h1]
theorem atL_nonneg {xs : List Int} {i : Int} : 0 ≤ atL xs i ↔ i ∈ xs := by
  rw [← List.idxOf_lt_length_iff]; unfold atL; split <;> omega
theorem atL_bd (xs : List Int) (i : Int) : -1 ≤ atL xs i ∧ atL xs i < xs.length := by
  unfold atL; split <;> omega
theorem atL_get {xs : List Int} {i : Int} (h : i ∈ xs) : ∃ k : Nat, atL xs i = k ∧ k < xs.length ∧ xs.getD k 0 = i := by
  have hl := List.idxOf_lt_length_iff.2 h
  refine ⟨xs.idxOf i, by unfold atL; rw [if_pos hl], hl, ?_⟩
  simp [List.getD, hl, List.getElem_idxOf]

/-- How many bytes there are. -/
def sizD (D : List Pck) : Nat := (D.map fun p => p.2.length).sum
theorem sizD_nil : sizD [] = 0 := rfl
theorem sizD_cons (p : Pck) (D : List Pck) : sizD (p :: D) = p.2.length + sizD D := by simp [sizD]
theorem sizD_append (D E : List Pck) : sizD (D ++ E) = sizD D + sizD E := by simp [sizD]
theorem sizD_next (D : List Pck) (k : Nat) (h : k < D.length) : sizD (D.take (k + 1)) = sizD (D.take k) + ((D.map (·.2)).getD k []).length := by
  rw [List.take_succ_eq_append_getElem h, sizD_append]
  simp [sizD, List.getD, h]
theorem sizD_perm {D E : List Pck} (h : D.Perm E) : sizD D = sizD E := by unfold sizD; exact (h.map _).sum_nat
theorem sizD_take (D : List Pck) (k : Nat) : sizD (D.take k) ≤ sizD D := by
  have := sizD_append (D.take k) (D.drop k)
  rw [List.take_append_drop] at this
  omega

/-- The place of the least of the first k; -1: none. -/
def lstK (xs : List Int) : Nat → Int
  | 0 => -1
  | k + 1 => if lstK xs k < 0 ∨ xs.getD k 0 < xs.getD (lstK xs k).toNat 0 then k else lstK xs k
theorem lstK_facts (xs : List Int) : ∀ k : Nat, 0 < k → ∃ m : Nat, lstK xs k = m ∧ m < k ∧ ∀ j, j < k → xs.getD m 0 ≤ xs.getD j 0
  | 0, h => absurd h (by omega)
  | 1, _ => ⟨0, by simp [lstK], by omega, fun j hj => by rw [show j = 0 by omega]; exact Int.le_refl _⟩
  | k + 2, _ => by
    obtain ⟨m, h1, h2, h3⟩ := lstK_facts xs (k + 1) (by omega)
    rw [lstK, h1, Int.toNat_natCast]
    by_cases hc : xs.getD (k + 1) 0 < xs.getD m 0
    · rw [if_pos (.inr hc)]
      refine ⟨k + 1, rfl, by omega, fun j hj => ?_⟩
      by_cases e : j = k + 1
      · rw [e]; exact Int.le_refl _
      · have := h3 j (by omega); omega
    · rw [if_neg (by omega)]
      refine ⟨m, rfl, by omega, fun j hj => ?_⟩
      by_cases e : j = k + 1
      · rw [e]; omega
      · exact h3 j (by omega)
theorem lstK_bd (xs : List Int) (k : Nat) : -1 ≤ lstK xs k ∧ lstK xs k < k := by
  by_cases h : k = 0
  · subst h; simp [lstK]
  · obtain ⟨m, h1, h2, _⟩ := lstK_facts xs k (by omega)
    rw [h1]; omega
theorem lstK_neg (xs : List Int) (k : Nat) : lstK xs k < 0 ↔ k = 0 := by
  by_cases h : k = 0
  · subst h; simp [lstK]
  · obtain ⟨m, h1, h2, _⟩ := lstK_facts xs k (by omega)
    rw [h1]; omega

theorem erase_next {α : Type} (D : List α) (a k : Nat) (h : k < D.length) : (D.take (k + 1)).eraseIdx a = (D.take k).eraseIdx a ++ (if k = a then [] else [D[k]]) := by
  rw [List.take_succ_eq_append_getElem h]
  have hl : (D.take k).length = k := by rw [List.length_take]; omega
  by_cases e : k = a
  · subst e
    rw [if_pos rfl, List.append_nil, List.eraseIdx_append_of_length_le (by omega), hl, Nat.sub_self]
    simp
    rw [List.eraseIdx_of_length_le (by omega)]
  · rw [if_neg e]
    by_cases h2 : a < k
    · rw [List.eraseIdx_append_of_lt_length (by omega)]
    · rw [List.eraseIdx_append_of_length_le (by omega), hl, List.eraseIdx_of_length_le (l := [D[k]]) (by simp; omega), List.eraseIdx_of_length_le (l := D.take k) (by omega)]
end Go.Proofs.Ytjbeheegciacpaa
