/- slices.Insert of one packet into a slice of packets: where there is room. No statement is proved here. -/
import Derived.Test.YtjbeheegciacpaaRngP2
import Derived.Shelf.Spec.SlicesInsert
import Derived.Lib.AppendZerosOnto
import Derived.Deep.RegionLaw
namespace Go.Proofs.Ytjbeheegciacpaa
open Go.RowKit
set_option linter.unusedVariables false

theorem splice_get {α : Type} (L : List α) (o : Nat) (vs : List α) (h : o + vs.length ≤ L.length) (k : Nat) : (splice L o vs)[k]? = if k < o then L[k]? else if k < o + vs.length then vs[k - o]? else L[k]? := by
  unfold splice
  have hl : (L.take o).length = o := by rw [List.length_take]; omega
  by_cases h1 : k < o
  · rw [if_pos h1, List.getElem?_append_left (by omega), List.getElem?_take_of_lt h1]
  · rw [if_neg h1, List.getElem?_append_right (by omega), hl]
    by_cases h2 : k < o + vs.length
    · rw [if_pos h2, List.getElem?_append_left (by omega)]
    · rw [if_neg h2, List.getElem?_append_right (by omega), List.getElem?_drop]
      congr 1
      omega
theorem splice_len {α : Type} (L : List α) (o : Nat) (vs : List α) (h : o + vs.length ≤ L.length) : (splice L o vs).length = L.length := by
  unfold splice
  simp
  omega
/-- The zero packet. -/
def zPk : Value := .agg #[.int .i64 0, .slice none 0 0]
theorem pk_info : (Try.prog.info? 54).map (fun i => (i.zero, i.size, i.bytes)) = some (some zPk, 2, 32) := by kernel_rfl
theorem pk_size : (Try.prog.info? 54).map (·.size) = some 2 := by kernel_rfl
theorem run_copy_cells2 {P : Program} (w : World) (dT sT ty elem : TypeId) (sz b o dLen dCap : Nat) (a : Addr) (sLen sCap : Nat) (cs : List Value)
    (hu : P.underlying dT = some (.slice elem)) (hs : (P.info? elem).map (·.size) = some sz) (hn : cs.length = Nat.min sLen dLen * sz)
    (hsrc : ∀ j v, cs[j]? = some v → w.cell? (a.add j) = some v) (hc : ∀ j, j < cs.length → (w.cell? ⟨b, o + j, none⟩).isSome = true) (hf : ∀ j, j < cs.length → w.frozen? ⟨b, o + j, none⟩ = false) (h1 : ∀ v ∈ cs, v.oneCell' = true) :
    (Builtin.copy_ #[dT, sT] ty #[.slice (some ⟨b, o, none⟩) dLen dCap, .slice (some a) sLen sCap]).run P w = .ok (goInt (Nat.min sLen dLen)) (w.setCells b o cs) := by
  have hl := run_loadCells_list (P := P) w a cs hsrc
  have hst := run_storeCells_cells (P := P) b o cs 0 w (by simpa using hc) (by simpa using hf) h1
  cases hq : P.info? elem with
  | none => simp [hq] at hs
  | some i =>
    have hi : i.size = sz := by simpa [hq] using hs
    simp [Builtin.copy_, run_underlying hu, Builtin.lenOf, Builtin.firstCells, sizeOf, typeInfo, hq, hi, ← hn, hl, hst]

/-- A row with one more at place m. -/
def insAt (X : List Pks) (m : Nat) (y : Pks) : List Pks := X.take m ++ y :: X.drop m
theorem insAt_len (X : List Pks) (m : Nat) (y : Pks) (h : m ≤ X.length) : (insAt X m y).length = X.length + 1 := by
  unfold insAt; simp; omega
theorem insAt_row (X : List Pks) (m : Nat) (y : Pks) : rowC (insAt X m y) = (rowC X).take (m * 2) ++ (pkC y ++ (rowC X).drop (m * 2)) := by
  unfold insAt
  rw [rowC_append, rowC_cons, rowC_take, rowC_drop]
/-- What stands in a row behind an Insert. -/
theorem insAt_get (X : List Pks) (m : Nat) (y : Pks) (h : m ≤ X.length) (j : Nat) : (rowC (insAt X m y))[j]? = if j < m * 2 then (rowC X)[j]? else if j < m * 2 + 2 then (pkC y)[j - m * 2]? else (rowC X)[j - 2]? := by
  have hl := rowC_len X
  have hl2 : ((rowC X).take (m * 2)).length = m * 2 := by rw [List.length_take]; omega
  rw [insAt_row]
  by_cases h1 : j < m * 2
  · rw [if_pos h1, List.getElem?_append_left (by omega), List.getElem?_take_of_lt h1]
  · rw [if_neg h1, List.getElem?_append_right (by omega), hl2]
    by_cases h2 : j < m * 2 + 2
    · rw [if_pos h2, List.getElem?_append_left (by simp [pkC]; omega)]
    · rw [if_neg h2, List.getElem?_append_right (by simp [pkC]; omega), List.getElem?_drop]
      congr 1
      simp [pkC]
      omega
/-- In place, behind the last one. -/
theorem RowP.push_room {w : World} {b off c : Nat} {X : List Pks} {y : Pks} {C : List Value} (h : RowP w (some ⟨b, off, none⟩) c X) (hB : BlkV w b 54 C) (hl : off + c * 2 ≤ C.length) (hr : ∀ j v, (rowC X)[j]? = some v → C[off + j]? = some v) (hroom : X.length + 1 ≤ c) :
    RowP (w.setCells b (off + X.length * 2) (pkC y)) (some ⟨b, off, none⟩) c (insAt X X.length y) ∧ Only b w (w.setCells b (off + X.length * 2) (pkC y)) := by
  have hp : (pkC y).length = 2 := rfl
  obtain ⟨h1, h2⟩ := set_cells b (pkC y) (off + X.length * 2) w C hB (by omega)
  refine ⟨⟨by rw [insAt_len _ _ _ (Nat.le_refl _)]; exact hroom, h.max, (fun e => nomatch e), fun a ha => ?_⟩, h2⟩
  cases ha
  refine ⟨b, off, _, rfl, h1, by rw [splice_len _ _ _ (by omega)]; exact hl, fun j v hj => ?_⟩
  rw [insAt_get _ _ _ (Nat.le_refl _)] at hj
  rw [splice_get _ _ _ (by omega)]
  split at hj
  · rw [if_pos (by omega)]; exact hr j v hj
  · rw [if_neg (by omega)]
    split at hj
    · rw [if_pos (by omega), show off + j - (off + X.length * 2) = j - X.length * 2 by omega]; exact hj
    · rw [List.getElem?_eq_none (by rw [rowC_len]; omega)] at hj
      cases hj
/-- In place, ahead of others. -/
theorem RowP.shift_room {w : World} {b off c m : Nat} {X : List Pks} {y : Pks} {C : List Value} (h : RowP w (some ⟨b, off, none⟩) c X) (hB : BlkV w b 54 C) (hl : off + c * 2 ≤ C.length) (hr : ∀ j v, (rowC X)[j]? = some v → C[off + j]? = some v) (hroom : X.length + 1 ≤ c) (hm : m ≤ X.length) :
    RowP ((w.setCells b (off + (m + 1) * 2) ((rowC X).drop (m * 2))).setCells b (off + m * 2) (pkC y)) (some ⟨b, off, none⟩) c (insAt X m y) ∧ Only b w ((w.setCells b (off + (m + 1) * 2) ((rowC X).drop (m * 2))).setCells b (off + m * 2) (pkC y)) := by
  have hp : (pkC y).length = 2 := rfl
  have hR := rowC_len X
  have hd : ((rowC X).drop (m * 2)).length = X.length * 2 - m * 2 := by rw [List.length_drop, hR]
  obtain ⟨h1, h2⟩ := set_cells b ((rowC X).drop (m * 2)) (off + (m + 1) * 2) w C hB (by omega)
  have hl1 := splice_len C (off + (m + 1) * 2) ((rowC X).drop (m * 2)) (by omega)
  obtain ⟨h3, h4⟩ := set_cells b (pkC y) (off + m * 2) _ _ h1 (by omega)
  refine ⟨⟨by rw [insAt_len _ _ _ hm]; exact hroom, h.max, (fun e => nomatch e), fun a ha => ?_⟩, h2.trans h4⟩
  cases ha
  refine ⟨b, off, _, rfl, h3, by rw [splice_len _ _ _ (by omega), hl1]; exact hl, fun j v hj => ?_⟩
  rw [insAt_get _ _ _ hm] at hj
  rw [splice_get _ _ _ (by omega)]
  split at hj
  · rw [if_pos (by omega), splice_get _ _ _ (by omega), if_pos (by omega)]; exact hr j v hj
  · rw [if_neg (by omega)]
    split at hj
    · rw [if_pos (by omega), show off + j - (off + m * 2) = j - m * 2 by omega]; exact hj
    · have hj2 : j - 2 < (rowC X).length := by
        rcases Nat.lt_or_ge (j - 2) (rowC X).length with h | h
        · exact h
        · rw [List.getElem?_eq_none h] at hj; cases hj
      rw [if_neg (by omega), splice_get _ _ _ (by omega), if_neg (by omega), if_pos (by omega), List.getElem?_drop, ← hj]
      congr 1
      omega
end Go.Proofs.Ytjbeheegciacpaa
