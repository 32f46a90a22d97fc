/- Contract: slices.Insert of one packet into a slice of packets, room or none. No statement is proved here. -/
import Derived.Test.YtjbeheegciacpaaRngI3
namespace Go.Proofs.Ytjbeheegciacpaa
open Go.RowKit Go.Sort
set_option linter.unusedVariables false

/-- A new row of packets. -/
theorem RowP.fresh {w' : World} {b c : Nat} {X : List Pks} {C : List Value} (hB : BlkV w' b 54 C) (hl : c * 2 ≤ C.length) (hn : X.length ≤ c) (hc : c ≤ maxLen) (hr : ∀ (j : Nat) (v : Value), (rowC X)[j]? = some v → C[j]? = some v) : RowP w' (some ⟨b, 0, none⟩) c X :=
  ⟨hn, hc, (fun e => nomatch e), fun a ha => by cases ha; exact ⟨b, 0, C, rfl, hB, by omega, fun j v hj => by rw [Nat.zero_add]; exact hr j v hj⟩⟩
/-- What an Insert leaves. -/
def Insd (w : World) (A : Option Addr) (X : List Pks) (m : Nat) (y : Pks) (e : Ending) (w' : World) : Prop :=
  ∃ A' c', e = .returned (.slice A' (X.length + 1) c') ∧ Hid (RowP w' A' c' (insAt X m y) ∧ Fr (fun k => ∃ a, A = some a ∧ k = a.block) w w' ∧ ∃ a', A' = some a' ∧ (a'.block = w.heap.size ∨ ∃ a, A = some a ∧ a'.block = a.block))
theorem ins_any (w : World) (A : Option Addr) (c m vb : Nat) (X : List Pks) (y : Pks) (h : RowP w A c X) (hm : m ≤ X.length) (hfew : X.length ≤ 1000) (hV : BlkV w vb 54 (pkC y)) (hvb : ∀ a, A = some a → vb ≠ a.block) :
    Calls Try.prog 24 #[.slice A X.length c, .int .i64 m, .slice (some ⟨vb, 0, none⟩) 1 1] w (Insd w A X m y) := by
  have hp : (pkC y).length = 2 := rfl
  have hp1 : ∀ v ∈ pkC y, v.oneCell' = true := fun v hv => by
    simp only [pkC, List.mem_cons, List.not_mem_nil, or_false] at hv
    rcases hv with rfl | rfl <;> rfl
  have hc63 : c ≤ 9223372036854775807 := by have := h.max; unfold maxLen at this; omega
  have hR := rowC_len X
  by_cases hroom : X.length + 1 ≤ c
  · cases A with
    | none => have := h.nil_ rfl; omega
    | some a =>
      obtain ⟨b, off, C, rfl, hB, hl, hr⟩ := h.some_ a rfl
      by_cases e : m = X.length
      · subst e
        refine (ins_end_room b off X.length c vb (pkC y) w C hB hl hroom hc63 hp hp1 hV).mono fun e w' ⟨h1, h2⟩ => ?_
        obtain ⟨k1, k2⟩ := h.push_room (y := y) hB hl hr hroom
        rw [← h2] at k1 k2
        exact ⟨_, _, h1, Lib.hid ⟨k1, Fr.of_only k2 ⟨_, rfl, rfl⟩, _, rfl, .inr ⟨_, rfl, rfl⟩⟩⟩
      · refine (ins_shift b off X.length c m vb (pkC y) (rowC X) w C hB hl hroom hc63 (by omega) hp hp1 hV (hvb _ rfl) hR (rowC_one X) hr).mono fun e w' ⟨h1, h2⟩ => ?_
        obtain ⟨k1, k2⟩ := RowP.shift_room (w := w.drew) (y := y) (m := m) (h.stay (fun _ _ => rfl)) hB.drew hl hr hroom hm
        rw [← h2] at k1 k2
        exact ⟨_, _, h1, Lib.hid ⟨k1, Fr.of_only (w := w) ⟨k2.os, k2.tape, k2.output, k2.size, k2.block⟩ ⟨_, rfl, rfl⟩, _, rfl, .inr ⟨_, rfl, rfl⟩⟩⟩
  · have hle := h.le
    have hG1 := grownCap_ge w (X.length + 1) c 54
    have hG2 := grownCap_le_maxLen w (X.length + 1) c 54 (by unfold maxLen; omega)
    by_cases e : m = X.length
    · subst e
      refine (ins_end_grow A X.length c vb (pkC y) (rowC X) w h.yld hle (by omega) hfew hp hp1 hV).mono fun e w' ⟨h1, h2⟩ => ?_
      obtain ⟨G, hG⟩ : ∃ G, G = grownCap w (X.length + 1) c 54 := ⟨_, rfl⟩
      rw [← hG] at h1 h2 hG1 hG2
      have hRA : (rowC X ++ pkC y).toArray ++ Builtin.zeroCells zPk.cells (G - (X.length + 1)) = (rowC X ++ pkC y ++ (Builtin.zeroCells zPk.cells (G - (X.length + 1))).toList).toArray := by apply Array.ext'; simp
      rw [hRA] at h2
      have hN : BlkV w' w.heap.size 54 (rowC X ++ pkC y ++ (Builtin.zeroCells zPk.cells (G - (X.length + 1))).toList) := by rw [h2]; exact BlkV.new w.drew _ _
      have hb : Below w.heap.size w w' := by rw [h2]; exact (show Below w.heap.size w w.drew from ⟨rfl, rfl, rfl, Nat.le_refl _, fun _ _ => rfl⟩).alloc (Nat.le_refl _) _
      refine ⟨_, _, h1, Lib.hid ⟨RowP.fresh hN (by rw [List.length_append, zero_len, List.length_append, hR, hp]; omega) (by rw [insAt_len _ _ _ (Nat.le_refl _)]; exact hG1) hG2 (fun j v hj => ?_), Fr.of_below hb, _, rfl, .inl rfl⟩⟩
      rw [insAt_row, List.take_of_length_le (by omega), List.drop_of_length_le (by omega), List.append_nil] at hj
      rw [List.getElem?_append_left (by rcases Nat.lt_or_ge j (rowC X ++ pkC y).length with h | h; exact h; rw [List.getElem?_eq_none h] at hj; cases hj)]
      exact hj
    · cases A with
      | none => have := h.nil_ rfl; omega
      | some a =>
        obtain ⟨b, off, C, rfl, hB, hl, hr⟩ := h.some_ a rfl
        refine (ins_grow b off X.length c m vb (pkC y) (rowC X) w C hB hle (by omega) hfew (by omega) hp hp1 hV hR (rowC_one X) hr).mono fun e w' ⟨h1, h2⟩ => ?_
        obtain ⟨G, hG⟩ : ∃ G, G = grownCap w (X.length + 1) c 54 := ⟨_, rfl⟩
        rw [← hG] at h1 h2 hG1 hG2
        obtain ⟨ROW, hROW⟩ : ∃ ROW : List Value, ROW = (rowC X).take (m * 2) ++ (Builtin.zeroCells zPk.cells (X.length + 1 - m)).toList ++ (Builtin.zeroCells zPk.cells (G - (X.length + 1))).toList := ⟨_, rfl⟩
        have hRA : ((rowC X).take (m * 2)).toArray ++ Builtin.zeroCells zPk.cells (X.length + 1 - m) ++ Builtin.zeroCells zPk.cells (G - (X.length + 1)) = ROW.toArray := by
          rw [hROW]; apply Array.ext'; simp
        have hRl : ROW.length = G * 2 := by
          rw [hROW, List.length_append, List.length_append, zero_len, zero_len, List.length_take]
          omega
        rw [hRA] at h2
        have hd : ((rowC X).drop (m * 2)).length = X.length * 2 - m * 2 := by rw [List.length_drop, hR]
        have hN : BlkV (w.alloc (.cells ROW.toArray 54)) w.heap.size 54 ROW := BlkV.new w _ _
        obtain ⟨s1, s2⟩ := set_cells w.heap.size (pkC y) (m * 2) ((w.alloc (.cells ROW.toArray 54)).drew) ROW hN.drew (by omega)
        have hl1 := splice_len ROW (m * 2) (pkC y) (by omega)
        obtain ⟨s3, s4⟩ := set_cells w.heap.size ((rowC X).drop (m * 2)) ((m + 1) * 2) _ _ s1.drew (by omega)
        rw [← h2] at s3 s4
        have hb : Below w.heap.size w w' := by
          have b1 : Below w.heap.size w (w.alloc (.cells ROW.toArray 54)) := (Below.refl _ _).alloc (Nat.le_refl _) _
          exact ((b1.trans (show Below w.heap.size _ (w.alloc (.cells ROW.toArray 54)).drew from ⟨rfl, rfl, rfl, Nat.le_refl _, fun _ _ => rfl⟩)).trans ((s2.drew).below (Nat.le_refl _))).trans (s4.below (Nat.le_refl _))
        refine ⟨_, _, h1, Lib.hid ⟨RowP.fresh s3 (by rw [splice_len _ _ _ (by omega), hl1, hRl]; exact Nat.le_refl _) (by rw [insAt_len _ _ _ hm]; exact hG1) hG2 (fun j v hj => ?_), Fr.of_below hb, _, rfl, .inl rfl⟩⟩
        rw [insAt_get _ _ _ hm] at hj
        rw [splice_get _ _ _ (by omega)]
        split at hj
        · rename_i hlt
          rw [if_pos (by omega), splice_get _ _ _ (by omega), if_pos (by omega), hROW, List.append_assoc, List.getElem?_append_left (by rw [List.length_take]; omega), List.getElem?_take_of_lt hlt]
          exact hj
        · split at hj
          · rw [if_pos (by omega), splice_get _ _ _ (by omega), if_neg (by omega), if_pos (by omega)]; exact hj
          · have hj2 : j - 2 < (rowC X).length := by
              rcases Nat.lt_or_ge (j - 2) (rowC X).length with h | h
              · exact h
              · rw [List.getElem?_eq_none h] at hj; cases hj
            rw [if_neg (by omega), if_pos (by omega), List.getElem?_drop, ← hj]
            congr 1
            omega
end Go.Proofs.Ytjbeheegciacpaa
