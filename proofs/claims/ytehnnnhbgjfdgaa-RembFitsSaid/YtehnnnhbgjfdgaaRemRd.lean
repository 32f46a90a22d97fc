/- Rows of uint64 and rows of such rows that read, for any program. No statement is proved here. -/
import Derived.Test.YtehnnnhbgjfdgaaRdJ
import Derived.Test.YtehnnnhbgjfdgaaRemNum
import Derived.Deep.Matrix
namespace Go.Proofs.Ytehnnnhbgjfdgaa
open Go.RowKit
set_option linter.unusedVariables false

/-- A slice of uint64 that reads. -/
def RdV (w : World) (A : Option Addr) (n : Nat) (l : List Int) : Prop :=
  l.length = n ∧ n ≤ 9223372036854775807 ∧ (∀ x ∈ l, 0 ≤ x ∧ x ≤ 18446744073709551615) ∧ (0 < n → ∃ b off, A = some ⟨b, off, none⟩ ∧ b < w.heap.size ∧ ∀ j, j < n → w.cell? ⟨b, off + j, none⟩ = some (.int .u64 (l.getD j 0)))
theorem RdV.below {w w' : World} {A : Option Addr} {n : Nat} {l : List Int} (h : RdV w A n l) (hb : Below w.heap.size w w') : RdV w' A n l := by
  refine ⟨h.1, h.2.1, h.2.2.1, fun hn => ?_⟩
  obtain ⟨b, off, hA, hlt, hc⟩ := h.2.2.2 hn
  exact ⟨b, off, hA, Nat.lt_of_lt_of_le hlt hb.size, fun j hj => (hb.cell (p := ⟨b, off + j, none⟩) hlt).trans (hc j hj)⟩
theorem RdV.sam {w w' : World} {A : Option Addr} {n : Nat} {l : List Int} (h : RdV w A n l) (hz : w.heap.size ≤ w'.heap.size) (hk : 0 < n → ∀ ad, A = some ad → w'.heap[ad.block]? = w.heap[ad.block]?) : RdV w' A n l := by
  refine ⟨h.1, h.2.1, h.2.2.1, fun hn => ?_⟩
  obtain ⟨b, off, hA, hlt, hc⟩ := h.2.2.2 hn
  exact ⟨b, off, hA, Nat.lt_of_lt_of_le hlt hz, fun j hj => (World.cell?_of_block (a := ⟨b, off + j, none⟩) (hk hn ⟨b, off, none⟩ hA)).trans (hc j hj)⟩
/-- One of its values, at its place. -/
theorem RdV.at_ {w : World} {A : Option Addr} {n : Nat} {l : List Int} (h : RdV w A n l) {j : Nat} (hj : j < n) : ∃ b off, A = some ⟨b, off, none⟩ ∧ w.cell? ⟨b, off + j, none⟩ = some (.int .u64 (l.getD j 0)) ∧ 0 ≤ l.getD j 0 ∧ l.getD j 0 ≤ 18446744073709551615 := by
  obtain ⟨b, off, hA, hlt, hc⟩ := h.2.2.2 (by omega)
  refine ⟨b, off, hA, hc j hj, ?_⟩
  have h1 := h.1
  rw [List.getD_eq_getElem?_getD, List.getElem?_eq_getElem (by omega), Option.getD_some]
  exact h.2.2.1 _ (List.getElem_mem (by omega))
/-- Where a slice came in as a row of uint64. -/
theorem RdV.of_row {w : World} {a : Option Addr} {len cap : Nat} {zs : List Int}
    (h : (a = none ∧ len = 0 ∧ cap = 0 ∧ zs = []) ∨
      ∃ x, a = some x ∧ len ≤ cap ∧ cap ≤ maxLen ∧ zs.length = cap ∧ (∀ i, i < zs.length → w.cell? (x.add i) = some (.int .u64 (zs.getD i 0))) ∧ ∀ n ∈ zs, (Lit.int .u64 n).wf = true) :
    RdV w a len (zs.take len) := by
  rcases h with ⟨rfl, rfl, rfl, rfl⟩ | ⟨x, rfl, hl, hm, hz, hc, hw⟩
  · exact ⟨rfl, by omega, by simp, fun h => absurd h (by omega)⟩
  · simp only [maxLen] at hm
    refine ⟨by simp; omega, by omega, fun z hz' => by have := bounds_u64 (hw z (List.mem_of_mem_take hz')); omega, fun hn => ?_⟩
    obtain ⟨b, off, spot⟩ := x
    have h0 := hc 0 (by omega)
    have hs : spot = none := by simpa [Addr.add] using World.cell?_spot h0
    subst hs
    refine ⟨b, off, rfl, ?_, fun j hj => ?_⟩
    · have := World.block_lt_of_cell? w _ h0
      rw [add_lit] at this
      exact this
    · have hcj := hc j (by omega)
      rw [add_lit] at hcj
      rw [hcj]
      simp [List.getD, hj]
/-- A slice of slices of uint64 that reads. -/
def MatRd (w : World) (A : Option Addr) (C : List (List Int)) : Prop :=
  C.length ≤ 9223372036854775807 ∧ (0 < C.length → ∃ b off, A = some ⟨b, off, none⟩ ∧ b < w.heap.size ∧ ∀ j, j < C.length → ∃ B c, w.cell? ⟨b, off + j, none⟩ = some (.slice B (C.getD j []).length c) ∧ RdV w B (C.getD j []).length (C.getD j []))
theorem MatRd.below {w w' : World} {A : Option Addr} {C : List (List Int)} (h : MatRd w A C) (hb : Below w.heap.size w w') : MatRd w' A C := by
  refine ⟨h.1, fun hk => ?_⟩
  obtain ⟨b, off, hA, hlt, hc⟩ := h.2 hk
  refine ⟨b, off, hA, Nat.lt_of_lt_of_le hlt hb.size, fun j hj => ?_⟩
  obtain ⟨B, c, h1, h2⟩ := hc j hj
  exact ⟨B, c, (hb.cell (p := ⟨b, off + j, none⟩) hlt).trans h1, h2.below hb⟩
theorem MatRd.at_ {w : World} {A : Option Addr} {C : List (List Int)} (h : MatRd w A C) {j : Nat} (hj : j < C.length) : ∃ b off B c, A = some ⟨b, off, none⟩ ∧ w.cell? ⟨b, off + j, none⟩ = some (.slice B (C.getD j []).length c) ∧ RdV w B (C.getD j []).length (C.getD j []) := by
  obtain ⟨b, off, hA, hlt, hc⟩ := h.2 (by omega)
  obtain ⟨B, c, h1, h2⟩ := hc j hj
  exact ⟨b, off, B, c, hA, h1, h2⟩
theorem MatRd.ok {w : World} {A : Option Addr} {C : List (List Int)} (h : MatRd w A C) : OkC C := by
  intro l hl
  obtain ⟨j, hj, rfl⟩ := List.getElem_of_mem hl
  obtain ⟨_, _, _, _, _, _, hr⟩ := h.at_ hj
  have e : C.getD j [] = C[j] := by simp [List.getD, hj]
  rw [e] at hr
  exact hr.2.2.1
theorem MatRd.none (w : World) : MatRd w none [] := ⟨by simp, fun h => absurd h (by simp)⟩
theorem mat_of_rows {w : World} {a : Addr} {len cap : Nat} {A : Nat → Option Addr} {L C : Nat → Nat} {Z : Nat → List Int} (hl : len ≤ cap) (hm : cap ≤ maxLen)
    (h : ∀ r, r < cap → w.cell? (a.add r) = some (.slice (A r) (L r) (C r)) ∧ L r ≤ C r ∧ C r ≤ maxLen ∧ (Z r).length = C r ∧ (∀ n ∈ Z r, (Lit.int .u64 n).wf = true) ∧ (A r = .none → C r = 0) ∧
      ∀ a', A r = some a' → 0 ≤ a'.block ∧ ∀ c, c < C r → w.cell? (a'.add c) = some (.int .u64 ((Z r).getD c 0))) : ∃ M : List (List Int), M.length = len ∧ MatRd w (some a) M := by
  have hr : ∀ r, r < len → RdV w (A r) (L r) ((Z r).take (L r)) := by
    intro r hr
    obtain ⟨_, h2, h3, h4, h5, h6, h7⟩ := h r (by omega)
    refine RdV.of_row (cap := C r) ?_
    cases hA : A r with
    | none =>
      have hc := h6 hA
      exact .inl ⟨rfl, by omega, hc, List.eq_nil_of_length_eq_zero (by omega)⟩
    | some x => exact .inr ⟨x, rfl, h2, h3, h4, fun i hi => (h7 x hA).2 i (by omega), h5⟩
  simp only [maxLen] at hm
  have hlen : ((List.range len).map fun r => (Z r).take (L r)).length = len := by simp
  refine ⟨(List.range len).map fun r => (Z r).take (L r), hlen, by omega, fun hk => ?_⟩
  obtain ⟨b, off, spot⟩ := a
  have h0 := (h 0 (by omega)).1
  have hs : spot = none := by simpa [Addr.add] using World.cell?_spot h0
  subst hs
  refine ⟨b, off, rfl, ?_, fun j hj => ?_⟩
  · have := World.block_lt_of_cell? w _ h0
    rw [add_lit] at this
    exact this
  · have hj' : j < len := by omega
    have e : ((List.range len).map fun r => (Z r).take (L r)).getD j [] = (Z j).take (L j) := by simp [List.getD, hj']
    have el : ((Z j).take (L j)).length = L j := (hr j hj').1
    have := (h j (by omega)).1
    rw [add_lit] at this
    rw [e, el]
    exact ⟨A j, C j, this, hr j hj'⟩
/-- Two rows of a literal, and what holds them. -/
theorem mat_lit2 {w : World} {A B : Option Addr} {n m c d : Nat} {xs ys : List Int} (h : RdV w A n xs) (k : RdV w B m ys) (e : TypeId) : MatRd (w.alloc (.cells #[.slice A n c, .slice B m d] e)) (some ⟨w.heap.size, 0, none⟩) [xs, ys] := by
  have hb : Below w.heap.size w (w.alloc (.cells #[.slice A n c, .slice B m d] e)) := (Below.refl _ _).alloc (Nat.le_refl _) _
  refine ⟨by simp, fun _ => ⟨w.heap.size, 0, rfl, by simp, fun j hj => ?_⟩⟩
  have h' := h.below hb
  have k' := k.below hb
  have e1 := h.1
  have e2 := k.1
  subst e1
  subst e2
  match j, hj with
  | 0, _ => exact ⟨A, c, ((BlkV.new w e [.slice A xs.length c, .slice B ys.length d]).cell 0).trans rfl, h'⟩
  | 1, _ => exact ⟨B, d, ((BlkV.new w e [.slice A xs.length c, .slice B ys.length d]).cell 1).trans rfl, k'⟩
end Go.Proofs.Ytehnnnhbgjfdgaa
