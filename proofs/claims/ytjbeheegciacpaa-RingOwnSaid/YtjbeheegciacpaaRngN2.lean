/- Plain words on rings (layer 19): packets as they stand, rising; one more; what there is no room for; the least of packets in any order. Names no function of the program. No statement is proved here. -/
import Derived.Test.YtjbeheegciacpaaRngNum
namespace Go.Proofs.Ytjbeheegciacpaa
open Go.RowKit
set_option linter.unusedVariables false

/-- Packets stand by their indices, rising, all unlike. -/
def Srt (L : List Pck) : Prop := L.Pairwise fun a b => a.1 < b.1
/-- What there is room for. -/
def fitL (P B : Int) : List Pck → List Pck
  | [] => []
  | x :: r => if P < ((x :: r).length : Int) ∨ B < (sizD (x :: r) : Int) then fitL P B r else x :: r
/-- One more. -/
def insL (p : Pck) : List Pck → List Pck
  | [] => [p]
  | x :: r => if x.1 < p.1 then x :: insL p r else p :: x :: r
/-- What Put answers. -/
def putE (P B : Int) (L : List Pck) (i : Int) (b : List UInt8) : Int :=
  if i < 0 then 1 else if B < (b.length : Int) then 8 else if i ∈ L.map (·.1) ∨ ((L.length : Int) = P ∧ i < ((L.map (·.1)).headD 0)) then 5 else 0
/-- What there is behind it. -/
def putG (P B : Int) (L : List Pck) (i : Int) (b : List UInt8) : List Pck := if putE P B L i b = 0 then fitL P B (insL (i, b) L) else L
/-- What there is behind a Forget. -/
def forG (L : List Pck) (i : Int) : List Pck := L.dropWhile fun p => p.1 < i

theorem insL_perm (p : Pck) : ∀ L : List Pck, (insL p L).Perm (p :: L)
  | [] => .refl _
  | x :: r => by
    unfold insL
    split
    · exact ((insL_perm p r).cons x).trans (.swap p x r)
    · exact .refl _
theorem insL_srt {p : Pck} {L : List Pck} (h : Srt L) (hn : p.1 ∉ L.map (·.1)) : Srt (insL p L) := by
  induction L with
  | nil => simp [insL, Srt]
  | cons x r ih =>
    obtain ⟨h1, h2⟩ := List.pairwise_cons.1 h
    unfold insL
    split
    · rename_i hlt
      refine List.pairwise_cons.2 ⟨fun q hq => ?_, ih h2 (fun hm => hn (by simp at hm ⊢; exact .inr hm))⟩
      rcases List.mem_cons.1 ((insL_perm p r).mem_iff.1 hq) with rfl | hq
      · exact hlt
      · exact h1 q hq
    · rename_i hge
      have hne : x.1 ≠ p.1 := fun e => hn (by simp [e])
      refine List.pairwise_cons.2 ⟨fun q hq => ?_, h⟩
      rcases List.mem_cons.1 hq with rfl | hq
      · omega
      · have := h1 q hq; omega
theorem fitL_srt {P B : Int} : ∀ {L : List Pck}, Srt L → Srt (fitL P B L)
  | [], h => h
  | x :: r, h => by
    unfold fitL
    split
    · exact fitL_srt (List.pairwise_cons.1 h).2
    · exact h
theorem fitL_room {P B : Int} (hP : 0 ≤ P) (hB : 0 ≤ B) : ∀ L : List Pck, ((fitL P B L).length : Int) ≤ P ∧ (sizD (fitL P B L) : Int) ≤ B
  | [] => ⟨by simpa [fitL] using hP, by simpa [fitL, sizD] using hB⟩
  | x :: r => by
    unfold fitL
    split
    · exact fitL_room hP hB r
    · omega
theorem fitL_mem {P B : Int} {p : Pck} : ∀ {L : List Pck}, p ∈ fitL P B L → p ∈ L
  | [], h => h
  | x :: r, h => by
    unfold fitL at h
    split at h
    · exact List.mem_cons_of_mem _ (fitL_mem h)
    · exact h
theorem fitL_len {P B : Int} : ∀ L : List Pck, (fitL P B L).length ≤ L.length
  | [] => by simp [fitL]
  | x :: r => by
    have := fitL_len (P := P) (B := B) r
    unfold fitL
    split
    · simp; omega
    · omega
theorem forG_srt {L : List Pck} (h : Srt L) (i : Int) : Srt (forG L i) := h.sublist (List.dropWhile_sublist _)
theorem srt_head {x : Pck} {r : List Pck} (h : Srt (x :: r)) {p : Pck} (hp : p ∈ x :: r) : x.1 ≤ p.1 := by
  rcases List.mem_cons.1 hp with rfl | hp
  · exact Int.le_refl _
  · have := (List.pairwise_cons.1 h).1 p hp; omega
theorem srt_uniq {L : List Pck} (h : Srt L) {p q : Pck} (hp : p ∈ L) (hq : q ∈ L) (e : p.1 = q.1) : p = q := by
  induction L with
  | nil => cases hp
  | cons x r ih =>
    obtain ⟨h1, h2⟩ := List.pairwise_cons.1 h
    rcases List.mem_cons.1 hp with rfl | hp' <;> rcases List.mem_cons.1 hq with rfl | hq'
    · rfl
    · have := h1 q hq'; omega
    · have := h1 p hp'; omega
    · exact ih h2 hp' hq'

theorem perm_erase {α : Type} {D : List α} {m : Nat} (h : m < D.length) : D.Perm (D[m] :: D.eraseIdx m) := by
  have h1 : D = D.take m ++ D[m] :: D.drop (m + 1) := by rw [List.getElem_cons_drop, List.take_append_drop]
  rw [List.eraseIdx_eq_take_drop_succ]
  exact (List.Perm.of_eq h1).trans List.perm_middle
/-- The least of packets in any order is the first one of those that stand. -/
theorem lst_perm {D : List Pck} {x : Pck} {r : List Pck} (h : D.Perm (x :: r)) (hs : Srt (x :: r)) : ∃ m : Nat, lstK (D.map (·.1)) D.length = m ∧ ∃ hm : m < D.length, D[m] = x ∧ (D.eraseIdx m).Perm r := by
  have hl : 0 < D.length := by rw [h.length_eq]; simp
  obtain ⟨m, h1, h2, h3⟩ := lstK_facts (D.map (·.1)) D.length hl
  refine ⟨m, h1, h2, ?_⟩
  have hg : ∀ j (hj : j < D.length), (D.map (·.1)).getD j 0 = D[j].1 := fun j hj => by simp [List.getD, hj]
  have hx : x ∈ D := h.mem_iff.2 (by simp)
  obtain ⟨j, hj, rfl⟩ := List.getElem_of_mem hx
  have a := h3 j hj
  rw [hg m h2, hg j hj] at a
  have b := srt_head hs (h.mem_iff.1 (List.getElem_mem h2))
  have e : D[m] = D[j] := srt_uniq hs (h.mem_iff.1 (List.getElem_mem h2)) (h.mem_iff.1 (List.getElem_mem hj)) (by omega)
  refine ⟨e, ?_⟩
  have k := (perm_erase h2).symm.trans h
  rw [e] at k
  exact k.cons_inv
theorem idx_perm {D L : List Pck} (h : D.Perm L) : (D.map (·.1)).Perm (L.map (·.1)) := h.map _
end Go.Proofs.Ytjbeheegciacpaa
