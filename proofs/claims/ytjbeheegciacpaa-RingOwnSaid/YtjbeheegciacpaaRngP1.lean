/- A ring of package ring as it lies in memory: its own block, the row of packets (which may begin anywhere in its block), each packet's bytes. No statement is proved here. -/
import Derived.Test.YtjbeheegciacpaaRngL1
import Derived.Test.YtjbeheegciacpaaMem2
import Derived.Shelf.SlSorted.Search
namespace Go.Proofs.Ytjbeheegciacpaa
open Go.RowKit
set_option linter.unusedVariables false

/-- A packet and where its bytes lie: their address, their capacity. -/
abbrev Pks := Pck × Option Addr × Nat
/-- Its two cells. -/
def pkC (x : Pks) : List Value := [.int .i64 x.1.1, .slice x.2.1 x.1.2.length x.2.2]
def rowC (X : List Pks) : List Value := X.flatMap pkC
theorem rowC_nil : rowC [] = [] := rfl
theorem rowC_cons (x : Pks) (X : List Pks) : rowC (x :: X) = pkC x ++ rowC X := rfl
theorem rowC_append (X Y : List Pks) : rowC (X ++ Y) = rowC X ++ rowC Y := by simp [rowC]
theorem rowC_len (X : List Pks) : (rowC X).length = X.length * 2 := by
  induction X with
  | nil => rfl
  | cons x r ih => rw [rowC_cons, List.length_append, ih]; simp [pkC]; omega
theorem rowC_at0 {X : List Pks} {k : Nat} (h : k < X.length) : (rowC X)[k * 2]? = some (.int .i64 X[k].1.1) := by
  induction X generalizing k with
  | nil => simp at h
  | cons x r ih =>
    rw [rowC_cons]
    cases k with
    | zero => simp [pkC]
    | succ k =>
      rw [List.getElem?_append_right (by simp [pkC]; omega)]
      have h2 : k < r.length := by simpa using h
      rw [show (k + 1) * 2 - (pkC x).length = k * 2 by simp [pkC]; omega, ih h2]
      rfl
theorem rowC_at1 {X : List Pks} {k : Nat} (h : k < X.length) : (rowC X)[k * 2 + 1]? = some (.slice X[k].2.1 X[k].1.2.length X[k].2.2) := by
  induction X generalizing k with
  | nil => simp at h
  | cons x r ih =>
    rw [rowC_cons]
    cases k with
    | zero => simp [pkC]
    | succ k =>
      rw [List.getElem?_append_right (by simp [pkC]; omega)]
      have h2 : k < r.length := by simpa using h
      rw [show (k + 1) * 2 + 1 - (pkC x).length = k * 2 + 1 by simp [pkC]; omega, ih h2]
      rfl
theorem rowC_one (X : List Pks) : ∀ v ∈ rowC X, v.oneCell' = true := by
  intro v hv
  unfold rowC at hv
  rw [List.mem_flatMap] at hv
  obtain ⟨x, _, h⟩ := hv
  simp only [pkC, List.mem_cons, List.not_mem_nil, or_false] at h
  rcases h with rfl | rfl <;> rfl
theorem rowC_take (X : List Pks) (k : Nat) : rowC (X.take k) = (rowC X).take (k * 2) := by
  induction X generalizing k with
  | nil => simp [rowC]
  | cons x r ih =>
    cases k with
    | zero => simp [rowC]
    | succ k =>
      rw [List.take_succ_cons, rowC_cons, rowC_cons, ih, List.take_append, List.take_of_length_le (l := pkC x) (by simp [pkC]; omega)]
      congr 2
      simp [pkC]
      omega
theorem rowC_drop (X : List Pks) (k : Nat) : rowC (X.drop k) = (rowC X).drop (k * 2) := by
  have h : rowC X = (rowC X).take (k * 2) ++ rowC (X.drop k) := by rw [← rowC_take, ← rowC_append, List.take_append_drop]
  have h2 : rowC X = (rowC X).take (k * 2) ++ (rowC X).drop (k * 2) := (List.take_append_drop _ _).symm
  exact List.append_cancel_left (h.symm.trans h2)

/-- A slice of packets: its row stands in a block of packets, from some place on, with room for c. -/
structure RowP (w : World) (A : Option Addr) (c : Nat) (X : List Pks) : Prop where
  le : X.length ≤ c
  max : c ≤ maxLen
  nil_ : A = none → c = 0
  some_ : ∀ a, A = some a → ∃ b off C, a = ⟨b, off, none⟩ ∧ BlkV w b 54 C ∧ off + c * 2 ≤ C.length ∧ ∀ j v, (rowC X)[j]? = some v → C[off + j]? = some v
/-- The ring at g plays s: the packets stand as X in the slice (A, c); F are its blocks. -/
structure RAt (w : World) (g : Nat) (s : Rgs) (A : Option Addr) (c : Nat) (X : List Pks) (F : Nat → Prop) : Prop where
  blk : BlkV w g 48 [.int .i64 s.P, .int .i64 s.B, .slice A s.L.length c, .int .i64 (sizD s.L : Nat)]
  row : RowP w A c X
  eq : X.map (·.1) = s.L
  rd : ∀ x ∈ X, RdS w x.2.1 x.1.2.length x.2.2 x.1.2
  off : ∀ x ∈ X, 0 < x.1.2.length → ∀ ad, x.2.1 = some ad → F ad.block ∧ ad.block ≠ g ∧ ∀ a, A = some a → ad.block ≠ a.block
  own : F g
  ownr : ∀ a, A = some a → F a.block ∧ a.block ≠ g
  low : ∀ k, F k → k < w.heap.size
  few : s.L.length ≤ 201
  small : sizD s.L ≤ 1000000000
  rooms : 1 ≤ s.P ∧ s.P ≤ 9223372036854775807 ∧ 0 ≤ s.B ∧ s.B ≤ 9223372036854775807
section
variable {w w' : World} {g : Nat} {s : Rgs} {A : Option Addr} {c : Nat} {X : List Pks} {F : Nat → Prop}
theorem RAt.len (h : RAt w g s A c X F) : X.length = s.L.length := by rw [← h.eq, List.length_map]
theorem RowP.stay (h : RowP w A c X) (hk : ∀ a, A = some a → w'.heap[a.block]? = w.heap[a.block]?) : RowP w' A c X := by
  refine ⟨h.le, h.max, h.nil_, fun a ha => ?_⟩
  obtain ⟨b, off, C, rfl, h1, h2, h3⟩ := h.some_ a ha
  exact ⟨b, off, C, rfl, (hk _ ha).trans h1, h2, h3⟩
theorem RdS.stay {A : Option Addr} {n c : Nat} {bs : List UInt8} (h : RdS w A n c bs) (hz : w.heap.size ≤ w'.heap.size) (hk : 0 < n → ∀ ad, A = some ad → w'.heap[ad.block]? = w.heap[ad.block]?) : RdS w' A n c bs := by
  refine ⟨h.1, h.2.1, h.2.2.1, h.2.2.2.1, fun hn => ?_⟩
  obtain ⟨b, off, hA, hlt, hc⟩ := h.2.2.2.2 hn
  refine ⟨b, off, hA, Nat.lt_of_lt_of_le hlt hz, fun j hj => ?_⟩
  exact (World.cell?_of_block (a := ⟨b, off + j, none⟩) (hk hn ⟨b, off, none⟩ hA)).trans (hc j hj)
theorem RAt.stay (h : RAt w g s A c X F) (hz : w.heap.size ≤ w'.heap.size) (hk : ∀ k, F k → w'.heap[k]? = w.heap[k]?) : RAt w' g s A c X F :=
  ⟨(hk g h.own).trans h.blk, h.row.stay (fun a ha => hk _ (h.ownr a ha).1), h.eq, fun x hx => (h.rd x hx).stay hz (fun hn ad hA => hk _ (h.off x hx hn ad hA).1), h.off, h.own, h.ownr, fun k hk2 => Nat.lt_of_lt_of_le (h.low k hk2) hz, h.few, h.small, h.rooms⟩
theorem RAt.below (h : RAt w g s A c X F) (hb : Below w.heap.size w w') : RAt w' g s A c X F := h.stay hb.size (fun k hk => hb.block k (h.low k hk))
theorem RAt.c0 (h : RAt w g s A c X F) : w.cell? ⟨g, 0, none⟩ = some (.int .i64 s.P) := (h.blk.cell 0).trans rfl
theorem RAt.c1 (h : RAt w g s A c X F) : w.cell? ⟨g, 1, none⟩ = some (.int .i64 s.B) := (h.blk.cell 1).trans rfl
theorem RAt.c2 (h : RAt w g s A c X F) : w.cell? ⟨g, 2, none⟩ = some (.slice A s.L.length c) := (h.blk.cell 2).trans rfl
theorem RAt.c3 (h : RAt w g s A c X F) : w.cell? ⟨g, 3, none⟩ = some (.int .i64 (sizD s.L : Nat)) := (h.blk.cell 3).trans rfl
theorem RowP.at0 (h : RowP w A c X) {k : Nat} (hk : k < X.length) : ∃ b off, A = some ⟨b, off, none⟩ ∧ b < w.heap.size ∧ w.cell? ⟨b, off + k * 2, none⟩ = some (.int .i64 X[k].1.1) ∧ w.cell? ⟨b, off + k * 2 + 1, none⟩ = some (.slice X[k].2.1 X[k].1.2.length X[k].2.2) := by
  cases hA : A with
  | none => have := h.nil_ hA; have := h.le; omega
  | some a =>
    obtain ⟨b, off, C, rfl, h1, h2, h3⟩ := h.some_ a hA
    refine ⟨b, off, rfl, h1.lt, ?_, ?_⟩
    · rw [h1.cell]; exact h3 _ _ (rowC_at0 hk)
    · rw [h1.cell, Nat.add_assoc]; exact h3 _ _ (rowC_at1 hk)
end
/-- A ring at a pointer. -/
def RT (w : World) (v : Value) (s : Rgs) (F : Nat → Prop) : Prop := ∃ g A c X, v = .pointer (some ⟨g, 0, none⟩) ∧ RAt w g s A c X F
theorem rt_lone : Lone RT where
  low := fun w p s F ⟨g, A, c, X, _, h⟩ => h.low
  stay := fun w w2 p s F ⟨g, A, c, X, hp, h⟩ hz hk => ⟨g, A, c, X, hp, h.stay hz hk⟩

/-- How many packets stand below an index. -/
def lowL (L : List Pck) (i : Int) : Nat := (L.takeWhile fun p => p.1 < i).length
theorem lowL_cons (x : Pck) (r : List Pck) (i : Int) : lowL (x :: r) i = if x.1 < i then lowL r i + 1 else 0 := by
  unfold lowL
  rw [List.takeWhile_cons]
  by_cases h : x.1 < i
  · rw [if_pos (by simpa using h), if_pos h]; rfl
  · rw [if_neg (by simpa using h), if_neg h]; rfl
theorem lowL_le (i : Int) : ∀ L : List Pck, lowL L i ≤ L.length
  | [] => Nat.le_refl _
  | x :: r => by
    have := lowL_le i r
    rw [lowL_cons]
    split
    · simp; omega
    · omega
theorem forG_drop (i : Int) : ∀ L : List Pck, forG L i = L.drop (lowL L i)
  | [] => rfl
  | x :: r => by
    have := forG_drop i r
    rw [lowL_cons]
    unfold forG at this ⊢
    rw [List.dropWhile_cons]
    by_cases h : x.1 < i
    · rw [if_pos (by simpa using h), if_pos h, this]; rfl
    · rw [if_neg (by simpa using h), if_neg h]; rfl
theorem lowL_lt {i : Int} : ∀ {L : List Pck} {k : Nat}, k < lowL L i → ∃ h : k < L.length, L[k].1 < i
  | [], k, hk => by simp [lowL] at hk
  | x :: r, k, hk => by
    rw [lowL_cons] at hk
    split at hk
    · rename_i hx
      cases k with
      | zero => exact ⟨by simp, hx⟩
      | succ k =>
        obtain ⟨h1, h2⟩ := lowL_lt (i := i) (L := r) (k := k) (by omega)
        exact ⟨by simp; omega, h2⟩
    · omega
theorem lowL_ge {i : Int} {L : List Pck} (hs : Srt L) {k : Nat} (hk : lowL L i ≤ k) (h : k < L.length) : i ≤ L[k].1 := by
  induction L generalizing k with
  | nil => simp at h
  | cons x r ih =>
    obtain ⟨h1, h2⟩ := List.pairwise_cons.1 hs
    rw [lowL_cons] at hk
    by_cases hx : x.1 < i
    · rw [if_pos hx] at hk
      cases k with
      | zero => omega
      | succ k =>
        have := ih h2 (k := k) (by omega) (by simpa using h)
        simpa using this
    · cases k with
      | zero => simpa using (by omega : i ≤ x.1)
      | succ k =>
        have h5 : k < r.length := by simpa using h
        have := h1 r[k] (List.getElem_mem h5)
        simp
        omega
theorem lowL_is {L : List Pck} (hs : Srt L) (i : Int) (k : Nat) (h : k < L.length) : decide (i ≤ L[k].1) = decide (lowL L i ≤ k) := by
  by_cases hk : lowL L i ≤ k
  · rw [decide_eq_true hk, decide_eq_true (lowL_ge hs hk h)]
  · obtain ⟨_, h2⟩ := lowL_lt (L := L) (i := i) (k := k) (by omega)
    rw [decide_eq_false hk, decide_eq_false (by omega)]
theorem count_low (m : Nat) : ∀ n : Nat, m ≤ n → (List.range n).countP (fun k => !decide (m ≤ k)) = m
  | 0, h => by simp; omega
  | n + 1, h => by
    rw [List.range_succ, List.countP_append]
    by_cases e : m = n + 1
    · subst e
      rw [List.countP_eq_length.2]
      · simp
      · intro a ha
        have := List.mem_range.1 ha
        simp
        omega
    · rw [count_low m n (by omega)]
      have : (!decide (m ≤ n)) = false := by simp; omega
      simp [this]
/-- Whether the next one has the index itself. -/
theorem low_there {L : List Pck} (hs : Srt L) (i : Int) : (i ∈ L.map (·.1)) ↔ ∃ h : lowL L i < L.length, (L[lowL L i]'h).1 = i := by
  constructor
  · intro hm
    obtain ⟨p, hp, rfl⟩ := List.mem_map.1 hm
    obtain ⟨k, hk, rfl⟩ := List.getElem_of_mem hp
    have h1 : lowL L L[k].1 ≤ k := by
      rcases Nat.lt_or_ge k (lowL L L[k].1) with h | h
      · obtain ⟨_, h2⟩ := lowL_lt h; omega
      · exact h
    have h2 : lowL L L[k].1 < L.length := by omega
    refine ⟨h2, ?_⟩
    have h3 := lowL_ge hs (Nat.le_refl (lowL L L[k].1)) h2
    rcases Nat.lt_or_ge (lowL L L[k].1) k with h | h
    · have := List.pairwise_iff_getElem.1 hs _ _ h2 hk h
      omega
    · have e : lowL L L[k].1 = k := by omega
      congr 2
  · rintro ⟨h, e⟩
    exact List.mem_map.2 ⟨_, List.getElem_mem h, e⟩
end Go.Proofs.Ytjbeheegciacpaa
