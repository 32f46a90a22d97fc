/- Plain words of layer 25 (remb): what a layer costs, who is next, a sharing and what it costs. No statement is proved here. -/
import Derived.Test.YtehnnnhbgjfdgaaNums
namespace Go.Proofs.Ytehnnnhbgjfdgaa
set_option linter.unusedVariables false

/-- What a layer costs: 0 of one that there isn't. -/
def cst (l : List Int) (k : Int) : Int := if k < 0 ∨ (l.length : Int) ≤ k then 0 else l.getD k.toNat 0
/-- A row of costs: each a number of 64 bits. -/
def OkC (C : List (List Int)) : Prop := ∀ l ∈ C, ∀ x ∈ l, 0 ≤ x ∧ x ≤ 18446744073709551615
theorem cst_ok {l : List Int} (h : ∀ x ∈ l, 0 ≤ x ∧ x ≤ 18446744073709551615) (k : Int) : 0 ≤ cst l k ∧ cst l k ≤ 18446744073709551615 := by
  unfold cst
  split
  · omega
  · rename_i hk
    have hlt : k.toNat < l.length := by omega
    rw [List.getD_eq_getElem?_getD, List.getElem?_eq_getElem hlt, Option.getD_some]
    exact h _ (List.getElem_mem hlt)
theorem okC_row {C : List (List Int)} (h : OkC C) (i : Nat) : ∀ x ∈ C.getD i [], 0 ≤ x ∧ x ≤ 18446744073709551615 := by
  intro x hx
  rcases Nat.lt_or_ge i C.length with hi | hi
  · rw [List.getD_eq_getElem?_getD, List.getElem?_eq_getElem hi, Option.getD_some] at hx
    exact h _ (List.getElem_mem hi) x hx
  · rw [List.getD_eq_getElem?_getD, List.getElem?_eq_none hi] at hx
    simp at hx
theorem satN_ok {a b : Int} (ha : 0 ≤ a) (hb : 0 ≤ b) : 0 ≤ satN a b ∧ satN a b ≤ 18446744073709551615 ∧ satN a b ≤ a + b := by
  unfold satN; split <;> omega
/-- Does subscription i's next layer fit? -/
def Fit (left : Int) (C : List (List Int)) (O : List Int) (i : Nat) : Prop :=
  i < 64 ∧ O.getD i 0 + 1 < ((C.getD i []).length : Int) ∧ O.getD i 0 + 1 < 8 ∧ cst (C.getD i []) (O.getD i 0 + 1) ≤ satN left (cst (C.getD i []) (O.getD i 0))
instance (left : Int) (C : List (List Int)) (O : List Int) (i : Nat) : Decidable (Fit left C O i) := by unfold Fit; infer_instance
/-- WHO IS NEXT: the first of those with the least layer whose next one fits. -/
def Nxt (left : Int) (C : List (List Int)) (O : List Int) (b : Nat) : Prop :=
  b < O.length ∧ Fit left C O b ∧ (∀ i, i < O.length → Fit left C O i → O.getD b 0 ≤ O.getD i 0) ∧ ∀ i, i < b → Fit left C O i → O.getD b 0 < O.getD i 0
/-- Nobody is next. -/
def Non (left : Int) (C : List (List Int)) (O : List Int) : Prop := ∀ i, i < O.length → ¬ Fit left C O i
theorem Nxt.one {left : Int} {C : List (List Int)} {O : List Int} {a b : Nat} (h : Nxt left C O a) (k : Nxt left C O b) : a = b := by
  have h1 := h.2.2.1 b k.1 k.2.1
  have h2 := k.2.2.1 a h.1 h.2.1
  rcases Nat.lt_trichotomy a b with h3 | h3 | h3
  · have := k.2.2.2 a h3 h.2.1; omega
  · exact h3
  · have := h.2.2.2 b h3 k.2.1; omega
theorem Nxt.not {left : Int} {C : List (List Int)} {O : List Int} {a : Nat} (h : Nxt left C O a) (k : Non left C O) : False := k a h.1 h.2.1
/-- What is left behind that. -/
def lftR (left : Int) (C : List (List Int)) (O : List Int) (b : Nat) : Int :=
  if cst (C.getD b []) (O.getD b 0) ≤ cst (C.getD b []) (O.getD b 0 + 1) then left - (cst (C.getD b []) (O.getD b 0 + 1) - cst (C.getD b []) (O.getD b 0))
  else satN left (cst (C.getD b []) (O.getD b 0) - cst (C.getD b []) (O.getD b 0 + 1))
/-- A SHARING, from what is left and what they have on. -/
inductive Shr (C : List (List Int)) : Int → List Int → List Int → Prop
  | done {left : Int} {O : List Int} : Non left C O → Shr C left O O
  | more {left : Int} {O R : List Int} (b : Nat) : Nxt left C O b → Shr C (lftR left C O b) (O.set b (O.getD b 0 + 1)) R → Shr C left O R
theorem Shr.one {C : List (List Int)} {left : Int} {O R S : List Int} (h : Shr C left O R) (k : Shr C left O S) : R = S := by
  induction h generalizing S with
  | done h1 =>
    cases k with
    | done => rfl
    | more b h2 => exact (h2.not h1).elim
  | more b h1 _ ih =>
    cases k with
    | done h2 => exact (h1.not h2).elim
    | more b2 h2 h3 =>
      obtain rfl := h1.one h2
      exact ih h3
theorem lftR_ok {left : Int} {C : List (List Int)} {O : List Int} {b : Nat} (hC : OkC C) (hl : 0 ≤ left ∧ left ≤ 18446744073709551615) (h : Fit left C O b) : 0 ≤ lftR left C O b ∧ lftR left C O b ≤ 18446744073709551615 := by
  have h1 := cst_ok (okC_row hC b) (O.getD b 0)
  have h2 := cst_ok (okC_row hC b) (O.getD b 0 + 1)
  have h3 := h.2.2.2
  have h4 := satN_ok hl.1 h1.1
  unfold lftR
  split
  · omega
  · have := satN_ok (a := left) (b := cst (C.getD b []) (O.getD b 0) - cst (C.getD b []) (O.getD b 0 + 1)) hl.1 (by omega)
    omega
/-- What each may have under way. -/
def OkO (C : List (List Int)) (O : List Int) : Prop := O.length = C.length ∧ ∀ i, i < O.length → -1 ≤ O.getD i 0 ∧ O.getD i 0 ≤ 7 ∧ O.getD i 0 < ((C.getD i []).length : Int)
theorem okO_start (C : List (List Int)) : OkO C (List.replicate C.length (-1)) := by
  refine ⟨by simp, fun i hi => ?_⟩
  have hi' : i < C.length := by simpa using hi
  have e : (List.replicate C.length (-1 : Int)).getD i 0 = -1 := by simp [List.getD, hi']
  rw [e]
  omega
theorem getD_set (O : List Int) (b : Nat) (x : Int) (i : Nat) (hb : b < O.length) : (O.set b x).getD i 0 = if i = b then x else O.getD i 0 := by
  by_cases h : i = b
  · subst h; simp [List.getD, hb]
  · rw [if_neg h, List.getD_eq_getElem?_getD, List.getElem?_set_ne (by omega), List.getD_eq_getElem?_getD]
theorem okO_step {left : Int} {C : List (List Int)} {O : List Int} {b : Nat} (h : OkO C O) (hb : b < O.length) (hf : Fit left C O b) : OkO C (O.set b (O.getD b 0 + 1)) := by
  refine ⟨by simpa using h.1, fun i hi => ?_⟩
  have hi' : i < O.length := by simpa using hi
  rw [getD_set O b _ i hb]
  have := h.2 i hi'
  split
  · rename_i he
    subst he
    obtain ⟨_, h1, h2, _⟩ := hf
    omega
  · exact this
/-- How many steps there may be. -/
def mesO (O : List Int) : Nat := (O.map fun k => (7 - k).toNat).sum
theorem sum_set {L : List Nat} {b : Nat} (hb : b < L.length) (x : Nat) : (L.set b x).sum + L.getD b 0 = L.sum + x := by
  induction L generalizing b with
  | nil => simp at hb
  | cons a L ih =>
    cases b with
    | zero => simp [List.set, List.getD]; omega
    | succ b =>
      have := ih (b := b) (by simpa using hb)
      simp only [List.set_cons_succ, List.sum_cons, List.getD_cons_succ]
      omega
theorem mesO_step {left : Int} {C : List (List Int)} {O : List Int} {b : Nat} (hb : b < O.length) (hf : Fit left C O b) : mesO (O.set b (O.getD b 0 + 1)) < mesO O := by
  unfold mesO
  rw [List.map_set]
  have h1 := sum_set (L := O.map fun k => (7 - k).toNat) (b := b) (by simpa using hb) ((7 - (O.getD b 0 + 1)).toNat)
  have h2 : (O.map fun k => (7 - k).toNat).getD b 0 = (7 - O.getD b 0).toNat := by
    rw [List.getD_eq_getElem?_getD, List.getElem?_map, List.getD_eq_getElem?_getD, List.getElem?_eq_getElem hb]
    rfl
  obtain ⟨_, _, h3, _⟩ := hf
  omega

/-- What the first n layers cost. -/
def costR (C : List (List Int)) (L : List Int) : Nat → Int
  | 0 => 0
  | n + 1 => satN (costR C L n) (cst (C.getD n []) (L.getD n 0))
theorem costR_ok {C : List (List Int)} (hC : OkC C) (L : List Int) (n : Nat) : 0 ≤ costR C L n ∧ costR C L n ≤ 18446744073709551615 := by
  induction n with
  | zero => simp [costR]
  | succ n ih =>
    have := satN_ok ih.1 (cst_ok (okC_row hC n) (L.getD n 0)).1
    simp only [costR]
    omega
/-- The sum, as it is. -/
def totR (C : List (List Int)) (L : List Int) : Nat → Int
  | 0 => 0
  | n + 1 => totR C L n + cst (C.getD n []) (L.getD n 0)
theorem totR_pos {C : List (List Int)} (hC : OkC C) (L : List Int) (n : Nat) : 0 ≤ totR C L n := by
  induction n with
  | zero => simp [totR]
  | succ n ih =>
    have := (cst_ok (okC_row hC n) (L.getD n 0)).1
    simp only [totR]
    omega
theorem costR_tot {C : List (List Int)} (hC : OkC C) (L : List Int) (n : Nat) : costR C L n ≤ totR C L n := by
  induction n with
  | zero => simp [totR, costR]
  | succ n ih =>
    have h1 := (cst_ok (okC_row hC n) (L.getD n 0)).1
    have := satN_ok (costR_ok hC L n).1 h1
    simp only [totR, costR]
    omega
theorem totR_set {C : List (List Int)} {O : List Int} {b : Nat} (hb : b < O.length) (x : Int) (n : Nat) : totR C (O.set b x) n = totR C O n + if b < n then cst (C.getD b []) x - cst (C.getD b []) (O.getD b 0) else 0 := by
  induction n with
  | zero => simp [totR]
  | succ n ih =>
    simp only [totR]
    rw [ih, getD_set O b x n hb]
    by_cases h : n = b
    · subst h
      rw [if_pos rfl, if_neg (by omega), if_pos (by omega)]
      omega
    · rw [if_neg h]
      by_cases h2 : b < n
      · rw [if_pos h2, if_pos (by omega)]; omega
      · rw [if_neg h2, if_neg (by omega)]; omega
theorem totR_start (C : List (List Int)) (m n : Nat) (h : n ≤ m) : totR C (List.replicate m (-1)) n = 0 := by
  induction n with
  | zero => rfl
  | succ n ih =>
    simp only [totR]
    rw [ih (by omega)]
    have e : (List.replicate m (-1 : Int)).getD n 0 = -1 := by simp [List.getD, show n < m by omega]
    rw [e]
    simp [cst]
/-- What is had costs at most what is gone: never more than there was. -/
theorem Shr.fits {C : List (List Int)} (hC : OkC C) {left : Int} {O R : List Int} (h : Shr C left O R) (r : Int) (hr : r ≤ 18446744073709551615) (hl : 0 ≤ left) (hs : totR C O O.length + left ≤ r) : totR C R R.length ≤ r := by
  induction h with
  | done => omega
  | @more left O R b h1 _ ih =>
    have hb := h1.1
    have p1 := cst_ok (okC_row hC b) (O.getD b 0)
    have p2 := cst_ok (okC_row hC b) (O.getD b 0 + 1)
    have p3 := h1.2.1.2.2.2
    have p4 := satN_ok hl p1.1
    have hpos := totR_pos hC O O.length
    have e := totR_set (C := C) hb (O.getD b 0 + 1) O.length
    rw [if_pos hb] at e
    refine ih ?_ ?_
    · unfold lftR
      split
      · omega
      · exact (satN_ok hl (by omega)).1
    · rw [List.length_set, e]
      unfold lftR
      split
      · omega
      · have := (satN_ok (b := cst (C.getD b []) (O.getD b 0) - cst (C.getD b []) (O.getD b 0 + 1)) hl (by omega)).2.2
        omega
/-- P25.4: the cost of a sharing. -/
theorem fits25 {C : List (List Int)} (hC : OkC C) {rate : Int} (h0 : 0 ≤ rate) (h1 : rate ≤ 18446744073709551615) {R : List Int} (h : Shr C rate (List.replicate C.length (-1)) R) : costR C R R.length ≤ rate := by
  have h2 := h.fits hC rate h1 h0 (by rw [List.length_replicate, totR_start C _ _ (Nat.le_refl _)]; omega)
  have h3 := costR_tot hC R R.length
  omega
theorem Shr.len {C : List (List Int)} {left : Int} {O R : List Int} (h : Shr C left O R) : R.length = O.length := by
  induction h with
  | done => rfl
  | more b _ _ ih => rw [ih, List.length_set]
theorem Shr.okO {C : List (List Int)} {left : Int} {O R : List Int} (h : Shr C left O R) (k : OkO C O) : OkO C R := by
  induction h with
  | done => exact k
  | more b h1 _ ih => exact ih (okO_step k h1.1 h1.2.1)
theorem Shr.bound {C : List (List Int)} {left : Int} {R : List Int} (h : Shr C left (List.replicate C.length (-1)) R) : ∀ x ∈ R, -9223372036854775808 ≤ x ∧ x ≤ 9223372036854775807 := by
  intro x hx
  obtain ⟨j, hj, rfl⟩ := List.getElem_of_mem hx
  have h1 := (h.okO (okO_start C)).2 j hj
  have e : R.getD j 0 = R[j] := by simp [List.getD, hj]
  rw [e] at h1
  omega
/-- What statements look at. -/
def Sm (C : List (List Int)) : Prop := C.length ≤ 100 ∧ ∀ i, i < C.length → (C.getD i []).length ≤ 30
theorem sm_ex : Sm [[3, 8], [4, 9]] := ⟨by decide, by decide⟩
/-- The document's example. -/
theorem ex25a : Shr [[3, 8], [4, 9]] 10 [-1, -1] [0, 0] :=
  .more 0 ⟨by decide, by decide, by decide, by decide⟩ (.more 1 ⟨by decide, by decide, by decide, by decide⟩ (.done (by unfold Non; decide)))
theorem ex25b : Shr [[3, 8], [4, 9]] 12 [-1, -1] [1, 0] :=
  .more 0 ⟨by decide, by decide, by decide, by decide⟩ (.more 1 ⟨by decide, by decide, by decide, by decide⟩ (.more 0 ⟨by decide, by decide, by decide, by decide⟩ (.done (by unfold Non; decide))))

/-- The least of some. -/
def lowR : List Int → Int
  | [] => 18446744073709551615
  | x :: l => if x ≤ lowR l then x else lowR l
theorem lowR_le {l : List Int} (h : ∀ x ∈ l, 0 ≤ x ∧ x ≤ 18446744073709551615) : ∀ x ∈ l, lowR l ≤ x := by
  induction l with
  | nil => simp
  | cons a l ih =>
    intro x hx
    simp only [lowR]
    have ih' := ih (fun y hy => h y (List.mem_cons_of_mem _ hy))
    rcases List.mem_cons.1 hx with rfl | hx'
    · split <;> omega
    · have := ih' x hx'
      split <;> omega
theorem lowR_in {l : List Int} (h : ∀ x ∈ l, 0 ≤ x ∧ x ≤ 18446744073709551615) (hn : l ≠ []) : lowR l ∈ l := by
  induction l with
  | nil => exact absurd rfl hn
  | cons a l ih =>
    simp only [lowR]
    split
    · simp
    · rename_i hlt
      have : l ≠ [] := by
        rintro rfl
        have := h a (by simp)
        simp only [lowR] at hlt
        omega
      exact List.mem_cons_of_mem _ (ih (fun y hy => h y (List.mem_cons_of_mem _ hy)) this)
theorem lowR_ok {l : List Int} (h : ∀ x ∈ l, 0 ≤ x ∧ x ≤ 18446744073709551615) : 0 ≤ lowR l ∧ lowR l ≤ 18446744073709551615 := by
  rcases Classical.em (l = []) with rfl | hn
  · simp [lowR]
  · exact h _ (lowR_in h hn)
end Go.Proofs.Ytehnnnhbgjfdgaa
