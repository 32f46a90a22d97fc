/- Plain mathematics on losses and names: the numbers that losses tell, there and back. No program is named; no statement is proved here. -/
import Derived.Test.YtkmacpmdgbhhkaaBytes
namespace Go.Proofs.Ytkmacpmdgbhhkaa
set_option linter.unusedVariables false

/-- What the first n bits of a loss tell. -/
def nkT (s b n : Nat) : List Nat := (List.range n).filterMap fun k => if b.testBit k = true then some ((s + k + 1) % 65536) else none
theorem nkT_succ (s b n : Nat) : nkT s b (n + 1) = nkT s b n ++ (if b.testBit n = true then [(s + n + 1) % 65536] else []) := by
  unfold nkT
  rw [List.range_succ, List.filterMap_append]
  congr 1
  cases h : b.testBit n <;> simp [h]
theorem nkT_zero (s n : Nat) : nkT s 0 n = [] := by
  induction n with
  | zero => rfl
  | succ n ih => rw [nkT_succ, ih]; simp
theorem nkT_or (s b j n : Nat) (h : b < 2 ^ j) : nkT s (b ||| 2 ^ j) n = nkT s b n ++ (if j < n then [(s + j + 1) % 65536] else []) := by
  induction n with
  | zero => simp [nkT]
  | succ n ih =>
    rw [nkT_succ, nkT_succ, ih, Nat.testBit_or, Nat.testBit_two_pow]
    rcases Nat.lt_trichotomy n j with hn | hn | hn
    · have e : decide (j = n) = false := by simp; omega
      have n1 : ¬ j < n := by omega
      have n2 : ¬ j < n + 1 := by omega
      simp [e, n1, n2]
    · subst hn
      simp [Nat.testBit_lt_two_pow h]
    · have hb : b.testBit n = false := Nat.testBit_lt_two_pow (Nat.lt_of_lt_of_le h (Nat.pow_le_pow_right (by omega) (by omega)))
      have e : decide (j = n) = false := by simp; omega
      have n2 : j < n + 1 := by omega
      simp [e, hn, n2, hb]
/-- The numbers that one loss tells. -/
def nk1 (x : Nat × Nat) : List Nat := x.1 :: nkT x.1 x.2 16
/-- The numbers that losses tell. -/
def nkL (l : List (Nat × Nat)) : List Nat := l.flatMap nk1
theorem nkL_snoc (l : List (Nat × Nat)) (x : Nat × Nat) : nkL (l ++ [x]) = nkL l ++ nk1 x := by simp [nkL]
theorem nkL_len (l : List (Nat × Nat)) : (nkL l).length ≤ 17 * l.length := by
  induction l with
  | nil => simp [nkL]
  | cons a r ih =>
    have h1 : nkL (a :: r) = nk1 a ++ nkL r := by simp [nkL]
    have h2 : (nk1 a).length ≤ 17 := by
      unfold nk1 nkT
      have := List.length_filterMap_le (fun k => if a.2.testBit k = true then some ((a.1 + k + 1) % 65536) else none) (List.range 16)
      simp only [List.length_cons, List.length_range] at this ⊢
      omega
    rw [h1, List.length_append, List.length_cons]
    omega

/-- How far a number is behind another. -/
def far (s x : Nat) : Nat := (x + 65536 - s) % 65536
/-- One number more. -/
def lsS (out : List (Nat × Nat)) (x : Nat) : List (Nat × Nat) := match out.getLast? with
  | some (s, b) => if 1 ≤ far s x ∧ far s x ≤ 16 then out.dropLast ++ [(s, b ||| 2 ^ (far s x - 1))] else out ++ [(x, 0)]
  | none => [(x, 0)]
/-- The losses of numbers. -/
def lsL (l : List Nat) : List (Nat × Nat) := l.foldl lsS []
theorem lsL_snoc (l : List Nat) (x : Nat) : lsL (l ++ [x]) = lsS (lsL l) x := by simp [lsL, List.foldl_append]
theorem lsS_nil (x : Nat) : lsS [] x = [(x, 0)] := rfl
theorem lsS_in (out : List (Nat × Nat)) (s b x : Nat) (h1 : 1 ≤ far s x) (h2 : far s x ≤ 16) : lsS (out ++ [(s, b)]) x = out ++ [(s, b ||| 2 ^ (far s x - 1))] := by
  unfold lsS
  rw [List.getLast?_concat, List.dropLast_concat]
  simp only
  rw [if_pos ⟨h1, h2⟩]
theorem lsS_new (out : List (Nat × Nat)) (s b x : Nat) (h : ¬ (1 ≤ far s x ∧ far s x ≤ 16)) : lsS (out ++ [(s, b)]) x = (out ++ [(s, b)]) ++ [(x, 0)] := by
  unfold lsS
  rw [List.getLast?_concat]
  simp only
  rw [if_neg h]
theorem lsL_len (l : List Nat) : (lsL l).length ≤ l.length := by
  have key : ∀ (out : List (Nat × Nat)) (x : Nat), (lsS out x).length ≤ out.length + 1 := by
    intro out x
    rcases List.eq_nil_or_concat out with rfl | ⟨o, a, rfl⟩
    · simp [lsS]
    · rw [List.concat_eq_append]
      obtain ⟨s, b⟩ := a
      by_cases h : 1 ≤ far s x ∧ far s x ≤ 16
      · rw [lsS_in o s b x h.1 h.2]; simp
      · rw [lsS_new o s b x h]; simp
  have go : ∀ (l : List Nat) (out : List (Nat × Nat)), (l.foldl lsS out).length ≤ out.length + l.length := by
    intro l
    induction l with
    | nil => intro out; simp
    | cons a r ih => intro out; have h1 := ih (lsS out a); have h2 := key out a; simp only [List.foldl_cons, List.length_cons]; omega
  simpa [lsL] using go l []
/-- Every number of a loss fits its field. -/
theorem lsL_fit (l : List Nat) (hf : ∀ x ∈ l, x < 65536) : ∀ a ∈ lsL l, a.1 < 65536 ∧ a.2 < 65536 := by
  have key : ∀ (out : List (Nat × Nat)) (x : Nat), x < 65536 → (∀ a ∈ out, a.1 < 65536 ∧ a.2 < 65536) → ∀ a ∈ lsS out x, a.1 < 65536 ∧ a.2 < 65536 := by
    intro out x hx ho
    rcases List.eq_nil_or_concat out with rfl | ⟨o, a, rfl⟩
    · intro a ha
      rw [lsS_nil, List.mem_singleton] at ha
      subst ha
      exact ⟨hx, (by decide : (0 : Nat) < 65536)⟩
    · rw [List.concat_eq_append] at ho ⊢
      obtain ⟨s, b⟩ := a
      have hl := ho (s, b) (by simp)
      by_cases h : 1 ≤ far s x ∧ far s x ≤ 16
      · rw [lsS_in o s b x h.1 h.2]
        intro a ha
        rcases List.mem_append.1 ha with ha | ha
        · exact ho a (List.mem_append_left _ ha)
        · rw [List.mem_singleton] at ha
          subst ha
          refine ⟨hl.1, ?_⟩
          have h2 : (2 : Nat) ^ (far s x - 1) < 2 ^ 16 := Nat.pow_lt_pow_right (by omega) (by omega)
          exact Nat.or_lt_two_pow (n := 16) hl.2 h2
      · rw [lsS_new o s b x h]
        intro a ha
        rcases List.mem_append.1 ha with ha | ha
        · exact ho a ha
        · rw [List.mem_singleton] at ha
          subst ha
          exact ⟨hx, (by decide : (0 : Nat) < 65536)⟩
  have go : ∀ (l : List Nat) (out : List (Nat × Nat)), (∀ x ∈ l, x < 65536) → (∀ a ∈ out, a.1 < 65536 ∧ a.2 < 65536) → ∀ a ∈ l.foldl lsS out, a.1 < 65536 ∧ a.2 < 65536 := by
    intro l
    induction l with
    | nil => intro out _ ho; exact ho
    | cons a r ih =>
      intro out hl ho
      exact ih (lsS out a) (fun x hx => hl x (List.mem_cons_of_mem _ hx)) (key out a (hl a List.mem_cons_self) ho)
  exact go l [] hf (by simp)

/-- The numbers rise. -/
def rises (l : List Nat) : Prop := ∀ i, i + 1 < l.length → l.getD i 0 < l.getD (i + 1) 0
theorem far_of (s x : Nat) (h : s < x) (hx : x < 65536) : far s x = x - s := by unfold far; omega
/-- There and back. -/
theorem nk_ls (l : List Nat) (hf : ∀ x ∈ l, x < 65536) (hr : rises l) : nkL (lsL l) = l := by
  have key : ∀ k, k ≤ l.length → nkL (lsL (l.take k)) = l.take k ∧ (0 < k → ∃ out s b, lsL (l.take k) = out ++ [(s, b)] ∧ s ≤ l.getD (k - 1) 0 ∧ l.getD (k - 1) 0 - s ≤ 16 ∧ b < 2 ^ (l.getD (k - 1) 0 - s)) := by
    intro k
    induction k with
    | zero => intro _; exact ⟨by simp [lsL, nkL], fun h => absurd h (by omega)⟩
    | succ k ih =>
      intro hk
      obtain ⟨i1, i2⟩ := ih (by omega)
      have hsn : l.take (k + 1) = l.take k ++ [l.getD k 0] := by
        rw [List.take_add_one, List.getD, List.getElem?_eq_getElem (by omega)]; rfl
      obtain ⟨x, hx⟩ : ∃ x, x = l.getD k 0 := ⟨_, rfl⟩
      have hxl : x < 65536 := by
        rw [hx, List.getD, List.getElem?_eq_getElem (by omega)]
        exact hf _ (List.getElem_mem _)
      rw [hsn, lsL_snoc, Nat.add_sub_cancel, ← hx]
      rcases Nat.eq_zero_or_pos k with h0 | h0
      · subst h0
        have e : lsL (l.take 0) = [] := by simp [lsL]
        rw [e, lsS_nil]
        refine ⟨?_, fun _ => ⟨[], x, 0, rfl, Nat.le_refl _, by omega, by simp⟩⟩
        simp [nkL, nk1, nkT_zero]
      · obtain ⟨out, s, b, e, h1, h2, h3⟩ := i2 h0
        have hlt : l.getD (k - 1) 0 < x := by
          have := hr (k - 1) (by omega)
          rw [show k - 1 + 1 = k by omega, ← hx] at this
          exact this
        obtain ⟨y, hy⟩ : ∃ y, y = l.getD (k - 1) 0 := ⟨_, rfl⟩
        rw [← hy] at h1 h2 h3 hlt
        have hfar := far_of s x (by omega) hxl
        rw [e] at i1 ⊢
        by_cases hin : x - s ≤ 16
        · rw [lsS_in out s b x (by omega) (by omega), hfar]
          have hb : b < 2 ^ (x - s - 1) := Nat.lt_of_lt_of_le h3 (Nat.pow_le_pow_right (by omega) (by omega))
          refine ⟨?_, fun _ => ⟨out, s, _, rfl, by omega, hin, ?_⟩⟩
          · rw [nkL_snoc]
            rw [nkL_snoc] at i1
            unfold nk1 at i1 ⊢
            simp only at i1 ⊢
            rw [nkT_or s b (x - s - 1) 16 hb, if_pos (by omega), ← i1, show (s + (x - s - 1) + 1) % 65536 = x by omega]
            simp
          · have e2 : x - s = (x - s - 1) + 1 := by omega
            have h4 : (2 : Nat) ^ (x - s - 1) < 2 ^ (x - s) := Nat.pow_lt_pow_right (by omega) (by omega)
            exact Nat.or_lt_two_pow (Nat.lt_trans hb h4) h4
        · rw [lsS_new out s b x (by omega)]
          refine ⟨?_, fun _ => ⟨out ++ [(s, b)], x, 0, rfl, Nat.le_refl _, by omega, by simp⟩⟩
          rw [nkL_snoc, i1]
          simp [nk1, nkT_zero]
  have h := (key l.length (Nat.le_refl _)).1
  rw [List.take_length] at h
  exact h

/-- A text is a name. -/
def nameP (s : ByteArray) : Prop := 1 ≤ s.size ∧ s.size ≤ 16 ∧ ∀ (i : Nat) (h : i < s.size), 33 ≤ (s[i]'h).toNat ∧ (s[i]'h).toNat ≤ 126
end Go.Proofs.Ytkmacpmdgbhhkaa
