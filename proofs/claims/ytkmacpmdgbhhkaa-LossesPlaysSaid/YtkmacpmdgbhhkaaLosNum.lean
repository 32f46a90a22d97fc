/- Plain words on keepers of what is missed (layer 20): an index that comes, what a tick asks, what follows of both. Names no program. No statement is proved here. -/
import Derived.Test.YtkmacpmdgbhhkaaRtcpNum
namespace Go.Proofs.Ytkmacpmdgbhhkaa
set_option linter.unusedVariables false

/-- A missed packet: its index, how often it was asked for, when it may be next. -/
structure Mis where
  i : Int
  t : Int
  n : Int
/-- A keeper: its pause, its highest index (-1: none), what is missed. -/
structure Kpr where
  p : Int
  h : Int
  M : List Mis
/-- All indices from a on, so many, missed since a tick. -/
def fillM (a : Int) (c : Nat) (tk : Int) : List Mis := (List.range c).map fun (j : Nat) => ⟨a + j, 0, tk⟩
/-- The last 32. -/
def lastM (L : List Mis) : List Mis := L.drop (L.length - 32)
/-- All but an index. -/
def dropM (L : List Mis) (i : Int) : List Mis := L.eraseP fun x => decide (x.i = i)
/-- From where on indices are missed, one above the highest one having come. -/
def fromM (h i : Int) : Int := if 100 < i - (h + 1) then i - 100 else h + 1
def cameK (s : Kpr) (i tk : Int) : Kpr :=
  if i < 0 ∨ (0 ≤ s.h ∧ 1099511627776 < i - s.h) then s
  else if s.h < 0 then { s with h := i }
  else if s.h < i then { s with h := i, M := lastM (s.M ++ fillM (fromM s.h i) (i - fromM s.h i).toNat tk) }
  else { s with M := dropM s.M i }
/-- What a tick asks of the missed ones, l being asked already: these behind it, and all that is asked. -/
def askM (p tk : Int) : List Mis → List Nat → List Mis × List Nat
  | [], l => ([], l)
  | x :: r, l =>
    if tk < x.n then let q := askM p tk r l; (x :: q.1, q.2)
    else if 16 < (lsL (l ++ [(x.i % 65536).toNat])).length then (x :: r, l)
    else let q := askM p tk r (l ++ [(x.i % 65536).toNat]); (⟨x.i, x.t + 1, tk + p⟩ :: q.1, q.2)
def askK (s : Kpr) (tk : Int) : Kpr × List Nat := ({ s with M := (askM s.p tk s.M []).1.filter fun x => decide (x.t < 3) }, (askM s.p tk s.M []).2)

/-- What is so of all keepers: indices rise, below the highest one, not more than 32, asked less than three times. -/
structure KOk (s : Kpr) : Prop where
  p : 1 ≤ s.p
  h : -1 ≤ s.h
  ris : s.M.Pairwise fun a b => a.i < b.i
  bel : ∀ x ∈ s.M, 0 ≤ x.i ∧ x.i < s.h
  len : s.M.length ≤ 32
  t : ∀ x ∈ s.M, 0 ≤ x.t ∧ x.t ≤ 2
theorem fillM_mem {a : Int} {c : Nat} {tk : Int} {x : Mis} (h : x ∈ fillM a c tk) : a ≤ x.i ∧ x.i < a + c ∧ x.t = 0 ∧ x.n = tk := by
  unfold fillM at h
  obtain ⟨j, hj, rfl⟩ := List.mem_map.1 h
  have := List.mem_range.1 hj
  exact ⟨by simp only; omega, by simp only; omega, rfl, rfl⟩
theorem fillM_ris (a : Int) (c : Nat) (tk : Int) : (fillM a c tk).Pairwise fun a b => a.i < b.i := by
  unfold fillM
  rw [List.pairwise_map]
  exact List.pairwise_lt_range.imp (fun {x y} h => by simp only; omega)
theorem lastM_sub (L : List Mis) : (lastM L).Sublist L := List.drop_sublist _ _
theorem lastM_len (L : List Mis) : (lastM L).length ≤ 32 := by unfold lastM; rw [List.length_drop]; omega
theorem fromM_bd {h i : Int} (hi : h < i) : h + 1 ≤ fromM h i ∧ fromM h i ≤ i := by unfold fromM; split <;> omega
theorem cameK_p (s : Kpr) (i tk : Int) : (cameK s i tk).p = s.p := by
  unfold cameK
  split
  · rfl
  · split
    · rfl
    · split <;> rfl
theorem cameK_ok {s : Kpr} (k : KOk s) (i tk : Int) : KOk (cameK s i tk) := by
  unfold cameK
  split
  · exact k
  · rename_i h1
    split
    · rename_i h2
      have hM : s.M = [] := by
        cases hM : s.M with
        | nil => rfl
        | cons x r => have := k.bel x (by rw [hM]; simp); omega
      exact ⟨k.p, by simp only; omega, k.ris, (fun x hx => by rw [hM] at hx; cases hx), k.len, k.t⟩
    · split
      · rename_i h2 h3
        obtain ⟨f1, f2⟩ := fromM_bd h3
        have hm : ∀ x ∈ s.M ++ fillM (fromM s.h i) (i - fromM s.h i).toNat tk, (0 ≤ x.i ∧ x.i < i) ∧ (0 ≤ x.t ∧ x.t ≤ 2) := fun x hx => by
          rcases List.mem_append.1 hx with h | h
          · have a := k.bel x h; have b := k.t x h; omega
          · have a := fillM_mem h; omega
        refine ⟨k.p, by simp only; omega, ?_, fun x hx => (hm x ((lastM_sub _).subset hx)).1, lastM_len _, fun x hx => (hm x ((lastM_sub _).subset hx)).2⟩
        refine List.Pairwise.sublist (lastM_sub _) (List.pairwise_append.2 ⟨k.ris, fillM_ris _ _ _, fun a ha b hb => ?_⟩)
        have h4 := k.bel a ha; have h5 := fillM_mem hb; omega
      · have hs : (dropM s.M i).Sublist s.M := List.eraseP_sublist
        exact ⟨k.p, k.h, k.ris.sublist hs, fun x hx => k.bel x (hs.subset hx), Nat.le_trans hs.length_le k.len, fun x hx => k.t x (hs.subset hx)⟩

/-- What a tick makes of the missed ones: the same indices, each left as it was, or asked once more. -/
theorem askM_each (p tk : Int) : ∀ (L : List Mis) (l : List Nat), (askM p tk L l).1.map (·.i) = L.map (·.i) ∧ ∃ asked : List Mis, (askM p tk L l).2 = l ++ asked.map (fun x => (x.i % 65536).toNat) ∧ asked.Sublist L ∧ (∀ x ∈ asked, x.n ≤ tk) ∧ (∀ y ∈ (askM p tk L l).1, (y ∈ L ∧ ((∀ x ∈ asked, x.i ≠ y.i) ∨ ¬ L.Pairwise fun a b => a.i < b.i)) ∨ ∃ x ∈ asked, y = ⟨x.i, x.t + 1, tk + p⟩)
  | [], l => ⟨rfl, [], by simp [askM], List.Sublist.refl _, by simp, by simp [askM]⟩
  | x :: r, l => by
    unfold askM
    split
    · obtain ⟨h1, asked, h2, h3, h4, h5⟩ := askM_each p tk r l
      refine ⟨by simp only [List.map_cons, h1], asked, h2, h3.cons x, h4, fun y hy => ?_⟩
      rcases List.mem_cons.1 hy with rfl | hy
      · refine .inl ⟨by simp, ?_⟩
        by_cases hp : (y :: r).Pairwise fun a b => a.i < b.i
        · refine .inl fun z hz => ?_
          have := (List.pairwise_cons.1 hp).1 z (h3.subset hz); omega
        · exact .inr hp
      · rcases h5 y hy with ⟨h6, h7⟩ | h6
        · exact .inl ⟨by simp [h6], h7.imp id (fun hp hq => hp (List.pairwise_cons.1 hq).2)⟩
        · exact .inr h6
    · split
      · refine ⟨rfl, [], by simp, List.nil_sublist _, by simp, fun y hy => .inl ⟨hy, .inl (by simp)⟩⟩
      · rename_i h0 _
        obtain ⟨h1, asked, h2, h3, h4, h5⟩ := askM_each p tk r (l ++ [(x.i % 65536).toNat])
        refine ⟨by simp only [List.map_cons, h1], x :: asked, ?_, h3.cons_cons x, ?_, fun y hy => ?_⟩
        · simp only [h2, List.map_cons, List.append_assoc, List.singleton_append]
        · intro z hz
          rcases List.mem_cons.1 hz with rfl | hz
          · omega
          · exact h4 z hz
        · rcases List.mem_cons.1 hy with rfl | hy
          · exact .inr ⟨x, by simp, rfl⟩
          · rcases h5 y hy with ⟨h6, h7⟩ | ⟨z, hz, h6⟩
            · refine .inl ⟨by simp [h6], ?_⟩
              by_cases hp : (x :: r).Pairwise fun a b => a.i < b.i
              · refine .inl fun z hz => ?_
                rcases List.mem_cons.1 hz with rfl | hz
                · have := (List.pairwise_cons.1 hp).1 y h6; omega
                · rcases h7 with h7 | h7
                  · exact h7 z hz
                  · exact absurd (List.pairwise_cons.1 hp).2 h7
              · exact .inr hp
            · exact .inr ⟨z, by simp [hz], h6⟩
theorem askK_ok {s : Kpr} (k : KOk s) (tk : Int) : KOk (askK s tk).1 := by
  obtain ⟨h1, asked, h2, h3, h4, h5⟩ := askM_each s.p tk s.M []
  have hsub : ((askM s.p tk s.M []).1.filter fun x => decide (x.t < 3)).Sublist (askM s.p tk s.M []).1 := List.filter_sublist
  have hris : (askM s.p tk s.M []).1.Pairwise fun a b => a.i < b.i := by
    have := k.ris
    rw [← List.pairwise_map (f := fun x : Mis => x.i) (R := fun a b => a < b)] at this ⊢
    rw [h1]; exact this
  have hlen : (askM s.p tk s.M []).1.length = s.M.length := by simpa using congrArg List.length h1
  have hidx : ∀ y ∈ (askM s.p tk s.M []).1, ∃ x ∈ s.M, x.i = y.i := fun y hy => by
    have : y.i ∈ (askM s.p tk s.M []).1.map (·.i) := List.mem_map.2 ⟨y, hy, rfl⟩
    rw [h1] at this
    obtain ⟨x, hx, he⟩ := List.mem_map.1 this
    exact ⟨x, hx, he⟩
  refine ⟨k.p, k.h, hris.sublist hsub, fun y hy => ?_, ?_, fun y hy => ?_⟩
  · obtain ⟨x, hx, he⟩ := hidx y (hsub.subset hy)
    have := k.bel x hx
    show 0 ≤ y.i ∧ y.i < s.h
    omega
  · have := hsub.length_le; have := k.len; show _ ≤ 32; simp only [askK]; omega
  · obtain ⟨hy1, hy2⟩ := List.mem_filter.1 hy
    have hy3 : y.t < 3 := by simpa using hy2
    rcases h5 y hy1 with ⟨h6, _⟩ | ⟨x, hx, rfl⟩
    · exact k.t y h6
    · have := k.t x (h3.subset hx); simp only at hy3 ⊢; omega

/-- What was asked so far, and when: as often as the keeper says, each a pause before it may be next. -/
structure Hst (s : Kpr) (A : List (Int × Int)) : Prop where
  cnt : ∀ x ∈ s.M, ((A.countP fun a => decide (a.1 = x.i) : Nat) : Int) = x.t
  gap : ∀ x ∈ s.M, ∀ a ∈ A, a.1 = x.i → a.2 + s.p ≤ x.n
  old : ∀ a ∈ A, a.1 < s.h
theorem hst_came {s : Kpr} {A : List (Int × Int)} (k : KOk s) (h : Hst s A) (i tk : Int) : Hst (cameK s i tk) A := by
  unfold cameK
  split
  · exact h
  · split
    · rename_i h2
      exact ⟨h.cnt, h.gap, fun a ha => by have := h.old a ha; simp only; omega⟩
    · split
      · rename_i h2 h3
        obtain ⟨f1, f2⟩ := fromM_bd h3
        have hm : ∀ x ∈ lastM (s.M ++ fillM (fromM s.h i) (i - fromM s.h i).toNat tk), x ∈ s.M ∨ (s.h ≤ x.i ∧ x.t = 0) := fun x hx => by
          rcases List.mem_append.1 ((lastM_sub _).subset hx) with h | h
          · exact .inl h
          · have := fillM_mem h; exact .inr ⟨by omega, this.2.2.1⟩
        refine ⟨fun x hx => ?_, fun x hx a ha he => ?_, fun a ha => by have := h.old a ha; simp only; omega⟩
        · rcases hm x hx with h4 | ⟨h4, h5⟩
          · exact h.cnt x h4
          · rw [h5]
            have : A.countP (fun a => decide (a.1 = x.i)) = 0 := List.countP_eq_zero.2 fun a ha => by have := h.old a ha; simp; omega
            rw [this]; rfl
        · rcases hm x hx with h4 | ⟨h4, h5⟩
          · exact h.gap x h4 a ha he
          · have := h.old a ha; omega
      · have hs : (dropM s.M i).Sublist s.M := List.eraseP_sublist
        exact ⟨fun x hx => h.cnt x (hs.subset hx), fun x hx => h.gap x (hs.subset hx), h.old⟩
/-- What a tick asks was asked less than three times, and not within a pause; behind it all is so again. -/
theorem hst_ask {s : Kpr} {A : List (Int × Int)} (k : KOk s) (h : Hst s A) (tk : Int) :
    ∃ asked : List Mis, (askK s tk).2 = asked.map (fun x => (x.i % 65536).toNat) ∧ asked.Sublist s.M ∧ (∀ x ∈ asked, A.countP (fun a => decide (a.1 = x.i)) < 3 ∧ ∀ a ∈ A, a.1 = x.i → s.p ≤ tk - a.2) ∧ Hst (askK s tk).1 (A ++ asked.map fun x => (x.i, tk)) := by
  obtain ⟨h1, asked, h2, h3, h4, h5⟩ := askM_each s.p tk s.M []
  refine ⟨asked, by simpa [askK] using h2, h3, fun x hx => ⟨?_, fun a ha he => ?_⟩, fun y hy => ?_, fun y hy a ha he => ?_, fun a ha => ?_⟩
  · have h6 := h.cnt x (h3.subset hx)
    have h7 := k.t x (h3.subset hx)
    omega
  · have h6 := h.gap x (h3.subset hx) a ha he
    have h7 := h4 x hx
    omega
  · have hnd : asked.Pairwise fun a b => a.i < b.i := k.ris.sublist h3
    obtain ⟨hy1, _⟩ := List.mem_filter.1 hy
    rw [List.countP_append]
    rcases h5 y hy1 with ⟨h6, h7⟩ | ⟨x, hx, rfl⟩
    · have h8 := h7.resolve_right (fun hp => hp k.ris)
      have : (asked.map fun x => (x.i, tk)).countP (fun a => decide (a.1 = y.i)) = 0 := List.countP_eq_zero.2 fun a ha => by
        obtain ⟨x, hx, rfl⟩ := List.mem_map.1 ha
        have := h8 x hx; simpa using this
      rw [this]
      exact h.cnt y h6
    · have h6 := h.cnt x (h3.subset hx)
      have : (asked.map fun x => (x.i, tk)).countP (fun a => decide (a.1 = x.i)) = 1 := by
        rw [List.countP_map]
        clear h2 h4 h5 h3
        induction asked with
        | nil => cases hx
        | cons z r ih =>
          obtain ⟨p1, p2⟩ := List.pairwise_cons.1 hnd
          rw [List.countP_cons]
          rcases List.mem_cons.1 hx with rfl | hx
          · have : r.countP ((fun a => decide (a.1 = x.i)) ∘ fun x => (x.i, tk)) = 0 := List.countP_eq_zero.2 fun b hb => by have := p1 b hb; simp; omega
            rw [this]; simp
          · have hne : ¬ z.i = x.i := by have := p1 x hx; omega
            rw [ih p2 hx]; simp [hne]
      rw [this]
      simp only
      omega
  · obtain ⟨hy1, _⟩ := List.mem_filter.1 hy
    rcases List.mem_append.1 ha with ha | ha
    · rcases h5 y hy1 with ⟨h6, _⟩ | ⟨x, hx, rfl⟩
      · exact h.gap y h6 a ha he
      · have h6 := h.gap x (h3.subset hx) a ha he
        have h7 := h4 x hx
        have := k.p
        show a.2 + s.p ≤ tk + s.p
        omega
    · obtain ⟨z, hz, rfl⟩ := List.mem_map.1 ha
      rcases h5 y hy1 with ⟨h6, h7⟩ | ⟨x, hx, rfl⟩
      · exact absurd he ((h7.resolve_right (fun hp => hp k.ris)) z hz)
      · exact Int.le_refl _
  · rcases List.mem_append.1 ha with ha | ha
    · exact h.old a ha
    · obtain ⟨z, hz, rfl⟩ := List.mem_map.1 ha
      exact (k.bel z (h3.subset hz)).2
end Go.Proofs.Ytkmacpmdgbhhkaa
