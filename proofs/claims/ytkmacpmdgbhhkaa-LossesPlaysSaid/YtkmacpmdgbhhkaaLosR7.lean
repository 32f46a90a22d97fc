/- What the document's answers for layer 20 (tenailleref20) answer: a keeper's rows written in place; plain words on a tick's asking. No statement is proved here. -/
import Derived.Test.YtkmacpmdgbhhkaaLosR6
import Derived.Test.YtkmacpmdgbhhkaaRtcpR3
namespace Go.Proofs.Ytkmacpmdgbhhkaa
open Go.RowKit
set_option linter.unusedVariables false

theorem icells_set (L : List Int) (j : Nat) (y : Int) : icells (L.set j y) = (icells L).set j (.int .i64 y) := by unfold icells; rw [List.map_set]
theorem own_seti {w : World} {base : Nat} {e : TypeId} {g n c : Nat} {L : List Int} (h : w.ownsRow base e 1 (.slice (some ⟨g, 0, none⟩) n c) n (icells L)) (hn : 0 < n) (j : Nat) (y : Int) :
    (w.setCell ⟨g, j, none⟩ (.int .i64 y)).ownsRow base e 1 (.slice (some ⟨g, 0, none⟩) n c) n (icells (L.set j y)) := by
  obtain ⟨hl, h2⟩ := h
  refine ⟨by rw [icells_len, List.length_set, ← icells_len]; exact hl, ?_⟩
  rcases h2 with ⟨_, h0⟩ | ⟨g2, cap, cur, hv, hb, hg, h4, h5, h6, h7⟩
  · omega
  · injection hv with h1 _ hc
    injection h1 with h1
    injection h1 with h1 _ _
    subst h1; subst hc
    refine .inr ⟨g, c, cur.setIfInBounds j (.int .i64 y), rfl, hb, heap_setCell_same w g j cur e _ hg, h4, h5, by simpa using h6, ?_⟩
    rw [Array.toList_setIfInBounds, List.take_set, h7, icells_set]
theorem own_stepB {w : World} {base n g2 : Nat} {e : TypeId} {v : Value} {xs : List Value} (h : w.ownsRow base e 1 v n xs) (hd : v.ownBlock ≠ some g2) (j : Nat) (u : Value) : (w.setCell ⟨g2, j, none⟩ u).ownsRow base e 1 v n xs :=
  own_fr h (Fr.of_only (F := fun k => k = g2) (Only.set _ _ _ _) rfl) (fun k hk hf => hd (by rw [hk, hf]))
theorem own_froz {w : World} {base n c g : Nat} {e : TypeId} {xs : List Value} (h : w.ownsRow base e 1 (.slice (some ⟨g, 0, none⟩) n c) n xs) (hn : 0 < n) (j : Nat) : w.frozen? ⟨g, j, none⟩ = false := by
  rcases h.2 with ⟨_, h0⟩ | ⟨g2, cap, cur, hv, _, hg, _⟩
  · omega
  · injection hv with h1 _ _
    injection h1 with h1
    injection h1 with h1 _ _
    subst h1
    exact frozen_of_row w g j _ e hg
theorem Way20.below {w : World} {g : Nat} {F : Nat → Prop} {s : Kpr} {vI vT vN : Value} {wr w2 : World} (h : Way20 w g F s vI vT vN wr) (hb : Below wr.heap.size wr w2) : Way20 w g F s vI vT vN w2 := ⟨h.kp.below hb, h.fr.then hb, h.own⟩
/-- One of the missed ones was asked for. -/
theorem Way20.turned {w : World} {g : Nat} {F : Nat → Prop} {p hh : Int} {M : List Mis} {vI : Value} {bT bN cT cN : Nat} {wr : World} (h : Way20 w g F ⟨p, hh, M⟩ vI (.slice (some ⟨bT, 0, none⟩) M.length cT) (.slice (some ⟨bN, 0, none⟩) M.length cN) wr) (k : Nat) (hk : k < M.length) (t n : Int) :
    Way20 w g F ⟨p, hh, M.set k ⟨M[k].i, t, n⟩⟩ vI (.slice (some ⟨bT, 0, none⟩) M.length cT) (.slice (some ⟨bN, 0, none⟩) M.length cN) ((wr.setCell ⟨bT, k, none⟩ (.int .i64 t)).setCell ⟨bN, k, none⟩ (.int .i64 n)) := by
  have oi := h.kp.oi
  have ot := h.kp.ot
  have on := h.kp.on
  have hB := h.kp.blk
  have n64 : (2 : TypeId) ≠ 41 := by decide
  have nin : (3 : TypeId) ≠ 41 := by decide
  have hgT : g ≠ bT := fun e => own_ne ot hB nin (by rw [e]; rfl)
  have hgN : g ≠ bN := fun e => own_ne on hB n64 (by rw [e]; rfl)
  have dIT : vI.ownBlock ≠ some bT := fun e => own_apart oi ot ne_64i bT e rfl
  have dNT : (Value.slice (some ⟨bN, 0, none⟩) M.length cN).ownBlock ≠ some bT := fun e => own_apart on ot ne_64i bT e rfl
  have dTN : (Value.slice (some ⟨bT, 0, none⟩) M.length cT).ownBlock ≠ some bN := fun e => own_apart ot on ne_i64 bN e rfl
  have dIN : vI.ownBlock ≠ some bN := fun e => h.kp.ne bN e rfl
  have f1 : Fr (fun k => k = bT) wr (wr.setCell ⟨bT, k, none⟩ (.int .i64 t)) := .of_only (Only.set _ _ _ _) rfl
  have f2 : Fr (fun k => k = bN) (wr.setCell ⟨bT, k, none⟩ (.int .i64 t)) ((wr.setCell ⟨bT, k, none⟩ (.int .i64 t)).setCell ⟨bN, k, none⟩ (.int .i64 n)) := .of_only (Only.set _ _ _ _) rfl
  have ei : (M.set k ⟨M[k].i, t, n⟩).map (·.i) = M.map (·.i) := by
    rw [List.map_set]
    refine List.ext_getElem (by simp) fun j h1 h2 => ?_
    rw [List.getElem_set]
    split
    · rename_i e; subst e; simp
    · rfl
  refine ⟨⟨(hB.fr f1 (fun e => hgT e)).fr f2 (fun e => hgN e), ?_, ?_, ?_, h.kp.ne⟩, (h.fr.trans f1 (fun b hb => h.own b (.inr (.inr (.inl (by rw [hb]; rfl)))))).trans f2 (fun b hb => h.own b (.inr (.inr (.inr (by rw [hb]; rfl))))), h.own⟩
  · show World.ownsRow _ _ _ _ _ (M.set k _).length (icells ((M.set k _).map (·.i)))
    rw [ei, List.length_set]
    exact own_stepB (own_stepB oi dIT _ _) dIN _ _
  · show World.ownsRow _ _ _ _ _ (M.set k _).length (icells ((M.set k _).map (·.t)))
    rw [List.map_set, List.length_set]
    exact own_stepB (own_seti ot (by show 0 < M.length; omega) k t) dTN _ _
  · show World.ownsRow _ _ _ _ _ (M.set k _).length (icells ((M.set k _).map (·.n)))
    rw [List.map_set, List.length_set]
    exact own_seti (own_stepB on dNT _ _) (by show 0 < M.length; omega) k n

theorem askM_cons (p tk : Int) (x : Mis) (r : List Mis) (l : List Nat) : askM p tk (x :: r) l = if tk < x.n then (x :: (askM p tk r l).1, (askM p tk r l).2) else if 16 < (lsL (l ++ [(x.i % 65536).toNat])).length then (x :: r, l) else (⟨x.i, x.t + 1, tk + p⟩ :: (askM p tk r (l ++ [(x.i % 65536).toNat])).1, (askM p tk r (l ++ [(x.i % 65536).toNat])).2) := by
  rw [askM]
/-- A tick's asking under way, k of the missed ones being done. -/
structure AskW (p tk : Int) (D : List Mis) (k : Nat) (M : List Mis) (l : List Nat) : Prop where
  len : M.length = D.length
  same : M.drop k = D.drop k
  ask : askM p tk D [] = (M.take k ++ (askM p tk (M.drop k) l).1, (askM p tk (M.drop k) l).2)
theorem AskW.start (p tk : Int) (D : List Mis) : AskW p tk D 0 D [] := ⟨rfl, rfl, by simp⟩
theorem AskW.done {p tk : Int} {D M : List Mis} {l : List Nat} (h : AskW p tk D D.length M l) : askM p tk D [] = (M, l) := by
  have := h.ask
  rw [List.drop_eq_nil_of_le (by rw [h.len]; exact Nat.le_refl _), List.take_of_length_le (by rw [h.len]; exact Nat.le_refl _)] at this
  simpa [askM] using this
section
variable {p tk : Int} {D M : List Mis} {l : List Nat} {k : Nat}
theorem AskW.here (h : AskW p tk D k M l) (hk : k < M.length) : M[k] = D[k]'(by rw [← h.len]; exact hk) := by
  have h1 : (M.drop k)[0]? = (D.drop k)[0]? := by rw [h.same]
  rw [List.getElem?_drop, List.getElem?_drop, Nat.add_zero, List.getElem?_eq_getElem hk, List.getElem?_eq_getElem (by rw [← h.len]; exact hk)] at h1
  injection h1
theorem AskW.skip (h : AskW p tk D k M l) (hk : k < M.length) (hn : tk < M[k].n) : AskW p tk D (k + 1) M l := by
  refine ⟨h.len, by have := congrArg (List.drop 1) h.same; rwa [List.drop_drop, List.drop_drop] at this, ?_⟩
  have := h.ask
  rw [List.drop_eq_getElem_cons hk, askM_cons, if_pos hn] at this
  rw [this, List.take_succ_eq_append_getElem hk, List.append_assoc, List.singleton_append]
theorem AskW.stop (h : AskW p tk D k M l) (hk : k < M.length) (hn : ¬ tk < M[k].n) (hl : 16 < (lsL (l ++ [(M[k].i % 65536).toNat])).length) : askM p tk D [] = (M, l) := by
  have := h.ask
  rw [List.drop_eq_getElem_cons hk, askM_cons, if_neg hn, if_pos hl] at this
  rw [this, ← List.drop_eq_getElem_cons hk, List.take_append_drop]
theorem AskW.more (h : AskW p tk D k M l) (hk : k < M.length) (hn : ¬ tk < M[k].n) (hl : ¬ 16 < (lsL (l ++ [(M[k].i % 65536).toNat])).length) : AskW p tk D (k + 1) (M.set k ⟨M[k].i, M[k].t + 1, tk + p⟩) (l ++ [(M[k].i % 65536).toNat]) := by
  have hd : (M.set k ⟨M[k].i, M[k].t + 1, tk + p⟩).drop (k + 1) = M.drop (k + 1) := by rw [List.drop_set_of_lt (by omega)]
  refine ⟨by rw [List.length_set]; exact h.len, ?_, ?_⟩
  · rw [hd]; have := congrArg (List.drop 1) h.same; rwa [List.drop_drop, List.drop_drop] at this
  · have := h.ask
    rw [List.drop_eq_getElem_cons hk, askM_cons, if_neg hn, if_neg hl] at this
    rw [hd, this, List.take_succ_eq_append_getElem (by simpa using hk)]
    simp [List.take_set_of_le]
end
/-- The ones that were asked for three times are being left out, from behind. -/
def leftM (M : List Mis) (j : Nat) : List Mis := M.take j ++ (M.drop j).filter fun x => decide (x.t < 3)
theorem leftM_all (M : List Mis) : leftM M M.length = M := by unfold leftM; simp
theorem leftM_zero (M : List Mis) : leftM M 0 = M.filter fun x => decide (x.t < 3) := by unfold leftM; simp
theorem leftM_keep {M : List Mis} {j : Nat} (hj : j < M.length) (h : M[j].t < 3) : leftM M j = leftM M (j + 1) := by
  unfold leftM
  rw [List.drop_eq_getElem_cons hj, List.take_succ_eq_append_getElem hj, List.filter_cons_of_pos (by simpa using h), List.append_assoc, List.singleton_append]
theorem leftM_drop {M : List Mis} {j : Nat} (hj : j < M.length) (h : ¬ M[j].t < 3) : leftM M j = (leftM M (j + 1)).eraseIdx j := by
  unfold leftM
  have hl : (M.take j).length = j := by rw [List.length_take]; omega
  rw [List.drop_eq_getElem_cons hj, List.take_succ_eq_append_getElem hj, List.filter_cons_of_neg (by simpa using h), List.append_assoc, List.eraseIdx_append_of_length_le (by omega), hl, Nat.sub_self]
  rfl
theorem leftM_at {M : List Mis} {j : Nat} (hj : j < M.length) : ∃ h : j < (leftM M (j + 1)).length, (leftM M (j + 1))[j] = M[j] := by
  have h1 : j < (M.take (j + 1)).length := by rw [List.length_take]; omega
  have h2 : j < (leftM M (j + 1)).length := by unfold leftM; rw [List.length_append]; omega
  refine ⟨h2, ?_⟩
  have h3 : (leftM M (j + 1))[j]? = M[j]? := by
    unfold leftM
    rw [List.getElem?_append_left h1, List.getElem?_take, if_pos (by omega)]
  rw [List.getElem?_eq_getElem h2, List.getElem?_eq_getElem hj] at h3
  injection h3
end Go.Proofs.Ytkmacpmdgbhhkaa
