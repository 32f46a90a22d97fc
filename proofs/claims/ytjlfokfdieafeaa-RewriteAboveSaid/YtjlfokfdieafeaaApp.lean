/- Plain laws on append, for any program: one element, or a whole slice, put behind elements of the call's own, also in a region that draws. No statement is proved here. -/
import Derived.Test.YtjlfokfdieafeaaElts
namespace Go.Proofs.Ytjlfokfdieafeaa
open Go.RowKit
set_option linter.unusedVariables false

/-- One element is put behind elements of the call's own, in a region that draws. -/
theorem step_appV {w : World} {ops : Array Oper} {o : Oper} {a : Act} {K : Act → World → Prop} {Q : Exit → Act → World → Prop} {E : Prop} (hgd : o.guard = none) (s y : Operand) {t e : TypeId} {sz : Nat} (hE : ElT e t sz)
    (ho : o.op = .call { callee := .builtin .append, args := #[s, y], argTypes := #[t, t] })
    (base : Nat) (v : Value) (n : Nat) (xs : List Value) (hs : a.eval s = v) (hown : w.ownsRow base e sz v n xs) (g : Nat) (hy : a.eval y = .slice (some ⟨g, 0, none⟩) 1 1) (row : List Value) (hrow : row.length = sz) (h1 : ∀ u ∈ row, u.oneCell' = true) {e' : TypeId} (hB : BlkV w g e' row) (hn : n ≤ 1000000) (hbase : base ≤ w.heap.size)
    (h : ∀ v' w', w'.ownsRow base e sz v' (n + 1) (xs ++ row) → w.grownBy w' v.ownBlock → (v'.ownBlock = v.ownBlock ∨ v'.ownBlock = some w.heap.size) → K (a.put o.dst v') w') : if Region.wanted o (yielded ops a.tmps) = true then Oper.wp Try.prog o a w K Q else E := by
  rw [if_pos (by simp [Region.wanted, hgd])]
  exact wp_appV s y hE ho base v n xs hs hown g hy row hrow h1 hB hn hbase h
/-- Nothing is put behind elements. -/
theorem run_app_none {P : Program} (w : World) {t e : TypeId} (ty : TypeId) (i : TypeInfo) (ht : P.underlying t = some (.slice e)) (hi : P.info? e = some i) (A : Option Addr) (n c c2 : Nat) (hnc : n ≤ c) (hA : A = none → n = 0 ∧ c = 0) :
    (Builtin.append_ #[t, t] ty #[.slice A n c, .slice none 0 c2]).run P w = .ok (.slice A n c) w := by
  cases A with
  | none =>
    obtain ⟨rfl, rfl⟩ := hA rfl
    simp [Builtin.append_, run_underlying ht, sizeOf, typeInfo, hi, Builtin.lenOf, run_firstCells_none]
  | some a =>
    simp [Builtin.append_, run_underlying ht, sizeOf, typeInfo, hi, Builtin.lenOf, run_firstCells_none, storeCells, hnc]
/-- What may be put behind: a slice that reads as these cells. -/
structure SrcL (w : World) (sz : Nat) (A : Option Addr) (m c : Nat) (row : List Value) : Prop where
  len : row.length = m * sz
  one : ∀ u ∈ row, u.oneCell' = true
  nil_ : A = none → m = 0
  rd : ∀ ad, A = some ad → ∀ j u, row[j]? = some u → w.cell? (ad.add j) = some u
theorem SrcL.below {w w2 : World} {sz : Nat} {A : Option Addr} {m c : Nat} {row : List Value} (h : SrcL w sz A m c row) (hb : Below w.heap.size w w2) (hlt : ∀ ad, A = some ad → ad.block < w.heap.size) : SrcL w2 sz A m c row :=
  ⟨h.len, h.one, h.nil_, fun ad hA j u hj => by rw [← h.rd ad hA j u hj]; exact hb.cell (by rw [show (ad.add j).block = ad.block by unfold Addr.add; split <;> rfl]; exact hlt ad hA)⟩
theorem SrcL.of_own {w : World} {base sz n c : Nat} {e : TypeId} {A : Option Addr} {row : List Value} (h : w.ownsRow base e sz (.slice A n c) n row) (h1 : ∀ u ∈ row, u.oneCell' = true) : SrcL w sz A n c row := by
  refine ⟨h.1, h1, fun hA => ?_, fun ad hA j u hj => ?_⟩
  · rcases h.2 with ⟨_, h0⟩ | ⟨g, cap, cur, hv, _⟩
    · exact h0
    · rw [hA] at hv; injection hv with hv _ _; cases hv
  · have hn : 0 < n := by
      have hj2 : j < row.length := by
        rcases Nat.lt_or_ge j row.length with h2 | h2
        · exact h2
        · rw [List.getElem?_eq_none h2] at hj; cases hj
      rcases Nat.eq_zero_or_pos n with h2 | h2
      · rw [h.1, h2] at hj2; omega
      · exact h2
    obtain ⟨g, c2, hv, _, hlt⟩ := h.form hn
    injection hv with h3 _ _
    rw [hA] at h3
    injection h3 with h3
    subst h3
    rw [add_lit, Nat.zero_add]
    have h5 := h
    rw [hA] at h5
    rw [h5.cellAt j (by rw [← h.1]; rcases Nat.lt_or_ge j row.length with h2 | h2; exact h2; rw [List.getElem?_eq_none h2] at hj; cases hj)]
    exact hj
theorem wp_appL {w : World} {o : Oper} {a : Act} {K : Act → World → Prop} {Q : Exit → Act → World → Prop} (s y : Operand) {t e : TypeId} {sz : Nat} (hE : ElT e t sz)
    (ho : o.op = .call { callee := .builtin .append, args := #[s, y], argTypes := #[t, t] })
    (base : Nat) (v : Value) (n : Nat) (xs : List Value) (hs : a.eval s = v) (hown : w.ownsRow base e sz v n xs) (A : Option Addr) (m c : Nat) (hy : a.eval y = .slice A m c) (row : List Value) (hr : SrcL w sz A m c row) (hn : n + m ≤ 1000000) (hbase : base ≤ w.heap.size)
    (h : ∀ v' w', w'.ownsRow base e sz v' (n + m) (xs ++ row) → w.grownBy w' v.ownBlock → (v'.ownBlock = v.ownBlock ∨ v'.ownBlock = some w.heap.size) → K (a.put o.dst v') w') : o.wp Try.prog a w K Q := by
  obtain ⟨i, z, hu, hi, hz, hsz, hby, hzs, h0⟩ := hE
  cases A with
  | none =>
    have hm := hr.nil_ rfl
    subst hm
    have hrow : row = [] := List.length_eq_zero_iff.1 (by have := hr.len; omega)
    obtain ⟨A2, c2, rfl⟩ := own_formN hown
    have hle : n ≤ c2 ∧ (A2 = none → n = 0 ∧ c2 = 0) := by
      rcases hown.2 with ⟨hv, h1⟩ | ⟨g, cap, cur, hv, _, _, h4, _⟩
      · injection hv with e1 e2 e3; subst e3; exact ⟨by omega, fun _ => ⟨h1, rfl⟩⟩
      · injection hv with e1 e2 e3; subst e3; exact ⟨h4, fun hA => by rw [e1] at hA; cases hA⟩
    have hrun := run_app_none (P := Try.prog) w o.type i hu hi A2 n c2 c hle.1 hle.2
    unfold Oper.wp execOp
    simp only [ho, resolve, invoke, builtin, Sem.run_bind, Sem.run_pure, Result.andThen_ok, List.map_toArray, List.map_cons, List.map_nil, hs, hy, hrun]
    exact h _ _ (by rw [hrow, List.append_nil]; exact hown) ⟨rfl, rfl, rfl, Nat.le_refl _, fun _ _ _ => rfl⟩ (.inl rfl)
  | some ad =>
    have hx : (n + m) * i.bytes ≤ 1000001 * 400 := Nat.mul_le_mul (by omega) hby
    obtain ⟨v', w', hr2, h2, h3, h4, h5⟩ := run_append_own_at (P := Try.prog) w base t o.type e i z sz i.bytes hu hi hz hsz rfl hzs h0 v n xs hown ad m c row hr.len (hr.rd ad rfl) hr.one (by simp [maxLen]; omega) (by omega) hbase
    unfold Oper.wp execOp
    simp only [ho, resolve, invoke, builtin, Sem.run_bind, Sem.run_pure, Result.andThen_ok, List.map_toArray, List.map_cons, List.map_nil, hs, hy, hr2]
    exact h _ _ h2 h3 h5
theorem step_appL {w : World} {ops : Array Oper} {o : Oper} {a : Act} {K : Act → World → Prop} {Q : Exit → Act → World → Prop} {E : Prop} (hgd : o.guard = none) (s y : Operand) {t e : TypeId} {sz : Nat} (hE : ElT e t sz)
    (ho : o.op = .call { callee := .builtin .append, args := #[s, y], argTypes := #[t, t] })
    (base : Nat) (v : Value) (n : Nat) (xs : List Value) (hs : a.eval s = v) (hown : w.ownsRow base e sz v n xs) (A : Option Addr) (m c : Nat) (hy : a.eval y = .slice A m c) (row : List Value) (hr : SrcL w sz A m c row) (hn : n + m ≤ 1000000) (hbase : base ≤ w.heap.size)
    (h : ∀ v' w', w'.ownsRow base e sz v' (n + m) (xs ++ row) → w.grownBy w' v.ownBlock → (v'.ownBlock = v.ownBlock ∨ v'.ownBlock = some w.heap.size) → K (a.put o.dst v') w') : if Region.wanted o (yielded ops a.tmps) = true then Oper.wp Try.prog o a w K Q else E := by
  rw [if_pos (by simp [Region.wanted, hgd])]
  exact wp_appL s y hE ho base v n xs hs hown A m c hy row hr hn hbase h
/-- A literal without elements. -/
theorem emp_own {w : World} {base b : Nat} {e : TypeId} (hB : BlkV w b e []) (hb : base ≤ b) : w.ownsRow base e 1 (.slice (some ⟨b, 0, none⟩) 0 0) 0 [] :=
  ⟨rfl, .inr ⟨b, 0, _, rfl, hb, hB, Nat.le_refl _, by simp [maxLen], by simp, rfl⟩⟩
end Go.Proofs.Ytjlfokfdieafeaa
