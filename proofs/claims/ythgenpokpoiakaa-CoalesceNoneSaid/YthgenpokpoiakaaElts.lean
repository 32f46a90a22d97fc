/- Plain words, for any program: rows of the call's own, of any elements; slices of elements of some cells that read; bytes of the call's own, so far. No statement is proved here. -/
import Derived.Test.YthgenpokpoiakaaOct
import Derived.Test.YthgenpokpoiakaaOctRef
import Derived.Test.YthgenpokpoiakaaMem2
import Derived.Maps.AppendAt
namespace Go.Proofs.Ythgenpokpoiakaa
open Go.RowKit
set_option linter.unusedVariables false

theorem grown_then {w w2 w3 : World} {g : Nat} {row : Option Nat} (h : w.grownBy w2 (some g)) (k : w2.grownBy w3 row) (hr : ∀ p, row = some p → w.heap.size ≤ p ∨ p = g) : w.grownBy w3 (some g) :=
  ⟨k.os.trans h.os, k.tape.trans h.tape, k.output.trans h.output, Nat.le_trans h.size k.size, fun i hi hne => (k.block i (Nat.lt_of_lt_of_le hi h.size) (fun e => by
    rcases hr i e.symm with h2 | h2
    · omega
    · exact hne (by rw [h2]))).trans (h.block i hi hne)⟩
theorem grown_self (w : World) (r : Option Nat) : w.grownBy w r := grown_of_below (Below.refl _ _) r
theorem grown_alloc (w : World) (o : Obj) (r : Option Nat) : w.grownBy (w.alloc o) r := grown_of_below ((Below.refl _ _).alloc (Nat.le_refl _) _) r
/-- What a slice of e, of the type t, is told of: an element has sz cells. -/
def ElT (e t : TypeId) (sz : Nat) : Prop := ∃ (i : TypeInfo) (z : Value), Try.prog.underlying t = some (.slice e) ∧ Try.prog.info? e = some i ∧ i.zero = some z ∧ i.size = sz ∧ i.bytes ≤ 400 ∧ z.cells.size = sz ∧ 0 < sz
theorem elT {e t : TypeId} {sz by8 : Nat} {z : Value} (hu : Try.prog.underlying t = some (.slice e)) (h : (Try.prog.info? e).map (fun i => (i.zero, i.size, i.bytes)) = some (some z, sz, by8)) (h8 : by8 ≤ 400) (hz : z.cells.size = sz) (h0 : 0 < sz) : ElT e t sz := by
  generalize hp : Try.prog.info? e = p at h
  cases p with
  | none => cases h
  | some i =>
    simp only [Option.map_some, Option.some.injEq, Prod.mk.injEq] at h
    exact ⟨i, z, hu, hp, h.1, h.2.1, by omega, hz, h0⟩
/-- One element is put behind elements of the call's own. -/
theorem wpList_appV {w : World} {ops : Array Oper} {rest : List Oper} {o : Oper} {a : Act} {Q : Exit → Act → World → Prop} (hgd : o.guard = none) (s y : Operand) {t e : TypeId} {sz : Nat} (hE : ElT e t sz)
    (ho : o.op = .call { callee := .builtin .append, args := #[s, y], argTypes := #[t, t] })
    (base : Nat) (v : Value) (n : Nat) (xs : List Value) (hs : a.eval s = v) (hown : w.ownsRow base e sz v n xs) (g : Nat) (hy : a.eval y = .slice (some ⟨g, 0, none⟩) 1 1) (row : List Value) (hrow : row.length = sz) (h1 : ∀ u ∈ row, u.oneCell' = true) {e' : TypeId} (hB : BlkV w g e' row) (hn : n ≤ 1000000) (hbase : base ≤ w.heap.size)
    (h : ∀ v' w', w'.ownsRow base e sz v' (n + 1) (xs ++ row) → w.grownBy w' v.ownBlock → (v'.ownBlock = v.ownBlock ∨ v'.ownBlock = some w.heap.size) → wpList Try.prog ops Q rest (a.put o.dst v') w') : wpList Try.prog ops Q (o :: rest) a w := by
  obtain ⟨i, z, hu, hi, hz, hsz, hby, hzs, h0⟩ := hE
  refine wpList_append_own_at w hgd s y t ho base e i z sz i.bytes hu hi hz hsz rfl hzs h0 v n xs hs hown ⟨g, 0, none⟩ 1 1 row hy (by omega) ?_ h1 (by simp [maxLen]; omega) ?_ hbase (fun v' w' h1 h2 _ h4 => h v' w' h1 h2 h4)
  · intro j u hj
    rw [add_lit, Nat.zero_add, hB.cell j]
    exact hj
  · have : (n + 1) * i.bytes ≤ 1000001 * 400 := Nat.mul_le_mul (by omega) hby
    omega
theorem wp_appV {w : World} {o : Oper} {a : Act} {K : Act → World → Prop} {Q : Exit → Act → World → Prop} (s y : Operand) {t e : TypeId} {sz : Nat} (hE : ElT e t sz)
    (ho : o.op = .call { callee := .builtin .append, args := #[s, y], argTypes := #[t, t] })
    (base : Nat) (v : Value) (n : Nat) (xs : List Value) (hs : a.eval s = v) (hown : w.ownsRow base e sz v n xs) (g : Nat) (hy : a.eval y = .slice (some ⟨g, 0, none⟩) 1 1) (row : List Value) (hrow : row.length = sz) (h1 : ∀ u ∈ row, u.oneCell' = true) {e' : TypeId} (hB : BlkV w g e' row) (hn : n ≤ 1000000) (hbase : base ≤ w.heap.size)
    (h : ∀ v' w', w'.ownsRow base e sz v' (n + 1) (xs ++ row) → w.grownBy w' v.ownBlock → (v'.ownBlock = v.ownBlock ∨ v'.ownBlock = some w.heap.size) → K (a.put o.dst v') w') : o.wp Try.prog a w K Q := by
  obtain ⟨i, z, hu, hi, hz, hsz, hby, hzs, h0⟩ := hE
  have hx : (n + 1) * i.bytes ≤ 1000001 * 400 := Nat.mul_le_mul (by omega) hby
  obtain ⟨v', w', hr, h2, h3, h4, h5⟩ := run_append_own_at (P := Try.prog) w base t o.type e i z sz i.bytes hu hi hz hsz rfl hzs h0 v n xs hown ⟨g, 0, none⟩ 1 1 row (by omega) (by
    intro j u hj
    rw [add_lit, Nat.zero_add, hB.cell j]
    exact hj) h1 (by simp [maxLen]; omega) (by omega) hbase
  unfold Oper.wp execOp
  simp only [ho, resolve, invoke, builtin, Sem.run_bind, Sem.run_pure, Result.andThen_ok, List.map_toArray, List.map_cons, List.map_nil, hs, hy, hr]
  exact h _ _ h2 h3 h5
theorem own_formN {w : World} {base : Nat} {e : TypeId} {sz : Nat} {v : Value} {n : Nat} {xs : List Value} (h : w.ownsRow base e sz v n xs) : ∃ A c, v = .slice A n c := by
  rcases h.2 with ⟨rfl, rfl⟩ | ⟨g, cap, cur, rfl, _⟩
  · exact ⟨none, 0, rfl⟩
  · exact ⟨_, cap, rfl⟩
theorem own_moN {w : World} {base base' n s : Nat} {e : TypeId} {v : Value} {xs : List Value} (h : w.ownsRow base e s v n xs) (hb : base' ≤ base) : w.ownsRow base' e s v n xs := by
  refine ⟨h.1, ?_⟩
  rcases h.2 with h2 | ⟨g, cap, cur, hv, hb2, h3⟩
  · exact .inl h2
  · exact .inr ⟨g, cap, cur, hv, Nat.le_trans hb hb2, h3⟩
theorem own_thN {w w' : World} {base n s : Nat} {e : TypeId} {v : Value} {xs : List Value} (h : w.ownsRow base e s v n xs) {row : Option Nat} (hg : w.grownBy w' row) (hr : ∀ p, row = some p → p < base ∨ ∃ (cur : Array Value) (e' : TypeId) (fz : Nat × Nat), w.heap[p]? = some (.cells cur e' fz) ∧ e ≠ e') : w'.ownsRow base e s v n xs := by
  refine h.kept hg ?_
  rcases hq : v.ownBlock with _ | p
  · exact .inl rfl
  · refine .inr fun hp => ?_
    rcases hr p hp.symm with h1 | ⟨cur, e', fz, h2, h3⟩
    · have := (h.lt p hq).1; omega
    · rcases h.2 with ⟨rfl, _⟩ | ⟨g, cap, cu2, rfl, _, hg2, _⟩
      · simp [Value.ownBlock] at hq
      · simp [Value.ownBlock] at hq
        subst hq
        rw [h2] at hg2
        simp at hg2
        exact h3 hg2.2.1.symm
theorem own_ne {w : World} {base s n p : Nat} {e e' : TypeId} {v : Value} {xs cs : List Value} (h : w.ownsRow base e s v n xs) (hB : BlkV w p e' cs) (hne : e ≠ e') : v.ownBlock ≠ some p := by
  intro hq
  rcases h.2 with ⟨rfl, _⟩ | ⟨g, cap, cur, rfl, _, hg, _⟩
  · simp [Value.ownBlock] at hq
  · simp [Value.ownBlock] at hq
    subst hq
    rw [hB] at hg
    simp at hg
    exact hne hg.2.symm
theorem vals_at {α β : Type} (f : α → List β) {L : List α} {k : Nat} (h : k < L.length) : (L.take (k + 1)).flatMap f = (L.take k).flatMap f ++ f L[k] := by
  rw [List.take_add_one, List.getElem?_eq_getElem h, List.flatMap_append]
  simp only [Option.toList, List.flatMap_cons, List.flatMap_nil, List.append_nil]
/-- A slice of elements of sz cells each reads as these rows. -/
def RdG (sz : Nat) (w : World) (A : Option Addr) (rows : List (List Value)) : Prop := (∀ r ∈ rows, r.length = sz) ∧ (0 < rows.length → ∃ b off, A = some ⟨b, off, none⟩ ∧ b < w.heap.size ∧ ∀ j, j < rows.length → ∀ d, d < sz → w.cell? ⟨b, off + j * sz + d, none⟩ = (rows.getD j [])[d]?)
theorem RdG.below {sz : Nat} {w w' : World} {A : Option Addr} {rows : List (List Value)} (h : RdG sz w A rows) (hb : Below w.heap.size w w') : RdG sz w' A rows := by
  refine ⟨h.1, fun hn => ?_⟩
  obtain ⟨b, off, hA, hlt, hc⟩ := h.2 hn
  exact ⟨b, off, hA, Nat.lt_of_lt_of_le hlt hb.size, fun j hj d hd => (hb.cell (p := ⟨b, off + j * sz + d, none⟩) hlt).trans (hc j hj d hd)⟩
/-- Where the k-th one lies, in every world that comes later. -/
theorem RdG.at_ {sz : Nat} {w : World} {A : Option Addr} {α : Type} {f : α → List Value} {L : List α} (h : RdG sz w A (L.map f)) {k : Nat} (hk : k < L.length) : ∃ b off, A = some ⟨b, off, none⟩ ∧ ∀ wx, Below w.heap.size w wx → wx.rangeAt b (off + k * sz) (f L[k]) := by
  obtain ⟨b, off, hA, hlt, hc⟩ := h.2 (by simp; omega)
  refine ⟨b, off, hA, fun wx hb d v hv => ?_⟩
  have hr : (L.map f).getD k [] = f L[k] := by simp [List.getD, hk]
  have hd : d < sz := by
    have h1 := h.1 (f L[k]) (List.mem_map.2 ⟨_, List.getElem_mem hk, rfl⟩)
    have := (List.getElem?_eq_some_iff.1 hv).1
    omega
  have := hc k (by simpa using hk) d hd
  rw [hr, hv] at this
  exact (hb.cell (p := ⟨b, off + k * sz + d, none⟩) hlt).trans this
/-- Bytes of the call's own, so far. -/
def BO (w0 w : World) (A : Option Addr) (n c : Nat) (bs : List UInt8) : Prop := w.ownsRow w0.heap.size 5 1 (.slice A n c) n (cells bs) ∧ Below w0.heap.size w0 w
theorem BO.nil (w : World) : BO w w none 0 0 [] := ⟨World.ownsRow_nil w _ _ _, Below.refl _ _⟩
theorem BO.rd {w0 w : World} {A : Option Addr} {n c : Nat} {bs : List UInt8} (h : BO w0 w A n c bs) : RdS w A n c bs := RdS.of_own h.1
theorem BO.below {w0 w w' : World} {A : Option Addr} {n c : Nat} {bs : List UInt8} (h : BO w0 w A n c bs) (hb : Below w.heap.size w w') : BO w0 w' A n c bs := ⟨own_thN h.1 (grown_of_below hb none) (fun p hp => by cases hp), h.2.trans (hb.mono h.2.size)⟩
theorem BO.len {w0 w : World} {A : Option Addr} {n c : Nat} {bs : List UInt8} (h : BO w0 w A n c bs) : bs.length = n := h.rd.len
/-- More bytes behind them. -/
theorem BO.more {w0 w w' : World} {A A' : Option Addr} {n c n' c' : Nat} {bs bs' : List UInt8} (h : BO w0 w A n c bs) (h1 : w'.ownsRow w0.heap.size 5 1 (.slice A' n' c') n' (cells bs')) (hg : w.grownBy w' (Value.slice A n c).ownBlock) : BO w0 w' A' n' c' bs' :=
  ⟨h1, h.2.grown hg h.2.size (fun p hp => (h.1.lt p hp).1)⟩
theorem flat_snoc {α : Type} (f : α → List UInt8) {L : List α} {k : Nat} (h : k < L.length) : (L.take (k + 1)).flatMap f = (L.take k).flatMap f ++ f L[k] := vals_at f h
theorem flat_row {α : Type} (f : α → List Value) (sz : Nat) : ∀ (L : List α) (j d : Nat), (∀ x ∈ L, (f x).length = sz) → d < sz → (L.flatMap f)[j * sz + d]? = ((L.map f).getD j [])[d]?
  | [], j, d, _, _ => by simp [List.getD]
  | a :: r, 0, d, h, hd => by
    have h1 := h a (by simp)
    simp only [List.flatMap_cons, Nat.zero_mul, Nat.zero_add, List.map_cons, List.getD_cons_zero]
    rw [List.getElem?_append_left (by omega)]
  | a :: r, j + 1, d, h, hd => by
    have h1 := h a (by simp)
    have ih := flat_row f sz r j d (fun x hx => h x (by simp [hx])) hd
    simp only [List.flatMap_cons, List.map_cons, List.getD_cons_succ]
    rw [List.getElem?_append_right (by rw [h1, Nat.succ_mul]; omega), ← ih, h1]
    congr 1
    rw [Nat.succ_mul]; omega
theorem RdG.of_own {w : World} {base n c sz : Nat} {e : TypeId} {A : Option Addr} {α : Type} {f : α → List Value} {L : List α} (h : w.ownsRow base e sz (.slice A n c) n (L.flatMap f)) (hn : L.length = n) (hf : ∀ x ∈ L, (f x).length = sz) : RdG sz w A (L.map f) := by
  refine ⟨fun r hr => by obtain ⟨x, hx, rfl⟩ := List.mem_map.1 hr; exact hf x hx, fun hp => ?_⟩
  rw [List.length_map, hn] at hp
  rcases h.2 with ⟨_, h0⟩ | ⟨g, cap, cur, hv, hb, hg, _⟩
  · omega
  · injection hv with h1 h2 h3
    subst h1; subst h3
    refine ⟨g, 0, rfl, (Array.getElem?_eq_some_iff.1 hg).1, fun j hj d hd => ?_⟩
    rw [List.length_map, hn] at hj
    rw [Nat.zero_add, ← flat_row f sz L j d hf hd]
    refine h.cellAt (j * sz + d) ?_
    have : (j + 1) * sz ≤ n * sz := Nat.mul_le_mul_right sz hj
    rw [Nat.succ_mul] at this
    omega
theorem RdG.none_ {α : Type} (f : α → List Value) (sz : Nat) (w : World) : RdG sz w none (([] : List α).map f) := ⟨by simp, by simp⟩
theorem size_alloc (w : World) (o : Obj) : w.heap.size + 1 = (w.alloc o).heap.size := by show _ = (w.heap.push o).size; simp
theorem own_blockN {w : World} {base s : Nat} {e : TypeId} {A : Option Addr} {n c : Nat} {xs : List Value} (h : w.ownsRow base e s (.slice A n c) n xs) (hn : 0 < n) : ∃ g, A = some ⟨g, 0, none⟩ ∧ base ≤ g := by
  rcases h.2 with ⟨_, h0⟩ | ⟨g, cap, cur, hv, hb, _⟩
  · omega
  · injection hv with h1 _ _
    exact ⟨g, h1, hb⟩
/-- A struct and a number handed back. -/
theorem ret_row2 {P : Program} {fn : Func} {R : Ending → World → Prop} {a : Act} {w : World} {p u : Tmp} {ty e : TypeId} {g : Nat} {cs : List Value} (h : fn.results = #[.cell p ty, .tmp u]) (hp : a.tmps.getD p undef = .pointer (some ⟨g, 0, none⟩))
    (hB : BlkV w g e cs) (hT : RowTy P ty cs.length) (hd : a.defers = []) (hR : R (.returned (.tuple #[.agg cs.toArray, a.tmps.getD u undef])) w) : bodyPost P fn R .ret a w := by
  obtain ⟨d, h1, h2, h3⟩ := hT
  refine bodyPost_ret (v := .tuple #[.agg cs.toArray, a.tmps.getD u undef]) ?_ hd hR
  rw [results_cell_tmp h, hp]
  simp only [asAddr, Sem.run_pure, Result.andThen]
  rw [run_loadVar_row w g e ty cs.toArray (0, 0) d hB h1 (by cases d <;> simp_all) (by simpa using h3)]
theorem ret_row3 {P : Program} {fn : Func} {R : Ending → World → Prop} {a : Act} {w : World} {p u v : Tmp} {ty e : TypeId} {g : Nat} {cs : List Value} (h : fn.results = #[.cell p ty, .tmp u, .tmp v]) (hp : a.tmps.getD p undef = .pointer (some ⟨g, 0, none⟩))
    (hB : BlkV w g e cs) (hT : RowTy P ty cs.length) (hd : a.defers = []) (hR : R (.returned (.tuple #[.agg cs.toArray, a.tmps.getD u undef, a.tmps.getD v undef])) w) : bodyPost P fn R .ret a w := by
  obtain ⟨d, h1, h2, h3⟩ := hT
  refine bodyPost_ret (v := .tuple #[.agg cs.toArray, a.tmps.getD u undef, a.tmps.getD v undef]) ?_ hd hR
  have hp' : a.tmps[p]?.getD undef = .pointer (some ⟨g, 0, none⟩) := by simpa using hp
  simp [results, h, hp', asAddr, run_loadVar_row w g e ty cs.toArray (0, 0) d hB h1 (by cases d <;> simp_all) (by simpa using h3)]
theorem twoB (w : World) (o : Obj) (cs : List Value) (e : TypeId) : BlkV ((w.alloc o).alloc (.cells cs.toArray e)) (w.heap.size + 1) e cs := by
  have h := BlkV.new (w.alloc o) e cs
  have : (w.alloc o).heap.size = w.heap.size + 1 := by show (w.heap.push o).size = _; simp
  rw [this] at h
  exact h
theorem twoBelow (w : World) (o o2 : Obj) : Below w.heap.size w ((w.alloc o).alloc o2) := ((Below.refl _ _).alloc (Nat.le_refl _) _).alloc (by show _ ≤ (w.heap.push o).size; simp) _
theorem res_two {P : Program} {fn : Func} {tmps : Array Value} {w : World} {p u : Tmp} {ty ty2 e : TypeId} {g g2 : Nat} {cs : List Value} {v : Value} {k : IntKind} (h : fn.results = #[.cell p ty, .cell u ty2]) (hp : tmps.getD p undef = .pointer (some ⟨g, 0, none⟩)) (hu : tmps.getD u undef = .pointer (some ⟨g2, 0, none⟩))
    (hB : BlkV w g e cs) (hT : RowTy P ty cs.length) (hc : w.cell? ⟨g2, 0, none⟩ = some v) (h2 : P.underlying ty2 = some (.int k)) : (results fn tmps).run P w = .ok (.tuple #[.agg cs.toArray, v]) w := by
  obtain ⟨d, h1, h2', h3⟩ := hT
  have hp' : tmps[p]?.getD undef = .pointer (some ⟨g, 0, none⟩) := by simpa using hp
  have hu' : tmps[u]?.getD undef = .pointer (some ⟨g2, 0, none⟩) := by simpa using hu
  have hl : (loadVar ty2 ⟨g2, 0, none⟩).run P w = .ok v w := by
    simp [loadVar, isAgg, run_underlying, h2, load, go_sem]
    simp [Sem.run, hc]
  simp [results, h, hp', hu', asAddr, run_loadVar_row w g e ty cs.toArray (0, 0) d hB h1 (by cases d <;> simp_all) (by simpa using h3), hl]
theorem ret_two {P : Program} {fn : Func} {R : Ending → World → Prop} {a : Act} {w : World} {p u : Tmp} {ty ty2 e : TypeId} {g g2 : Nat} {cs : List Value} {v : Value} {k : IntKind} (h : fn.results = #[.cell p ty, .cell u ty2]) (hp : a.tmps.getD p undef = .pointer (some ⟨g, 0, none⟩)) (hu : a.tmps.getD u undef = .pointer (some ⟨g2, 0, none⟩))
    (hB : BlkV w g e cs) (hT : RowTy P ty cs.length) (hc : w.cell? ⟨g2, 0, none⟩ = some v) (h2 : P.underlying ty2 = some (.int k)) (hd : a.defers = []) (hR : R (.returned (.tuple #[.agg cs.toArray, v])) w) : bodyPost P fn R .ret a w :=
  bodyPost_ret (res_two h hp hu hB hT hc h2) hd hR
end Go.Proofs.Ythgenpokpoiakaa
