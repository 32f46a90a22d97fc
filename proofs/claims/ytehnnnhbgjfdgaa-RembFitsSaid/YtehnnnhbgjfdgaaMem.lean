/- Plain words on blocks of cells of any kind, for any program: a block that is known whole, arrays read out of it and laid into it, what a store leaves. No statement is proved here. -/
import Derived.Test.YtehnnnhbgjfdgaaBytes
import Derived.Deep.MidRow
import Derived.Laws.CopyOwn
import Derived.Stop.BytesEq
import Derived.Maps.Range
import Derived.StillTailTactics
import Derived.Deep.RegionLaw
namespace Go.Proofs.Ytehnnnhbgjfdgaa
open Go.RowKit

/-- Block g is just these cells. -/
def BlkV (w : World) (g : Nat) (e : TypeId) (cs : List Value) : Prop := w.heap[g]? = some (.cells cs.toArray e (0, 0))
/-- Nothing but block g may have turned; no block has come. -/
structure Only (g : Nat) (w w' : World) : Prop where
  os : w'.os = w.os
  tape : w'.tape = w.tape
  output : w'.output = w.output
  size : w'.heap.size = w.heap.size
  block : ∀ k, k ≠ g → w'.heap[k]? = w.heap[k]?
section
variable {w w' w'' : World} {g : Nat} {e : TypeId} {cs : List Value}
theorem Only.refl (g : Nat) (w : World) : Only g w w := ⟨rfl, rfl, rfl, rfl, fun _ _ => rfl⟩
theorem Only.trans (h : Only g w w') (k : Only g w' w'') : Only g w w'' := ⟨k.os.trans h.os, k.tape.trans h.tape, k.output.trans h.output, k.size.trans h.size, fun i hi => (k.block i hi).trans (h.block i hi)⟩
theorem Only.set (w : World) (g j : Nat) (v : Value) : Only g w (w.setCell ⟨g, j, none⟩ v) := ⟨rfl, rfl, rfl, by simp [World.setCell], fun k hk => Below.heap_setCell _ _ _ _ hk⟩
theorem Only.row (w : World) (g : Nat) (C : Array Value) : Only g w (w.setRow g C) := ⟨rfl, rfl, rfl, by simp, fun k hk => setRow_other w g k C hk⟩
theorem Only.below {B : Nat} (h : Only g w w') (hB : B ≤ g) : Below B w w' := ⟨h.os, h.tape, h.output, by rw [h.size]; exact Nat.le_refl _, fun k hk => h.block k (by omega)⟩
theorem Only.grown (h : Only g w w') : w.grownBy w' (some g) := ⟨h.os, h.tape, h.output, by rw [h.size]; exact Nat.le_refl _, fun k _ hk => h.block k (fun e => hk (by rw [e]))⟩
theorem grown_of_below (h : Below w.heap.size w w') (row : Option Nat) : w.grownBy w' row := ⟨h.os, h.tape, h.output, h.size, fun k hk _ => h.block k hk⟩
theorem below_of_grown {row : Option Nat} {B : Nat} (h : w.grownBy w' row) (hB : B ≤ w.heap.size) (hr : ∀ k, row = some k → B ≤ k) : Below B w w' := (Below.refl B w).grown h hB hr

theorem BlkV.lt (h : BlkV w g e cs) : g < w.heap.size := (Array.getElem?_eq_some_iff.1 h).1
theorem BlkV.cell (h : BlkV w g e cs) (j : Nat) : w.cell? ⟨g, j, none⟩ = cs[j]? := by
  rw [cell_of_row w g j _ e (0, 0) h]; simp
theorem BlkV.frozen (h : BlkV w g e cs) (j : Nat) : w.frozen? ⟨g, j, none⟩ = false := frozen_of_row w g j _ e h
theorem BlkV.drew (h : BlkV w g e cs) : BlkV w.drew g e cs := h
theorem BlkV.alloc (h : BlkV w g e cs) (o : Obj) : BlkV (w.alloc o) g e cs := (Below.heap_alloc w o g h.lt).trans h
theorem BlkV.set_ (h : BlkV w g e cs) (j : Nat) (v : Value) : BlkV (w.setCell ⟨g, j, none⟩ v) g e (cs.set j v) := by
  have := heap_setCell_same w g j cs.toArray e v h
  unfold BlkV
  rw [this]
  simp
theorem BlkV.far (h : BlkV w g e cs) {p : Addr} (hp : g ≠ p.block) (u : Value) : BlkV (w.setCell p u) g e cs := (Below.heap_setCell w p u g hp).trans h
theorem BlkV.below {B : Nat} (h : BlkV w g e cs) (hb : Below B w w') (hg : g < B) : BlkV w' g e cs := (hb.block g hg).trans h
theorem BlkV.grown {row : Option Nat} (h : BlkV w g e cs) (hb : w.grownBy w' row) (hg : some g ≠ row) : BlkV w' g e cs := (hb.block g h.lt hg).trans h
theorem BlkV.only {k : Nat} (h : BlkV w g e cs) (hb : Only k w w') (hg : g ≠ k) : BlkV w' g e cs := (hb.block g hg).trans h
theorem BlkV.new_at (w : World) (g : Nat) (e : TypeId) (cs : List Value) (C : Array Value) (hg : w.heap.size = g) (hC : C = cs.toArray) : BlkV (w.alloc (.cells C e)) g e cs := by
  subst hg; subst hC; exact heap_alloc_new w _
theorem BlkV.new (w : World) (e : TypeId) (cs : List Value) : BlkV (w.alloc (.cells cs.toArray e)) w.heap.size e cs := heap_alloc_new w _
theorem BlkV.range (h : BlkV w g e cs) (j : Nat) (ds : List Value) (hd : ∀ i, i < ds.length → cs[j + i]? = ds[i]?) : w.rangeAt g j ds := fun i v hv => by
  rw [h.cell, hd i (List.getElem?_eq_some_iff.1 hv).1]; exact hv
theorem BlkV.there (h : BlkV w g e cs) (j n : Nat) (hn : j + n ≤ cs.length) : w.there g j n := fun i hi => by
  rw [h.cell, h.frozen]
  exact ⟨by rw [List.getElem?_eq_getElem (by omega)]; rfl, rfl⟩
theorem BlkV.row (h : BlkV w g e cs) (ds : List Value) : BlkV (w.setRow g ds.toArray) g e ds := setRow_heap w g _ _ _ _ h
theorem Blk.v {bs : List UInt8} (h : Blk w g e bs) : BlkV w g e (cells bs) := h
theorem Blk.new_at (w : World) (g : Nat) (e : TypeId) (bs : List UInt8) (C : Array Value) (hg : w.heap.size = g) (hC : C = (cells bs).toArray) : Blk (w.alloc (.cells C e)) g e bs := by
  subst hg; subst hC; exact Blk.new w e bs

theorem splice_cons {α : Type} (L : List α) (o : Nat) (v : α) (r : List α) (h : o < L.length) : splice (L.set o v) (o + 1) r = splice L o (v :: r) := by
  unfold splice
  have e1 : (L.set o v).take (o + 1) = L.take o ++ [v] := by
    rw [List.take_succ_eq_append_getElem (by simpa using h), List.take_set, List.set_eq_of_length_le (by simp; omega)]
    simp
  have e2 : (L.set o v).drop (o + 1 + r.length) = L.drop (o + (v :: r).length) := by
    rw [List.drop_set_of_lt (by omega), List.length_cons]
    congr 1
    omega
  rw [e1, e2]
  simp
theorem set_cells (g : Nat) : ∀ (vs : List Value) (o : Nat) (w : World) (cs : List Value), BlkV w g e cs → o + vs.length ≤ cs.length → BlkV (w.setCells g o vs) g e (splice cs o vs) ∧ Only g w (w.setCells g o vs)
  | [], o, w, cs, h, _ => by
    refine ⟨?_, Only.refl _ _⟩
    have : splice cs o ([] : List Value) = cs := by simp [splice]
    rw [this]; exact h
  | v :: r, o, w, cs, h, hl => by
    have h1 := set_cells g r (o + 1) (w.setCell ⟨g, o, none⟩ v) (cs.set o v) (h.set_ o v) (by simp at hl ⊢; omega)
    rw [splice_cons cs o v r (by simp at hl; omega)] at h1
    exact ⟨h1.1, (Only.set w g o v).trans h1.2⟩
end

/-- ty is an array or a struct of n cells. -/
def RowTy (P : Program) (ty : TypeId) (n : Nat) : Prop := ∃ d, P.underlying ty = some d ∧ d.isRow = true ∧ (P.info? ty).map (·.size) = some n

section
variable {P : Program} {w : World} {ops : Array Oper} {rest : List Oper} {op : Oper} {a : Act} {Q : Exit → Act → World → Prop}
/-- A whole array is read, wherever it lies. -/
theorem wpList_ld (hgd : op.guard = none) (ty : TypeId) (x : Operand) (ho : op.op = .load ty x) (b o : Nat) (hx : a.eval x = .pointer (some ⟨b, o, none⟩)) (cs : List Value) (hc : w.rangeAt b o cs) (hT : RowTy P ty cs.length)
    (h : wpList P ops Q rest (a.put op.dst (.agg cs.toArray)) w) : wpList P ops Q (op :: rest) a w := by
  obtain ⟨d, h1, h2, h3⟩ := hT
  exact wpList_load_mid hgd ty x ho b o hx cs d hc h1 h2 h3 h
/-- A whole array is laid into a block that is known whole. -/
theorem wpList_st (hgd : op.guard = none) (ty : TypeId) (x y : Operand) (ho : op.op = .store ty x y) (g o : Nat) (ds : List Value) (hx : a.eval x = .pointer (some ⟨g, o, none⟩)) (hy : a.eval y = .agg ds.toArray)
    (e : TypeId) (cs : List Value) (hg : BlkV w g e cs) (hfit : o + ds.length ≤ cs.length) (hT : RowTy P ty ds.length) (h1 : ∀ v ∈ ds, v.oneCell' = true)
    (h : ∀ w', BlkV w' g e (splice cs o ds) → Only g w w' → wpList P ops Q rest (a.put op.dst undef) w') : wpList P ops Q (op :: rest) a w := by
  obtain ⟨d, _, _, h3⟩ := hT
  have hh := set_cells g ds o w cs hg hfit
  refine wpList_store_mid hgd ty x y ho g o ds.toArray hx hy (by simpa using hg.there o ds.length hfit) (by simpa using h3) (all_oneCell_toArray h1) ?_
  exact h _ hh.1 hh.2
/-- copy over the cells from place o on of a block that is known whole. -/
theorem wpList_cp (hgd : op.guard = none) (d s : Operand) {t e : TypeId} (ho : op.op = .call { callee := .builtin .copy, args := #[d, s], argTypes := #[t, t] }) (ht : P.underlying t = some (.slice e)) (hi : (P.info? e).map (fun i => (i.zero, i.size, i.bytes)) = some (some (.int .u8 0), 1, 1))
    (g o n c : Nat) (tb : TypeId) (cs : List Value) (hd : a.eval d = .slice (some ⟨g, o, none⟩) n c) (hg : BlkV w g tb cs) (A : Option Addr) (m cm : Nat) (news : List UInt8) (hs : a.eval s = .slice A m cm) (hr : RdS w A m cm news)
    (hn : o + n ≤ cs.length) (k : Nat) (hk : k = min m n) (hpos : 0 < k)
    (h : ∀ w', BlkV w' g tb (splice cs o (cells (news.take k))) → Only g w w' → wpList P ops Q rest (a.put op.dst (.int .i64 (k : Int))) w') : wpList P ops Q (op :: rest) a w := by
  obtain ⟨i, hi, _, hs1, _⟩ := info_parts hi
  have hl := hr.len
  obtain ⟨b, off, rfl, _, hc⟩ := hr.2.2.2.2 (by omega)
  have hlen : (cells (news.take k)).length = k := by rw [length_cells, List.length_take]; omega
  have := wpList_copy_own (P := P) (w := w) (ops := ops) (rest := rest) (o := op) (a := a) (Q := Q) hgd d s t t ho e ht (by rw [hi]; simp [hs1]) g o n c ⟨b, off, none⟩ m cm hd hs cs.toArray tb hg (cells (news.take k))
    (by rw [hlen, hk]) (fun j v hv => by
      have hj : j < k := by
        have := (List.getElem?_eq_some_iff.1 hv).1
        omega
      rw [Addr.add_lit, hc j (by omega)]
      rw [cells_at (by rw [List.length_take]; omega)] at hv
      rw [← hv]
      simp [List.getD, hj]) (by rw [hlen, List.size_toArray]; omega) (cells_one _)
  rw [hlen] at this
  refine this (h _ ?_ (Only.row _ _ _))
  have h2 := hg.row (splice cs o (cells (news.take k)))
  simpa [splice, hlen] using h2
end

theorem splice_all {α : Type} (L cs : List α) (h : L.length = cs.length) : splice L 0 cs = cs := by simp [splice, ← h]
/-- An array is handed back. -/
theorem ret_row {P : Program} {fn : Func} {R : Ending → World → Prop} {a : Act} {w : World} {p : Tmp} {ty e : TypeId} {g : Nat} {cs : List Value} (h : fn.results = #[.cell p ty]) (hp : a.tmps.getD p undef = .pointer (some ⟨g, 0, none⟩))
    (hB : BlkV w g e cs) (hT : RowTy P ty cs.length) (hd : a.defers = []) (hR : R (.returned (.agg cs.toArray)) w) : bodyPost P fn R .ret a w := by
  obtain ⟨d, h1, h2, h3⟩ := hT
  refine bodyPost_ret (results_cell_row h a.tmps w g e cs.toArray (0, 0) d hp hB h1 ?_ (by simpa using h3)) hd hR
  cases d <;> simp_all

/-- A whole array is read in a region that draws its order and only reads so far. -/
theorem wpStill_ld {P : Program} {w : World} {ops : Array Oper} {rest : List Oper} {op : Oper} {a : Act} {Q : Act → Prop} (hgd : op.guard = none) (ty : TypeId) (x : Operand) (ho : op.op = .load ty x) (b o : Nat) (hx : a.eval x = .pointer (some ⟨b, o, none⟩)) (cs : List Value) (hc : w.rangeAt b o cs) (hT : RowTy P ty cs.length)
    (h : wpStill P ops w Q rest (a.put op.dst (.agg cs.toArray))) : wpStill P ops w Q (op :: rest) a := by
  obtain ⟨d, h1, h2, h3⟩ := hT
  refine wpStill_step fun K hK => ?_
  rw [if_pos (by simp [Region.wanted, hgd])]
  unfold Oper.still execOp
  simp only [ho, hx, Instr.loadAt, Instr.sureAddr, Sem.run_bind, Sem.run_pure, Result.andThen_ok, run_loadVar_mid w b o ty cs d hc h1 h2 h3, Oper.stillUpon_value]
  exact hK _ h

section
variable {P : Program} {md : Region.Mode} {ops : Array Oper} {Q : Exit → Act → World → Prop}
/-- One operation alone may come up. -/
theorem any_one {i : Nat} {op : Oper} {fuel : Nat} {listed : Array Bool} {a : Act} {w : World} (hr : Region.ready md ops listed = [i]) (ho : ops[i]? = some op) (hgd : op.guard = none)
    (h : ∀ K : Act → World → Prop, (∀ a w, wpAny P md ops Q fuel (listed.setIfInBounds i true) a w → K a w) → op.wp P a w K Q) : wpAny P md ops Q (fuel + 1) listed a w :=
  wpAny_ready hr (by simp) (AllReady.cons ho (fun K hK => by rw [if_pos (by simp [Region.wanted, hgd])]; exact h K hK) AllReady.nil)
/-- One of two may come up. -/
theorem any_two {i j : Nat} {op oq : Oper} {fuel : Nat} {listed : Array Bool} {a : Act} {w : World} (hr : Region.ready md ops listed = [i, j]) (ho : ops[i]? = some op) (hgd : op.guard = none) (hoq : ops[j]? = some oq) (hgq : oq.guard = none)
    (h : ∀ K : Act → World → Prop, (∀ a w, wpAny P md ops Q fuel (listed.setIfInBounds i true) a w → K a w) → op.wp P a w K Q)
    (h2 : ∀ K : Act → World → Prop, (∀ a w, wpAny P md ops Q fuel (listed.setIfInBounds j true) a w → K a w) → oq.wp P a w K Q) : wpAny P md ops Q (fuel + 1) listed a w :=
  wpAny_ready hr (by simp) (AllReady.cons ho (fun K hK => by rw [if_pos (by simp [Region.wanted, hgd])]; exact h K hK) (AllReady.cons hoq (fun K hK => by rw [if_pos (by simp [Region.wanted, hgq])]; exact h2 K hK) AllReady.nil))
theorem wp_ld {op : Oper} {a : Act} {w : World} {K : Act → World → Prop} (ty : TypeId) (x : Operand) (ho : op.op = .load ty x) (b o : Nat) (hx : a.eval x = .pointer (some ⟨b, o, none⟩)) (cs : List Value) (hc : w.rangeAt b o cs) (hT : RowTy P ty cs.length)
    (h : K (a.put op.dst (.agg cs.toArray)) w) : op.wp P a w K Q := by
  obtain ⟨d, h1, h2, h3⟩ := hT
  exact wp_load_mid ty x ho b o hx cs d hc h1 h2 h3 h
theorem wp_st {op : Oper} {a : Act} {w : World} {K : Act → World → Prop} (ty : TypeId) (x y : Operand) (ho : op.op = .store ty x y) (g o : Nat) (ds : List Value) (hx : a.eval x = .pointer (some ⟨g, o, none⟩)) (hy : a.eval y = .agg ds.toArray)
    (e : TypeId) (cs : List Value) (hg : BlkV w g e cs) (hfit : o + ds.length ≤ cs.length) (hT : RowTy P ty ds.length) (h1 : ∀ v ∈ ds, v.oneCell' = true)
    (h : ∀ w', BlkV w' g e (splice cs o ds) → Only g w w' → K (a.put op.dst undef) w') : op.wp P a w K Q := by
  obtain ⟨d, _, _, h3⟩ := hT
  have hh := set_cells g ds o w cs hg hfit
  exact wp_store_mid ty x y ho g o ds.toArray hx hy (by simpa using hg.there o ds.length hfit) (by simpa using h3) (all_oneCell_toArray h1) (h _ hh.1 hh.2)
end

/-- A slice of bytes none of which lies in block p. -/
def Off (A : Option Addr) (p : Nat) : Prop := ∀ ad, A = some ad → ad.block ≠ p
/-- .. if there is one at all. -/
def OffN (A : Option Addr) (n p : Nat) : Prop := 0 < n → Off A p
theorem RdS.keep {w w' : World} {A : Option Addr} {n c : Nat} {bs : List UInt8} (h : RdS w A n c bs) {row : Option Nat} (hg : w.grownBy w' row) (ho : ∀ p, row = some p → OffN A n p) : RdS w' A n c bs := by
  refine ⟨h.1, h.2.1, h.2.2.1, h.2.2.2.1, fun hn => ?_⟩
  obtain ⟨b, off, hA, hlt, hc⟩ := h.2.2.2.2 hn
  refine ⟨b, off, hA, Nat.lt_of_lt_of_le hlt hg.size, fun j hj => ?_⟩
  exact (World.cell?_of_block (w := w) (a := ⟨b, off + j, none⟩) (hg.block b hlt (fun e => ho b e.symm hn _ hA rfl))).trans (hc j hj)
theorem RdS.off_lt {w : World} {A : Option Addr} {n c : Nat} {bs : List UInt8} (h : RdS w A n c bs) {p : Nat} (hp : w.heap.size ≤ p) : OffN A n p := by
  intro hn
  obtain ⟨b, off, rfl, hlt, _⟩ := h.2.2.2.2 hn
  intro ad hA
  injection hA with hA
  subst hA
  show b ≠ p
  omega

theorem add_lit (b o k : Nat) : (⟨b, o, none⟩ : Addr).add k = ⟨b, o + k, none⟩ := by unfold Addr.add; split <;> simp_all
/-- What is left of a slice behind its first k bytes. -/
theorem RdS.cut {w : World} {A : Option Addr} {n c : Nat} {bs : List UInt8} (h : RdS w A n c bs) (k : Nat) (hk : k ≤ n) :
    RdS w (if c = k then A else A.map (·.add (k * 1))) (n - k) (c - k) (bs.drop k) := by
  obtain ⟨h1, h2, h3, h4, h5⟩ := h
  refine ⟨by rw [List.length_drop, h1], by omega, by omega, fun h0 => ?_, fun hn => ?_⟩
  · split at h0
    · omega
    · have : A = none := by cases A <;> simp_all
      have := h4 this
      omega
  · obtain ⟨b, off, rfl, hlt, hc⟩ := h5 (by omega)
    rw [if_neg (by omega)]
    refine ⟨b, off + k, by simp [add_lit], hlt, fun j hj => ?_⟩
    have := hc (k + j) (by omega)
    rw [show off + k + j = off + (k + j) by omega, this]
    simp [List.getD]
theorem Off.cut {A : Option Addr} {p : Nat} (h : Off A p) (k c : Nat) : Off (if c = k then A else A.map (·.add (k * 1))) p := by
  split
  · exact h
  · intro ad hA
    cases A with
    | none => simp at hA
    | some x =>
      simp only [Option.map_some, Option.some.injEq] at hA
      subst hA
      have : (x.add (k * 1)).block = x.block := by unfold Addr.add; split <;> rfl
      rw [this]
      exact h x rfl
section
variable {P : Program} {w : World} {ops : Array Oper} {rest : List Oper} {op : Oper} {a : Act} {Q : Exit → Act → World → Prop}
/-- 'b[k:]' of a slice that reads. -/
theorem wpList_cut (hgd : op.guard = none) (t : TypeId) (x lo : Operand) (ho : op.op = .slice t x (some lo) none none) (ht : P.underlying t = some (.slice (P.elem t))) (hs : ∀ w, (sizeOf (P.elem t)).run P w = .ok 1 w)
    (A : Option Addr) (n c : Nat) (bs : List UInt8) (hx : a.eval x = .slice A n c) (k : Nat) (i : Int) (hlo : a.eval lo = .int .i64 i) (hik : i = (k : Int)) (hr : RdS w A n c bs) (hk : k ≤ n)
    (h : ∀ A2, RdS w A2 (n - k) (c - k) (bs.drop k) → (∀ p, Off A p → Off A2 p) → wpList P ops Q rest (a.put op.dst (.slice A2 (n - k) (c - k))) w) : wpList P ops Q (op :: rest) a w := by
  subst hik
  refine wpList_plain hgd fun K hK => ?_
  unfold Oper.wp execOp
  simp only [ho, hx, Option.map_some, Option.map_none, hlo, run_sliceAt_slice _ _ _ _ _ _ ht, Sem.run_bind, run_slice_l w t A n c ht .i64 (k : Int) (by omega) (by omega), hs, Result.andThen_ok, Sem.run_pure, sliced, Int.toNat_natCast]
  exact hK _ _ (h _ (hr.cut k hk) (fun p hp => hp.cut k c))
/-- 'arr[k:]' of an array that lies at o of block g. -/
theorem wpList_acut (hgd : op.guard = none) (t : TypeId) (x lo : Operand) (ho : op.op = .slice t x (some lo) none none) (ht : P.underlying t = some (.array (P.arrayLen t) (P.elem t))) (hs : ∀ w, (sizeOf (P.elem t)).run P w = .ok 1 w)
    (N : Nat) (hN : P.arrayLen t = N) (g o : Nat) (hx : a.eval x = .pointer (some ⟨g, o, none⟩)) (k : Nat) (i : Int) (hlo : a.eval lo = .int .i64 i) (hik : i = (k : Int)) (hk : k < N)
    (h : wpList P ops Q rest (a.put op.dst (.slice (some ⟨g, o + k, none⟩) (N - k) (N - k))) w) : wpList P ops Q (op :: rest) a w := by
  subst hik
  refine wpList_plain hgd fun K hK => ?_
  unfold Oper.wp execOp
  simp only [ho, hx, Option.map_some, Option.map_none, hlo, Sem.run_bind, run_sliceAt_array_l w t ⟨g, o, none⟩ ht .i64 (k : Int) (by omega) (by omega), hs, Result.andThen_ok, Sem.run_pure, slicedAt, Int.toNat_natCast, hN, add_lit, Nat.mul_one]
  rw [if_neg (by omega)]
  exact hK _ _ h
end

theorem run_eql_cells {P : Program} (w : World) (t e : TypeId) (n : Nat) (ht : P.underlying t = some (.array n e)) (he : P.underlying e = some (.int .u8)) (hi : (P.info? e).map (·.size) = some 1)
    (xs ys : List UInt8) (hx : xs.length = n) (hy : ys.length = n) : (binOp .eql t (.agg (cells xs).toArray) (.agg (cells ys).toArray)).run P w = .ok (.bool (xs == ys)) w := by
  refine run_eql_bytes w t e n ht he (fun w => ?_) xs ys hx hy
  cases hq : P.info? e with
  | none => simp [hq] at hi
  | some i =>
    have hs : i.size = 1 := by simpa [hq] using hi
    simp [sizeOf, typeInfo, hq, hs]
theorem Blk.only {w w' : World} {g k : Nat} {e : TypeId} {bs : List UInt8} (h : Blk w g e bs) (hb : Only k w w') (hg : g ≠ k) : Blk w' g e bs := (hb.block g hg).trans h
theorem Only.drew {g : Nat} {w w' : World} (h : Only g w w') : Only g w w'.drew := ⟨h.os, h.tape, h.output, h.size, h.block⟩
end Go.Proofs.Ytehnnnhbgjfdgaa
