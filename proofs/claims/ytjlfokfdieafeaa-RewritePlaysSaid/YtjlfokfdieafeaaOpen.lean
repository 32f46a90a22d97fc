/- Plain words, for any program: slices of structs of one-cell fields that come in, of any fields; numbers and texts among them. No statement is proved here. -/
import Derived.Test.YtjlfokfdieafeaaElts
import Derived.Test.YtjlfokfdieafeaaFields
namespace Go.Proofs.Ytjlfokfdieafeaa
open Go.RowKit Go.ChangeShapes Go.WideShapes Go.Deep
set_option linter.unusedVariables false

/-- A list of plain data behind rows. -/
theorem choose_rows {α : Type} {f : α → List Value} {P : α → Prop} : ∀ rows : List (List Value), (∀ r ∈ rows, ∃ a, r = f a ∧ P a) → ∃ L : List α, rows = L.map f ∧ ∀ a ∈ L, P a
  | [], _ => ⟨[], rfl, by simp⟩
  | r :: q, h => by
    obtain ⟨a, ha, pa⟩ := h r (by simp)
    obtain ⟨L, hL, hP⟩ := choose_rows q (fun x hx => h x (by simp [hx]))
    refine ⟨a :: L, by rw [ha, hL]; rfl, fun x hx => ?_⟩
    rcases List.mem_cons.1 hx with rfl | hx
    · exact pa
    · exact hP x hx
theorem choose_rel {α β : Type} {R : α → β → Prop} : ∀ rows : List α, (∀ r ∈ rows, ∃ a, R r a) → ∃ L : List β, L.length = rows.length ∧ ∀ (i : Nat) (r : α) (a : β), rows[i]? = some r → L[i]? = some a → R r a
  | [], _ => ⟨[], rfl, by simp⟩
  | r :: q, h => by
    obtain ⟨a, ha⟩ := h r (by simp)
    obtain ⟨L, hl, hL⟩ := choose_rel q (fun x hx => h x (by simp [hx]))
    refine ⟨a :: L, by simp [hl], fun i r' a' hr' ha' => ?_⟩
    cases i with
    | zero => simp at hr' ha'; subst hr'; subst ha'; exact ha
    | succ i => exact hL i r' a' (by simpa using hr') (by simpa using ha')
section
variable {H : Type} {enc : TypeId × Value → H} {P : Program} {w : World}
/-- A struct of one-cell fields is so many cells, each of which reads by its field's type. -/
def FldOk (enc : TypeId × Value → H) (P : Program) (w : World) (fs : Array Field) (r : List Value) : Prop :=
  r.length = fs.size ∧ ∃ n : Nat, ∀ (j : Nat) (f : Field) (x : Value), fs[j]? = some f → r[j]? = some x → ∃ y, DataW.trod enc P w 0 (fun _ => true) true n f.type [x] = some y
/-- A slice of structs of one-cell fields, in one cell. -/
theorem opened_rows {t e : TypeId} {fs : Array Field} {n : Nat} {v : Value} (sz : Nat) (hsz : sz = fs.size) (ht : P.underlying t = some (.slice e)) (he : P.underlying e = some (.struct fs)) (hone : oneCellFields P fs = true) (hC : P.cellsOf e = fs.size) (hpos : 0 < sz)
    (h : ∃ y, DataW.trod enc P w 0 (fun _ => true) true n t [v] = some y) : ∃ (A : Option Addr) (c : Nat) (rows : List (List Value)), v = .slice A rows.length c ∧ rows.length ≤ 9223372036854775807 ∧ RdG sz w A rows ∧ ∀ r ∈ rows, FldOk enc P w fs r := by
  subst hsz
  obtain ⟨y, hf⟩ := h
  rcases open_slice ht hf with ⟨h0, _⟩ | ⟨x, l, c, m, f2, D, Pl, hcs, _, hle, hcap, hm, _, hel⟩
  · simp at h0
    subst h0
    exact ⟨none, 0, [], rfl, by simp, ⟨by simp, fun h => absurd h (by simp)⟩, by simp⟩
  · simp at hcs
    subst hcs
    simp only [maxLen] at hcap
    simp only [if_true] at hm
    have hlm : l ≤ m := by omega
    have key : ∀ i, i < l → ∃ r, FldOk enc P w fs r ∧ ∀ j, j < fs.size → w.cell? (x.add (i * fs.size + j)) = r[j]? := by
      intro i hi
      obtain ⟨cs, hc, ht2⟩ := hel i (by omega)
      obtain ⟨_, hcl, hcell⟩ := World.cells?_some hc
      obtain ⟨xs, f3, _, _, _, hxl, hfl⟩ := DataW.trod_struct he ht2
      refine ⟨cs, ⟨by omega, f3, fun j f v hj hv => ?_⟩, fun j hj => ?_⟩
      · obtain ⟨ho, h1⟩ := hone_of hone j f hj
        have hr := hfl j f hj
        rw [ho, h1] at hr
        obtain ⟨hjc, rfl⟩ := List.getElem?_eq_some_iff.1 hv
        rw [List.drop_eq_getElem_cons hjc] at hr
        simp only [List.take_succ_cons, List.take_zero] at hr
        have hjf : j < fs.size := (Array.getElem?_eq_some_iff.1 hj).1
        rw [List.getElem?_eq_getElem (show j < xs.length by omega)] at hr
        exact ⟨_, hr⟩
      · have hcj := hcell j (by omega)
        rw [hC, Go.Deep.add_add] at hcj
        exact hcj
    obtain ⟨rows, hlen, hrows⟩ := choose_rel (R := fun i r => FldOk enc P w fs r ∧ ∀ j, j < fs.size → w.cell? (x.add (i * fs.size + j)) = r[j]?) (List.range l) (fun i hi => key i (List.mem_range.1 hi))
    rw [List.length_range] at hlen
    have hat : ∀ i (hi : i < rows.length), FldOk enc P w fs rows[i] ∧ ∀ j, j < fs.size → w.cell? (x.add (i * fs.size + j)) = rows[i][j]? :=
      fun i hi => hrows i i rows[i] (List.getElem?_range (by omega)) (List.getElem?_eq_getElem hi)
    have hok : ∀ r ∈ rows, FldOk enc P w fs r := by
      intro r hr
      obtain ⟨i, hi, rfl⟩ := List.getElem_of_mem hr
      exact (hat i hi).1
    refine ⟨some x, c, rows, by rw [hlen], by omega, ⟨fun r hr => (hok r hr).1, fun hn => ?_⟩, hok⟩
    obtain ⟨⟨hl0, _⟩, h0⟩ := hat 0 hn
    have hv0 := h0 0 hpos
    rw [List.getElem?_eq_getElem (show 0 < rows[0].length by omega)] at hv0
    obtain ⟨b, off, spot⟩ := x
    have hs : spot = none := by
      have := World.cell?_spot hv0
      simpa [Addr.add] using this
    subst hs
    refine ⟨b, off, rfl, ?_, fun j hj d hd => ?_⟩
    · have := World.block_lt_of_cell? w _ hv0
      rw [add_at] at this
      exact this
    · have := (hat j hj).2 d hd
      rw [add_at, ← Nat.add_assoc] at this
      rw [this]
      simp [List.getD, List.getElem?_eq_getElem hj]
theorem opened_in {t : TypeId} {k : IntKind} {n : Nat} {v : Value} (ht : P.underlying t = some (.int k)) (h : ∃ y, DataW.trod enc P w 0 (fun _ => true) true n t [v] = some y) : ∃ z, v = .int k z ∧ (Lit.int k z).wf = true := by
  obtain ⟨y, hf⟩ := h
  obtain ⟨z, hz, _, hw⟩ := DataW.trod_int ht hf
  simp at hz
  exact ⟨z, hz, hw⟩
theorem opened_n8 {t : TypeId} {n : Nat} {v : Value} (ht : P.underlying t = some (.int .u8)) (h : ∃ y, DataW.trod enc P w 0 (fun _ => true) true n t [v] = some y) : ∃ x : Nat, v = .int .u8 (x : Int) ∧ x < 256 := by
  obtain ⟨z, rfl, hw⟩ := opened_in ht h
  have := bounds_u8 hw
  exact ⟨z.toNat, by congr 1; omega, by omega⟩
theorem opened_n16 {t : TypeId} {n : Nat} {v : Value} (ht : P.underlying t = some (.int .u16)) (h : ∃ y, DataW.trod enc P w 0 (fun _ => true) true n t [v] = some y) : ∃ x : Nat, v = .int .u16 (x : Int) ∧ x < 65536 := by
  obtain ⟨z, rfl, hw⟩ := opened_in ht h
  have := bounds_u16 hw
  exact ⟨z.toNat, by congr 1; omega, by omega⟩
theorem opened_n32 {t : TypeId} {n : Nat} {v : Value} (ht : P.underlying t = some (.int .u32)) (h : ∃ y, DataW.trod enc P w 0 (fun _ => true) true n t [v] = some y) : ∃ x : Nat, v = .int .u32 (x : Int) ∧ x < 4294967296 := by
  obtain ⟨z, rfl, hw⟩ := opened_in ht h
  have := bounds_u32 hw
  exact ⟨z.toNat, by congr 1; omega, by omega⟩
theorem opened_n64 {t : TypeId} {n : Nat} {v : Value} (ht : P.underlying t = some (.int .u64)) (h : ∃ y, DataW.trod enc P w 0 (fun _ => true) true n t [v] = some y) : ∃ x : Nat, v = .int .u64 (x : Int) ∧ x < 18446744073709551616 := by
  obtain ⟨z, rfl, hw⟩ := opened_in ht h
  have := bounds_u64 hw
  exact ⟨z.toNat, by congr 1; omega, by omega⟩
theorem opened_txt {t : TypeId} {n : Nat} {v : Value} (ht : P.underlying t = some .string) (h : ∃ y, DataW.trod enc P w 0 (fun _ => true) true n t [v] = some y) : ∃ s : List UInt8, v = .string (txt s) := by
  obtain ⟨y, hf⟩ := h
  obtain ⟨s, hz, _, hw⟩ := DataW.trod_string ht hf
  simp at hz
  exact ⟨s.data.toList, by rw [hz]; rfl⟩
/-- A slice of numbers of four bytes, in one cell. -/
theorem opened_u32s {t e : TypeId} {n : Nat} {v : Value} (ht : P.underlying t = some (.slice e)) (he : P.underlying e = some (.int .u32)) (hC : P.cellsOf e = 1)
    (h : ∃ y, DataW.trod enc P w 0 (fun _ => true) true n t [v] = some y) : ∃ (A : Option Addr) (c : Nat) (L : List Nat), v = .slice A L.length c ∧ RdG 1 w A (L.map fun x : Nat => [Value.int .u32 (x : Int)]) ∧ ∀ x ∈ L, x < 4294967296 := by
  obtain ⟨y, hf⟩ := h
  rcases open_slice ht hf with ⟨h0, _⟩ | ⟨x, l, c, m, f2, D, Pl, hcs, _, hle, hcap, hm, _, hel⟩
  · simp at h0
    subst h0
    exact ⟨none, 0, [], rfl, ⟨by simp, fun h => absurd h (by simp)⟩, by simp⟩
  · simp at hcs
    subst hcs
    simp only [if_true] at hm
    have key : ∀ i, i < l → ∃ q : Nat, q < 4294967296 ∧ w.cell? (x.add i) = some (.int .u32 (q : Int)) := by
      intro i hi
      obtain ⟨cs, hc, ht2⟩ := hel i (by omega)
      obtain ⟨_, hcl, hcell⟩ := World.cells?_some hc
      obtain ⟨z, rfl, _, hw⟩ := DataW.trod_int he ht2
      have hb := bounds_u32 hw
      have h0 := hcell 0 (by rw [hC]; omega)
      rw [hC, Go.Deep.add_add] at h0
      simp only [Nat.mul_one, Nat.add_zero, List.getElem?_cons_zero] at h0
      exact ⟨z.toNat, by omega, by rw [h0]; congr 2; omega⟩
    obtain ⟨L, hlen, hL⟩ := choose_rel (R := fun i (q : Nat) => q < 4294967296 ∧ w.cell? (x.add i) = some (.int .u32 (q : Int))) (List.range l) (fun i hi => key i (List.mem_range.1 hi))
    rw [List.length_range] at hlen
    have hat : ∀ i (hi : i < L.length), L[i] < 4294967296 ∧ w.cell? (x.add i) = some (.int .u32 (L[i] : Int)) :=
      fun i hi => hL i i L[i] (List.getElem?_range (by omega)) (List.getElem?_eq_getElem hi)
    refine ⟨some x, c, L, by rw [hlen], ⟨fun r hr => by obtain ⟨q, _, rfl⟩ := List.mem_map.1 hr; rfl, fun hn => ?_⟩, fun q hq => ?_⟩
    · rw [List.length_map] at hn
      have hv0 := (hat 0 hn).2
      obtain ⟨b, off, spot⟩ := x
      have hs : spot = none := by
        have := World.cell?_spot hv0
        simpa [Addr.add] using this
      subst hs
      refine ⟨b, off, rfl, ?_, fun j hj d hd => ?_⟩
      · have := World.block_lt_of_cell? w _ hv0
        rw [add_at] at this
        exact this
      · rw [List.length_map] at hj
        obtain rfl : d = 0 := by omega
        have := (hat j hj).2
        rw [add_at] at this
        rw [Nat.mul_one, Nat.add_zero, this]
        simp [List.getD, List.getElem?_eq_getElem hj]
    · obtain ⟨i, hi, rfl⟩ := List.getElem_of_mem hq
      exact (hat i hi).1
end
section
variable {H : Type} {enc : TypeId × Value → H} {P : Program} {w : World} {n : Nat}
/-- A slice of bytes, in one cell. -/
theorem opened_bs {t e : TypeId} {v : Value} (ht : P.underlying t = some (.slice e)) (he : P.underlying e = some (.int .u8)) (hC : P.cellsOf e = 1)
    (h : ∃ y, DataW.trod enc P w 0 (fun _ => true) true n t [v] = some y) : ∃ (A : Option Addr) (c : Nat) (bs : List UInt8), v = .slice A bs.length c ∧ RdS w A bs.length c bs := by
  obtain ⟨y, hf⟩ := h
  rcases open_ints ht he hC hf with ⟨hcs, _⟩ | ⟨x, l, c, zs, hcs, _, hl, hm, hz, _, hcell, hwz⟩
  · simp at hcs
    subst hcs
    exact ⟨none, 0, [], rfl, RdS.nil w⟩
  · simp at hcs
    subst hcs
    obtain ⟨bs, hb⟩ := RdS.of_row (w := w) (a := some x) (len := l) (cap := c) (zs := zs) (.inr ⟨_, rfl, hl, hm, by simpa using hz, hcell, hwz⟩)
    have hn := hb.len
    subst hn
    exact ⟨some x, c, bs, rfl, hb⟩
end
end Go.Proofs.Ytjlfokfdieafeaa
