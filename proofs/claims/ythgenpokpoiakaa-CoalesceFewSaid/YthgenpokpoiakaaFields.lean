/- Plain words, for any program: a slice of structs of one-cell fields (integers, bools) that comes in. No statement is proved here. -/
import Derived.Test.YthgenpokpoiakaaBytes
import Derived.Deep.Fields
import Derived.OpenShut
namespace Go.Proofs.Ythgenpokpoiakaa
open Go.RowKit Go.ChangeShapes Go.WideShapes Go.Deep
set_option linter.unusedVariables false

/-- What a field of one cell is. -/
inductive FK where
  | int (k : IntKind)
  | bool
/-- Is a type of that kind? -/
def FK.is : FK → Option TypeDesc → Bool
  | .int k, some (.int k') => decide (k = k')
  | .bool, some .bool => true
  | _, _ => false
/-- A value of that kind. -/
def FK.ok : FK → Value → Prop
  | .int k, v => ∃ z, v = .int k z ∧ (Lit.int k z).wf = true
  | .bool, v => ∃ b, v = .bool b
/-- A struct's fields are of these kinds, one by one. -/
def kindsOk (P : Program) (fs : Array Field) (ks : List FK) : Bool := (ks.length == fs.size && decide (0 < ks.length)) && (List.range fs.size).all fun i => match fs[i]?, ks[i]? with
  | some f, some k => k.is (P.underlying f.type)
  | _, _ => false
theorem kindsOk_at {P : Program} {fs : Array Field} {ks : List FK} (h : kindsOk P fs ks = true) : ks.length = fs.size ∧ 0 < ks.length ∧ ∀ (i : Nat) (f : Field) (k : FK), fs[i]? = some f → ks[i]? = some k → k.is (P.underlying f.type) = true := by
  unfold kindsOk at h
  simp only [Bool.and_eq_true, beq_iff_eq, decide_eq_true_eq] at h
  refine ⟨h.1.1, h.1.2, fun i f k hf hk => ?_⟩
  have hi : i < fs.size := (Array.getElem?_eq_some_iff.1 hf).1
  have := List.all_eq_true.1 h.2 i (List.mem_range.2 hi)
  simpa only [hf, hk] using this
/-- The slice reads as these rows, one a struct. -/
def RdF (ks : List FK) (w : World) (A : Option Addr) (n : Nat) (rs : Nat → Nat → Value) : Prop :=
  n ≤ 9223372036854775807 ∧ (∀ i, i < n → ∀ (j : Nat) (k : FK), ks[j]? = some k → k.ok (rs i j)) ∧
  (0 < n → ∃ b off, A = some ⟨b, off, none⟩ ∧ b < w.heap.size ∧ ∀ i, i < n → ∀ j, j < ks.length → w.cell? ⟨b, off + (i * ks.length + j), none⟩ = some (rs i j))
section
variable {ks : List FK} {w w' : World} {A : Option Addr} {n : Nat} {rs : Nat → Nat → Value}
theorem RdF.small (h : RdF ks w A n rs) : n ≤ 9223372036854775807 := h.1
theorem RdF.below (h : RdF ks w A n rs) {B : Nat} (hb : Below B w w') (hB : w.heap.size ≤ B) : RdF ks w' A n rs := by
  refine ⟨h.1, h.2.1, fun hn => ?_⟩
  obtain ⟨b, off, hA, hlt, hc⟩ := h.2.2 hn
  exact ⟨b, off, hA, Nat.lt_of_lt_of_le hlt hb.size, fun i hi j hj => (hb.cell (p := ⟨b, off + (i * ks.length + j), none⟩) (by simp only; omega)).trans (hc i hi j hj)⟩
/-- Where it lies, in every world in which what was there stays. -/
theorem RdF.at_ (h : RdF ks w A n rs) (hn : 0 < n) : ∃ b off, A = some ⟨b, off, none⟩ ∧ ∀ wx, Below w.heap.size w wx → ∀ i, i < n → ∀ j, j < ks.length → wx.cell? ⟨b, off + (i * ks.length + j), none⟩ = some (rs i j) := by
  obtain ⟨b, off, hA, _, _⟩ := h.2.2 hn
  refine ⟨b, off, hA, fun wx hb i hi j hj => ?_⟩
  obtain ⟨b2, off2, hA2, _, hc2⟩ := (h.below hb (Nat.le_refl _)).2.2 hn
  rw [hA] at hA2
  injection hA2 with e
  injection e with e1 e2
  subst e1; subst e2
  exact hc2 i hi j hj
end
theorem add_at (b o k : Nat) : (⟨b, o, none⟩ : Addr).add k = ⟨b, o + k, none⟩ := by unfold Addr.add; split <;> simp_all
/-- Where a slice of structs came in. -/
theorem open_fields {H : Type} {enc : TypeId × Value → H} {P : Program} {w : World} {t e : TypeId} {fs : Array Field} (ks : List FK) (ht : P.underlying t = some (.slice e)) (he : P.underlying e = some (.struct fs)) (hone : oneCellFields P fs = true) (hC : P.cellsOf e = fs.size) (hks : kindsOk P fs ks = true)
    {a : Option Addr} {len cap : Nat} {d : DataW H} {ps : List MemPlace} (hd : DataW.Trod enc P w 0 (fun _ => true) true t (.slice a len cap) d ps) : ∃ rs, RdF ks w a len rs := by
  obtain ⟨hl0, hpos, hk⟩ := kindsOk_at hks
  obtain ⟨fuel, hf⟩ := hd
  rcases open_slice ht hf with ⟨h0, _⟩ | ⟨x, l, c, m, f2, D, Pl, hcs, _, hle, hcap, hm, _, hel⟩
  · simp [Value.cells] at h0
    obtain ⟨rfl, rfl, rfl⟩ := h0
    exact ⟨fun _ _ => .bool false, by omega, fun i hi => absurd hi (by omega), fun hn => absurd hn (by omega)⟩
  · simp [Value.cells] at hcs
    obtain ⟨rfl, rfl, rfl⟩ := hcs
    simp only [maxLen] at hcap
    simp only [if_true] at hm
    have hlm : len ≤ m := by omega
    have key : ∀ i, i < len → ∀ (j : Nat) (k : FK), ks[j]? = some k → ∃ v, w.cell? (x.add (i * ks.length + j)) = some v ∧ k.ok v := by
      intro i hi j k hkj
      obtain ⟨cs, hc, ht2⟩ := hel i (by omega)
      obtain ⟨_, hcl, hcell⟩ := World.cells?_some hc
      obtain ⟨xs, f3, _, _, _, hxl, hfl⟩ := DataW.trod_struct he ht2
      have hj : j < ks.length := (List.getElem?_eq_some_iff.1 hkj).1
      have hjf : fs[j]? = some (fs[j]'(by omega)) := Array.getElem?_eq_getElem (by omega)
      obtain ⟨ho, h1⟩ := hone_of hone j _ hjf
      have hr := hfl j _ hjf
      rw [ho, h1] at hr
      have hjc : j < cs.length := by omega
      rw [List.drop_eq_getElem_cons hjc] at hr
      simp only [List.take_succ_cons, List.take_zero] at hr
      have hxj : xs[j]? = some (xs[j]'(by omega)) := List.getElem?_eq_getElem (by omega)
      rw [hxj] at hr
      have hcj := hcell j (by omega)
      rw [List.getElem?_eq_getElem hjc, hC, ← hl0, Go.Deep.add_add] at hcj
      refine ⟨cs[j], hcj, ?_⟩
      have hki := hk j _ k hjf hkj
      cases k with
      | int q =>
        cases hu : P.underlying (fs[j]'(by omega)).type with
        | none => rw [hu] at hki; simp [FK.is] at hki
        | some u =>
          rw [hu] at hki
          cases u <;> simp [FK.is] at hki
          subst hki
          obtain ⟨z, hz, _, hw⟩ := DataW.trod_int hu hr
          simp only [List.cons.injEq, and_true] at hz
          exact ⟨z, hz, hw⟩
      | bool =>
        cases hu : P.underlying (fs[j]'(by omega)).type with
        | none => rw [hu] at hki; simp [FK.is] at hki
        | some u =>
          rw [hu] at hki
          cases u <;> simp [FK.is] at hki
          obtain ⟨z, hz, _⟩ := DataW.trod_bool hu hr
          simp only [List.cons.injEq, and_true] at hz
          exact ⟨z, hz⟩
    refine ⟨fun i j => (w.cell? (x.add (i * ks.length + j))).getD (.bool false), by omega, fun i hi j k hkj => ?_, fun hn => ?_⟩
    · obtain ⟨v, hv, hok⟩ := key i hi j k hkj
      simp only [hv, Option.getD_some]; exact hok
    · obtain ⟨v0, hv0, _⟩ := key 0 hn 0 (ks[0]'hpos) (List.getElem?_eq_getElem hpos)
      obtain ⟨b, off, spot⟩ := x
      have hs : spot = none := by
        have := World.cell?_spot hv0
        simpa [Addr.add] using this
      subst hs
      refine ⟨b, off, rfl, ?_, fun i hi j hj => ?_⟩
      · have := World.block_lt_of_cell? w _ hv0
        rw [add_at] at this
        exact this
      · obtain ⟨v, hv, _⟩ := key i hi j (ks[j]'hj) (List.getElem?_eq_getElem hj)
        rw [add_at] at hv
        simp only [add_at, hv, Option.getD_some]
end Go.Proofs.Ythgenpokpoiakaa
