/- Plain words, for any program: structs of one-cell fields (integers, bools) that come in by value. No statement is proved here. -/
import Derived.Test.YtjlfokfdieafeaaFields
import Derived.WideShapes
namespace Go.Proofs.Ytjlfokfdieafeaa
open Go.RowKit Go.ChangeShapes Go.WideShapes Go.Deep
set_option linter.unusedVariables false

theorem fk_ok {H : Type} {enc : TypeId × Value → H} {P : Program} {w : World} {n : Nat} {t : TypeId} {k : FK} {v : Value} {y : DataW H × List MemPlace} (hr : DataW.trod enc P w 0 (fun _ => true) true n t [v] = some y) (hki : k.is (P.underlying t) = true) : k.ok v := by
  cases k with
  | int q =>
    cases hu : P.underlying t with
    | none => rw [hu] at hki; simp [FK.is] at hki
    | some u =>
      rw [hu] at hki
      cases u <;> simp [FK.is] at hki
      subst hki
      obtain ⟨z, hz, _, hw⟩ := DataW.trod_int hu hr
      simp only [List.cons.injEq, and_true] at hz
      exact ⟨z, hz, hw⟩
  | bool =>
    cases hu : P.underlying t with
    | none => rw [hu] at hki; simp [FK.is] at hki
    | some u =>
      rw [hu] at hki
      cases u <;> simp [FK.is] at hki
      obtain ⟨z, hz, _⟩ := DataW.trod_bool hu hr
      simp only [List.cons.injEq, and_true] at hz
      exact ⟨z, hz⟩
/-- All fields of a struct that came in are what they are. -/
def OkAll : List FK → List Value → Prop
  | [], [] => True
  | k :: ks, v :: vs => k.ok v ∧ OkAll ks vs
  | _, _ => False
theorem okAll_of : ∀ {ks : List FK} {l : List Value}, l.length = ks.length → (∀ (i : Nat) (k : FK) (v : Value), ks[i]? = some k → l[i]? = some v → k.ok v) → OkAll ks l
  | [], [], _, _ => trivial
  | [], _ :: _, h, _ => by simp at h
  | _ :: _, [], h, _ => by simp at h
  | k :: ks, v :: vs, h, hk => ⟨hk 0 k v rfl rfl, okAll_of (by simpa using h) (fun i k' v' h1 h2 => hk (i + 1) k' v' h1 h2)⟩
theorem okAll2 {k0 k1 : FK} {l : List Value} (h : OkAll [k0, k1] l) : ∃ c0 c1, l = [c0, c1] ∧ k0.ok c0 ∧ k1.ok c1 := by
  match l, h with
  | [c0, c1], ⟨h0, h1, _⟩ => exact ⟨c0, c1, rfl, h0, h1⟩
theorem okAll3 {k0 k1 k2 : FK} {l : List Value} (h : OkAll [k0, k1, k2] l) : ∃ c0 c1 c2, l = [c0, c1, c2] ∧ k0.ok c0 ∧ k1.ok c1 ∧ k2.ok c2 := by
  match l, h with
  | [c0, c1, c2], ⟨h0, h1, h2, _⟩ => exact ⟨c0, c1, c2, rfl, h0, h1, h2⟩
theorem okAll4 {k0 k1 k2 k3 : FK} {l : List Value} (h : OkAll [k0, k1, k2, k3] l) : ∃ c0 c1 c2 c3, l = [c0, c1, c2, c3] ∧ k0.ok c0 ∧ k1.ok c1 ∧ k2.ok c2 ∧ k3.ok c3 := by
  match l, h with
  | [c0, c1, c2, c3], ⟨h0, h1, h2, h3, _⟩ => exact ⟨c0, c1, c2, c3, rfl, h0, h1, h2, h3⟩
theorem okAll5 {k0 k1 k2 k3 k4 : FK} {l : List Value} (h : OkAll [k0, k1, k2, k3, k4] l) : ∃ c0 c1 c2 c3 c4, l = [c0, c1, c2, c3, c4] ∧ k0.ok c0 ∧ k1.ok c1 ∧ k2.ok c2 ∧ k3.ok c3 ∧ k4.ok c4 := by
  match l, h with
  | [c0, c1, c2, c3, c4], ⟨h0, h1, h2, h3, h4, _⟩ => exact ⟨c0, c1, c2, c3, c4, rfl, h0, h1, h2, h3, h4⟩
theorem okAll6 {k0 k1 k2 k3 k4 k5 : FK} {l : List Value} (h : OkAll [k0, k1, k2, k3, k4, k5] l) : ∃ c0 c1 c2 c3 c4 c5, l = [c0, c1, c2, c3, c4, c5] ∧ k0.ok c0 ∧ k1.ok c1 ∧ k2.ok c2 ∧ k3.ok c3 ∧ k4.ok c4 ∧ k5.ok c5 := by
  match l, h with
  | [c0, c1, c2, c3, c4, c5], ⟨h0, h1, h2, h3, h4, h5, _⟩ => exact ⟨c0, c1, c2, c3, c4, c5, rfl, h0, h1, h2, h3, h4, h5⟩
theorem okAll7 {k0 k1 k2 k3 k4 k5 k6 : FK} {l : List Value} (h : OkAll [k0, k1, k2, k3, k4, k5, k6] l) : ∃ c0 c1 c2 c3 c4 c5 c6, l = [c0, c1, c2, c3, c4, c5, c6] ∧ k0.ok c0 ∧ k1.ok c1 ∧ k2.ok c2 ∧ k3.ok c3 ∧ k4.ok c4 ∧ k5.ok c5 ∧ k6.ok c6 := by
  match l, h with
  | [c0, c1, c2, c3, c4, c5, c6], ⟨h0, h1, h2, h3, h4, h5, h6, _⟩ => exact ⟨c0, c1, c2, c3, c4, c5, c6, rfl, h0, h1, h2, h3, h4, h5, h6⟩
theorem open_ones {H : Type} {enc : TypeId × Value → H} {P : Program} {w : World} {r : Reach} {b0 : Nat} {t : TypeId} {fs : Array Field} (ks : List FK) (ht : P.underlying t = some (.struct fs)) (hone : oneCellFields P fs = true) (hC : P.cellsOf t = fs.size) (hks : kindsOk P fs ks = true)
    {v : Value} {d : DataW H} {p : List MemPlace} (hv : Value.okWide P w r b0 t v) (h : DataW.Trod enc P w 0 (fun _ => true) true t v d p) : ∃ l : List Value, v = .agg l.toArray ∧ OkAll ks l := by
  obtain ⟨hl0, hpos, hk⟩ := kindsOk_at hks
  obtain ⟨cs, rfl, hsz⟩ := okWide_struct ht hv
  obtain ⟨l⟩ := cs
  have hl : l.length = fs.size := by rw [← hC]; simpa using hsz
  obtain ⟨fuel, hf⟩ := h
  obtain ⟨xs, m, _, hx, _, hlen, hg⟩ := DataW.trod_struct ht hf
  refine ⟨l, rfl, okAll_of (by omega) (fun i k u hki hui => ?_)⟩
  obtain ⟨hil, rfl⟩ := List.getElem?_eq_some_iff.1 hui
  have hif : fs[i]? = some (fs[i]'(by omega)) := Array.getElem?_eq_getElem (by omega)
  obtain ⟨ho, h1⟩ := hone_of hone i _ hif
  have hr := hg i _ hif
  rw [ho, h1] at hr
  have hcl : (Value.agg ⟨l⟩).cells.toList = l := rfl
  rw [hcl, List.drop_eq_getElem_cons hil] at hr
  simp only [List.take_succ_cons, List.take_zero] at hr
  have hxi : xs[i]? = some (xs[i]'(by omega)) := List.getElem?_eq_getElem (by omega)
  rw [hxi] at hr
  exact fk_ok hr (hk i _ k hif hki)
end Go.Proofs.Ytjlfokfdieafeaa
