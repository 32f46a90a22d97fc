/- Plain words, for any program: an array of bytes that comes in by value. No statement is proved here. -/
import Derived.Test.YtehnnnhbgjfdgaaBytes
import Derived.WideKeyArgs
import Derived.OpenShut
import Derived.WideShapes
namespace Go.Proofs.Ytehnnnhbgjfdgaa
open Go.RowKit Go.ChangeShapes Go.WideShapes

/-- The byte that a cell holds. -/
def byteAt (v : Option Value) : UInt8 := match v with
  | some (Value.int IntKind.u8 z) => UInt8.ofNat z.toNat
  | _ => 0
theorem okWide_array {P : Program} {w : World} {r : Reach} {base : Nat} {t e : TypeId} {v : Value} {n : Nat} (ht : P.underlying t = some (.array n e)) (h : Value.okWide P w r base t v) : ∃ cs, v = .agg cs ∧ cs.size = P.cellsOf t := by
  simp only [Value.okWide, ht] at h
  obtain ⟨cs, h1, h2, _⟩ := h
  exact ⟨cs, h1, h2⟩
theorem open_bytesN {H : Type} {enc : TypeId × Value → H} {P : Program} {w : World} {base : Nat} {spare : Nat → Bool} {held : Bool} {r : Reach} {b0 : Nat} {t e : TypeId} {v : Value} {d : DataW H} {ps : List MemPlace} {n : Nat} (ht : P.underlying t = some (.array n e)) (he : P.underlying e = some (.int .u8)) (hce : P.cellsOf e = 1) (hct : P.cellsOf t = n)
    (hval : Value.okWide P w r b0 t v) (hd : DataW.Trod enc P w base spare held t v d ps) : ∃ bs : List UInt8, bs.length = n ∧ v = .agg (cells bs).toArray ∧ ps = [] := by
  obtain ⟨cs, rfl, hsz⟩ := okWide_array ht hval
  obtain ⟨fuel, hf⟩ := hd
  obtain ⟨xs, m, _, hx, _, hl, hg⟩ := DataW.trod_array ht hf
  have key : ∀ i, i < n → ∃ b : UInt8, cs.toList[i]? = some (.int .u8 (b.toNat : Int)) ∧ ∃ y, xs[i]? = some y ∧ y.2 = [] := by
    intro i hi
    have h := hg i hi
    rw [hce, Nat.mul_one] at h
    have hxi : xs[i]? = some xs[i] := List.getElem?_eq_getElem (by omega)
    rw [hxi] at h
    obtain ⟨z, hz, hp, hw⟩ := DataW.trod_int he h
    have hb := bounds_u8 hw
    refine ⟨UInt8.ofNat z.toNat, ?_, _, hxi, by rw [hp]⟩
    have hi2 : i < cs.toList.length := by simp; omega
    have hz' : ((cs.toList.drop i).take 1) = [.int .u8 z] := hz
    rw [List.drop_eq_getElem_cons hi2] at hz'
    simp only [List.take_succ_cons, List.take_zero, List.cons.injEq, and_true] at hz'
    rw [List.getElem?_eq_getElem hi2, hz', UInt8.toNat_ofNat']
    congr 2
    omega
  have hps : ps = [] := by
    have : ps = xs.flatMap (·.2) := by injection hx
    rw [this, List.flatMap_eq_nil_iff]
    intro y hy
    obtain ⟨i, hi, rfl⟩ := List.mem_iff_getElem.1 hy
    obtain ⟨_, _, y, h1, h2⟩ := key i (by omega)
    rw [List.getElem?_eq_getElem hi] at h1
    injection h1 with h1
    rw [h1]; exact h2
  have hcl : cs.toList.length = n := by simp [hsz, hct]
  refine ⟨(List.range n).map fun i => byteAt (cs.toList[i]?), by simp, ?_, hps⟩
  congr 1
  rw [← Array.toList_inj]
  apply List.ext_getElem?
  intro i
  rcases Nat.lt_or_ge i n with hi | hi
  · obtain ⟨b, hb, _⟩ := key i hi
    have e : byteAt (cs.toList[i]?) = b := by
      rw [hb]
      simp [byteAt]
    rw [hb]
    simp only [cells, List.map_map, List.getElem?_map, List.getElem?_range hi, Option.map_some, Function.comp_apply, e]
  · rw [List.getElem?_eq_none (by omega), List.getElem?_eq_none (by simp [cells]; omega)]
end Go.Proofs.Ytehnnnhbgjfdgaa
