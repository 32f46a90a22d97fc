/- Several texts in one: plain words and walks. No statement is proved here. -/
import Derived.Test.YtmkeioeodlidgaaGreatDoorZBytes
import Derived.WideKeyArgs
import Derived.OpenShut
import Derived.WideShapes
import Derived.ChangeSame
namespace Go.Proofs.YtmkeioeodlidgaaGreatDoor
open Go.RowKit Go.ChangeShapes Go.WideShapes

def byteAt (v : Option Value) : UInt8 := match v with
 | some (Value.int IntKind.u8 z) => UInt8.ofNat z.toNat
 | _ => 0
end Go.Proofs.YtmkeioeodlidgaaGreatDoor

namespace Go.Proofs.YtmkeioeodlidgaaGreatDoor
open Go.RowKit Go.ChangeShapes Go.WideShapes

theorem trod_bytes {H : Type} {enc : TypeId × Value → H} {P : Program} {w : World} {base : Nat} {spare : Nat → Bool} {held : Bool} {t e : TypeId} {cs : List Value} {x : DataW H × List MemPlace} {n fuel : Nat} (ht : P.underlying t = some (.array n e)) (he : P.underlying e = some (.int .u8)) (hce : P.cellsOf e = 1) (hcl : cs.length = n)
 (hf : DataW.trod enc P w base spare held fuel t cs = some x) : ∃ bs : List UInt8, bs.length = n ∧ cs = cells bs ∧ x.2 = [] := by
 obtain ⟨xs, m, _, hx, _, hl, hg⟩ := DataW.trod_array ht hf
 have key : ∀ i, i < n → ∃ b : UInt8, cs[i]? = some (.int .u8 (b.toNat : Int)) ∧ ∃ y, xs[i]? = some y ∧ y.2 = [] := by
  intro i hi
  have h := hg i hi
  rw [hce, Nat.mul_one] at h
  have hxi : xs[i]? = some xs[i] := List.getElem?_eq_getElem (by omega)
  rw [hxi] at h
  obtain ⟨z, hz, hp, hw⟩ := DataW.trod_int he h
  have hb := bounds_u8 hw
  refine ⟨UInt8.ofNat z.toNat, ?_, _, hxi, by rw [hp]⟩
  have hi2 : i < cs.length := by omega
  have hz' : ((cs.drop i).take 1) = [.int .u8 z] := hz
  rw [List.drop_eq_getElem_cons hi2] at hz'
  simp only [List.take_succ_cons, List.take_zero, List.cons.injEq, and_true] at hz'
  rw [List.getElem?_eq_getElem hi2, hz', UInt8.toNat_ofNat']
  congr 2
  omega
 have hps : x.2 = [] := by
  rw [hx]
  simp only [List.flatMap_eq_nil_iff]
  intro y hy
  obtain ⟨i, hi, rfl⟩ := List.mem_iff_getElem.1 hy
  obtain ⟨_, _, y, h1, h2⟩ := key i (by omega)
  rw [List.getElem?_eq_getElem hi] at h1
  injection h1 with h1
  rw [h1]; exact h2
 refine ⟨(List.range n).map fun i => byteAt (cs[i]?), by simp, ?_, hps⟩
 apply List.ext_getElem?
 intro i
 rcases Nat.lt_or_ge i n with hi | hi
 · obtain ⟨b, hb, _⟩ := key i hi
   have e : byteAt (cs[i]?) = b := by
    rw [hb]
    simp [byteAt]
   rw [hb]
   simp only [cells, List.map_map, List.getElem?_map, List.getElem?_range hi, Option.map_some, Function.comp_apply, e]
 · rw [List.getElem?_eq_none (by omega), List.getElem?_eq_none (by simp [cells]; omega)]
theorem open_pair {H : Type} {enc : TypeId × Value → H} {P : Program} {w : World} {base : Nat} {spare : Nat → Bool} {held : Bool} {r : Reach} {b0 : Nat} {t e : TypeId} {f0 f1 : Field} {v : Value} {d : DataW H} {ps : List MemPlace} {n0 n1 : Nat} (hs : P.underlying t = some (.struct #[f0, f1])) (h0 : P.underlying f0.type = some (.array n0 e)) (h1 : P.underlying f1.type = some (.array n1 e)) (he : P.underlying e = some (.int .u8)) (hce : P.cellsOf e = 1)
 (hct : P.cellsOf t = n0 + n1) (c0 : P.cellsOf f0.type = n0) (c1 : P.cellsOf f1.type = n1) (o0 : f0.offset = 0) (o1 : f1.offset = n0)
 (hval : Value.okWide P w r b0 t v) (hd : DataW.Trod enc P w base spare held t v d ps) : ∃ a b : List UInt8, a.length = n0 ∧ b.length = n1 ∧ v = .agg (cells (a ++ b)).toArray ∧ ps = [] := by
 obtain ⟨cs, rfl, hsz⟩ := okWide_struct hs hval
 obtain ⟨fuel, hf⟩ := hd
 obtain ⟨y0, y1, n, hx, hl, g0, g1⟩ := trod_struct2 hs hf
 have hcl : cs.toList.length = n0 + n1 := by simp [hsz, hct]
 rw [o0, c0, List.drop_zero] at g0
 rw [o1, c1] at g1
 obtain ⟨a, la, ha, pa⟩ := trod_bytes h0 he hce (by show (cs.toList.take n0).length = n0; rw [List.length_take]; omega) g0
 obtain ⟨b, lb, hb, pb⟩ := trod_bytes h1 he hce (by show ((cs.toList.drop n0).take n1).length = n1; rw [List.length_take, List.length_drop]; omega) g1
 refine ⟨a, b, la, lb, ?_, ?_⟩
 · congr 1
   rw [← Array.toList_inj]
   have e1 : cs.toList.take n0 = cells a := ha
   have e2 : (cs.toList.drop n0).take n1 = cells b := hb
   have e3 : (cs.toList.drop n0).take n1 = cs.toList.drop n0 := List.take_of_length_le (by rw [List.length_drop]; omega)
   show cs.toList = cells (a ++ b)
   rw [cells_append, ← e1, ← e2, e3, List.take_append_drop]
 · simp only [Prod.mk.injEq] at hx
   rw [hx.2, pa, pb]; rfl
end Go.Proofs.YtmkeioeodlidgaaGreatDoor
