/- Several texts in one: Plain words, for any program: a struct of two arrays of bytes that comes in by value. A packet that comes in by value, opened. No statement is proved here. -/
import Derived.Test.YtmkeioeodlidgaaGreatDoorZM33
import Derived.ChangeSame
import Derived.Test.YtmkeioeodlidgaaGreatDoorZM1
import Derived.Test.YtmkeioeodlidgaaGreatDoorZM16
import Derived.Deep.Fields
import Derived.OpenShut
import Derived.Lib.SmallJoins
namespace Go.Proofs.YtmkeioeodlidgaaGreatDoor
open Go.RowKit Go.ChangeShapes Go.WideShapes

theorem trod_bytes {H : Type} {enc : TypeId × Value → H} {P : Program} {w : World} {base : Nat} {spare : Nat → Bool} {held : Bool} {t e : TypeId} {cs : List Value} {x : DataW H × List MemPlace} {n fuel : Nat} (ht : P.underlying t = some (.array n e)) (he : P.underlying e = some (.int .u8)) (hce : P.cellsOf e = 1) (hcl : cs.length = n)
    (hf : DataW.trod enc P w base spare held fuel t cs = some x) : ∃ bs : List UInt8, bs.length = n ∧ cs = cells bs ∧ x.2 = [] := by
  obtain ⟨xs, m, _, hx, _, hl, hg⟩ := DataW.trod_array ht hf
  have key : ∀ i, i < n → ∃ b : UInt8, cs[i]? = some (.int .u8 (b.toNat : Int)) ∧ ∃ y, xs[i]? = some y ∧ y.2 = [] := by
    intro i hi
    have h := hg i hi
    rw [hce, Nat.mul_one] at h
    have hxi : xs[i]? = some xs[i] := List.getElem?_eq_getElem (by omega)
    rw [hxi] at h
    obtain ⟨z, hz, hp, hw⟩ := DataW.trod_int he h
    have hb := bounds_u8 hw
    refine ⟨UInt8.ofNat z.toNat, ?_, _, hxi, by rw [hp]⟩
    have hi2 : i < cs.length := by omega
    have hz' : ((cs.drop i).take 1) = [.int .u8 z] := hz
    rw [List.drop_eq_getElem_cons hi2] at hz'
    simp only [List.take_succ_cons, List.take_zero, List.cons.injEq, and_true] at hz'
    rw [List.getElem?_eq_getElem hi2, hz', UInt8.toNat_ofNat']
    congr 2
    omega
  have hps : x.2 = [] := by
    rw [hx]
    simp only [List.flatMap_eq_nil_iff]
    intro y hy
    obtain ⟨i, hi, rfl⟩ := List.mem_iff_getElem.1 hy
    obtain ⟨_, _, y, h1, h2⟩ := key i (by omega)
    rw [List.getElem?_eq_getElem hi] at h1
    injection h1 with h1
    rw [h1]; exact h2
  refine ⟨(List.range n).map fun i => byteAt (cs[i]?), by simp, ?_, hps⟩
  apply List.ext_getElem?
  intro i
  rcases Nat.lt_or_ge i n with hi | hi
  · obtain ⟨b, hb, _⟩ := key i hi
    have e : byteAt (cs[i]?) = b := by
      rw [hb]
      simp [byteAt]
    rw [hb]
    simp only [cells, List.map_map, List.getElem?_map, List.getElem?_range hi, Option.map_some, Function.comp_apply, e]
  · rw [List.getElem?_eq_none (by omega), List.getElem?_eq_none (by simp [cells]; omega)]
theorem open_pair {H : Type} {enc : TypeId × Value → H} {P : Program} {w : World} {base : Nat} {spare : Nat → Bool} {held : Bool} {r : Reach} {b0 : Nat} {t e : TypeId} {f0 f1 : Field} {v : Value} {d : DataW H} {ps : List MemPlace} {n0 n1 : Nat} (hs : P.underlying t = some (.struct #[f0, f1])) (h0 : P.underlying f0.type = some (.array n0 e)) (h1 : P.underlying f1.type = some (.array n1 e)) (he : P.underlying e = some (.int .u8)) (hce : P.cellsOf e = 1)
    (hct : P.cellsOf t = n0 + n1) (c0 : P.cellsOf f0.type = n0) (c1 : P.cellsOf f1.type = n1) (o0 : f0.offset = 0) (o1 : f1.offset = n0)
    (hval : Value.okWide P w r b0 t v) (hd : DataW.Trod enc P w base spare held t v d ps) : ∃ a b : List UInt8, a.length = n0 ∧ b.length = n1 ∧ v = .agg (cells (a ++ b)).toArray ∧ ps = [] := by
  obtain ⟨cs, rfl, hsz⟩ := okWide_struct hs hval
  obtain ⟨fuel, hf⟩ := hd
  obtain ⟨y0, y1, n, hx, hl, g0, g1⟩ := trod_struct2 hs hf
  have hcl : cs.toList.length = n0 + n1 := by simp [hsz, hct]
  rw [o0, c0, List.drop_zero] at g0
  rw [o1, c1] at g1
  obtain ⟨a, la, ha, pa⟩ := trod_bytes h0 he hce (by show (cs.toList.take n0).length = n0; rw [List.length_take]; omega) g0
  obtain ⟨b, lb, hb, pb⟩ := trod_bytes h1 he hce (by show ((cs.toList.drop n0).take n1).length = n1; rw [List.length_take, List.length_drop]; omega) g1
  refine ⟨a, b, la, lb, ?_, ?_⟩
  · congr 1
    rw [← Array.toList_inj]
    have e1 : cs.toList.take n0 = cells a := ha
    have e2 : (cs.toList.drop n0).take n1 = cells b := hb
    have e3 : (cs.toList.drop n0).take n1 = cs.toList.drop n0 := List.take_of_length_le (by rw [List.length_drop]; omega)
    show cs.toList = cells (a ++ b)
    rw [cells_append, ← e1, ← e2, e3, List.take_append_drop]
  · simp only [Prod.mk.injEq] at hx
    rw [hx.2, pa, pb]; rfl
end Go.Proofs.YtmkeioeodlidgaaGreatDoor

namespace Go.Proofs.YtmkeioeodlidgaaGreatDoor
open Go.RowKit Go.ChangeShapes Go.WideShapes Go.Deep
set_option linter.unusedVariables false

section
variable {H : Type} {enc : TypeId × Value → H} {P : Program} {w : World} {base : Nat} {spare : Nat → Bool} {held : Bool}
theorem open_agg11 {r : Reach} {b0 : Nat} {t : TypeId} {f0 f1 f2 f3 f4 f5 f6 f7 f8 f9 f10 : Field} {v : Value} {d : DataW H} {p : List MemPlace} (hs : P.underlying t = some (.struct #[f0, f1, f2, f3, f4, f5, f6, f7, f8, f9, f10])) (hone : oneCellFields P #[f0, f1, f2, f3, f4, f5, f6, f7, f8, f9, f10] = true) (hC : P.cellsOf t = 11)
    (hv : Value.okWide P w r b0 t v) (h : DataW.Trod enc P w base spare held t v d p) :
    ∃ (v0 v1 v2 v3 v4 v5 v6 v7 v8 v9 v10 : Value) (n : Nat), v = .agg #[v0, v1, v2, v3, v4, v5, v6, v7, v8, v9, v10] ∧ (∃ y, DataW.trod enc P w base spare held n f0.type [v0] = some y) ∧ (∃ y, DataW.trod enc P w base spare held n f1.type [v1] = some y) ∧ (∃ y, DataW.trod enc P w base spare held n f2.type [v2] = some y) ∧ (∃ y, DataW.trod enc P w base spare held n f3.type [v3] = some y) ∧ (∃ y, DataW.trod enc P w base spare held n f4.type [v4] = some y) ∧ (∃ y, DataW.trod enc P w base spare held n f5.type [v5] = some y) ∧ (∃ y, DataW.trod enc P w base spare held n f6.type [v6] = some y) ∧ (∃ y, DataW.trod enc P w base spare held n f7.type [v7] = some y) ∧ (∃ y, DataW.trod enc P w base spare held n f8.type [v8] = some y) ∧ (∃ y, DataW.trod enc P w base spare held n f9.type [v9] = some y) ∧ (∃ y, DataW.trod enc P w base spare held n f10.type [v10] = some y) := by
  obtain ⟨cs, rfl, hsz⟩ := okWide_struct hs hv
  obtain ⟨l⟩ := cs
  match l, hsz.trans hC with
  | [c0, c1, c2, c3, c4, c5, c6, c7, c8, c9, c10], _ =>
    obtain ⟨fuel, hf⟩ := h
    obtain ⟨xs, n, _, hx, _, hlen, hg⟩ := DataW.trod_struct hs hf
    obtain ⟨o0, k0⟩ := hone_of hone 0 f0 rfl
    obtain ⟨o1, k1⟩ := hone_of hone 1 f1 rfl
    obtain ⟨o2, k2⟩ := hone_of hone 2 f2 rfl
    obtain ⟨o3, k3⟩ := hone_of hone 3 f3 rfl
    obtain ⟨o4, k4⟩ := hone_of hone 4 f4 rfl
    obtain ⟨o5, k5⟩ := hone_of hone 5 f5 rfl
    obtain ⟨o6, k6⟩ := hone_of hone 6 f6 rfl
    obtain ⟨o7, k7⟩ := hone_of hone 7 f7 rfl
    obtain ⟨o8, k8⟩ := hone_of hone 8 f8 rfl
    obtain ⟨o9, k9⟩ := hone_of hone 9 f9 rfl
    obtain ⟨o10, k10⟩ := hone_of hone 10 f10 rfl
    match xs, hlen with
    | [y0, y1, y2, y3, y4, y5, y6, y7, y8, y9, y10], _ =>
      exact ⟨c0, c1, c2, c3, c4, c5, c6, c7, c8, c9, c10, n, rfl, ⟨y0, by simpa [Value.cells, o0, k0] using hg 0 f0 rfl⟩, ⟨y1, by simpa [Value.cells, o1, k1] using hg 1 f1 rfl⟩, ⟨y2, by simpa [Value.cells, o2, k2] using hg 2 f2 rfl⟩, ⟨y3, by simpa [Value.cells, o3, k3] using hg 3 f3 rfl⟩, ⟨y4, by simpa [Value.cells, o4, k4] using hg 4 f4 rfl⟩, ⟨y5, by simpa [Value.cells, o5, k5] using hg 5 f5 rfl⟩, ⟨y6, by simpa [Value.cells, o6, k6] using hg 6 f6 rfl⟩, ⟨y7, by simpa [Value.cells, o7, k7] using hg 7 f7 rfl⟩, ⟨y8, by simpa [Value.cells, o8, k8] using hg 8 f8 rfl⟩, ⟨y9, by simpa [Value.cells, o9, k9] using hg 9 f9 rfl⟩, ⟨y10, by simpa [Value.cells, o10, k10] using hg 10 f10 rfl⟩⟩
end

section
variable {H : Type} {enc : TypeId × Value → H} {w : World} {n : Nat}
theorem opened_bytes {v : Value} (h : ∃ y, DataW.trod enc Tryz.prog w 0 (fun _ => true) true n 35 [v] = some y) : ∃ A c bs, v = .slice A (List.length bs) c ∧ RdS w A bs.length c bs := by
  obtain ⟨y, hf⟩ := h
  rcases open_ints Tryz.underlying35 Tryz.underlying5 (by kernel_rfl) hf with ⟨hcs, _⟩ | ⟨x, l, c, zs, hcs, _, hl, hm, hz, _, hcell, hwz⟩
  · simp at hcs
    subst hcs
    exact ⟨none, 0, [], rfl, RdS.nil w⟩
  · simp at hcs
    subst hcs
    obtain ⟨bs, hb⟩ := RdS.of_row (w := w) (a := some x) (len := l) (cap := c) (zs := zs) (.inr ⟨_, rfl, hl, hm, by simpa using hz, hcell, hwz⟩)
    have hn := hb.len
    subst hn
    exact ⟨some x, c, bs, rfl, hb⟩
theorem opened_words {v : Value} (h : ∃ y, DataW.trod enc Tryz.prog w 0 (fun _ => true) true n 34 [v] = some y) : ∃ A c U, v = .slice A (List.length U) c ∧ RdU w A U.length U ∧ ∀ x ∈ U, x < 4294967296 := by
  obtain ⟨y, hf⟩ := h
  rcases open_ints Tryz.underlying34 Tryz.underlying33 (by kernel_rfl) hf with ⟨hcs, _⟩ | ⟨x, l, c, zs, hcs, _, hl, hm, hz, _, hc, hwz⟩
  · simp at hcs
    subst hcs
    exact ⟨none, 0, [], rfl, ⟨rfl, by simp, fun h => by simp at h⟩, by simp⟩
  · simp at hcs
    subst hcs
    simp only [if_true] at hz
    have hlU : ((zs.take l).map Int.toNat).length = l := by simp; omega
    have hlm : l ≤ 9223372036854775807 := by simp only [maxLen] at hm; omega
    refine ⟨some x, c, (zs.take l).map Int.toNat, by rw [hlU], ⟨rfl, by rw [hlU]; exact hlm, fun hn => ?_⟩, fun z hz' => ?_⟩
    · rw [hlU] at hn ⊢
      obtain ⟨b, off, spot⟩ := x
      have h0 := hc 0 (by omega)
      have hs : spot = none := by simpa [Addr.add] using World.cell?_spot h0
      subst hs
      have hadd : ∀ j, (⟨b, off, none⟩ : Addr).add j = ⟨b, off + j, none⟩ := fun j => by unfold Addr.add; split <;> simp_all
      refine ⟨b, off, rfl, ?_, fun j hj => ?_⟩
      · have := World.block_lt_of_cell? w _ h0
        rw [hadd] at this
        exact this
      · have hcj := hc j (by omega)
        rw [hadd] at hcj
        have hjz : j < zs.length := by omega
        have hwj := bounds_u32 (hwz (zs[j]) (List.getElem_mem hjz))
        rw [hcj]
        simp only [List.getD, hjz, hj, List.getElem?_map, List.getElem?_take, if_true, List.getElem?_eq_getElem, Option.map_some, Option.getD_some]
        congr 2
        omega
    · obtain ⟨q, hq, rfl⟩ := List.mem_map.1 hz'
      have := bounds_u32 (hwz q (List.mem_of_mem_take hq))
      omega
theorem opened_bool {v : Value} (h : ∃ y, DataW.trod enc Tryz.prog w 0 (fun _ => true) true n 4 [v] = some y) : ∃ b, v = .bool b := by
  obtain ⟨y, hf⟩ := h
  obtain ⟨b, hb, _⟩ := DataW.trod_bool Tryz.underlying4 hf
  simp at hb
  exact ⟨b, hb⟩
theorem opened_u8 {v : Value} (h : ∃ y, DataW.trod enc Tryz.prog w 0 (fun _ => true) true n 5 [v] = some y) : ∃ x : Nat, v = .int .u8 (x : Int) ∧ x < 256 := by
  obtain ⟨y, hf⟩ := h
  obtain ⟨z, hz, _, hw⟩ := DataW.trod_int Tryz.underlying5 hf
  simp at hz
  have hb := bounds_u8 hw
  refine ⟨z.toNat, ?_, by omega⟩
  rw [hz]
  congr 1
  omega
theorem opened_u16 {v : Value} (h : ∃ y, DataW.trod enc Tryz.prog w 0 (fun _ => true) true n 32 [v] = some y) : ∃ x : Nat, v = .int .u16 (x : Int) ∧ x < 65536 := by
  obtain ⟨y, hf⟩ := h
  obtain ⟨z, hz, _, hw⟩ := DataW.trod_int Tryz.underlying32 hf
  simp at hz
  have hb := bounds_u16 hw
  refine ⟨z.toNat, ?_, by omega⟩
  rw [hz]
  congr 1
  omega
theorem opened_u32 {v : Value} (h : ∃ y, DataW.trod enc Tryz.prog w 0 (fun _ => true) true n 33 [v] = some y) : ∃ x : Nat, v = .int .u32 (x : Int) ∧ x < 4294967296 := by
  obtain ⟨y, hf⟩ := h
  obtain ⟨z, hz, _, hw⟩ := DataW.trod_int Tryz.underlying33 hf
  simp at hz
  have hb := bounds_u32 hw
  refine ⟨z.toNat, ?_, by omega⟩
  rw [hz]
  congr 1
  omega

set_option maxRecDepth 100000 in
theorem open_rtp {r : Reach} {b0 : Nat} {v : Value} {d : DataW H} {p : List MemPlace} (hv : Value.okWide Tryz.prog w r b0 37 v) (h : DataW.Trod enc Tryz.prog w 0 (fun _ => true) true 37 v d p) : ∃ cs q, v = .agg (List.toArray cs) ∧ PkRd w cs q ∧ fits q := by
  obtain ⟨v0, v1, v2, v3, v4, v5, v6, v7, v8, v9, v10, n, rfl, h0, h1, h2, h3, h4, h5, h6, h7, h8, h9, h10⟩ := open_agg11 Tryz.underlying37 (by kernel_rfl) (by kernel_rfl) hv h
  obtain ⟨m, rfl⟩ := opened_bool h0
  obtain ⟨ty, rfl, _⟩ := opened_u8 h1
  obtain ⟨sq, rfl, l2⟩ := opened_u16 h2
  obtain ⟨st, rfl, l3⟩ := opened_u32 h3
  obtain ⟨so, rfl, l4⟩ := opened_u32 h4
  obtain ⟨A, a, U, rfl, hu, l5⟩ := opened_words h5
  obtain ⟨x, rfl⟩ := opened_bool h6
  obtain ⟨pf, rfl, l7⟩ := opened_u16 h7
  obtain ⟨B, b, X, rfl, hx⟩ := opened_bytes h8
  obtain ⟨D, e, Y, rfl, hy⟩ := opened_bytes h9
  obtain ⟨pd, rfl, l10⟩ := opened_u8 h10
  exact ⟨rtpC m ty sq st so (.slice A U.length a) x pf (.slice B X.length b) (.slice D Y.length e) pd, ⟨m, ty, sq, st, so, U, x, pf, X, Y, pd⟩, rfl, ⟨A, a, B, b, D, e, rfl, hu, hx, hy⟩, l2, l3, l4, l5, l7, l10⟩
end
end Go.Proofs.YtmkeioeodlidgaaGreatDoor
