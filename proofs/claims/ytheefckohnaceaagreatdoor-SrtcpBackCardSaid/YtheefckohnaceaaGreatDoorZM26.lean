/- Several texts in one: plain words and walks. No statement is proved here. -/
import Derived.Test.YtheefckohnaceaaGreatDoorZBytes
import Derived.WideKeyArgs
import Derived.OpenShut
import Derived.WideShapes
import Derived.ChangeSame
import Derived.Test.YtheefckohnaceaaGreatDoorZRtcpS1
import Derived.Test.YtheefckohnaceaaGreatDoorZM23
import Derived.Test.YtheefckohnaceaaGreatDoorZSrtcP4
import Derived.Test.YtheefckohnaceaaGreatDoorZM24
import Derived.Test.YtheefckohnaceaaGreatDoorZM25
import Derived.Test.YtheefckohnaceaaGreatDoorZM5
namespace Go.Proofs.YtheefckohnaceaaGreatDoor
open Go.RowKit Go.ChangeShapes Go.WideShapes

def byteAt (v : Option Value) : UInt8 := match v with
 | some (Value.int IntKind.u8 z) => UInt8.ofNat z.toNat
 | _ => 0
end Go.Proofs.YtheefckohnaceaaGreatDoor

namespace Go.Proofs.YtheefckohnaceaaGreatDoor
open Go.RowKit Go.ChangeShapes Go.WideShapes

theorem trod_bytes {H : Type} {enc : TypeId × Value → H} {P : Program} {w : World} {base : Nat} {spare : Nat → Bool} {held : Bool} {t e : TypeId} {cs : List Value} {x : DataW H × List MemPlace} {n fuel : Nat} (ht : P.underlying t = some (.array n e)) (he : P.underlying e = some (.int .u8)) (hce : P.cellsOf e = 1) (hcl : cs.length = n)
 (hf : DataW.trod enc P w base spare held fuel t cs = some x) : ∃ bs : List UInt8, bs.length = n ∧ cs = cells bs ∧ x.2 = [] := by
 obtain ⟨xs, m, _, hx, _, hl, hg⟩ := DataW.trod_array ht hf
 have key : ∀ i, i < n → ∃ b : UInt8, cs[i]? = some (.int .u8 (b.toNat : Int)) ∧ ∃ y, xs[i]? = some y ∧ y.2 = [] := by
  intro i hi
  have h := hg i hi
  rw [hce, Nat.mul_one] at h
  have hxi : xs[i]? = some xs[i] := List.getElem?_eq_getElem (by omega)
  rw [hxi] at h
  obtain ⟨z, hz, hp, hw⟩ := DataW.trod_int he h
  have hb := bounds_u8 hw
  refine ⟨UInt8.ofNat z.toNat, ?_, _, hxi, by rw [hp]⟩
  have hi2 : i < cs.length := by omega
  have hz' : ((cs.drop i).take 1) = [.int .u8 z] := hz
  rw [List.drop_eq_getElem_cons hi2] at hz'
  simp only [List.take_succ_cons, List.take_zero, List.cons.injEq, and_true] at hz'
  rw [List.getElem?_eq_getElem hi2, hz', UInt8.toNat_ofNat']
  congr 2
  omega
 have hps : x.2 = [] := by
  rw [hx]
  simp only [List.flatMap_eq_nil_iff]
  intro y hy
  obtain ⟨i, hi, rfl⟩ := List.mem_iff_getElem.1 hy
  obtain ⟨_, _, y, h1, h2⟩ := key i (by omega)
  rw [List.getElem?_eq_getElem hi] at h1
  injection h1 with h1
  rw [h1]; exact h2
 refine ⟨(List.range n).map fun i => byteAt (cs[i]?), by simp, ?_, hps⟩
 apply List.ext_getElem?
 intro i
 rcases Nat.lt_or_ge i n with hi | hi
 · obtain ⟨b, hb, _⟩ := key i hi
   have e : byteAt (cs[i]?) = b := by
    rw [hb]
    simp [byteAt]
   rw [hb]
   simp only [cells, List.map_map, List.getElem?_map, List.getElem?_range hi, Option.map_some, Function.comp_apply, e]
 · rw [List.getElem?_eq_none (by omega), List.getElem?_eq_none (by simp [cells]; omega)]
theorem open_pair {H : Type} {enc : TypeId × Value → H} {P : Program} {w : World} {base : Nat} {spare : Nat → Bool} {held : Bool} {r : Reach} {b0 : Nat} {t e : TypeId} {f0 f1 : Field} {v : Value} {d : DataW H} {ps : List MemPlace} {n0 n1 : Nat} (hs : P.underlying t = some (.struct #[f0, f1])) (h0 : P.underlying f0.type = some (.array n0 e)) (h1 : P.underlying f1.type = some (.array n1 e)) (he : P.underlying e = some (.int .u8)) (hce : P.cellsOf e = 1)
 (hct : P.cellsOf t = n0 + n1) (c0 : P.cellsOf f0.type = n0) (c1 : P.cellsOf f1.type = n1) (o0 : f0.offset = 0) (o1 : f1.offset = n0)
 (hval : Value.okWide P w r b0 t v) (hd : DataW.Trod enc P w base spare held t v d ps) : ∃ a b : List UInt8, a.length = n0 ∧ b.length = n1 ∧ v = .agg (cells (a ++ b)).toArray ∧ ps = [] := by
 obtain ⟨cs, rfl, hsz⟩ := okWide_struct hs hval
 obtain ⟨fuel, hf⟩ := hd
 obtain ⟨y0, y1, n, hx, hl, g0, g1⟩ := trod_struct2 hs hf
 have hcl : cs.toList.length = n0 + n1 := by simp [hsz, hct]
 rw [o0, c0, List.drop_zero] at g0
 rw [o1, c1] at g1
 obtain ⟨a, la, ha, pa⟩ := trod_bytes h0 he hce (by show (cs.toList.take n0).length = n0; rw [List.length_take]; omega) g0
 obtain ⟨b, lb, hb, pb⟩ := trod_bytes h1 he hce (by show ((cs.toList.drop n0).take n1).length = n1; rw [List.length_take, List.length_drop]; omega) g1
 refine ⟨a, b, la, lb, ?_, ?_⟩
 · congr 1
   rw [← Array.toList_inj]
   have e1 : cs.toList.take n0 = cells a := ha
   have e2 : (cs.toList.drop n0).take n1 = cells b := hb
   have e3 : (cs.toList.drop n0).take n1 = cs.toList.drop n0 := List.take_of_length_le (by rw [List.length_drop]; omega)
   show cs.toList = cells (a ++ b)
   rw [cells_append, ← e1, ← e2, e3, List.take_append_drop]
 · simp only [Prod.mk.injEq] at hx
   rw [hx.2, pa, pb]; rfl
end Go.Proofs.YtheefckohnaceaaGreatDoor

namespace Go.Proofs.YtheefckohnaceaaGreatDoor
open List renaming getElem_toArray → xgT, getElem_cons_succ → xgS, getElem_cons_zero → xgZ, setIfInBounds_toArray → xsT, set_cons_succ → xsS, set_cons_zero → xsZ
open Go.RowKit
set_option linter.unusedVariables false

theorem oneB2 (w : World) (cs : List Value) (e : TypeId) (o : Obj) : BlkV ((w.alloc (.cells cs.toArray e)).alloc o) w.heap.size e cs := (BlkV.new w e cs).below ((Below.refl _ _).alloc (Nat.le_refl _) _) (BlkV.new w e cs).lt
set_option maxRecDepth 100000 in
set_option maxHeartbeats 4000000 in
theorem same_raw (x0 : Int) (x1 x2 x3 x4 x5 x6 x12 : Nat) (n7 n8 n9 n10 n11 q7a q7b q8a q8b q9a q9b q10a q10b q11a q11b : Nat) (A7a A7b A8a A8b A9a A9b A10a A10b A11a A11b : Option Addr) (L7 : List Rep) (L8 : List (Nat × List UInt8)) (L9 : List Nat) (L10 L11 : List (Nat × Nat)) (w : World)
 (l7 : L7.length = n7) (l8 : L8.length = n8) (l9 : L9.length = n9) (l10 : L10.length = n10) (l11 : L11.length = n11)
 (m7 : n7 ≤ 1000) (m8 : n8 ≤ 1000) (m9 : n9 ≤ 1000) (m10 : n10 ≤ 1000) (m11 : n11 ≤ 1000)
 (r7a : RdG 7 w A7a (L7.map cRep)) (r7b : RdG 7 w A7b (L7.map cRep)) (r8a : RdG 2 w A8a (L8.map cNam)) (r8b : RdG 2 w A8b (L8.map cNam)) (r9a : RdG 1 w A9a (L9.map cSrc)) (r9b : RdG 1 w A9b (L9.map cSrc)) (r10a : RdG 2 w A10a (L10.map cLos)) (r10b : RdG 2 w A10b (L10.map cLos)) (r11a : RdG 2 w A11a (L11.map cFir)) (r11b : RdG 2 w A11b (L11.map cFir)) :
 Calls Tryz.prog 25 #[.agg #[.int .i64 x0, .int .u32 (x1 : Int), .int .u32 (x2 : Int), .int .u64 (x3 : Int), .int .u32 (x4 : Int), .int .u32 (x5 : Int), .int .u32 (x6 : Int), .slice A7a n7 q7a, .slice A8a n8 q8a, .slice A9a n9 q9a, .slice A10a n10 q10a, .slice A11a n11 q11a, .int .u64 (x12 : Int)], .agg #[.int .i64 x0, .int .u32 (x1 : Int), .int .u32 (x2 : Int), .int .u64 (x3 : Int), .int .u32 (x4 : Int), .int .u32 (x5 : Int), .int .u32 (x6 : Int), .slice A7b n7 q7b, .slice A8b n8 q8b, .slice A9b n9 q9b, .slice A10b n10 q10b, .slice A11b n11 q11b, .int .u64 (x12 : Int)]] w fun r w' => r = .returned (.bool true) ∧ Below w.heap.size w w' := by
 have b0 := twoBelow w (.cells #[.int .i64 x0, .int .u32 (x1 : Int), .int .u32 (x2 : Int), .int .u64 (x3 : Int), .int .u32 (x4 : Int), .int .u32 (x5 : Int), .int .u32 (x6 : Int), .slice A7a n7 q7a, .slice A8a n8 q8a, .slice A9a n9 q9a, .slice A10a n10 q10a, .slice A11a n11 q11a, .int .u64 (x12 : Int)] 58) (.cells #[.int .i64 x0, .int .u32 (x1 : Int), .int .u32 (x2 : Int), .int .u64 (x3 : Int), .int .u32 (x4 : Int), .int .u32 (x5 : Int), .int .u32 (x6 : Int), .slice A7b n7 q7b, .slice A8b n8 q8b, .slice A9b n9 q9b, .slice A10b n10 q10b, .slice A11b n11 q11b, .int .u64 (x12 : Int)] 58)
 have VA := Lib.hid (oneB2 w [.int .i64 x0, .int .u32 (x1 : Int), .int .u32 (x2 : Int), .int .u64 (x3 : Int), .int .u32 (x4 : Int), .int .u32 (x5 : Int), .int .u32 (x6 : Int), .slice A7a n7 q7a, .slice A8a n8 q8a, .slice A9a n9 q9a, .slice A10a n10 q10a, .slice A11a n11 q11a, .int .u64 (x12 : Int)] 58 (.cells #[.int .i64 x0, .int .u32 (x1 : Int), .int .u32 (x2 : Int), .int .u64 (x3 : Int), .int .u32 (x4 : Int), .int .u32 (x5 : Int), .int .u32 (x6 : Int), .slice A7b n7 q7b, .slice A8b n8 q8b, .slice A9b n9 q9b, .slice A10b n10 q10b, .slice A11b n11 q11b, .int .u64 (x12 : Int)] 58))
 have VB := Lib.hid (twoB w (.cells #[.int .i64 x0, .int .u32 (x1 : Int), .int .u32 (x2 : Int), .int .u64 (x3 : Int), .int .u32 (x4 : Int), .int .u32 (x5 : Int), .int .u32 (x6 : Int), .slice A7a n7 q7a, .slice A8a n8 q8a, .slice A9a n9 q9a, .slice A10a n10 q10a, .slice A11a n11 q11a, .int .u64 (x12 : Int)] 58) [.int .i64 x0, .int .u32 (x1 : Int), .int .u32 (x2 : Int), .int .u64 (x3 : Int), .int .u32 (x4 : Int), .int .u32 (x5 : Int), .int .u32 (x6 : Int), .slice A7b n7 q7b, .slice A8b n8 q8b, .slice A9b n9 q9b, .slice A10b n10 q10b, .slice A11b n11 q11b, .int .u64 (x12 : Int)] 58)
 have R7a := Lib.hid (r7a.below b0)
 have R7b := Lib.hid (r7b.below b0)
 have K7 := Lib.hid l7
 have R8a := Lib.hid (r8a.below b0)
 have R8b := Lib.hid (r8b.below b0)
 have K8 := Lib.hid l8
 have R9a := Lib.hid (r9a.below b0)
 have R9b := Lib.hid (r9b.below b0)
 have K9 := Lib.hid l9
 have R10a := Lib.hid (r10a.below b0)
 have R10b := Lib.hid (r10b.below b0)
 have K10 := Lib.hid l10
 have R11a := Lib.hid (r11a.below b0)
 have R11b := Lib.hid (r11b.below b0)
 have K11 := Lib.hid l11
 have B0 := Lib.hid b0
 clear b0 r7a r7b l7 r8a r8b l8 r9a r9b l9 r10a r10b l10 r11a r11b l11
 go_enter Tryz.func25, Tryz.ntmps25
 go_wp2
 have HB := Lib.hid (Below.refl ((w.alloc (.cells #[.int .i64 x0, .int .u32 (x1 : Int), .int .u32 (x2 : Int), .int .u64 (x3 : Int), .int .u32 (x4 : Int), .int .u32 (x5 : Int), .int .u32 (x6 : Int), .slice A7a n7 q7a, .slice A8a n8 q8a, .slice A9a n9 q9a, .slice A10a n10 q10a, .slice A11a n11 q11a, .int .u64 (x12 : Int)] 58)).alloc (.cells #[.int .i64 x0, .int .u32 (x1 : Int), .int .u32 (x2 : Int), .int .u64 (x3 : Int), .int .u32 (x4 : Int), .int .u32 (x5 : Int), .int .u32 (x6 : Int), .slice A7b n7 q7b, .slice A8b n8 q8b, .slice A9b n9 q9b, .slice A10b n10 q10b, .slice A11b n11 q11b, .int .u64 (x12 : Int)] 58)).heap.size ((w.alloc (.cells #[.int .i64 x0, .int .u32 (x1 : Int), .int .u32 (x2 : Int), .int .u64 (x3 : Int), .int .u32 (x4 : Int), .int .u32 (x5 : Int), .int .u32 (x6 : Int), .slice A7a n7 q7a, .slice A8a n8 q8a, .slice A9a n9 q9a, .slice A10a n10 q10a, .slice A11a n11 q11a, .int .u64 (x12 : Int)] 58)).alloc (.cells #[.int .i64 x0, .int .u32 (x1 : Int), .int .u32 (x2 : Int), .int .u64 (x3 : Int), .int .u32 (x4 : Int), .int .u32 (x5 : Int), .int .u32 (x6 : Int), .slice A7b n7 q7b, .slice A8b n8 q8b, .slice A9b n9 q9b, .slice A10b n10 q10b, .slice A11b n11 q11b, .int .u64 (x12 : Int)] 58)))
 generalize hw0 : (w.alloc (.cells #[.int .i64 x0, .int .u32 (x1 : Int), .int .u32 (x2 : Int), .int .u64 (x3 : Int), .int .u32 (x4 : Int), .int .u32 (x5 : Int), .int .u32 (x6 : Int), .slice A7a n7 q7a, .slice A8a n8 q8a, .slice A9a n9 q9a, .slice A10a n10 q10a, .slice A11a n11 q11a, .int .u64 (x12 : Int)] 58)).alloc (.cells #[.int .i64 x0, .int .u32 (x1 : Int), .int .u32 (x2 : Int), .int .u64 (x3 : Int), .int .u32 (x4 : Int), .int .u32 (x5 : Int), .int .u32 (x6 : Int), .slice A7b n7 q7b, .slice A8b n8 q8b, .slice A9b n9 q9b, .slice A10b n10 q10b, .slice A11b n11 q11b, .int .u64 (x12 : Int)] 58) = w0 at *
 clear hw0
 go_loopw [5] (fun i wx => ∃ k : Nat, k ≤ n7 ∧ i = .int .i64 k ∧ Hid (Below w0.heap.size w0 wx)) (fun i _ => n7 - (intOf i).toNat)
 case atStart => exact ⟨0, by omega, rfl, HB⟩
 case round =>
  clear HB
  obtain ⟨k, hk, rfl, HB⟩ := hrel
  have ya : wr.cell? ⟨w.heap.size, 7, none⟩ = some (.slice A7a n7 q7a) := ((VA.out.below HB.out VA.out.lt).cell 7).trans rfl
  have yb : wr.cell? ⟨w.heap.size + 1, 7, none⟩ = some (.slice A7b n7 q7b) := ((VB.out.below HB.out VB.out.lt).cell 7).trans rfl
  by_cases hkn : k < n7
  · have hkl : k < L7.length := by rw [K7.out]; exact hkn
    obtain ⟨ba, oa, rfl, ga⟩ := R7a.out.at_ hkl
    obtain ⟨bb, ob, rfl, gb⟩ := R7b.out.at_ hkl
    have Ga := ga wr HB.out
    have Gb := gb wr HB.out
    obtain ⟨x, hx⟩ : ∃ x, x = L7[k] := ⟨_, rfl⟩
    rw [← hx] at Ga Gb
    clear hx ga gb
    obtain ⟨s0, s1, s2, s3, s4, s5, s6⟩ := x
    have ta0 : wr.cell? ⟨ba, oa + k * 7, none⟩ = some (.int .u32 (s0 : Int)) := by have := Ga 0 _ rfl; simpa using this
    have ta1 : wr.cell? ⟨ba, oa + k * 7 + 1, none⟩ = some (.int .u8 (s1 : Int)) := by have := Ga 1 _ rfl; simpa using this
    have ta2 : wr.cell? ⟨ba, oa + k * 7 + 2, none⟩ = some (.int .i32 s2) := by have := Ga 2 _ rfl; simpa using this
    have ta3 : wr.cell? ⟨ba, oa + k * 7 + 3, none⟩ = some (.int .u32 (s3 : Int)) := by have := Ga 3 _ rfl; simpa using this
    have ta4 : wr.cell? ⟨ba, oa + k * 7 + 4, none⟩ = some (.int .u32 (s4 : Int)) := by have := Ga 4 _ rfl; simpa using this
    have ta5 : wr.cell? ⟨ba, oa + k * 7 + 5, none⟩ = some (.int .u32 (s5 : Int)) := by have := Ga 5 _ rfl; simpa using this
    have ta6 : wr.cell? ⟨ba, oa + k * 7 + 6, none⟩ = some (.int .u32 (s6 : Int)) := by have := Ga 6 _ rfl; simpa using this
    have tb0 : wr.cell? ⟨bb, ob + k * 7, none⟩ = some (.int .u32 (s0 : Int)) := by have := Gb 0 _ rfl; simpa using this
    have tb1 : wr.cell? ⟨bb, ob + k * 7 + 1, none⟩ = some (.int .u8 (s1 : Int)) := by have := Gb 1 _ rfl; simpa using this
    have tb2 : wr.cell? ⟨bb, ob + k * 7 + 2, none⟩ = some (.int .i32 s2) := by have := Gb 2 _ rfl; simpa using this
    have tb3 : wr.cell? ⟨bb, ob + k * 7 + 3, none⟩ = some (.int .u32 (s3 : Int)) := by have := Gb 3 _ rfl; simpa using this
    have tb4 : wr.cell? ⟨bb, ob + k * 7 + 4, none⟩ = some (.int .u32 (s4 : Int)) := by have := Gb 4 _ rfl; simpa using this
    have tb5 : wr.cell? ⟨bb, ob + k * 7 + 5, none⟩ = some (.int .u32 (s5 : Int)) := by have := Gb 5 _ rfl; simpa using this
    have tb6 : wr.cell? ⟨bb, ob + k * 7 + 6, none⟩ = some (.int .u32 (s6 : Int)) := by have := Gb 6 _ rfl; simpa using this
    clear Ga Gb
    go_wp2
    go_quiet (fail)
    have h3 := Lib.hid (below_drewN HB.out nq)
    generalize wr.drewN nq = wq at h3 ⊢
    go_wp2
    go_roundw
    case rel => exact ⟨k + 1, by omega, by go_num, h3⟩
    case measure => simp [intOf]; omega
  · obtain rfl : k = n7 := by omega
    clear hk hkn
    go_wp2
    go_loopw [6] (fun i wx => ∃ k : Nat, k ≤ n8 ∧ i = .int .i64 k ∧ Hid (Below w0.heap.size w0 wx)) (fun i _ => n8 - (intOf i).toNat)
    case atStart => exact ⟨0, by omega, rfl, HB⟩
    case round =>
     clear HB
     obtain ⟨k, hk, rfl, HB⟩ := hrel
     have ya : wr.cell? ⟨w.heap.size, 8, none⟩ = some (.slice A8a n8 q8a) := ((VA.out.below HB.out VA.out.lt).cell 8).trans rfl
     have yb : wr.cell? ⟨w.heap.size + 1, 8, none⟩ = some (.slice A8b n8 q8b) := ((VB.out.below HB.out VB.out.lt).cell 8).trans rfl
     by_cases hkn : k < n8
     · have hkl : k < L8.length := by rw [K8.out]; exact hkn
       obtain ⟨ba, oa, rfl, ga⟩ := R8a.out.at_ hkl
       obtain ⟨bb, ob, rfl, gb⟩ := R8b.out.at_ hkl
       have Ga := ga wr HB.out
       have Gb := gb wr HB.out
       obtain ⟨x, hx⟩ : ∃ x, x = L8[k] := ⟨_, rfl⟩
       rw [← hx] at Ga Gb
       clear hx ga gb
       obtain ⟨s0, s1⟩ := x
       have ta0 : wr.cell? ⟨ba, oa + k * 2, none⟩ = some (.int .u32 (s0 : Int)) := by have := Ga 0 _ rfl; simpa using this
       have ta1 : wr.cell? ⟨ba, oa + k * 2 + 1, none⟩ = some (.string (txt s1)) := by have := Ga 1 _ rfl; simpa using this
       have tb0 : wr.cell? ⟨bb, ob + k * 2, none⟩ = some (.int .u32 (s0 : Int)) := by have := Gb 0 _ rfl; simpa using this
       have tb1 : wr.cell? ⟨bb, ob + k * 2 + 1, none⟩ = some (.string (txt s1)) := by have := Gb 1 _ rfl; simpa using this
       clear Ga Gb
       go_wp2
       go_quiet (fail)
       have h3 := Lib.hid (below_drewN HB.out nq)
       generalize wr.drewN nq = wq at h3 ⊢
       go_wp2
       go_roundw
       case rel => exact ⟨k + 1, by omega, by go_num, h3⟩
       case measure => simp [intOf]; omega
     · obtain rfl : k = n8 := by omega
       clear hk hkn
       go_wp2
       go_loopw [7] (fun i wx => ∃ k : Nat, k ≤ n9 ∧ i = .int .i64 k ∧ Hid (Below w0.heap.size w0 wx)) (fun i _ => n9 - (intOf i).toNat)
       case atStart => exact ⟨0, by omega, rfl, HB⟩
       case round =>
        clear HB
        obtain ⟨k, hk, rfl, HB⟩ := hrel
        have ya : wr.cell? ⟨w.heap.size, 9, none⟩ = some (.slice A9a n9 q9a) := ((VA.out.below HB.out VA.out.lt).cell 9).trans rfl
        have yb : wr.cell? ⟨w.heap.size + 1, 9, none⟩ = some (.slice A9b n9 q9b) := ((VB.out.below HB.out VB.out.lt).cell 9).trans rfl
        by_cases hkn : k < n9
        · have hkl : k < L9.length := by rw [K9.out]; exact hkn
          obtain ⟨ba, oa, rfl, ga⟩ := R9a.out.at_ hkl
          obtain ⟨bb, ob, rfl, gb⟩ := R9b.out.at_ hkl
          have Ga := ga wr HB.out
          have Gb := gb wr HB.out
          obtain ⟨x, hx⟩ : ∃ x, x = L9[k] := ⟨_, rfl⟩
          rw [← hx] at Ga Gb
          clear hx ga gb
          obtain ⟨s0, rfl⟩ : ∃ s0, s0 = x := ⟨_, rfl⟩
          have ta0 : wr.cell? ⟨ba, oa + k, none⟩ = some (.int .u32 (s0 : Int)) := by have := Ga 0 _ rfl; simpa using this
          have tb0 : wr.cell? ⟨bb, ob + k, none⟩ = some (.int .u32 (s0 : Int)) := by have := Gb 0 _ rfl; simpa using this
          clear Ga Gb
          go_wp2
          go_quiet (fail)
          have h3 := Lib.hid (below_drewN HB.out nq)
          generalize wr.drewN nq = wq at h3 ⊢
          go_wp2
          go_roundw
          case rel => exact ⟨k + 1, by omega, by go_num, h3⟩
          case measure => simp [intOf]; omega
        · obtain rfl : k = n9 := by omega
          clear hk hkn
          go_wp2
          go_loopw [8] (fun i wx => ∃ k : Nat, k ≤ n10 ∧ i = .int .i64 k ∧ Hid (Below w0.heap.size w0 wx)) (fun i _ => n10 - (intOf i).toNat)
          case atStart => exact ⟨0, by omega, rfl, HB⟩
          case round =>
           clear HB
           obtain ⟨k, hk, rfl, HB⟩ := hrel
           have ya : wr.cell? ⟨w.heap.size, 10, none⟩ = some (.slice A10a n10 q10a) := ((VA.out.below HB.out VA.out.lt).cell 10).trans rfl
           have yb : wr.cell? ⟨w.heap.size + 1, 10, none⟩ = some (.slice A10b n10 q10b) := ((VB.out.below HB.out VB.out.lt).cell 10).trans rfl
           by_cases hkn : k < n10
           · have hkl : k < L10.length := by rw [K10.out]; exact hkn
             obtain ⟨ba, oa, rfl, ga⟩ := R10a.out.at_ hkl
             obtain ⟨bb, ob, rfl, gb⟩ := R10b.out.at_ hkl
             have Ga := ga wr HB.out
             have Gb := gb wr HB.out
             obtain ⟨x, hx⟩ : ∃ x, x = L10[k] := ⟨_, rfl⟩
             rw [← hx] at Ga Gb
             clear hx ga gb
             obtain ⟨s0, s1⟩ := x
             have ta0 : wr.cell? ⟨ba, oa + k * 2, none⟩ = some (.int .u16 (s0 : Int)) := by have := Ga 0 _ rfl; simpa using this
             have ta1 : wr.cell? ⟨ba, oa + k * 2 + 1, none⟩ = some (.int .u16 (s1 : Int)) := by have := Ga 1 _ rfl; simpa using this
             have tb0 : wr.cell? ⟨bb, ob + k * 2, none⟩ = some (.int .u16 (s0 : Int)) := by have := Gb 0 _ rfl; simpa using this
             have tb1 : wr.cell? ⟨bb, ob + k * 2 + 1, none⟩ = some (.int .u16 (s1 : Int)) := by have := Gb 1 _ rfl; simpa using this
             clear Ga Gb
             go_wp2
             go_quiet (fail)
             have h3 := Lib.hid (below_drewN HB.out nq)
             generalize wr.drewN nq = wq at h3 ⊢
             go_wp2
             go_roundw
             case rel => exact ⟨k + 1, by omega, by go_num, h3⟩
             case measure => simp [intOf]; omega
           · obtain rfl : k = n10 := by omega
             clear hk hkn
             go_wp2
             go_loopw [9] (fun i wx => ∃ k : Nat, k ≤ n11 ∧ i = .int .i64 k ∧ Hid (Below w0.heap.size w0 wx)) (fun i _ => n11 - (intOf i).toNat)
             case atStart => exact ⟨0, by omega, rfl, HB⟩
             case round =>
              clear HB
              obtain ⟨k, hk, rfl, HB⟩ := hrel
              have ya : wr.cell? ⟨w.heap.size, 11, none⟩ = some (.slice A11a n11 q11a) := ((VA.out.below HB.out VA.out.lt).cell 11).trans rfl
              have yb : wr.cell? ⟨w.heap.size + 1, 11, none⟩ = some (.slice A11b n11 q11b) := ((VB.out.below HB.out VB.out.lt).cell 11).trans rfl
              by_cases hkn : k < n11
              · have hkl : k < L11.length := by rw [K11.out]; exact hkn
                obtain ⟨ba, oa, rfl, ga⟩ := R11a.out.at_ hkl
                obtain ⟨bb, ob, rfl, gb⟩ := R11b.out.at_ hkl
                have Ga := ga wr HB.out
                have Gb := gb wr HB.out
                obtain ⟨x, hx⟩ : ∃ x, x = L11[k] := ⟨_, rfl⟩
                rw [← hx] at Ga Gb
                clear hx ga gb
                obtain ⟨s0, s1⟩ := x
                have ta0 : wr.cell? ⟨ba, oa + k * 2, none⟩ = some (.int .u32 (s0 : Int)) := by have := Ga 0 _ rfl; simpa using this
                have ta1 : wr.cell? ⟨ba, oa + k * 2 + 1, none⟩ = some (.int .u8 (s1 : Int)) := by have := Ga 1 _ rfl; simpa using this
                have tb0 : wr.cell? ⟨bb, ob + k * 2, none⟩ = some (.int .u32 (s0 : Int)) := by have := Gb 0 _ rfl; simpa using this
                have tb1 : wr.cell? ⟨bb, ob + k * 2 + 1, none⟩ = some (.int .u8 (s1 : Int)) := by have := Gb 1 _ rfl; simpa using this
                clear Ga Gb
                go_wp2
                go_quiet (fail)
                have h3 := Lib.hid (below_drewN HB.out nq)
                generalize wr.drewN nq = wq at h3 ⊢
                go_wp2
                go_roundw
                case rel => exact ⟨k + 1, by omega, by go_num, h3⟩
                case measure => simp [intOf]; omega
              · obtain rfl : k = n11 := by omega
                clear hk hkn
                go_wp2
                go_ret
                exact ⟨rfl, B0.out.trans (HB.out.mono B0.out.size)⟩

theorem same_yes (cs1 cs2 : List Value) (c : Ctl) (w : World) (h1 : CtRd w cs1 c) (h2 : CtRd w cs2 c) (m7 : c.reps.length ≤ 1000) (m8 : c.nams.length ≤ 1000) (m9 : c.srcs.length ≤ 1000) (m10 : c.loss.length ≤ 1000) (m11 : c.firs.length ≤ 1000) :
 Calls Tryz.prog 25 #[.agg cs1.toArray, .agg cs2.toArray] w fun r w' => r = .returned (.bool true) ∧ Below w.heap.size w w' := by
 obtain ⟨A7a, q7a, A8a, q8a, A9a, q9a, A10a, q10a, A11a, q11a, rfl, r7a, r8a, r9a, r10a, r11a⟩ := h1
 obtain ⟨A7b, q7b, A8b, q8b, A9b, q9b, A10b, q10b, A11b, q11b, rfl, r7b, r8b, r9b, r10b, r11b⟩ := h2
 unfold ctlC
 exact same_raw _ _ _ _ _ _ _ _ _ _ _ _ _ _ _ _ _ _ _ _ _ _ _ _ _ _ _ _ _ _ _ _ _ c.reps c.nams c.srcs c.loss c.firs w rfl rfl rfl rfl rfl m7 m8 m9 m10 m11 r7a r7b r8a r8b r9a r9b r10a r10b r11a r11b
def smallL (c : Ctl) : Prop := c.reps.length ≤ 1000 ∧ c.nams.length ≤ 1000 ∧ c.srcs.length ≤ 1000 ∧ c.loss.length ≤ 1000 ∧ c.firs.length ≤ 1000
theorem mayC.small {c : Ctl} (h : mayC c) : smallL c := by
 rcases h with ⟨so, ti, st, pa, oc, L, rfl, h16, hk⟩ | ⟨so, L, rfl, h16, hk⟩ | ⟨L, rfl, h16, hk⟩ | ⟨L, rfl, h16⟩ | ⟨so, me, L, rfl, h1, h16⟩ | ⟨so, me, rfl⟩ | ⟨so, L, rfl, h1, h16⟩ | ⟨so, L, ra, rfl, h16, hra, hex⟩ <;> simp [smallL, mkSR, mkRR, mkSD, mkBY, mkNA, mkPL, mkFI, mkRE] <;> omega
def SmS (w : World) (wz : World) : Prop := Below w.heap.size w wz

set_option maxRecDepth 100000 in
set_option maxHeartbeats 1000000 in
theorem sames_yes (A1 A2 : Option Addr) (n c1 c2 : Nat) (l : List Ctl) (w : World) (h1 : CtRds w A1 l) (h2 : CtRds w A2 l) (hn : l.length = n) (hm : n ≤ 1000) (hs : ∀ c ∈ l, smallL c) :
 Calls Tryz.prog 10 #[.slice A1 n c1, .slice A2 n c2] w fun r w' => r = .returned (.bool true) ∧ Below w.heap.size w w' := by
 have H1 := Lib.hid h1
 have H2 := Lib.hid h2
 have HN := Lib.hid hn
 have HS := Lib.hid hs
 clear h1 h2 hn hs
 go_enter Tryz.func10, Tryz.ntmps10
 go_wp2
 go_loopw [5] (fun i wx => ∃ k : Nat, k ≤ n ∧ i = .int .i64 k ∧ Hid (SmS w wx)) (fun i _ => n - (intOf i).toNat)
 case atStart => exact ⟨0, by omega, rfl, Lib.hid (Below.refl _ _)⟩
 case round =>
  obtain ⟨k, hk, rfl, HB⟩ := hrel
  by_cases hkn : k < n
  · have hkl : k < l.length := by rw [HN.out]; exact hkn
    obtain ⟨b1, o1, r1, rfl, hC1, hat1⟩ := H1.out.at_ hkl
    obtain ⟨b2, o2, r2, rfl, hC2, hat2⟩ := H2.out.at_ hkl
    have hsx := HS.out _ (List.getElem_mem hkl)
    obtain ⟨x, hx⟩ : ∃ x, x = l[k] := ⟨_, rfl⟩
    rw [← hx] at hC1 hC2 hsx
    have G1 := Lib.hid hat1
    have G2 := Lib.hid hat2
    have C1 := Lib.hid hC1
    have C2 := Lib.hid hC2
    have CS : Hid (∀ W, SmS w W → Calls Tryz.prog 25 #[.agg r1.toArray, .agg r2.toArray] W fun r w' => r = .returned (.bool true) ∧ Below W.heap.size W w') := Lib.hid (fun W hW => same_yes r1 r2 x W (C1.out.below hW) (C2.out.below hW) hsx.1 hsx.2.1 hsx.2.2.1 hsx.2.2.2.1 hsx.2.2.2.2)
    clear hx hat1 hat2 hC1 hC2 hsx
    go_wp2
    refine wp_region_noPanic ?_
    refine wp_region_held (S := SmS w) (by kernel_rfl) ?_
    change wpAnyH _ _ _ _ _ _ _ _ (World.drew _)
    have SD : Hid (SmS w wr.drew) := Lib.hid (Below.drew HB.out)
    generalize wr.drew = w0 at SD ⊢
    refine wpAnyH_take (i := 0) (v := ?_) rfl (by kernel_rfl) (by kernel_rfl) (by kernel_rfl) (fun _ _ _ h => h) (Or.inl ⟨by rfl, ?_⟩) SD.out ?_
    case refine_2 => (intro wz hz; go_simp; with_reducible rfl)
    simp only [Act.put, xgT, xgZ, xsT, xsS, xsZ]
    refine wpAnyH_take (i := 1) (v := ?_) rfl (by kernel_rfl) (by kernel_rfl) (by kernel_rfl) (fun _ _ _ h => h) (Or.inl ⟨by rfl, ?_⟩) SD.out ?_
    case refine_2 => (intro wz hz; go_simp; with_reducible rfl)
    simp only [Act.put, xgT, xgS, xgZ, xsT, xsS, xsZ]
    refine wpAnyH_take (i := 2) (v := ?_) rfl (by kernel_rfl) (by kernel_rfl) (by kernel_rfl) (fun _ _ _ h => h) (Or.inl ⟨by rfl, ?_⟩) SD.out ?_
    case refine_2 => (intro wz hz; go_simp; with_reducible rfl)
    simp only [Act.put, xgT, xgS, xgZ, xsT, xsS, xsZ]
    refine wpAnyH_take (i := 3) (v := .agg r1.toArray) rfl (by kernel_rfl) (by kernel_rfl) (by kernel_rfl) (fun _ _ _ h => h) (Or.inl ⟨by rfl, fun wz hz => ?_⟩) SD.out ?_
    · exact run_ld 58 (.tmp 19) rfl b1 (o1 + k * 13) rfl r1 (G1.out wz hz) (rowCtl C1.out.len)
    simp only [Act.put, xgT, xgS, xgZ, xsT, xsS, xsZ]
    refine wpAnyH_take (i := 4) (v := ?_) rfl (by kernel_rfl) (by kernel_rfl) (by kernel_rfl) (fun _ _ _ h => h) (Or.inl ⟨by rfl, ?_⟩) SD.out ?_
    case refine_2 => (intro wz hz; go_simp; with_reducible rfl)
    simp only [Act.put, xgT, xgS, xgZ, xsT, xsS, xsZ]
    refine wpAnyH_take (i := 5) (v := ?_) rfl (by kernel_rfl) (by kernel_rfl) (by kernel_rfl) (fun _ _ _ h => h) (Or.inl ⟨by rfl, ?_⟩) SD.out ?_
    case refine_2 => (intro wz hz; go_simp; with_reducible rfl)
    simp only [Act.put, xgT, xgS, xgZ, xsT, xsS, xsZ]
    refine wpAnyH_take (i := 6) (v := ?_) rfl (by kernel_rfl) (by kernel_rfl) (by kernel_rfl) (fun _ _ _ h => h) (Or.inl ⟨by rfl, ?_⟩) SD.out ?_
    case refine_2 => (intro wz hz; go_simp; with_reducible rfl)
    simp only [Act.put, xgT, xgS, xgZ, xsT, xsS, xsZ]
    refine wpAnyH_take (i := 7) (v := .agg r2.toArray) rfl (by kernel_rfl) (by kernel_rfl) (by kernel_rfl) (fun _ _ _ h => h) (Or.inl ⟨by rfl, fun wz hz => ?_⟩) SD.out ?_
    · exact run_ld 58 (.tmp 23) rfl b2 (o2 + k * 13) rfl r2 (G2.out wz hz) (rowCtl C2.out.len)
    simp only [Act.put, xgT, xgS, xgZ, xsT, xsS, xsZ]
    refine anyH_one (i := 8) (by kernel_rfl) rfl rfl (fun H hH => ?_)
    simp only [xgT, xgS, xgZ]
    go_simp
    refine (CS.out _ SD.out).mono ?_
    rintro e w1 ⟨rfl, hb⟩
    have S1 : Hid (SmS w w1) := Lib.hid (Below.trans SD.out (hb.mono SD.out.size))
    clear hb
    refine hH _ _ S1.out ?_
    clear hH H
    refine wpAnyH_take (i := 9) (v := ?_) rfl (by kernel_rfl) (by kernel_rfl) (by kernel_rfl) (fun _ _ _ h => h) (Or.inl ⟨by rfl, ?_⟩) S1.out ?_
    case refine_2 => (intro wz hz; go_simp; with_reducible rfl)
    simp only [Act.put, xgT, xgS, xgZ, xsT, xsS, xsZ]
    refine wpAnyH_done (by kernel_rfl) ?_ _
    refine NoPanic.normal ?_
    go_wp2
    go_roundw
    case rel => exact ⟨k + 1, by omega, by go_num, S1⟩
    case measure => simp [intOf]; omega
  · obtain rfl : k = n := by omega
    go_wp2
    go_ret
    exact ⟨rfl, HB.out⟩
def RBare {σ : Type} (k : Int) (so me : Nat) (w : World) (p : Value) (_ : σ) (F : Nat → Prop) : Prop := ∃ q, p = .slice (some ⟨q, 0, none⟩) 1 1 ∧ BlkV w q 58 (bareV k so me) ∧ F = fun j => j = q
theorem rbare_lone {σ : Type} (k : Int) (so me : Nat) : Lone (RBare (σ := σ) k so me) where
 low := by
  rintro w p s F ⟨q, rfl, hB, rfl⟩ j rfl
  exact hB.lt
 stay := by
  rintro w w2 p s F ⟨q, rfl, hB, rfl⟩ _ hs
  exact ⟨q, rfl, (hs q rfl).trans hB, rfl⟩
theorem rbare_open {σ : Type} {k : Int} {so me : Nat} {w : World} {q : Nat} {y : σ} {F : Nat → Prop} (h : RBare k so me w (.slice (some ⟨q, 0, none⟩) 1 1) y F) : CtRds w (some ⟨q, 0, none⟩) [bareC k so me] := by
 obtain ⟨q', hp, hB, _⟩ := h
 injection hp with hp _ _
 injection hp with hp
 injection hp with hp _ _
 subst hp
 exact bare_rds hB
def RA16 (X : List UInt8) : Nat → World → Value → Wc → (Nat → Prop) → Prop
 | 0 => RC
 | 1 => RC
 | 2 => RBare 201 7 0
 | _ + 3 => ROwn X
theorem ra16_lone (X : List UInt8) : ∀ i, Lone (RA16 X i)
 | 0 => rc_lone
 | 1 => rc_lone
 | 2 => rbare_lone _ _ _
 | _ + 3 => rown_lone _
noncomputable def sZ : Wc := newC z16Y z14Y 9
theorem sZ_good : sZ.good := newC_good _ _ _ (by decide)
set_option maxRecDepth 100000 in
set_option maxHeartbeats 1000000 in
theorem alive16_any (w : World) (ht : Tabs w) : Calls Tryz.prog 5 #[] w fun e w' => e = .returned (.bool true) ∧ Below w.heap.size w w' := by
 have hz := zero30Y
 have HNW := Lib.hid (fun W => new16_any z16Y z14Y 9 W rfl rfl)
 obtain ⟨X, hX⟩ : ∃ x, x = outS sZ lR := ⟨_, rfl⟩
 obtain ⟨x1, x2⟩ := new_seals (key := z16Y) (salt := z14Y) (limit := 9) (l := lR) (by decide) lR_may
 obtain ⟨o1, o2, o3, o4, o5, o6⟩ := new_opens (key := z16Y) (salt := z14Y) lR_may X (hX.trans x2)
 have hg2 := oneC_good (key := z16Y) (salt := z14Y) lR_may
 obtain ⟨s1, hs1⟩ : ∃ s, s = oneC z16Y z14Y 9 (soC (wrL lR)) := ⟨_, rfl⟩
 rw [← hs1] at o4 o5 hg2
 rw [lR_so] at o3
 have hu2 : s1.y.used + 1 ≤ 900 := by rw [hs1]; show (1 : Int) + 1 ≤ 900; decide
 have HL := Lib.hid (ra16_lone X)
 have HSE : Hid (∀ W p F q, RC W p sZ F → Tabs W → CtRds W (some ⟨q, 0, none⟩) lR → Calls Tryz.prog 8 #[p, .slice (some ⟨q, 0, none⟩) 1 1] W fun e w' => ∃ A n c s', e = .returned (.tuple #[.slice A n c, .int .i64 0]) ∧ w'.ownsRow W.heap.size 5 1 (.slice A n c) n (cells X) ∧ RC w' p s' F ∧ Fr F W w') := Lib.hid (fun W p F q k1 k2 k3 => (seal16_any p sZ F _ 1 1 lR W k1 k2 sZ_good k3 rfl lR_fit).mono (fun e w' k => by
  obtain ⟨A, n, c, he, ho, hr, hf⟩ := k
  rw [show whyS sZ lR = 0 from x1] at he
  rw [← hX] at ho
  exact ⟨A, n, c, _, he, ho, hr, hf⟩))
 have HO1 : Hid (∀ W p F A n c, RC W p sZ F → Tabs W → RdS W A n c X → (0 < n → ∀ ad, A = some ad → ¬ F ad.block ∧ ad.block < W.heap.size) → Calls Tryz.prog 9 #[p, .slice A n c] W (OpenOk p s1 F 7 lR W)) := Lib.hid (fun W p F A n c k1 k2 k3 k4 => by
  have := open16_ok p sZ F A n c X lR W k1 k2 sZ_good (by show (0 : Int) + 1 ≤ 900; decide) k3 o1 o2 lR_ok lR_fit k4
  rw [show (⟨openC sZ.y X, sZ.nx⟩ : Wc) = s1 from o4, o3] at this
  exact this)
 have HO2 : Hid (∀ W p F A n c, RC W p s1 F → Tabs W → RdS W A n c X → Calls Tryz.prog 9 #[p, .slice A n c] W (OpenNo p s1 F 5 W)) := Lib.hid (fun W p F A n c k1 k2 k3 => by
  have := open16_no p s1 F A n c X W k1 k2 hg2 k3 (by rw [o5]; decide)
  rw [o5] at this
  exact this)
 have HTW : Hid (∀ W, Below w.heap.size w W → Tabs W) := Lib.hid (fun W hb => ht.below hb)
 clear ht hX x1 x2 o1 o2 o3 o4 o5 o6 hg2 hs1 hu2
 go_enter Tryz.func5, Tryz.ntmps5
 go_upto_region 2 with (first
  | (go_at_call 7; ((with_reducible refine (HNW.out w).mono ?_); rintro e w1 ⟨pa, Fa, rfl, ha, la, hb1⟩; obtain ⟨ga, ba, hpa, hwa, hfa⟩ := rc_ptr ha; subst hpa; clear hwa hfa; have HA1 := Lib.hid ((Ways.zero (RA16 X) w (fun _ => undef) (fun _ => sZ) (fun _ _ => False)).more HL.out hb1 ha la); clear ha la hb1))
  | (go_at_call 7; ((with_reducible refine (HNW.out w1).mono ?_); rintro e w2 ⟨pb, Fb, rfl, ha, la, hb1⟩; obtain ⟨gb, bb, hpb, hwb, hfb⟩ := rc_ptr ha; subst hpb; clear hwb hfb; have HA2 := Lib.hid (HA1.out.more HL.out hb1 ha la); clear ha la hb1)))
 clear HNW HA1
 go_upto_region 5 with (fail)
 have hB3 : BlkV (w2.alloc (.cells #[.int .i64 201, .int .u32 7, .int .u32 0, .int .u64 0, .int .u32 0, .int .u32 0, .int .u32 0, .slice none 0 0, .slice none 0 0, .slice none 0 0, .slice none 0 0, .slice none 0 0, .int .u64 0] 58)) w2.heap.size 58 (bareV 201 7 0) := BlkV.new _ _ _
 obtain ⟨w3, hw3⟩ : ∃ x, x = w2.alloc (.cells #[.int .i64 201, .int .u32 7, .int .u32 0, .int .u64 0, .int .u32 0, .int .u32 0, .int .u32 0, .slice none 0 0, .slice none 0 0, .slice none 0 0, .slice none 0 0, .slice none 0 0, .int .u64 0] 58) := ⟨_, rfl⟩
 rw [← hw3] at hB3 ⊢
 have hb3 : Below w2.heap.size w2 w3 := hw3 ▸ (Below.refl _ _).alloc (Nat.le_refl _) _
 obtain ⟨q, hq⟩ : ∃ q, q = w2.heap.size := ⟨_, rfl⟩
 rw [← hq] at hB3 ⊢
 have HA3 := Lib.hid (HA2.out.more HL.out hb3 (q := .slice (some ⟨q, 0, none⟩) 1 1) (yq := sZ) (G := fun k => k = q) (show RBare 201 7 0 w3 (.slice (some ⟨q, 0, none⟩) 1 1) sZ (fun k => k = q) from ⟨q, rfl, hB3, rfl⟩) (fun k hk => by rw [hk, hq]; exact Nat.le_refl _))
 clear hw3 hq hB3 hb3 HA2
 obtain ⟨p3, y3, F3, hA3⟩ : ∃ p y F, Ways (RA16 X) 3 w p y F w3 ∧ p 0 = .pointer (some ⟨ga, 0, none⟩) ∧ p 1 = .pointer (some ⟨gb, 0, none⟩) ∧ p 2 = .slice (some ⟨q, 0, none⟩) 1 1 ∧ y 0 = sZ ∧ y 1 = sZ := ⟨_, _, _, HA3.out, rfl, rfl, rfl, rfl, rfl⟩
 clear HA3
 have HC1 := Lib.hid (HSE.out w3 (.pointer (some ⟨ga, 0, none⟩)) (F3 0) q (by have := hA3.1.ob 0 (by omega); rw [hA3.2.1, hA3.2.2.2.2.1] at this; exact this) (HTW.out _ hA3.1.below) (rbare_open (show RBare 201 7 0 w3 (.slice (some ⟨q, 0, none⟩) 1 1) (y3 2) (F3 2) from hA3.2.2.2.1 ▸ hA3.1.ob 2 (by omega))))
 have HA3 := Lib.hid hA3
 clear hA3
 go_upto_region 6 with (go_at_call 8; ((with_reducible refine (HC1.out).mono ?_); rintro e w4 ⟨A4, n4, c4, s4, rfl, ho4, hr4, hf4⟩; have HT4 := Lib.hid (And.intro ho4 (And.intro hr4 hf4)); clear ho4 hr4 hf4))
 obtain ⟨G4, hG4⟩ := HA3.out.1.sealedO HL.out (i := 0) (by omega) HT4.out.1 (fun k hk hk2 => by
  have h1 := (HT4.out.1.lt k hk).1
  have h2 := (HL.out 0).low _ _ _ _ (HA3.out.1.ob 0 (by omega)) k hk2
  omega) (by rw [HA3.out.2.1]; exact HT4.out.2.1) HT4.out.2.2 (fun k hk => .inl hk) sZ rfl
 obtain ⟨p4, y4, F4, hA4⟩ : ∃ p y F, Ways (RA16 X) 4 w p y F w4 ∧ p 1 = .pointer (some ⟨gb, 0, none⟩) ∧ p 2 = .slice (some ⟨q, 0, none⟩) 1 1 ∧ p 3 = .slice A4 n4 c4 ∧ y 1 = sZ := ⟨_, _, _, hG4, HA3.out.2.2.1, HA3.out.2.2.2.1, rfl, HA3.out.2.2.2.2.2⟩
 clear HC1 HA3 hG4 HT4 HSE
 have HC2 := Lib.hid (HO1.out w4 (.pointer (some ⟨gb, 0, none⟩)) (F4 1) A4 n4 c4 (by have := hA4.1.ob 1 (by omega); rw [hA4.2.1, hA4.2.2.2.2] at this; exact this) (HTW.out _ hA4.1.below) (rown_rd (show ROwn X w4 (.slice A4 n4 c4) (y4 3) (F4 3) from hA4.2.2.2.1 ▸ hA4.1.ob 3 (by omega))) (hA4.1.offO HL.out (i := 1) (j := 3) (by omega) (by omega) (by decide) hA4.2.2.2.1 rfl))
 have HA4 := Lib.hid hA4
 clear hA4
 go_upto_region 7 with (go_at_call 9; ((with_reducible refine (HC2.out).mono ?_); rintro e w5 ⟨A5, n5, c5, b5, hn5, rfl, ho5, hw5, hF5, hr5, hf5⟩; have HT5 := Lib.hid (And.intro hr5 hf5); have HO5 := Lib.hid (And.intro hn5 ho5); clear ho5 hr5 hf5 hn5 hw5 hF5))
 have hA5' := HA4.out.1.turn HL.out (i := 1) (by omega) HT5.out.2 (by rw [HA4.out.2.1]; exact HT5.out.1) (fun k hk => .inl hk)
 obtain ⟨p5, y5, F5, hA5⟩ : ∃ p y F, Ways (RA16 X) 4 w p y F w5 ∧ p 1 = .pointer (some ⟨gb, 0, none⟩) ∧ p 2 = .slice (some ⟨q, 0, none⟩) 1 1 ∧ p 3 = .slice A4 n4 c4 ∧ y 1 = s1 := ⟨_, _, _, hA5', HA4.out.2.1, HA4.out.2.2.1, HA4.out.2.2.2.1, rfl⟩
 clear HC2 HA4 hA5' HT5 HO1
 have HC3 := Lib.hid (HO2.out w5 (.pointer (some ⟨gb, 0, none⟩)) (F5 1) A4 n4 c4 (by have := hA5.1.ob 1 (by omega); rw [hA5.2.1, hA5.2.2.2.2] at this; exact this) (HTW.out _ hA5.1.below) (rown_rd (show ROwn X w5 (.slice A4 n4 c4) (y5 3) (F5 3) from hA5.2.2.2.1 ▸ hA5.1.ob 3 (by omega))))
 have HA5 := Lib.hid hA5
 clear hA5
 go_upto_region 8 with (go_at_call 9; ((with_reducible refine (HC3.out).mono ?_); rintro e w6 ⟨rfl, hr6, hb6⟩; have HA6 := Lib.hid (HA5.out.1.on HL.out hb6); have HO6 := Lib.hid (HO5.out.2.below hb6); clear hr6 hb6))
 have hl6 := rbare_open (show RBare 201 7 0 w6 (.slice (some ⟨q, 0, none⟩) 1 1) (y5 2) (F5 2) from HA5.out.2.2.1 ▸ HA6.out.ob 2 (by omega))
 have en5 : n5 = 1 := HO5.out.1.symm
 subst en5
 have HSM := Lib.hid (sames_yes (some ⟨q, 0, none⟩) A5 1 1 c5 lR w6 hl6 (HO6.out.rds rfl) rfl (by omega) (fun c hc => (lR_ok.2.1 c hc).small))
 have HB6 := Lib.hid HA6.out.below
 clear hl6 HC3 HA5 HO5 HO6 HA6 HO2
 go_wp2_with (go_at_call 10; ((with_reducible refine (HSM.out).mono ?_); rintro e w7 ⟨rfl, hb7⟩; have HB7 := Lib.hid (HB6.out.trans (hb7.mono HB6.out.size)); clear hb7))
 go_ret
 exact ⟨rfl, HB7.out⟩
theorem rc_at {w : World} {g : Nat} {s : Wc} {F : Nat → Prop} (h : RC w (.pointer (some ⟨g, 0, none⟩)) s F) : ∃ b, PCtl w g b s := by
 obtain ⟨g', b, hp, hw, _⟩ := h
 injection hp with hp
 injection hp with hp
 injection hp with hp _ _
 subst hp
 exact ⟨b, hw⟩
theorem used16_of (g : Nat) (s : Wc) (F : Nat → Prop) (w : World) (h : RC w (.pointer (some ⟨g, 0, none⟩)) s F) (hf : s.y.fit) : Calls Tryz.prog 13 #[.pointer (some ⟨g, 0, none⟩)] w fun e w' => e = .returned (.int .i64 s.y.used) ∧ w = w' := by
 obtain ⟨b, hw⟩ := rc_at h
 exact used16_any g b s w hw hf
theorem next16_of (g : Nat) (s : Wc) (F : Nat → Prop) (w : World) (h : RC w (.pointer (some ⟨g, 0, none⟩)) s F) (hf : s.y.fit) : Calls Tryz.prog 14 #[.pointer (some ⟨g, 0, none⟩)] w fun e w' => e = .returned (.int .i64 s.nx) ∧ w = w' := by
 obtain ⟨b, hw⟩ := rc_at h
 exact next16_any g b s w hw hf
def lvC (key salt : List UInt8) (L k : Nat) : Wc := ⟨{ (newC key salt (L : Int)).y with used := ((min k L : Nat) : Int) }, ((min k L : Nat) : Int)⟩
theorem lvC_zero (key salt : List UInt8) (L : Nat) : lvC key salt L 0 = newC key salt (L : Int) := by
 unfold lvC
 rw [Nat.zero_min]
 rfl
theorem lvC_good (key salt : List UInt8) (L k : Nat) (hL : L < 12) : (lvC key salt L k).good := by
 have h := (newC_good key salt (L : Int) (by omega)).1
 obtain ⟨⟨h1, h2, h3, h4, h5, h6, h7⟩, h8, h9⟩ := h
 have hm : min k L < 12 := by omega
 refine ⟨⟨⟨h1, h2, h3, h4, ?_, h6, h7⟩, ?_, fun x hx => nomatch hx⟩, ?_, ?_⟩
 · show (0 : Int) ≤ ((min k L : Nat) : Int); omega
 · show ((min k L : Nat) : Int) ≤ 900; omega
 · show (0 : Int) ≤ ((min k L : Nat) : Int); omega
 · show ((min k L : Nat) : Int) ≤ 2147483648; omega
theorem lvC_in (key salt : List UInt8) (L k : Nat) (hL : L < 12) (h : k < L) : whyS (lvC key salt L k) lP = 0 ∧ afterS (lvC key salt L k) lP = lvC key salt L (k + 1) := by
 have e1 : min k L = k := by omega
 have e2 : min (k + 1) L = k + 1 := by omega
 have hw : whyS (lvC key salt L k) lP = 0 := whyS_0 (fun q => by
  rcases q with q | q
  · have : (L : Int) ≤ ((min k L : Nat) : Int) := q
    omega
  · have : (2147483648 : Int) ≤ ((min k L : Nat) : Int) := q
    omega) lP_may
 refine ⟨hw, ?_⟩
 unfold afterS
 rw [if_pos hw]
 unfold lvC Wy.once
 rw [e1, e2]
 rfl
theorem lvC_out (key salt : List UInt8) (L k : Nat) (h : L ≤ k) : whyS (lvC key salt L k) lP = 7 ∧ afterS (lvC key salt L k) lP = lvC key salt L (k + 1) := by
 have e1 : min k L = L := by omega
 have e2 : min (k + 1) L = L := by omega
 have hw : whyS (lvC key salt L k) lP = 7 := whyS_7 (.inl (by
  show (L : Int) ≤ ((min k L : Nat) : Int)
  omega))
 refine ⟨hw, ?_⟩
 unfold afterS
 rw [if_neg (by rw [hw]; decide)]
 unfold lvC
 rw [e1, e2]
set_option maxRecDepth 100000 in
set_option maxHeartbeats 1000000 in
theorem srtcpKeys_walk (key salt : List UInt8) (f : Int) (w : World) (ht : Tabs w) (hk : key.length = 16) (hs : salt.length = 14) (hff : (Lit.int .u8 f).wf = true) :
 Calls Tryz.prog 4 #[.agg (cells (mst key salt)).toArray, .int .u8 f] w fun e w' => e = .returned (.bool true) ∧ Below w.heap.size w w' := by
 have hfb := bounds_u8 hff
 obtain ⟨f, rfl⟩ := Int.eq_ofNat_of_zero_le hfb.1
 obtain ⟨L, hL⟩ : ∃ L, L = f % 12 := ⟨_, rfl⟩
 have hL12 : L < 12 := by omega
 have htm : Int.tmod (f : Int) 12 = (L : Int) := by rw [Int.tmod_eq_emod_of_nonneg (by omega)]; omega
 have ew1 : IntKind.u8.wrap (L : Int) = (L : Int) := by rw [IntKind.wrap_u8]; omega
 have ew2 : IntKind.i64.wrap (L : Int) = (L : Int) := IntWalk.i64_in _ (by omega)
 have hMB : BlkV (w.alloc (.cells (cells (mst key salt)).toArray 25)) w.heap.size 25 (cells (mst key salt)) := BlkV.new w _ _
 have hb0 : Below w.heap.size w (w.alloc (.cells (cells (mst key salt)).toArray 25)) := (Below.refl _ _).alloc (Nat.le_refl _) _
 have HML : Hid ((cells (mst key salt)).length = 30) := Lib.hid (by rw [length_cells, mst_len key salt hk hs])
 have RM : Hid (RowTy Tryz.prog 25 (cells (mst key salt)).length) := Lib.hid (row30 HML.out)
 have HAL := Lib.hid (alive16_any _ (ht.below hb0))
 have HM : Hid (∀ W, Below (w.alloc (.cells (cells (mst key salt)).toArray 25)).heap.size (w.alloc (.cells (cells (mst key salt)).toArray 25)) W → W.rangeAt w.heap.size 0 (cells (mst key salt))) := Lib.hid (fun W hb => (hMB.below hb hMB.lt).range 0 _ (fun i _ => by rw [Nat.zero_add]))
 have HB0 := Lib.hid hb0
 have HN := Lib.hid (fun W => new16_any key salt (L : Int) W hk hs)
 have HTW : Hid (∀ W, Below w.heap.size w W → Tabs W) := Lib.hid (fun W hb => ht.below hb)
 have HSE : Hid (∀ W g F k q, RC W (.pointer (some ⟨g, 0, none⟩)) (lvC key salt L k) F → Tabs W → BlkV W q 58 (bareV 2 1 2) → Calls Tryz.prog 8 #[.pointer (some ⟨g, 0, none⟩), .slice (some ⟨q, 0, none⟩) 1 1] W fun e w' => ∃ A n c, e = .returned (.tuple #[.slice A n c, .int .i64 (whyS (lvC key salt L k) lP)]) ∧ RC w' (.pointer (some ⟨g, 0, none⟩)) (lvC key salt L (k + 1)) F ∧ Fr F W w') := Lib.hid (fun W g F k q k1 k2 k3 => (seal16_any _ _ F _ 1 1 lP W k1 k2 (lvC_good key salt L k hL12) (bare_rds k3) rfl lP_fit).mono (fun e w' h => by
  obtain ⟨A, n, c, he, _, hr, hf⟩ := h
  have ha : afterS (lvC key salt L k) lP = lvC key salt L (k + 1) := by
   by_cases kl : k < L
   · exact (lvC_in key salt L k hL12 kl).2
   · exact (lvC_out key salt L k (by omega)).2
  rw [ha] at hr
  exact ⟨A, n, c, he, hr, hf⟩))
 have HU := Lib.hid (fun g F W k (h : RC W (.pointer (some ⟨g, 0, none⟩)) (lvC key salt L k) F) => used16_of g _ F W h (lvC_good key salt L k hL12).1.1)
 have HX := Lib.hid (fun g F W k (h : RC W (.pointer (some ⟨g, 0, none⟩)) (lvC key salt L k) F) => next16_of g _ F W h (lvC_good key salt L k hL12).1.1)
 have HZ := Lib.hid (lvC_zero key salt L)
 have HIN : Hid (∀ k, k < L → whyS (lvC key salt L k) lP = 0 ∧ (lvC key salt L (k + 1)).nx = ((k + 1 : Nat) : Int)) := Lib.hid (fun k kl => ⟨(lvC_in key salt L k hL12 kl).1, by show ((min (k + 1) L : Nat) : Int) = _; omega⟩)
 have HOUT : Hid (∀ k, L ≤ k → whyS (lvC key salt L k) lP = 7 ∧ (lvC key salt L (k + 1)).y.used = (L : Int)) := Lib.hid (fun k kl => ⟨(lvC_out key salt L k kl).1, by show ((min (k + 1) L : Nat) : Int) = _; omega⟩)
 obtain ⟨M, hM⟩ : ∃ M, M = cells (mst key salt) := ⟨_, rfl⟩
 rw [← hM] at HAL HM HB0 RM HN ⊢
 clear ht hk hs hff hfb hL hMB hb0 HML hM
 go_enter Tryz.func4, Tryz.ntmps4
 go_upto_region 4 with (first
  | (go_at_call 5; ((with_reducible refine (HAL.out).mono ?_); rintro e w1 ⟨rfl, hb1⟩; have RG1 := Lib.hid (HM.out w1 hb1); have HB1 := Lib.hid (HB0.out.trans (hb1.mono HB0.out.size)); clear hb1))
  | (with_reducible refine wpList_ld rfl 25 (.tmp 2) rfl w.heap.size 0 rfl M RG1.out RM.out ?_)
  | (go_at_call 7; ((with_reducible refine (HN.out w1).mono ?_); rintro e w2 ⟨pa, Fa, rfl, ha, la, hb2⟩; obtain ⟨ga, ba, hpa, _, _⟩ := rc_ptr ha; subst hpa; have HR2 : Hid (RC w2 (.pointer (some ⟨ga, 0, none⟩)) (lvC key salt L 0) Fa) := Lib.hid (by rw [HZ.out]; exact ha); have HLA := Lib.hid (fun k (hk : Fa k) => Nat.le_trans HB1.out.size (la k hk)); have HB2 := Lib.hid (HB1.out.trans (hb2.mono HB1.out.size)); clear ha la hb2)))
 clear HAL HM HB0 RM HN HB1 RG1 HZ
 go_wp2
 go_loopw [6] (fun i wr => ∃ k : Nat, k ≤ 14 ∧ i = .int .i64 k ∧ Hid (RC wr (.pointer (some ⟨ga, 0, none⟩)) (lvC key salt L k) Fa ∧ Below w.heap.size w wr)) (fun i _ => 14 - (intOf i).toNat)
 case atStart => exact ⟨0, by omega, rfl, Lib.hid ⟨HR2.out, HB2.out⟩⟩
 case round =>
  obtain ⟨k, hk, rfl, HI⟩ := hrel
  by_cases hk14 : k < 14
  · have hB3 : BlkV (wr.alloc (.cells #[.int .i64 2, .int .u32 1, .int .u32 2, .int .u64 0, .int .u32 0, .int .u32 0, .int .u32 0, .slice none 0 0, .slice none 0 0, .slice none 0 0, .slice none 0 0, .slice none 0 0, .int .u64 0] 58)) wr.heap.size 58 (bareV 2 1 2) := BlkV.new _ _ _
    have hb3 : Below wr.heap.size wr (wr.alloc (.cells #[.int .i64 2, .int .u32 1, .int .u32 2, .int .u64 0, .int .u32 0, .int .u32 0, .int .u32 0, .slice none 0 0, .slice none 0 0, .slice none 0 0, .slice none 0 0, .slice none 0 0, .int .u64 0] 58)) := (Below.refl _ _).alloc (Nat.le_refl _) _
    have HB3 := Lib.hid (HI.out.2.trans (hb3.mono HI.out.2.size))
    have HC := Lib.hid (HSE.out _ ga Fa k wr.heap.size (rc_lone.below HI.out.1 hb3) (HTW.out _ HB3.out) hB3)
    by_cases hkL : k < L
    · obtain ⟨q1, q2⟩ := HIN.out k hkL
      rw [q1] at HC
      have HX1 : Hid (∀ W, RC W (.pointer (some ⟨ga, 0, none⟩)) (lvC key salt L (k + 1)) Fa → Calls Tryz.prog 14 #[.pointer (some ⟨ga, 0, none⟩)] W fun e w' => e = .returned (.int .i64 ((k : Int) + 1)) ∧ W = w') := Lib.hid (fun W h => by
       have := HX.out ga Fa W (k + 1) h
       rw [q2, show ((k + 1 : Nat) : Int) = (k : Int) + 1 by omega] at this
       exact this)
      have hlt : (k : Int) < (L : Int) := by omega
      clear q1 q2 hB3 hb3
      go_wp2_with (first
       | (go_at_call 8; ((with_reducible refine (HC.out).mono ?_); rintro e w4 ⟨A4, n4, c4, rfl, hr4, hf4⟩; have HR4 := Lib.hid hr4; have HF4 := Lib.hid hf4; clear hr4 hf4))
       | (go_at_call 14; ((with_reducible refine (HX1.out _ HR4.out).mono ?_); rintro e w' ⟨rfl, rfl⟩)))
      go_roundw
      case rel => exact ⟨k + 1, by omega, by go_num, Lib.hid ⟨HR4.out, HB3.out.trans (HF4.out.below HLA.out (Nat.le_trans (Nat.le_refl _) HB3.out.size))⟩⟩
      case measure => simp [intOf]; omega
    · obtain ⟨q1, q2⟩ := HOUT.out k (by omega)
      rw [q1] at HC
      have HU1 : Hid (∀ W, RC W (.pointer (some ⟨ga, 0, none⟩)) (lvC key salt L (k + 1)) Fa → Calls Tryz.prog 13 #[.pointer (some ⟨ga, 0, none⟩)] W fun e w' => e = .returned (.int .i64 (L : Int)) ∧ W = w') := Lib.hid (fun W h => by
       have := HU.out ga Fa W (k + 1) h
       rw [q2] at this
       exact this)
      have hlt : ¬ (k : Int) < (L : Int) := by omega
      clear q1 q2 hB3 hb3
      go_wp2_with (first
       | (go_at_call 8; ((with_reducible refine (HC.out).mono ?_); rintro e w4 ⟨A4, n4, c4, rfl, hr4, hf4⟩; have HR4 := Lib.hid hr4; have HF4 := Lib.hid hf4; clear hr4 hf4))
       | (go_at_call 13; ((with_reducible refine (HU1.out _ HR4.out).mono ?_); rintro e w' ⟨rfl, rfl⟩)))
      go_roundw
      case rel => exact ⟨k + 1, by omega, by go_num, Lib.hid ⟨HR4.out, HB3.out.trans (HF4.out.below HLA.out (Nat.le_trans (Nat.le_refl _) HB3.out.size))⟩⟩
      case measure => simp [intOf]; omega
  · obtain rfl : k = 14 := by omega
    go_wp2
    go_ret
    exact ⟨rfl, HI.out.2⟩
def flipB (X : List UInt8) (k f : Nat) : List UInt8 := X.set k (X.getD k 0 ^^^ UInt8.ofNat f)
theorem flip_xor (x : UInt8) (f : Nat) (hf : f < 256) : bits BinOp.xor IntKind.u8 (x.toNat : Int) (f : Int) = ((x ^^^ UInt8.ofNat f).toNat : Int) := by
 have e : f = (UInt8.ofNat f).toNat := by simp; omega
 rw [show (f : Int) = (((UInt8.ofNat f).toNat : Nat) : Int) from congrArg _ e]
 exact xr_byte x (UInt8.ofNat f)
end Go.Proofs.YtheefckohnaceaaGreatDoor
