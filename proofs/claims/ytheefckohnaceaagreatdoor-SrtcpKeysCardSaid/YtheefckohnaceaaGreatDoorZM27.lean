/- Several texts in one: plain words and walks. No statement is proved here. -/
import Derived.Test.YtheefckohnaceaaGreatDoorZM3
import Derived.Test.YtheefckohnaceaaGreatDoorZM16
import Derived.Test.YtheefckohnaceaaGreatDoorZM17
import Derived.Test.YtheefckohnaceaaGreatDoorRows
import Derived.Test.YtheefckohnaceaaGreatDoorZM15
import Derived.OpenShut
import Derived.ChangeArms
import Derived.Lib.LaidTab
namespace Go.Proofs.YtheefckohnaceaaGreatDoor
open Go.RowKit Go.ChangeShapes Go.WideShapes Go.Deep
set_option linter.unusedVariables false

theorem choose_rows {α : Type} {f : α → List Value} {P : α → Prop} : ∀ rows : List (List Value), (∀ r ∈ rows, ∃ a, r = f a ∧ P a) → ∃ L : List α, rows = L.map f ∧ ∀ a ∈ L, P a
 | [], _ => ⟨[], rfl, by simp⟩
 | r :: q, h => by
   obtain ⟨a, ha, pa⟩ := h r (by simp)
   obtain ⟨L, hL, hP⟩ := choose_rows q (fun x hx => h x (by simp [hx]))
   refine ⟨a :: L, by rw [ha, hL]; rfl, fun x hx => ?_⟩
   rcases List.mem_cons.1 hx with rfl | hx
   · exact pa
   · exact hP x hx
theorem choose_rel {α β : Type} {R : α → β → Prop} : ∀ rows : List α, (∀ r ∈ rows, ∃ a, R r a) → ∃ L : List β, L.length = rows.length ∧ ∀ (i : Nat) (r : α) (a : β), rows[i]? = some r → L[i]? = some a → R r a
 | [], _ => ⟨[], rfl, by simp⟩
 | r :: q, h => by
   obtain ⟨a, ha⟩ := h r (by simp)
   obtain ⟨L, hl, hL⟩ := choose_rel q (fun x hx => h x (by simp [hx]))
   refine ⟨a :: L, by simp [hl], fun i r' a' hr' ha' => ?_⟩
   cases i with
   | zero => simp at hr' ha'; subst hr'; subst ha'; exact ha
   | succ i => exact hL i r' a' (by simpa using hr') (by simpa using ha')
section
variable {H : Type} {enc : TypeId × Value → H} {P : Program} {w : World}
def FldOk (enc : TypeId × Value → H) (P : Program) (w : World) (fs : Array Field) (r : List Value) : Prop :=
 r.length = fs.size ∧ ∃ n : Nat, ∀ (j : Nat) (f : Field) (x : Value), fs[j]? = some f → r[j]? = some x → ∃ y, DataW.trod enc P w 0 (fun _ => true) true n f.type [x] = some y
theorem opened_rows {t e : TypeId} {fs : Array Field} {n : Nat} {v : Value} (sz : Nat) (hsz : sz = fs.size) (ht : P.underlying t = some (.slice e)) (he : P.underlying e = some (.struct fs)) (hone : oneCellFields P fs = true) (hC : P.cellsOf e = fs.size) (hpos : 0 < sz)
 (h : ∃ y, DataW.trod enc P w 0 (fun _ => true) true n t [v] = some y) : ∃ (A : Option Addr) (c : Nat) (rows : List (List Value)), v = .slice A rows.length c ∧ rows.length ≤ 9223372036854775807 ∧ RdG sz w A rows ∧ ∀ r ∈ rows, FldOk enc P w fs r := by
 subst hsz
 obtain ⟨y, hf⟩ := h
 rcases open_slice ht hf with ⟨h0, _⟩ | ⟨x, l, c, m, f2, D, Pl, hcs, _, hle, hcap, hm, _, hel⟩
 · simp at h0
   subst h0
   exact ⟨none, 0, [], rfl, by simp, ⟨by simp, fun h => absurd h (by simp)⟩, by simp⟩
 · simp at hcs
   subst hcs
   simp only [maxLen] at hcap
   simp only [if_true] at hm
   have hlm : l ≤ m := by omega
   have key : ∀ i, i < l → ∃ r, FldOk enc P w fs r ∧ ∀ j, j < fs.size → w.cell? (x.add (i * fs.size + j)) = r[j]? := by
    intro i hi
    obtain ⟨cs, hc, ht2⟩ := hel i (by omega)
    obtain ⟨_, hcl, hcell⟩ := World.cells?_some hc
    obtain ⟨xs, f3, _, _, _, hxl, hfl⟩ := DataW.trod_struct he ht2
    refine ⟨cs, ⟨by omega, f3, fun j f v hj hv => ?_⟩, fun j hj => ?_⟩
    · obtain ⟨ho, h1⟩ := hone_of hone j f hj
      have hr := hfl j f hj
      rw [ho, h1] at hr
      obtain ⟨hjc, rfl⟩ := List.getElem?_eq_some_iff.1 hv
      rw [List.drop_eq_getElem_cons hjc] at hr
      simp only [List.take_succ_cons, List.take_zero] at hr
      have hjf : j < fs.size := (Array.getElem?_eq_some_iff.1 hj).1
      rw [List.getElem?_eq_getElem (show j < xs.length by omega)] at hr
      exact ⟨_, hr⟩
    · have hcj := hcell j (by omega)
      rw [hC, Go.Deep.add_add] at hcj
      exact hcj
   obtain ⟨rows, hlen, hrows⟩ := choose_rel (R := fun i r => FldOk enc P w fs r ∧ ∀ j, j < fs.size → w.cell? (x.add (i * fs.size + j)) = r[j]?) (List.range l) (fun i hi => key i (List.mem_range.1 hi))
   rw [List.length_range] at hlen
   have hat : ∀ i (hi : i < rows.length), FldOk enc P w fs rows[i] ∧ ∀ j, j < fs.size → w.cell? (x.add (i * fs.size + j)) = rows[i][j]? :=
    fun i hi => hrows i i rows[i] (List.getElem?_range (by omega)) (List.getElem?_eq_getElem hi)
   have hok : ∀ r ∈ rows, FldOk enc P w fs r := by
    intro r hr
    obtain ⟨i, hi, rfl⟩ := List.getElem_of_mem hr
    exact (hat i hi).1
   refine ⟨some x, c, rows, by rw [hlen], by omega, ⟨fun r hr => (hok r hr).1, fun hn => ?_⟩, hok⟩
   obtain ⟨⟨hl0, _⟩, h0⟩ := hat 0 hn
   have hv0 := h0 0 hpos
   rw [List.getElem?_eq_getElem (show 0 < rows[0].length by omega)] at hv0
   obtain ⟨b, off, spot⟩ := x
   have hs : spot = none := by
    have := World.cell?_spot hv0
    simpa [Addr.add] using this
   subst hs
   refine ⟨b, off, rfl, ?_, fun j hj d hd => ?_⟩
   · have := World.block_lt_of_cell? w _ hv0
     rw [add_at] at this
     exact this
   · have := (hat j hj).2 d hd
     rw [add_at, ← Nat.add_assoc] at this
     rw [this]
     simp [List.getD, List.getElem?_eq_getElem hj]
theorem opened_in {t : TypeId} {k : IntKind} {n : Nat} {v : Value} (ht : P.underlying t = some (.int k)) (h : ∃ y, DataW.trod enc P w 0 (fun _ => true) true n t [v] = some y) : ∃ z, v = .int k z ∧ (Lit.int k z).wf = true := by
 obtain ⟨y, hf⟩ := h
 obtain ⟨z, hz, _, hw⟩ := DataW.trod_int ht hf
 simp at hz
 exact ⟨z, hz, hw⟩
theorem opened_n8 {t : TypeId} {n : Nat} {v : Value} (ht : P.underlying t = some (.int .u8)) (h : ∃ y, DataW.trod enc P w 0 (fun _ => true) true n t [v] = some y) : ∃ x : Nat, v = .int .u8 (x : Int) ∧ x < 256 := by
 obtain ⟨z, rfl, hw⟩ := opened_in ht h
 have := bounds_u8 hw
 exact ⟨z.toNat, by congr 1; omega, by omega⟩
theorem opened_n16 {t : TypeId} {n : Nat} {v : Value} (ht : P.underlying t = some (.int .u16)) (h : ∃ y, DataW.trod enc P w 0 (fun _ => true) true n t [v] = some y) : ∃ x : Nat, v = .int .u16 (x : Int) ∧ x < 65536 := by
 obtain ⟨z, rfl, hw⟩ := opened_in ht h
 have := bounds_u16 hw
 exact ⟨z.toNat, by congr 1; omega, by omega⟩
theorem opened_n32 {t : TypeId} {n : Nat} {v : Value} (ht : P.underlying t = some (.int .u32)) (h : ∃ y, DataW.trod enc P w 0 (fun _ => true) true n t [v] = some y) : ∃ x : Nat, v = .int .u32 (x : Int) ∧ x < 4294967296 := by
 obtain ⟨z, rfl, hw⟩ := opened_in ht h
 have := bounds_u32 hw
 exact ⟨z.toNat, by congr 1; omega, by omega⟩
theorem opened_n64 {t : TypeId} {n : Nat} {v : Value} (ht : P.underlying t = some (.int .u64)) (h : ∃ y, DataW.trod enc P w 0 (fun _ => true) true n t [v] = some y) : ∃ x : Nat, v = .int .u64 (x : Int) ∧ x < 18446744073709551616 := by
 obtain ⟨z, rfl, hw⟩ := opened_in ht h
 have := bounds_u64 hw
 exact ⟨z.toNat, by congr 1; omega, by omega⟩
theorem opened_txt {t : TypeId} {n : Nat} {v : Value} (ht : P.underlying t = some .string) (h : ∃ y, DataW.trod enc P w 0 (fun _ => true) true n t [v] = some y) : ∃ s : List UInt8, v = .string (txt s) := by
 obtain ⟨y, hf⟩ := h
 obtain ⟨s, hz, _, hw⟩ := DataW.trod_string ht hf
 simp at hz
 exact ⟨s.data.toList, by rw [hz]; rfl⟩
theorem opened_u32s {t e : TypeId} {n : Nat} {v : Value} (ht : P.underlying t = some (.slice e)) (he : P.underlying e = some (.int .u32)) (hC : P.cellsOf e = 1)
 (h : ∃ y, DataW.trod enc P w 0 (fun _ => true) true n t [v] = some y) : ∃ (A : Option Addr) (c : Nat) (L : List Nat), v = .slice A L.length c ∧ RdG 1 w A (L.map fun x : Nat => [Value.int .u32 (x : Int)]) ∧ ∀ x ∈ L, x < 4294967296 := by
 obtain ⟨y, hf⟩ := h
 rcases open_slice ht hf with ⟨h0, _⟩ | ⟨x, l, c, m, f2, D, Pl, hcs, _, hle, hcap, hm, _, hel⟩
 · simp at h0
   subst h0
   exact ⟨none, 0, [], rfl, ⟨by simp, fun h => absurd h (by simp)⟩, by simp⟩
 · simp at hcs
   subst hcs
   simp only [if_true] at hm
   have key : ∀ i, i < l → ∃ q : Nat, q < 4294967296 ∧ w.cell? (x.add i) = some (.int .u32 (q : Int)) := by
    intro i hi
    obtain ⟨cs, hc, ht2⟩ := hel i (by omega)
    obtain ⟨_, hcl, hcell⟩ := World.cells?_some hc
    obtain ⟨z, rfl, _, hw⟩ := DataW.trod_int he ht2
    have hb := bounds_u32 hw
    have h0 := hcell 0 (by rw [hC]; omega)
    rw [hC, Go.Deep.add_add] at h0
    simp only [Nat.mul_one, Nat.add_zero, List.getElem?_cons_zero] at h0
    exact ⟨z.toNat, by omega, by rw [h0]; congr 2; omega⟩
   obtain ⟨L, hlen, hL⟩ := choose_rel (R := fun i (q : Nat) => q < 4294967296 ∧ w.cell? (x.add i) = some (.int .u32 (q : Int))) (List.range l) (fun i hi => key i (List.mem_range.1 hi))
   rw [List.length_range] at hlen
   have hat : ∀ i (hi : i < L.length), L[i] < 4294967296 ∧ w.cell? (x.add i) = some (.int .u32 (L[i] : Int)) :=
    fun i hi => hL i i L[i] (List.getElem?_range (by omega)) (List.getElem?_eq_getElem hi)
   refine ⟨some x, c, L, by rw [hlen], ⟨fun r hr => by obtain ⟨q, _, rfl⟩ := List.mem_map.1 hr; rfl, fun hn => ?_⟩, fun q hq => ?_⟩
   · rw [List.length_map] at hn
     have hv0 := (hat 0 hn).2
     obtain ⟨b, off, spot⟩ := x
     have hs : spot = none := by
      have := World.cell?_spot hv0
      simpa [Addr.add] using this
     subst hs
     refine ⟨b, off, rfl, ?_, fun j hj d hd => ?_⟩
     · have := World.block_lt_of_cell? w _ hv0
       rw [add_at] at this
       exact this
     · rw [List.length_map] at hj
       obtain rfl : d = 0 := by omega
       have := (hat j hj).2
       rw [add_at] at this
       rw [Nat.mul_one, Nat.add_zero, this]
       simp [List.getD, List.getElem?_eq_getElem hj]
   · obtain ⟨i, hi, rfl⟩ := List.getElem_of_mem hq
     exact (hat i hi).1
end
end Go.Proofs.YtheefckohnaceaaGreatDoor

namespace Go.Proofs.YtheefckohnaceaaGreatDoor
open Go.RowKit Go.ChangeShapes Go.WideShapes Go.Deep
set_option linter.unusedVariables false

theorem list7 {r : List Value} (h : r.length = 7) : ∃ a b c d e f g, r = [a, b, c, d, e, f, g] := by
 match r, h with
 | [a, b, c, d, e, f, g], _ => exact ⟨a, b, c, d, e, f, g, rfl⟩
theorem list2 {r : List Value} (h : r.length = 2) : ∃ a b, r = [a, b] := by
 match r, h with
 | [a, b], _ => exact ⟨a, b, rfl⟩
theorem list13 {r : List Value} (h : r.length = 13) : ∃ a b c d e f g a2 b2 c2 d2 e2 f2, r = [a, b, c, d, e, f, g, a2, b2, c2, d2, e2, f2] := by
 match r, h with
 | [a, b, c, d, e, f, g, a2, b2, c2, d2, e2, f2], _ => exact ⟨a, b, c, d, e, f, g, a2, b2, c2, d2, e2, f2, rfl⟩
section
variable {H : Type} {enc : TypeId × Value → H} {w : World} {n : Nat}
theorem opened_reps {v : Value} (h : ∃ y, DataW.trod enc Tryz.prog w 0 (fun _ => true) true n 53 [v] = some y) : ∃ (A : Option Addr) (c : Nat) (L : List Rep), v = .slice A L.length c ∧ RdG 7 w A (L.map cRep) ∧ ∀ x ∈ L, x.fit := by
 obtain ⟨A, c, rows, rfl, _, hr, hok⟩ := opened_rows 7 rfl Tryz.underlying53 Tryz.underlying102 (by kernel_rfl) (by kernel_rfl) (by omega) h
 obtain ⟨L, rfl, hL⟩ := choose_rows (f := cRep) (P := Rep.fit) rows (fun r hr => by
  obtain ⟨hl, m, hf⟩ := hok r hr
  obtain ⟨a, b, c, d, e, f, g, rfl⟩ := list7 hl
  obtain ⟨a, rfl, h0⟩ := opened_n32 Tryz.underlying36 (hf 0 _ _ rfl rfl)
  obtain ⟨b, rfl, h1⟩ := opened_n8 Tryz.underlying5 (hf 1 _ _ rfl rfl)
  obtain ⟨c, rfl, h2⟩ := opened_in Tryz.underlying21 (hf 2 _ _ rfl rfl)
  obtain ⟨d, rfl, h3⟩ := opened_n32 Tryz.underlying36 (hf 3 _ _ rfl rfl)
  obtain ⟨e, rfl, h4⟩ := opened_n32 Tryz.underlying36 (hf 4 _ _ rfl rfl)
  obtain ⟨f, rfl, h5⟩ := opened_n32 Tryz.underlying36 (hf 5 _ _ rfl rfl)
  obtain ⟨g, rfl, h6⟩ := opened_n32 Tryz.underlying36 (hf 6 _ _ rfl rfl)
  have h2 := bounds_i32 h2
  exact ⟨⟨a, b, c, d, e, f, g⟩, rfl, h0, h1, ⟨h2.1, by have := h2.2; simp only; omega⟩, h3, h4, h5, h6⟩)
 exact ⟨A, c, L, by rw [List.length_map], hr, hL⟩
theorem opened_nams {v : Value} (h : ∃ y, DataW.trod enc Tryz.prog w 0 (fun _ => true) true n 54 [v] = some y) : ∃ (A : Option Addr) (c : Nat) (L : List (Nat × List UInt8)), v = .slice A L.length c ∧ RdG 2 w A (L.map cNam) ∧ ∀ x ∈ L, x.1 < 4294967296 := by
 obtain ⟨A, c, rows, rfl, _, hr, hok⟩ := opened_rows 2 rfl Tryz.underlying54 Tryz.underlying62 (by kernel_rfl) (by kernel_rfl) (by omega) h
 obtain ⟨L, rfl, hL⟩ := choose_rows (f := cNam) (P := fun x => x.1 < 4294967296) rows (fun r hr => by
  obtain ⟨hl, m, hf⟩ := hok r hr
  obtain ⟨a, b, rfl⟩ := list2 hl
  obtain ⟨a, rfl, h0⟩ := opened_n32 Tryz.underlying36 (hf 0 _ _ rfl rfl)
  obtain ⟨b, rfl⟩ := opened_txt Tryz.underlying9 (hf 1 _ _ rfl rfl)
  exact ⟨(a, b), rfl, h0⟩)
 exact ⟨A, c, L, by rw [List.length_map], hr, hL⟩
theorem opened_loss {v : Value} (h : ∃ y, DataW.trod enc Tryz.prog w 0 (fun _ => true) true n 55 [v] = some y) : ∃ (A : Option Addr) (c : Nat) (L : List (Nat × Nat)), v = .slice A L.length c ∧ RdG 2 w A (L.map cLos) ∧ ∀ x ∈ L, x.1 < 65536 ∧ x.2 < 65536 := by
 obtain ⟨A, c, rows, rfl, _, hr, hok⟩ := opened_rows 2 rfl Tryz.underlying55 Tryz.underlying104 (by kernel_rfl) (by kernel_rfl) (by omega) h
 obtain ⟨L, rfl, hL⟩ := choose_rows (f := cLos) (P := fun x => x.1 < 65536 ∧ x.2 < 65536) rows (fun r hr => by
  obtain ⟨hl, m, hf⟩ := hok r hr
  obtain ⟨a, b, rfl⟩ := list2 hl
  obtain ⟨a, rfl, h0⟩ := opened_n16 Tryz.underlying27 (hf 0 _ _ rfl rfl)
  obtain ⟨b, rfl, h1⟩ := opened_n16 Tryz.underlying27 (hf 1 _ _ rfl rfl)
  exact ⟨(a, b), rfl, h0, h1⟩)
 exact ⟨A, c, L, by rw [List.length_map], hr, hL⟩
theorem opened_firs {v : Value} (h : ∃ y, DataW.trod enc Tryz.prog w 0 (fun _ => true) true n 56 [v] = some y) : ∃ (A : Option Addr) (c : Nat) (L : List (Nat × Nat)), v = .slice A L.length c ∧ RdG 2 w A (L.map cFir) ∧ ∀ x ∈ L, x.1 < 4294967296 ∧ x.2 < 256 := by
 obtain ⟨A, c, rows, rfl, _, hr, hok⟩ := opened_rows 2 rfl Tryz.underlying56 Tryz.underlying106 (by kernel_rfl) (by kernel_rfl) (by omega) h
 obtain ⟨L, rfl, hL⟩ := choose_rows (f := cFir) (P := fun x => x.1 < 4294967296 ∧ x.2 < 256) rows (fun r hr => by
  obtain ⟨hl, m, hf⟩ := hok r hr
  obtain ⟨a, b, rfl⟩ := list2 hl
  obtain ⟨a, rfl, h0⟩ := opened_n32 Tryz.underlying36 (hf 0 _ _ rfl rfl)
  obtain ⟨b, rfl, h1⟩ := opened_n8 Tryz.underlying5 (hf 1 _ _ rfl rfl)
  exact ⟨(a, b), rfl, h0, h1⟩)
 exact ⟨A, c, L, by rw [List.length_map], hr, hL⟩
theorem opened_ctrls {v : Value} (h : ∃ y, DataW.trod enc Tryz.prog w 0 (fun _ => true) true n 26 [v] = some y) : ∃ (A : Option Addr) (c : Nat) (l : List Ctl) (css : List (List Value)), v = .slice A l.length c ∧ css.length = l.length ∧ RdG 13 w A (css.map id) ∧ (∀ (i : Nat) (cs : List Value) (c : Ctl), css[i]? = some cs → l[i]? = some c → CtRd w cs c) ∧ (∀ c ∈ l, c.fit) ∧ l.length ≤ 9223372036854775807 := by
 obtain ⟨A, c, rows, rfl, hmx, hr, hok⟩ := opened_rows 13 rfl Tryz.underlying26 Tryz.underlying58 (by kernel_rfl) (by kernel_rfl) (by omega) h
 obtain ⟨l, hl, hR⟩ := choose_rel (R := fun cs (c : Ctl) => CtRd w cs c ∧ c.fit) rows (fun r hr => by
  obtain ⟨hl, m, hf⟩ := hok r hr
  obtain ⟨v0, v1, v2, v3, v4, v5, v6, v7, v8, v9, v10, v11, v12, rfl⟩ := list13 hl
  obtain ⟨x0, rfl, h0⟩ := opened_in Tryz.underlying3 (hf 0 _ _ rfl rfl)
  obtain ⟨x1, rfl, h1⟩ := opened_n32 Tryz.underlying36 (hf 1 _ _ rfl rfl)
  obtain ⟨x2, rfl, h2⟩ := opened_n32 Tryz.underlying36 (hf 2 _ _ rfl rfl)
  obtain ⟨x3, rfl, h3⟩ := opened_n64 Tryz.underlying52 (hf 3 _ _ rfl rfl)
  obtain ⟨x4, rfl, h4⟩ := opened_n32 Tryz.underlying36 (hf 4 _ _ rfl rfl)
  obtain ⟨x5, rfl, h5⟩ := opened_n32 Tryz.underlying36 (hf 5 _ _ rfl rfl)
  obtain ⟨x6, rfl, h6⟩ := opened_n32 Tryz.underlying36 (hf 6 _ _ rfl rfl)
  obtain ⟨A7, c7, L7, rfl, r7, h7⟩ := opened_reps (hf 7 _ _ rfl rfl)
  obtain ⟨A8, c8, L8, rfl, r8, h8⟩ := opened_nams (hf 8 _ _ rfl rfl)
  obtain ⟨A9, c9, L9, rfl, r9, h9⟩ := opened_u32s Tryz.underlying43 Tryz.underlying36 (by kernel_rfl) (hf 9 _ _ rfl rfl)
  obtain ⟨A10, c10, L10, rfl, r10, h10⟩ := opened_loss (hf 10 _ _ rfl rfl)
  obtain ⟨A11, c11, L11, rfl, r11, h11⟩ := opened_firs (hf 11 _ _ rfl rfl)
  obtain ⟨x12, rfl, h12⟩ := opened_n64 Tryz.underlying52 (hf 12 _ _ rfl rfl)
  exact ⟨⟨x0, x1, x2, x3, x4, x5, x6, L7, L8, L9, L10, L11, x12⟩, ⟨A7, c7, A8, c8, A9, c9, A10, c10, A11, c11, rfl, r7, r8, r9, r10, r11⟩, bounds_i64 h0, h1, h2, h3, h4, h5, h6, h7, h8, h9, h10, h11, h12⟩)
 refine ⟨A, c, l, rows, by rw [hl], hl.symm, by rw [List.map_id]; exact hr, fun i cs c hi hj => (hR i cs c hi hj).1, fun c hc => ?_, by omega⟩
 obtain ⟨i, hi, rfl⟩ := List.getElem_of_mem hc
 exact (hR i (rows[i]'(by omega)) l[i] (List.getElem?_eq_getElem _) (List.getElem?_eq_getElem hi)).2
end
end Go.Proofs.YtheefckohnaceaaGreatDoor

namespace Go.Proofs.YtheefckohnaceaaGreatDoor
open Go.RowKit Go.ChangeShapes Go.WideShapes
set_option linter.unusedVariables false

section
variable {H : Type} {enc : TypeId × Value → H} {w : World} {base : Nat} {sp : Nat → Bool} {held : Bool} {fuel : Nat}
theorem list3 {α : Type} {l : List α} (h : l.length = 3) : ∃ a b c, l = [a, b, c] := by
 match l, h with
 | [a, b, c], _ => exact ⟨a, b, c, rfl⟩
theorem list4 {α : Type} {l : List α} (h : l.length = 4) : ∃ a b c d, l = [a, b, c, d] := by
 match l, h with
 | [a, b, c, d], _ => exact ⟨a, b, c, d, rfl⟩
theorem list12 {α : Type} {l : List α} (h : l.length = 12) : ∃ a b c d e f g i j k m n, l = [a, b, c, d, e, f, g, i, j, k, m, n] := by
 match l, h with
 | [a, b, c, d, e, f, g, i, j, k, m, n], _ => exact ⟨a, b, c, d, e, f, g, i, j, k, m, n, rfl⟩
theorem cofFb : Tryz.prog.cellsOf 134 = 3 := by kernel_rfl
theorem cofTab : Tryz.prog.cellsOf 135 = 12 := by kernel_rfl
theorem cofInt : Tryz.prog.cellsOf 3 = 1 := by kernel_rfl
theorem lit_cell {v : Value} {a : Int} {p : List MemPlace} {x : DataW H × List MemPlace} (h : DataW.trod enc Tryz.prog w base sp held fuel 3 [v] = some x) (hx : x.1 = .lit (.int .i64 a)) : v = .int .i64 a := by
 obtain ⟨n, hn, rfl, _⟩ := DataW.trod_int Tryz.underlying3 h
 simp at hn hx
 rw [hn, hx]
theorem cells_fb {L : List Value} {a b c : Int} {x : DataW H × List MemPlace} (h : DataW.trod enc Tryz.prog w base sp held fuel 134 L = some x) (hx : x.1 = .agg [.lit (.int .i64 a), .lit (.int .i64 b), .lit (.int .i64 c)]) : L = [.int .i64 a, .int .i64 b, .int .i64 c] := by
 obtain ⟨ys, n, _, rfl, hl, hy, hf⟩ := DataW.trod_struct Tryz.underlying134 h
 replace hl := hl.trans cofFb
 obtain ⟨v0, v1, v2, rfl⟩ := list3 hl
 obtain ⟨y0, y1, y2, rfl⟩ := list3 hy
 have hc := cofInt
 · · simp only [List.map_cons, List.map_nil, DataW.agg.injEq, List.cons.injEq, and_true] at hx
     have h0 := hf 0 _ rfl
     have h1 := hf 1 _ rfl
     have h2 := hf 2 _ rfl
     simp only [List.getElem_toArray, List.getElem_cons_zero, List.getElem_cons_succ, hc, List.drop_zero, List.drop_succ_cons, List.take_succ_cons, List.take_zero, List.getElem?_cons_zero, List.getElem?_cons_succ] at h0 h1 h2
     rw [lit_cell (p := []) h0 hx.1, lit_cell (p := []) h1 hx.2.1, lit_cell (p := []) h2 hx.2.2]
theorem cells_tab {cs : List Value} {x : DataW H × List MemPlace} (h : DataW.trod enc Tryz.prog w base sp held fuel 135 cs = some x) (hx : x.1 = Rows.laid_tenaille_rtcp_feedbacks) : cs = tabC := by
 obtain ⟨xs, n, _, rfl, hl, hxl, hf⟩ := DataW.trod_array Tryz.underlying135 h
 replace hl := hl.trans cofTab
 have hc := cofFb
 obtain ⟨c0, c1, c2, c3, c4, c5, c6, c7, c8, c9, c10, c11, rfl⟩ := list12 hl
 obtain ⟨x0, x1, x2, x3, rfl⟩ := list4 hxl
 · · simp only [Rows.laid_tenaille_rtcp_feedbacks, List.map_cons, List.map_nil, DataW.agg.injEq, List.cons.injEq, and_true] at hx
     have h0 := hf 0 (by omega)
     have h1 := hf 1 (by omega)
     have h2 := hf 2 (by omega)
     have h3 := hf 3 (by omega)
     simp only [hc, Nat.zero_mul, Nat.reduceMul, List.drop_zero, List.drop_succ_cons, List.take_succ_cons, List.take_zero, List.getElem?_cons_zero, List.getElem?_cons_succ] at h0 h1 h2 h3
     have e0 := cells_fb h0 hx.1
     have e1 := cells_fb h1 hx.2.1
     have e2 := cells_fb h2 hx.2.2.1
     have e3 := cells_fb h3 hx.2.2.2
     simp at e0 e1 e2 e3
     obtain ⟨rfl, rfl, rfl⟩ := e0
     obtain ⟨rfl, rfl, rfl⟩ := e1
     obtain ⟨rfl, rfl, rfl⟩ := e2
     obtain ⟨rfl, rfl, rfl⟩ := e3
     rfl
end
theorem gTabFb : Tryz.prog.globalNamed "tenaille/rtcp.feedbacks" = some 0 := by kernel_rfl
theorem gTabTy : (Tryz.prog.globals[0]?).map (·.type) = some 135 := by kernel_rfl
theorem tab_of_laid {W : World} {rest : List (String × DataW Unit)} (h : laidMet Tryz.prog (("tenaille/rtcp.feedbacks", Rows.laid_tenaille_rtcp_feedbacks) :: rest) W) : Tab W ∧ 0 < W.heap.size := by
 obtain ⟨ps, ⟨g', t', cs, fuel, p, q, hg', ht', hvar, hd, _, _⟩, _⟩ := h
 obtain rfl := Option.some.inj (gTabFb.symm.trans hg')
 obtain rfl := Option.some.inj (gTabTy.symm.trans ht')
 have hcs := cells_tab hd rfl
 have hT : Tab W := by
  intro j v hv
  rw [Nat.zero_add]
  have := World.var?_cell gTabFb hvar j
  rw [this, ← hv, ← hcs]
  simp
 refine ⟨hT, ?_⟩
 have := World.block_lt_of_cell? W _ (hT 0 (.int .i64 1) rfl)
 exact Nat.lt_of_le_of_lt (Nat.zero_le _) this
end Go.Proofs.YtheefckohnaceaaGreatDoor
