/- Several texts in one: plain words and walks. No statement is proved here. -/
import Derived.Test.YtmkeioeodlidgaaGreatDoorZM5
import Derived.Test.YtmkeioeodlidgaaGreatDoorZM32
namespace Go.Proofs.YtmkeioeodlidgaaGreatDoor
open Go.RowKit Go.ChangeShapes Go.WideShapes Go.Deep
set_option linter.unusedVariables false

theorem choose_rows {α : Type} {f : α → List Value} {P : α → Prop} : ∀ rows : List (List Value), (∀ r ∈ rows, ∃ a, r = f a ∧ P a) → ∃ L : List α, rows = L.map f ∧ ∀ a ∈ L, P a
 | [], _ => ⟨[], rfl, by simp⟩
 | r :: q, h => by
   obtain ⟨a, ha, pa⟩ := h r (by simp)
   obtain ⟨L, hL, hP⟩ := choose_rows q (fun x hx => h x (by simp [hx]))
   refine ⟨a :: L, by rw [ha, hL]; rfl, fun x hx => ?_⟩
   rcases List.mem_cons.1 hx with rfl | hx
   · exact pa
   · exact hP x hx
theorem choose_rel {α β : Type} {R : α → β → Prop} : ∀ rows : List α, (∀ r ∈ rows, ∃ a, R r a) → ∃ L : List β, L.length = rows.length ∧ ∀ (i : Nat) (r : α) (a : β), rows[i]? = some r → L[i]? = some a → R r a
 | [], _ => ⟨[], rfl, by simp⟩
 | r :: q, h => by
   obtain ⟨a, ha⟩ := h r (by simp)
   obtain ⟨L, hl, hL⟩ := choose_rel q (fun x hx => h x (by simp [hx]))
   refine ⟨a :: L, by simp [hl], fun i r' a' hr' ha' => ?_⟩
   cases i with
   | zero => simp at hr' ha'; subst hr'; subst ha'; exact ha
   | succ i => exact hL i r' a' (by simpa using hr') (by simpa using ha')
section
variable {H : Type} {enc : TypeId × Value → H} {P : Program} {w : World}
def FldOk (enc : TypeId × Value → H) (P : Program) (w : World) (fs : Array Field) (r : List Value) : Prop :=
 r.length = fs.size ∧ ∃ n : Nat, ∀ (j : Nat) (f : Field) (x : Value), fs[j]? = some f → r[j]? = some x → ∃ y, DataW.trod enc P w 0 (fun _ => true) true n f.type [x] = some y
theorem opened_in {t : TypeId} {k : IntKind} {n : Nat} {v : Value} (ht : P.underlying t = some (.int k)) (h : ∃ y, DataW.trod enc P w 0 (fun _ => true) true n t [v] = some y) : ∃ z, v = .int k z ∧ (Lit.int k z).wf = true := by
 obtain ⟨y, hf⟩ := h
 obtain ⟨z, hz, _, hw⟩ := DataW.trod_int ht hf
 simp at hz
 exact ⟨z, hz, hw⟩
end
end Go.Proofs.YtmkeioeodlidgaaGreatDoor

namespace Go.Proofs.YtmkeioeodlidgaaGreatDoor
open Go.RowKit Go.ChangeShapes Go.WideShapes Go.Deep
set_option linter.unusedVariables false

section
variable {H : Type} {enc : TypeId × Value → H} {P : Program} {w : World}
theorem opened_elems {t e : TypeId} {n : Nat} {v : Value} (sz : Nat) (ht : P.underlying t = some (.slice e)) (hC : P.cellsOf e = sz) (hpos : 0 < sz)
 (h : ∃ y, DataW.trod enc P w 0 (fun _ => true) true n t [v] = some y) : ∃ (A : Option Addr) (c : Nat) (rows : List (List Value)), v = .slice A rows.length c ∧ rows.length ≤ 9223372036854775807 ∧ RdG sz w A rows ∧ ∀ r ∈ rows, r.length = sz ∧ ∃ m y, DataW.trod enc P w 0 (fun _ => true) true m e r = some y := by
 subst hC
 obtain ⟨y, hf⟩ := h
 rcases open_slice ht hf with ⟨h0, _⟩ | ⟨x, l, c, m, f2, D, Pl, hcs, _, hle, hcap, hm, _, hel⟩
 · simp at h0
   subst h0
   exact ⟨none, 0, [], rfl, by simp, ⟨by simp, fun h => absurd h (by simp)⟩, by simp⟩
 · simp at hcs
   subst hcs
   simp only [maxLen] at hcap
   simp only [if_true] at hm
   have key : ∀ i, i < l → ∃ r, (r.length = P.cellsOf e ∧ ∃ m y, DataW.trod enc P w 0 (fun _ => true) true m e r = some y) ∧ ∀ j, j < P.cellsOf e → w.cell? (x.add (i * P.cellsOf e + j)) = r[j]? := by
    intro i hi
    obtain ⟨cs, hc, ht2⟩ := hel i (by omega)
    obtain ⟨_, hcl, hcell⟩ := World.cells?_some hc
    refine ⟨cs, ⟨by omega, _, _, ht2⟩, fun j hj => ?_⟩
    have hcj := hcell j (by omega)
    rw [Go.Deep.add_add] at hcj
    exact hcj
   obtain ⟨rows, hlen, hrows⟩ := choose_rel (R := fun i r => (r.length = P.cellsOf e ∧ ∃ m y, DataW.trod enc P w 0 (fun _ => true) true m e r = some y) ∧ ∀ j, j < P.cellsOf e → w.cell? (x.add (i * P.cellsOf e + j)) = r[j]?) (List.range l) (fun i hi => key i (List.mem_range.1 hi))
   rw [List.length_range] at hlen
   have hat : ∀ i (hi : i < rows.length), (rows[i].length = P.cellsOf e ∧ ∃ m y, DataW.trod enc P w 0 (fun _ => true) true m e rows[i] = some y) ∧ ∀ j, j < P.cellsOf e → w.cell? (x.add (i * P.cellsOf e + j)) = rows[i][j]? :=
    fun i hi => hrows i i rows[i] (List.getElem?_range (by omega)) (List.getElem?_eq_getElem hi)
   have hok : ∀ r ∈ rows, r.length = P.cellsOf e ∧ ∃ m y, DataW.trod enc P w 0 (fun _ => true) true m e r = some y := by
    intro r hr
    obtain ⟨i, hi, rfl⟩ := List.getElem_of_mem hr
    exact (hat i hi).1
   refine ⟨some x, c, rows, by rw [hlen], by omega, ⟨fun r hr => (hok r hr).1, fun hn => ?_⟩, hok⟩
   obtain ⟨⟨hl0, _⟩, h0⟩ := hat 0 hn
   have hv0 := h0 0 hpos
   rw [List.getElem?_eq_getElem (show 0 < rows[0].length by omega)] at hv0
   obtain ⟨b, off, spot⟩ := x
   have hs : spot = none := by
    have := World.cell?_spot hv0
    simpa [Addr.add] using this
   subst hs
   refine ⟨b, off, rfl, ?_, fun j hj d hd => ?_⟩
   · have := World.block_lt_of_cell? w _ hv0
     rw [add_at] at this
     exact this
   · have := (hat j hj).2 d hd
     rw [add_at, ← Nat.add_assoc] at this
     rw [this]
     have hl2 := (hat j hj).1.1
     simp [List.getD, List.getElem?_eq_getElem hj]
theorem fields_one {t : TypeId} {fs : Array Field} {n : Nat} {cs : List Value} (ht : P.underlying t = some (.struct fs)) (hone : oneCellFields P fs = true) (hC : P.cellsOf t = fs.size) (h : ∃ y, DataW.trod enc P w 0 (fun _ => true) true n t cs = some y) : FldOk enc P w fs cs := by
 obtain ⟨y, hf⟩ := h
 obtain ⟨xs, f3, _, _, hcl, hxl, hfl⟩ := DataW.trod_struct ht hf
 refine ⟨by omega, f3, fun j f v hj hv => ?_⟩
 obtain ⟨ho, h1⟩ := hone_of hone j f hj
 have hr := hfl j f hj
 rw [ho, h1] at hr
 obtain ⟨hjc, rfl⟩ := List.getElem?_eq_some_iff.1 hv
 rw [List.drop_eq_getElem_cons hjc] at hr
 simp only [List.take_succ_cons, List.take_zero] at hr
 have hjf : j < fs.size := (Array.getElem?_eq_some_iff.1 hj).1
 rw [List.getElem?_eq_getElem (show j < xs.length by omega)] at hr
 exact ⟨_, hr⟩
end
structure Opr where
 cs : List Value
 pk : Pkt
 i : Int
 c : Bool
 a : Nat
 f : Nat
 R : Option Addr
 rc : Nat
 bs : List UInt8
def Opr.row (o : Opr) : List Value := o.cs ++ opT o.i o.c o.a o.f o.R o.bs.length o.rc
structure OprRd (w : World) (o : Opr) : Prop where
 pk : PkRd w o.cs o.pk
 fit : fits o.pk
 i : -9223372036854775808 ≤ o.i ∧ o.i ≤ 9223372036854775807
 a : o.a < 65536
 f : o.f < 256
 bs : RdS w o.R o.bs.length o.rc o.bs
theorem list16 {α : Type} {l : List α} (h : l.length = 16) : ∃ c0 c1 c2 c3 c4 c5 c6 c7 c8 c9 c10 c11 c12 c13 c14 c15, l = [c0, c1, c2, c3, c4, c5, c6, c7, c8, c9, c10, c11, c12, c13, c14, c15] := by
 match l, h with
 | [c0, c1, c2, c3, c4, c5, c6, c7, c8, c9, c10, c11, c12, c13, c14, c15], _ => exact ⟨_, _, _, _, _, _, _, _, _, _, _, _, _, _, _, _, rfl⟩
section
variable {H : Type} {enc : TypeId × Value → H} {w : World} {n : Nat}
set_option maxRecDepth 100000 in
theorem opened_pkt {c0 c1 c2 c3 c4 c5 c6 c7 c8 c9 c10 : Value} (h : ∃ y, DataW.trod enc Tryz.prog w 0 (fun _ => true) true n 37 [c0, c1, c2, c3, c4, c5, c6, c7, c8, c9, c10] = some y) : ∃ q, PkRd w [c0, c1, c2, c3, c4, c5, c6, c7, c8, c9, c10] q ∧ fits q := by
 obtain ⟨_, m, key⟩ := fields_one Tryz.underlying37 (by kernel_rfl) (by kernel_rfl) h
 obtain ⟨m, rfl⟩ := opened_bool (key 0 _ _ rfl rfl)
 obtain ⟨ty, rfl, _⟩ := opened_u8 (key 1 _ _ rfl rfl)
 obtain ⟨sq, rfl, l2⟩ := opened_u16 (key 2 _ _ rfl rfl)
 obtain ⟨st, rfl, l3⟩ := opened_u32 (key 3 _ _ rfl rfl)
 obtain ⟨so, rfl, l4⟩ := opened_u32 (key 4 _ _ rfl rfl)
 obtain ⟨A, a, U, rfl, hu, l5⟩ := opened_words (key 5 _ _ rfl rfl)
 obtain ⟨x, rfl⟩ := opened_bool (key 6 _ _ rfl rfl)
 obtain ⟨pf, rfl, l7⟩ := opened_u16 (key 7 _ _ rfl rfl)
 obtain ⟨B, b, X, rfl, hx⟩ := opened_bytes (key 8 _ _ rfl rfl)
 obtain ⟨D, e, Y, rfl, hy⟩ := opened_bytes (key 9 _ _ rfl rfl)
 obtain ⟨pd, rfl, l10⟩ := opened_u8 (key 10 _ _ rfl rfl)
 exact ⟨⟨m, ty, sq, st, so, U, x, pf, X, Y, pd⟩, ⟨A, a, B, b, D, e, rfl, hu, hx, hy⟩, l2, l3, l4, l5, l7, l10⟩
set_option maxRecDepth 100000 in
theorem opened_op {r : List Value} (hl : r.length = 16) (h : ∃ y, DataW.trod enc Tryz.prog w 0 (fun _ => true) true n 39 r = some y) : ∃ o : Opr, r = o.row ∧ OprRd w o := by
 obtain ⟨c0, c1, c2, c3, c4, c5, c6, c7, c8, c9, c10, c11, c12, c13, c14, c15, rfl⟩ := list16 hl
 obtain ⟨y, hf⟩ := h
 obtain ⟨xs, m, _, hx, _, hlen, hg⟩ := DataW.trod_struct Tryz.underlying39 hf
 match xs, hlen with
 | [y0, y1, y2, y3, y4, y5], _ =>
   have k0 : DataW.trod enc Tryz.prog w 0 (fun _ => true) true m 37 (List.take (Tryz.prog.cellsOf 37) (List.drop 0 [c0, c1, c2, c3, c4, c5, c6, c7, c8, c9, c10, c11, c12, c13, c14, c15])) = some y0 := hg 0 _ rfl
   have k1 : DataW.trod enc Tryz.prog w 0 (fun _ => true) true m 2 (List.take (Tryz.prog.cellsOf 2) (List.drop 11 [c0, c1, c2, c3, c4, c5, c6, c7, c8, c9, c10, c11, c12, c13, c14, c15])) = some y1 := hg 1 _ rfl
   have k2 : DataW.trod enc Tryz.prog w 0 (fun _ => true) true m 4 (List.take (Tryz.prog.cellsOf 4) (List.drop 12 [c0, c1, c2, c3, c4, c5, c6, c7, c8, c9, c10, c11, c12, c13, c14, c15])) = some y2 := hg 2 _ rfl
   have k3 : DataW.trod enc Tryz.prog w 0 (fun _ => true) true m 32 (List.take (Tryz.prog.cellsOf 32) (List.drop 13 [c0, c1, c2, c3, c4, c5, c6, c7, c8, c9, c10, c11, c12, c13, c14, c15])) = some y3 := hg 3 _ rfl
   have k4 : DataW.trod enc Tryz.prog w 0 (fun _ => true) true m 5 (List.take (Tryz.prog.cellsOf 5) (List.drop 14 [c0, c1, c2, c3, c4, c5, c6, c7, c8, c9, c10, c11, c12, c13, c14, c15])) = some y4 := hg 4 _ rfl
   have k5 : DataW.trod enc Tryz.prog w 0 (fun _ => true) true m 35 (List.take (Tryz.prog.cellsOf 35) (List.drop 15 [c0, c1, c2, c3, c4, c5, c6, c7, c8, c9, c10, c11, c12, c13, c14, c15])) = some y5 := hg 5 _ rfl
   simp only [show Tryz.prog.cellsOf 37 = 11 from by kernel_rfl, show Tryz.prog.cellsOf 2 = 1 from by kernel_rfl, show Tryz.prog.cellsOf 4 = 1 from by kernel_rfl, show Tryz.prog.cellsOf 32 = 1 from by kernel_rfl, show Tryz.prog.cellsOf 5 = 1 from by kernel_rfl, show Tryz.prog.cellsOf 35 = 1 from by kernel_rfl] at k0 k1 k2 k3 k4 k5
   obtain ⟨q, hq, hqf⟩ := opened_pkt ⟨_, k0⟩
   obtain ⟨i, e1, h1⟩ := opened_in Tryz.underlying2 ⟨_, k1⟩
   obtain ⟨b, e2⟩ := opened_bool ⟨_, k2⟩
   obtain ⟨a, e3, h3⟩ := opened_u16 ⟨_, k3⟩
   obtain ⟨f, e4, h4⟩ := opened_u8 ⟨_, k4⟩
   obtain ⟨R, rc, bs, e5, h5⟩ := opened_bytes ⟨_, k5⟩
   subst e1 e2 e3 e4 e5
   exact ⟨⟨[c0, c1, c2, c3, c4, c5, c6, c7, c8, c9, c10], q, i, b, a, f, R, rc, bs⟩, rfl, hq, hqf, bounds_i64 h1, h3, h4, h5⟩
theorem opened_ops {v : Value} (h : ∃ y, DataW.trod enc Tryz.prog w 0 (fun _ => true) true n 26 [v] = some y) : ∃ (A : Option Addr) (c : Nat) (l : List Opr), v = .slice A l.length c ∧ l.length ≤ 9223372036854775807 ∧ RdG 16 w A (l.map Opr.row) ∧ ∀ o ∈ l, OprRd w o := by
 obtain ⟨A, c, rows, rfl, hl, hr, hok⟩ := opened_elems 16 Tryz.underlying26 (by kernel_rfl) (by omega) h
 obtain ⟨L, rfl, hL⟩ := choose_rows (f := Opr.row) (P := OprRd w) rows (fun r hr => by
  obtain ⟨h1, m, y, h2⟩ := hok r hr
  exact opened_op h1 ⟨y, h2⟩)
 rw [List.length_map] at hl
 exact ⟨A, c, L, by rw [List.length_map], hl, hr, hL⟩
end
end Go.Proofs.YtmkeioeodlidgaaGreatDoor
