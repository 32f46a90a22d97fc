/- A message and a place (address, port) that come in by value, opened. No statement is proved here. -/
import Derived.Test.YthoiebjndchobaaStunR1
import Derived.Test.YthoiebjndchobaaOpen
import Derived.Test.YthoiebjndchobaaArg2
import Derived.ChangeSame
import Derived.OpenShut
namespace Go.Proofs.Ythoiebjndchobaa
open Go.RowKit Go.ChangeShapes Go.WideShapes Go.Deep
set_option linter.unusedVariables false

theorem list2S {r : List Value} (h : r.length = 2) : ∃ a b, r = [a, b] := by
  match r, h with
  | [a, b], _ => exact ⟨a, b, rfl⟩
section
variable {H : Type} {enc : TypeId × Value → H} {P : Program} {w : World} {n : Nat}
/-- A slice of bytes, in one cell. -/
theorem opened_bs {t e : TypeId} {v : Value} (ht : P.underlying t = some (.slice e)) (he : P.underlying e = some (.int .u8)) (hC : P.cellsOf e = 1)
    (h : ∃ y, DataW.trod enc P w 0 (fun _ => true) true n t [v] = some y) : ∃ (A : Option Addr) (c : Nat) (bs : List UInt8), v = .slice A bs.length c ∧ RdS w A bs.length c bs := by
  obtain ⟨y, hf⟩ := h
  rcases open_ints ht he hC hf with ⟨hcs, _⟩ | ⟨x, l, c, zs, hcs, _, hl, hm, hz, _, hcell, hwz⟩
  · simp at hcs
    subst hcs
    exact ⟨none, 0, [], rfl, RdS.nil w⟩
  · simp at hcs
    subst hcs
    obtain ⟨bs, hb⟩ := RdS.of_row (w := w) (a := some x) (len := l) (cap := c) (zs := zs) (.inr ⟨_, rfl, hl, hm, by simpa using hz, hcell, hwz⟩)
    have hn := hb.len
    subst hn
    exact ⟨some x, c, bs, rfl, hb⟩
end
section
variable {H : Type} {enc : TypeId × Value → H} {w : World} {n : Nat}
/-- Attributes that come in. -/
theorem opened_avs {v : Value} (h : ∃ y, DataW.trod enc Try.prog w 0 (fun _ => true) true n 26 [v] = some y) : ∃ (A : Option Addr) (c : Nat) (L : List (Nat × List UInt8)), v = .slice A L.length c ∧ AvRd w A L ∧ (∀ x ∈ L, x.1 < 65536) ∧ L.length ≤ 9223372036854775807 := by
  obtain ⟨A, c, rows, rfl, hmx, hr, hok⟩ := opened_rows 2 rfl Try.underlying26 Try.underlying47 (by kernel_rfl) (by kernel_rfl) (by omega) h
  obtain ⟨L, hl, hR⟩ := choose_rel (R := fun r (x : Nat × List UInt8) => (∃ (D : Option Addr) (c : Nat), r = [.int .u16 (x.1 : Int), .slice D x.2.length c] ∧ RdS w D x.2.length c x.2) ∧ x.1 < 65536) rows (fun r hr => by
    obtain ⟨hl, m, hf⟩ := hok r hr
    obtain ⟨a, b, rfl⟩ := list2S hl
    obtain ⟨a, rfl, h0⟩ := opened_n16 Try.underlying24 (hf 0 _ _ rfl rfl)
    obtain ⟨D, d, bs, rfl, h1⟩ := opened_bs Try.underlying22 Try.underlying5 (by kernel_rfl) (hf 1 _ _ rfl rfl)
    exact ⟨(a, bs), ⟨D, d, rfl, h1⟩, h0⟩)
  refine ⟨A, c, L, by rw [hl], ⟨rows, hl.symm, by rw [List.map_id]; exact hr, fun i r x hi hj => (hR i r x hi hj).1⟩, fun x hx => ?_, by omega⟩
  obtain ⟨i, hi, rfl⟩ := List.getElem_of_mem hx
  exact (hR i (rows[i]'(by omega)) L[i] (List.getElem?_eq_getElem _) (List.getElem?_eq_getElem hi)).2
/-- A message that comes in by value. -/
theorem open_stun {r : Reach} {b0 : Nat} {v : Value} {d : DataW H} {p : List MemPlace} (hv : Value.okWide Try.prog w r b0 28 v) (h : DataW.Trod enc Try.prog w 0 (fun _ => true) true 28 v d p) :
    ∃ cs s, v = .agg (List.toArray cs) ∧ StnRd w cs s ∧ s.fit ∧ s.av.length ≤ 9223372036854775807 := by
  obtain ⟨cs, rfl, hsz⟩ := okWide_struct Try.underlying28 hv
  have h14 : cs.size = 14 := hsz.trans (by kernel_rfl)
  obtain ⟨l⟩ := cs
  have hl : l.length = 14 := h14
  obtain ⟨fuel, hf⟩ := h
  obtain ⟨xs, m, _, hx, _, hlen, hg⟩ := DataW.trod_struct Try.underlying28 hf
  have hxl : xs.length = 3 := hlen
  match xs, hxl with
  | [y0, y1, y2], _ =>
    have g0 : DataW.trod enc Try.prog w 0 (fun _ => true) true m 24 (l.take (Try.prog.cellsOf 24)) = some y0 := hg 0 _ rfl
    have g1 : DataW.trod enc Try.prog w 0 (fun _ => true) true m 25 ((l.drop 1).take (Try.prog.cellsOf 25)) = some y1 := hg 1 _ rfl
    have g2 : DataW.trod enc Try.prog w 0 (fun _ => true) true m 26 ((l.drop 13).take (Try.prog.cellsOf 26)) = some y2 := hg 2 _ rfl
    have k0 : Try.prog.cellsOf 24 = 1 := by kernel_rfl
    have k1 : Try.prog.cellsOf 25 = 12 := by kernel_rfl
    have k2 : Try.prog.cellsOf 26 = 1 := by kernel_rfl
    rw [k0] at g0
    rw [k1] at g1
    rw [k2] at g2
    have e0 : l.take 1 = [l[0]] := by rw [List.take_succ_eq_append_getElem (by omega)]; rfl
    have e2 : (l.drop 13).take 1 = [l[13]] := by rw [List.drop_eq_getElem_cons (by omega)]; rfl
    rw [e0] at g0
    rw [e2] at g2
    obtain ⟨ty, ht, l0⟩ := opened_n16 Try.underlying24 ⟨_, g0⟩
    obtain ⟨A, c, L, hA, hL, l2, l3⟩ := opened_avs ⟨_, g2⟩
    obtain ⟨tx, htl, htx, _⟩ := trod_bytes Try.underlying25 Try.underlying5 (by kernel_rfl) (by rw [List.length_take, List.length_drop]; omega) g1
    refine ⟨l, ⟨ty, tx, L⟩, rfl, ⟨A, c, ?_, hL⟩, ⟨l0, htl, l2⟩, l3⟩
    have a1 : l = l.take 1 ++ ((l.drop 1).take 12 ++ (l.drop 13).take 1) := by
      rw [show l.drop 13 = (l.drop 1).drop 12 by rw [List.drop_drop], List.take_of_length_le (l := (l.drop 1).drop 12) (by simp; omega), List.take_append_drop, List.take_append_drop]
    rw [a1, e0, e2, htx, ht, hA]
    rfl
/-- A place that comes in by value: its address, its port. -/
theorem open_tuple {r : Reach} {b0 : Nat} {v : Value} {d : DataW H} {p : List MemPlace} (hv : Value.okWide Try.prog w r b0 43 v) (h : DataW.Trod enc Try.prog w 0 (fun _ => true) true 43 v d p) :
    ∃ addr port : Nat, v = .agg #[.int .u32 (addr : Int), .int .u16 (port : Int)] ∧ addr < 4294967296 ∧ port < 65536 := by
  obtain ⟨cs, rfl, hsz⟩ := okWide_struct Try.underlying43 hv
  have h14 : cs.size = 2 := hsz.trans (by kernel_rfl)
  obtain ⟨l⟩ := cs
  have hl : l.length = 2 := h14
  obtain ⟨fuel, hf⟩ := h
  obtain ⟨xs, m, _, hx, _, hlen, hg⟩ := DataW.trod_struct Try.underlying43 hf
  have hxl : xs.length = 2 := hlen
  obtain ⟨a, b, rfl⟩ := list2S hl
  match xs, hxl with
  | [y0, y1], _ =>
    have g0 : DataW.trod enc Try.prog w 0 (fun _ => true) true m 41 (([a, b] : List Value).take (Try.prog.cellsOf 41)) = some y0 := hg 0 _ rfl
    have g1 : DataW.trod enc Try.prog w 0 (fun _ => true) true m 24 (([a, b] : List Value).drop 1 |>.take (Try.prog.cellsOf 24)) = some y1 := hg 1 _ rfl
    have k0 : Try.prog.cellsOf 41 = 1 := by kernel_rfl
    have k1 : Try.prog.cellsOf 24 = 1 := by kernel_rfl
    rw [k0] at g0
    rw [k1] at g1
    simp only [List.take_succ_cons, List.take_zero, List.drop_succ_cons, List.drop_zero] at g0 g1
    obtain ⟨x, rfl, l0⟩ := opened_n32 Try.underlying41 ⟨_, g0⟩
    obtain ⟨y, rfl, l1⟩ := opened_n16 Try.underlying24 ⟨_, g1⟩
    exact ⟨x, y, rfl, l0, l1⟩
end
end Go.Proofs.Ythoiebjndchobaa
