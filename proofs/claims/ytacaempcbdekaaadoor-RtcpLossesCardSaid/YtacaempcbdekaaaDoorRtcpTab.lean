/- The package's table, as the row lays it. No statement is proved here. -/
import Derived.Test.YtacaempcbdekaaaDoorRows
import Derived.Test.YtacaempcbdekaaaDoorRtcp5
import Derived.OpenShut
import Derived.ChangeArms
import Derived.Lib.LaidTab
namespace Go.Proofs.YtacaempcbdekaaaDoor
open Go.RowKit Go.ChangeShapes Go.WideShapes
set_option linter.unusedVariables false

section
variable {H : Type} {enc : TypeId × Value → H} {w : World} {base : Nat} {sp : Nat → Bool} {held : Bool} {fuel : Nat}
theorem list3 {α : Type} {l : List α} (h : l.length = 3) : ∃ a b c, l = [a, b, c] := by
  match l, h with
  | [a, b, c], _ => exact ⟨a, b, c, rfl⟩
theorem list4 {α : Type} {l : List α} (h : l.length = 4) : ∃ a b c d, l = [a, b, c, d] := by
  match l, h with
  | [a, b, c, d], _ => exact ⟨a, b, c, d, rfl⟩
theorem list12 {α : Type} {l : List α} (h : l.length = 12) : ∃ a b c d e f g i j k m n, l = [a, b, c, d, e, f, g, i, j, k, m, n] := by
  match l, h with
  | [a, b, c, d, e, f, g, i, j, k, m, n], _ => exact ⟨a, b, c, d, e, f, g, i, j, k, m, n, rfl⟩
theorem cofFb : Tryd.prog.cellsOf 81 = 3 := by kernel_rfl
theorem cofTab : Tryd.prog.cellsOf 82 = 12 := by kernel_rfl
theorem cofInt : Tryd.prog.cellsOf 3 = 1 := by kernel_rfl
theorem lit_cell {v : Value} {a : Int} {p : List MemPlace} {x : DataW H × List MemPlace} (h : DataW.trod enc Tryd.prog w base sp held fuel 3 [v] = some x) (hx : x.1 = .lit (.int .i64 a)) : v = .int .i64 a := by
  obtain ⟨n, hn, rfl, _⟩ := DataW.trod_int Tryd.underlying3 h
  simp at hn hx
  rw [hn, hx]
theorem cells_fb {L : List Value} {a b c : Int} {x : DataW H × List MemPlace} (h : DataW.trod enc Tryd.prog w base sp held fuel 81 L = some x) (hx : x.1 = .agg [.lit (.int .i64 a), .lit (.int .i64 b), .lit (.int .i64 c)]) : L = [.int .i64 a, .int .i64 b, .int .i64 c] := by
  obtain ⟨ys, n, _, rfl, hl, hy, hf⟩ := DataW.trod_struct Tryd.underlying81 h
  replace hl := hl.trans cofFb
  obtain ⟨v0, v1, v2, rfl⟩ := list3 hl
  obtain ⟨y0, y1, y2, rfl⟩ := list3 hy
  have hc := cofInt
  · · simp only [List.map_cons, List.map_nil, DataW.agg.injEq, List.cons.injEq, and_true] at hx
      have h0 := hf 0 _ rfl
      have h1 := hf 1 _ rfl
      have h2 := hf 2 _ rfl
      simp only [List.getElem_toArray, List.getElem_cons_zero, List.getElem_cons_succ, hc, List.drop_zero, List.drop_succ_cons, List.take_succ_cons, List.take_zero, List.getElem?_cons_zero, List.getElem?_cons_succ] at h0 h1 h2
      rw [lit_cell (p := []) h0 hx.1, lit_cell (p := []) h1 hx.2.1, lit_cell (p := []) h2 hx.2.2]
theorem cells_tab {cs : List Value} {x : DataW H × List MemPlace} (h : DataW.trod enc Tryd.prog w base sp held fuel 82 cs = some x) (hx : x.1 = Rows.laid_tenaille_rtcp_feedbacks) : cs = tabC := by
  obtain ⟨xs, n, _, rfl, hl, hxl, hf⟩ := DataW.trod_array Tryd.underlying82 h
  replace hl := hl.trans cofTab
  have hc := cofFb
  obtain ⟨c0, c1, c2, c3, c4, c5, c6, c7, c8, c9, c10, c11, rfl⟩ := list12 hl
  obtain ⟨x0, x1, x2, x3, rfl⟩ := list4 hxl
  · · simp only [Rows.laid_tenaille_rtcp_feedbacks, List.map_cons, List.map_nil, DataW.agg.injEq, List.cons.injEq, and_true] at hx
      have h0 := hf 0 (by omega)
      have h1 := hf 1 (by omega)
      have h2 := hf 2 (by omega)
      have h3 := hf 3 (by omega)
      simp only [hc, Nat.zero_mul, Nat.reduceMul, List.drop_zero, List.drop_succ_cons, List.take_succ_cons, List.take_zero, List.getElem?_cons_zero, List.getElem?_cons_succ] at h0 h1 h2 h3
      have e0 := cells_fb h0 hx.1
      have e1 := cells_fb h1 hx.2.1
      have e2 := cells_fb h2 hx.2.2.1
      have e3 := cells_fb h3 hx.2.2.2
      simp at e0 e1 e2 e3
      obtain ⟨rfl, rfl, rfl⟩ := e0
      obtain ⟨rfl, rfl, rfl⟩ := e1
      obtain ⟨rfl, rfl, rfl⟩ := e2
      obtain ⟨rfl, rfl, rfl⟩ := e3
      rfl
end
theorem gTabFb : Tryd.prog.globalNamed "tenaille/rtcp.feedbacks" = some 0 := by kernel_rfl
theorem gTabTy : (Tryd.prog.globals[0]?).map (·.type) = some 82 := by kernel_rfl
/-- What the row's list gives: the table's cells. -/
theorem tab_of_laid {W : World} {rest : List (String × DataW Unit)} (h : laidMet Tryd.prog (("tenaille/rtcp.feedbacks", Rows.laid_tenaille_rtcp_feedbacks) :: rest) W) : Tab W ∧ 0 < W.heap.size := by
  obtain ⟨ps, ⟨g', t', cs, fuel, p, q, hg', ht', hvar, hd, _, _⟩, _⟩ := h
  obtain rfl := Option.some.inj (gTabFb.symm.trans hg')
  obtain rfl := Option.some.inj (gTabTy.symm.trans ht')
  have hcs := cells_tab hd rfl
  have hT : Tab W := by
    intro j v hv
    rw [Nat.zero_add]
    have := World.var?_cell gTabFb hvar j
    rw [this, ← hv, ← hcs]
    simp
  refine ⟨hT, ?_⟩
  have := World.block_lt_of_cell? W _ (hT 0 (.int .i64 1) rfl)
  exact Nat.lt_of_le_of_lt (Nat.zero_le _) this
end Go.Proofs.YtacaempcbdekaaaDoor
