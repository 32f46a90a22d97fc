/- Several texts in one: Contracts of package rtcp: a packet's kind, by its type and its count. The package's table, as the row lays it. Contracts of package rtcp: how a body is read, by its kind: the map of the readers. Contracts of package rtcp: a packet, by the contract of its body. Contracts of package rtcp: the packets of a compound, and Read, where the bytes are one. Contracts of package rtcp: Read, where the bytes are a compound. Contracts of package rtcp: losses of numbers. The law's examples of layer 11 (tenaillelaw11). No statement is proved here. -/
import Derived.Test.YtacaempcbdekaaaDoorZB
import Derived.Test.YtacaempcbdekaaaDoorRows
import Derived.OpenShut
import Derived.ChangeArms
import Derived.Lib.LaidTab
import Derived.Maps.Own
import Derived.Recover
import Derived.Tactics2
import Derived.Laws.ResultCell
import Derived.Test.YtacaempcbdekaaaDoorZC
namespace Go.Proofs.YtacaempcbdekaaaDoor
open Go.RowKit
set_option linter.unusedVariables false

def fbC (k s c : Int) : List Value := [.int .i64 k, .int .i64 s, .int .i64 c]
def tabC : List Value := [.int .i64 1, .int .i64 205, .int .i64 1, .int .i64 2, .int .i64 206, .int .i64 1, .int .i64 3, .int .i64 206, .int .i64 4, .int .i64 4, .int .i64 206, .int .i64 15]
/-- The package's table lies where it was laid. -/
def Tab (w : World) : Prop := w.rangeAt 0 0 tabC
theorem Tab.below {w w' : World} {B : Nat} (h : Tab w) (hb : Below B w w') (h0 : 0 < B) : Tab w' := fun j v hv => (hb.cell (p := ⟨_, _, none⟩) h0).trans (h j v hv)
theorem rowTab : RowTy Tryd.prog 82 tabC.length := ⟨_, Tryd.underlying82, rfl, by kernel_rfl⟩
theorem rowFb {cs : List Value} (h : cs.length = 3) : RowTy Tryd.prog 81 cs.length := by
  rw [h]; exact ⟨_, Tryd.underlying81, rfl, by kernel_rfl⟩
abbrev zFb : List Value := [.int .i64 0, .int .i64 0, .int .i64 0]
theorem zeroFb (w : World) : (zeroValue 81).run Tryd.prog w = .ok (.agg #[.int .i64 0, .int .i64 0, .int .i64 0]) w := by kernel_rfl
theorem idxFb0 (w : World) : (Instr.index 82 (.agg #[.int .i64 1, .int .i64 205, .int .i64 1, .int .i64 2, .int .i64 206, .int .i64 1, .int .i64 3, .int .i64 206, .int .i64 4, .int .i64 4, .int .i64 206, .int .i64 15]) (.int .i64 0)).run Tryd.prog w = .ok (.agg #[.int .i64 1, .int .i64 205, .int .i64 1]) w := by kernel_rfl
theorem idxFb1 (w : World) : (Instr.index 82 (.agg #[.int .i64 1, .int .i64 205, .int .i64 1, .int .i64 2, .int .i64 206, .int .i64 1, .int .i64 3, .int .i64 206, .int .i64 4, .int .i64 4, .int .i64 206, .int .i64 15]) (.int .i64 1)).run Tryd.prog w = .ok (.agg #[.int .i64 2, .int .i64 206, .int .i64 1]) w := by kernel_rfl
theorem idxFb2 (w : World) : (Instr.index 82 (.agg #[.int .i64 1, .int .i64 205, .int .i64 1, .int .i64 2, .int .i64 206, .int .i64 1, .int .i64 3, .int .i64 206, .int .i64 4, .int .i64 4, .int .i64 206, .int .i64 15]) (.int .i64 2)).run Tryd.prog w = .ok (.agg #[.int .i64 3, .int .i64 206, .int .i64 4]) w := by kernel_rfl
theorem idxFb3 (w : World) : (Instr.index 82 (.agg #[.int .i64 1, .int .i64 205, .int .i64 1, .int .i64 2, .int .i64 206, .int .i64 1, .int .i64 3, .int .i64 206, .int .i64 4, .int .i64 4, .int .i64 206, .int .i64 15]) (.int .i64 3)).run Tryd.prog w = .ok (.agg #[.int .i64 4, .int .i64 206, .int .i64 15]) w := by kernel_rfl
theorem fbC_one (k s c : Int) : ∀ v ∈ fbC k s c, v.oneCell' = true := by intro v hv; simp [fbC] at hv; rcases hv with rfl | rfl | rfl <;> rfl
def fbAt : Nat → Nat × Nat × Nat
  | 0 => (1, 205, 1)
  | 1 => (2, 206, 1)
  | 2 => (3, 206, 4)
  | _ => (4, 206, 15)
def kindN (s q : Nat) : Nat := if s = 205 ∧ q = 1 then 1 else if s = 206 ∧ q = 1 then 2 else if s = 206 ∧ q = 4 then 3 else if s = 206 ∧ q = 15 then 4 else if s < 200 ∨ 203 < s then 0 else s
/-- None of the first k fits. -/
def noneFb (s q k : Nat) : Prop := ∀ j, j < k → ¬ (s = (fbAt j).2.1 ∧ q = (fbAt j).2.2)
theorem kind_hit (s q k : Nat) (hk : k < 4) (h : noneFb s q k) (h1 : s = (fbAt k).2.1) (h2 : q = (fbAt k).2.2) : kindN s q = (fbAt k).1 := by
  subst h1; subst h2
  match k, hk with
  | 0, _ => rfl
  | 1, _ => rfl
  | 2, _ => rfl
  | 3, _ => rfl
theorem kind_miss (s q : Nat) (h : noneFb s q 4) : kindN s q = if s < 200 ∨ 203 < s then 0 else s := by
  have h0 := h 0 (by omega)
  have h1 := h 1 (by omega)
  have h2 := h 2 (by omega)
  have h3 := h 3 (by omega)
  simp only [fbAt] at h0 h1 h2 h3
  unfold kindN
  rw [if_neg h0, if_neg h1, if_neg h2, if_neg h3]

set_option maxRecDepth 100000 in
set_option maxHeartbeats 1000000 in
theorem kindOf_any (s q : Nat) (sI qI : Int) (hsI : sI = s) (hqI : qI = q) (w : World) (ht : Tab w) (hw : 0 < w.heap.size) (hs : s < 256) (hq : q < 32) :
    Calls Tryd.prog 51 #[.int .i64 sI, .int .i64 qI] w fun e w' => e = .returned (.int .i64 (kindN s q : Int)) ∧ Below w.heap.size w w' := by
  have hz := zeroFb
  have HSI := Lib.hid hsI
  have HQI := Lib.hid hqI
  clear hsI hqI
  have HT : Hid (w.rangeAt 0 0 tabC) := Lib.hid ht
  clear ht
  go_enter Tryd.func51, Tryd.ntmps51
  go_wp2_with (with_reducible refine wpList_ld rfl 82 (.global 0) rfl 0 0 rfl tabC HT.out rowTab ?_)
  unfold tabC
  go_loopw [8] (fun i wx => ∃ (k : Nat) (z : Int), k ≤ 4 ∧ z = k ∧ i = .int .i64 z ∧ Hid (noneFb s q k) ∧ Hid (Below w.heap.size w wx)) (fun i _ => 4 - (intOf i).toNat)
  case atStart => exact ⟨0, 0, by omega, rfl, rfl, Lib.hid (fun j hj => absurd hj (by omega)), Lib.hid (Below.refl _ _)⟩
  case round =>
    obtain ⟨k, z, hk, hzk, rfl, HN, HB⟩ := hrel
    have hsz := HB.out.size
    by_cases hk4 : k < 4
    · match k, hk4 with
      | 0, _ =>
        obtain rfl : z = 0 := by omega
        by_cases h1 : s = 205
        · by_cases h2 : q = 1
          · have HR : Hid (kindN s q = 1) := Lib.hid (kind_hit s q 0 (by omega) HN.out h1 h2)
            obtain rfl : sI = 205 := by have := HSI.out; omega
            obtain rfl : qI = 1 := by have := HQI.out; omega
            clear hzk h1 h2 hs hq
            have hix := idxFb0
            go_wp2
            go_ret
            exact ⟨by rw [HR.out]; rfl, HB.out.alloc HB.out.size _⟩
          · have HN2 : Hid (noneFb s q 1) := Lib.hid (fun j hj => by
              rcases Nat.lt_or_ge j 0 with h3 | h3
              · exact HN.out j h3
              · obtain rfl : j = 0 := by omega
                exact fun h => h2 h.2)
            obtain rfl : sI = 205 := by have := HSI.out; omega
            have g2 : ¬ qI = 1 := by have := HQI.out; omega
            clear hzk h1 h2 hs hq
            have hix := idxFb0
            go_wp2
            go_roundw
            case rel => exact ⟨1, 1, by omega, rfl, by go_num, HN2, Lib.hid (HB.out.alloc HB.out.size _)⟩
            case measure => simp [intOf]
        · have HN2 : Hid (noneFb s q 1) := Lib.hid (fun j hj => by
            rcases Nat.lt_or_ge j 0 with h3 | h3
            · exact HN.out j h3
            · obtain rfl : j = 0 := by omega
              exact fun h => h1 h.1)
          have g1 : ¬ sI = 205 := by have := HSI.out; omega
          clear hzk h1 hs hq
          have hix := idxFb0
          go_wp2
          go_roundw
          case rel => exact ⟨1, 1, by omega, rfl, by go_num, HN2, Lib.hid (HB.out.alloc HB.out.size _)⟩
          case measure => simp [intOf]
      | 1, _ =>
        obtain rfl : z = 1 := by omega
        by_cases h1 : s = 206
        · by_cases h2 : q = 1
          · have HR : Hid (kindN s q = 2) := Lib.hid (kind_hit s q 1 (by omega) HN.out h1 h2)
            obtain rfl : sI = 206 := by have := HSI.out; omega
            obtain rfl : qI = 1 := by have := HQI.out; omega
            clear hzk h1 h2 hs hq
            have hix := idxFb1
            go_wp2
            go_ret
            exact ⟨by rw [HR.out]; rfl, HB.out.alloc HB.out.size _⟩
          · have HN2 : Hid (noneFb s q 2) := Lib.hid (fun j hj => by
              rcases Nat.lt_or_ge j 1 with h3 | h3
              · exact HN.out j h3
              · obtain rfl : j = 1 := by omega
                exact fun h => h2 h.2)
            obtain rfl : sI = 206 := by have := HSI.out; omega
            have g2 : ¬ qI = 1 := by have := HQI.out; omega
            clear hzk h1 h2 hs hq
            have hix := idxFb1
            go_wp2
            go_roundw
            case rel => exact ⟨2, 2, by omega, rfl, by go_num, HN2, Lib.hid (HB.out.alloc HB.out.size _)⟩
            case measure => simp [intOf]
        · have HN2 : Hid (noneFb s q 2) := Lib.hid (fun j hj => by
            rcases Nat.lt_or_ge j 1 with h3 | h3
            · exact HN.out j h3
            · obtain rfl : j = 1 := by omega
              exact fun h => h1 h.1)
          have g1 : ¬ sI = 206 := by have := HSI.out; omega
          clear hzk h1 hs hq
          have hix := idxFb1
          go_wp2
          go_roundw
          case rel => exact ⟨2, 2, by omega, rfl, by go_num, HN2, Lib.hid (HB.out.alloc HB.out.size _)⟩
          case measure => simp [intOf]
      | 2, _ =>
        obtain rfl : z = 2 := by omega
        by_cases h1 : s = 206
        · by_cases h2 : q = 4
          · have HR : Hid (kindN s q = 3) := Lib.hid (kind_hit s q 2 (by omega) HN.out h1 h2)
            obtain rfl : sI = 206 := by have := HSI.out; omega
            obtain rfl : qI = 4 := by have := HQI.out; omega
            clear hzk h1 h2 hs hq
            have hix := idxFb2
            go_wp2
            go_ret
            exact ⟨by rw [HR.out]; rfl, HB.out.alloc HB.out.size _⟩
          · have HN2 : Hid (noneFb s q 3) := Lib.hid (fun j hj => by
              rcases Nat.lt_or_ge j 2 with h3 | h3
              · exact HN.out j h3
              · obtain rfl : j = 2 := by omega
                exact fun h => h2 h.2)
            obtain rfl : sI = 206 := by have := HSI.out; omega
            have g2 : ¬ qI = 4 := by have := HQI.out; omega
            clear hzk h1 h2 hs hq
            have hix := idxFb2
            go_wp2
            go_roundw
            case rel => exact ⟨3, 3, by omega, rfl, by go_num, HN2, Lib.hid (HB.out.alloc HB.out.size _)⟩
            case measure => simp [intOf]
        · have HN2 : Hid (noneFb s q 3) := Lib.hid (fun j hj => by
            rcases Nat.lt_or_ge j 2 with h3 | h3
            · exact HN.out j h3
            · obtain rfl : j = 2 := by omega
              exact fun h => h1 h.1)
          have g1 : ¬ sI = 206 := by have := HSI.out; omega
          clear hzk h1 hs hq
          have hix := idxFb2
          go_wp2
          go_roundw
          case rel => exact ⟨3, 3, by omega, rfl, by go_num, HN2, Lib.hid (HB.out.alloc HB.out.size _)⟩
          case measure => simp [intOf]
      | 3, _ =>
        obtain rfl : z = 3 := by omega
        by_cases h1 : s = 206
        · by_cases h2 : q = 15
          · have HR : Hid (kindN s q = 4) := Lib.hid (kind_hit s q 3 (by omega) HN.out h1 h2)
            obtain rfl : sI = 206 := by have := HSI.out; omega
            obtain rfl : qI = 15 := by have := HQI.out; omega
            clear hzk h1 h2 hs hq
            have hix := idxFb3
            go_wp2
            go_ret
            exact ⟨by rw [HR.out]; rfl, HB.out.alloc HB.out.size _⟩
          · have HN2 : Hid (noneFb s q 4) := Lib.hid (fun j hj => by
              rcases Nat.lt_or_ge j 3 with h3 | h3
              · exact HN.out j h3
              · obtain rfl : j = 3 := by omega
                exact fun h => h2 h.2)
            obtain rfl : sI = 206 := by have := HSI.out; omega
            have g2 : ¬ qI = 15 := by have := HQI.out; omega
            clear hzk h1 h2 hs hq
            have hix := idxFb3
            go_wp2
            go_roundw
            case rel => exact ⟨4, 4, by omega, rfl, by go_num, HN2, Lib.hid (HB.out.alloc HB.out.size _)⟩
            case measure => simp [intOf]
        · have HN2 : Hid (noneFb s q 4) := Lib.hid (fun j hj => by
            rcases Nat.lt_or_ge j 3 with h3 | h3
            · exact HN.out j h3
            · obtain rfl : j = 3 := by omega
              exact fun h => h1 h.1)
          have g1 : ¬ sI = 206 := by have := HSI.out; omega
          clear hzk h1 hs hq
          have hix := idxFb3
          go_wp2
          go_roundw
          case rel => exact ⟨4, 4, by omega, rfl, by go_num, HN2, Lib.hid (HB.out.alloc HB.out.size _)⟩
          case measure => simp [intOf]
    · obtain rfl : k = 4 := by omega
      obtain rfl : z = 4 := by omega
      have HM := Lib.hid (kind_miss s q HN.out)
      by_cases h1 : s < 200
      · have HM2 : Hid (kindN s q = 0) := Lib.hid (HM.out.trans (if_pos (.inl h1)))
        have g1 : sI < 200 := by have := HSI.out; omega
        clear hzk h1 hs hq
        go_wp2
        go_ret
        exact ⟨by rw [HM2.out]; rfl, HB.out⟩
      · by_cases h2 : 203 < s
        · have HM2 : Hid (kindN s q = 0) := Lib.hid (HM.out.trans (if_pos (.inr h2)))
          have g1 : ¬ sI < 200 := by have := HSI.out; omega
          have g2 : 203 < sI := by have := HSI.out; omega
          clear hzk h1 h2 hs hq
          go_wp2
          go_ret
          exact ⟨by rw [HM2.out]; rfl, HB.out⟩
        · have HM2 : Hid (kindN s q = s) := Lib.hid (HM.out.trans (if_neg (by omega)))
          have g1 : ¬ sI < 200 := by have := HSI.out; omega
          have g2 : ¬ 203 < sI := by have := HSI.out; omega
          clear hzk h1 h2 hs hq
          go_wp2
          go_ret
          exact ⟨by rw [HM2.out, ← HSI.out]; rfl, HB.out⟩
end Go.Proofs.YtacaempcbdekaaaDoor

namespace Go.Proofs.YtacaempcbdekaaaDoor
open Go.RowKit Go.ChangeShapes Go.WideShapes
set_option linter.unusedVariables false

section
variable {H : Type} {enc : TypeId × Value → H} {w : World} {base : Nat} {sp : Nat → Bool} {held : Bool} {fuel : Nat}
theorem list3 {α : Type} {l : List α} (h : l.length = 3) : ∃ a b c, l = [a, b, c] := by
  match l, h with
  | [a, b, c], _ => exact ⟨a, b, c, rfl⟩
theorem list4 {α : Type} {l : List α} (h : l.length = 4) : ∃ a b c d, l = [a, b, c, d] := by
  match l, h with
  | [a, b, c, d], _ => exact ⟨a, b, c, d, rfl⟩
theorem list12 {α : Type} {l : List α} (h : l.length = 12) : ∃ a b c d e f g i j k m n, l = [a, b, c, d, e, f, g, i, j, k, m, n] := by
  match l, h with
  | [a, b, c, d, e, f, g, i, j, k, m, n], _ => exact ⟨a, b, c, d, e, f, g, i, j, k, m, n, rfl⟩
theorem cofFb : Tryd.prog.cellsOf 81 = 3 := by kernel_rfl
theorem cofTab : Tryd.prog.cellsOf 82 = 12 := by kernel_rfl
theorem cofInt : Tryd.prog.cellsOf 3 = 1 := by kernel_rfl
theorem lit_cell {v : Value} {a : Int} {p : List MemPlace} {x : DataW H × List MemPlace} (h : DataW.trod enc Tryd.prog w base sp held fuel 3 [v] = some x) (hx : x.1 = .lit (.int .i64 a)) : v = .int .i64 a := by
  obtain ⟨n, hn, rfl, _⟩ := DataW.trod_int Tryd.underlying3 h
  simp at hn hx
  rw [hn, hx]
theorem cells_fb {L : List Value} {a b c : Int} {x : DataW H × List MemPlace} (h : DataW.trod enc Tryd.prog w base sp held fuel 81 L = some x) (hx : x.1 = .agg [.lit (.int .i64 a), .lit (.int .i64 b), .lit (.int .i64 c)]) : L = [.int .i64 a, .int .i64 b, .int .i64 c] := by
  obtain ⟨ys, n, _, rfl, hl, hy, hf⟩ := DataW.trod_struct Tryd.underlying81 h
  replace hl := hl.trans cofFb
  obtain ⟨v0, v1, v2, rfl⟩ := list3 hl
  obtain ⟨y0, y1, y2, rfl⟩ := list3 hy
  have hc := cofInt
  · · simp only [List.map_cons, List.map_nil, DataW.agg.injEq, List.cons.injEq, and_true] at hx
      have h0 := hf 0 _ rfl
      have h1 := hf 1 _ rfl
      have h2 := hf 2 _ rfl
      simp only [List.getElem_toArray, List.getElem_cons_zero, List.getElem_cons_succ, hc, List.drop_zero, List.drop_succ_cons, List.take_succ_cons, List.take_zero, List.getElem?_cons_zero, List.getElem?_cons_succ] at h0 h1 h2
      rw [lit_cell (p := []) h0 hx.1, lit_cell (p := []) h1 hx.2.1, lit_cell (p := []) h2 hx.2.2]
theorem cells_tab {cs : List Value} {x : DataW H × List MemPlace} (h : DataW.trod enc Tryd.prog w base sp held fuel 82 cs = some x) (hx : x.1 = Rows.laid_tenaille_rtcp_feedbacks) : cs = tabC := by
  obtain ⟨xs, n, _, rfl, hl, hxl, hf⟩ := DataW.trod_array Tryd.underlying82 h
  replace hl := hl.trans cofTab
  have hc := cofFb
  obtain ⟨c0, c1, c2, c3, c4, c5, c6, c7, c8, c9, c10, c11, rfl⟩ := list12 hl
  obtain ⟨x0, x1, x2, x3, rfl⟩ := list4 hxl
  · · simp only [Rows.laid_tenaille_rtcp_feedbacks, List.map_cons, List.map_nil, DataW.agg.injEq, List.cons.injEq, and_true] at hx
      have h0 := hf 0 (by omega)
      have h1 := hf 1 (by omega)
      have h2 := hf 2 (by omega)
      have h3 := hf 3 (by omega)
      simp only [hc, Nat.zero_mul, Nat.reduceMul, List.drop_zero, List.drop_succ_cons, List.take_succ_cons, List.take_zero, List.getElem?_cons_zero, List.getElem?_cons_succ] at h0 h1 h2 h3
      have e0 := cells_fb h0 hx.1
      have e1 := cells_fb h1 hx.2.1
      have e2 := cells_fb h2 hx.2.2.1
      have e3 := cells_fb h3 hx.2.2.2
      simp at e0 e1 e2 e3
      obtain ⟨rfl, rfl, rfl⟩ := e0
      obtain ⟨rfl, rfl, rfl⟩ := e1
      obtain ⟨rfl, rfl, rfl⟩ := e2
      obtain ⟨rfl, rfl, rfl⟩ := e3
      rfl
end
theorem gTabFb : Tryd.prog.globalNamed "tenaille/rtcp.feedbacks" = some 0 := by kernel_rfl
theorem gTabTy : (Tryd.prog.globals[0]?).map (·.type) = some 82 := by kernel_rfl
/-- What the row's list gives: the table's cells. -/
theorem tab_of_laid {W : World} {rest : List (String × DataW Unit)} (h : laidMet Tryd.prog (("tenaille/rtcp.feedbacks", Rows.laid_tenaille_rtcp_feedbacks) :: rest) W) : Tab W ∧ 0 < W.heap.size := by
  obtain ⟨ps, ⟨g', t', cs, fuel, p, q, hg', ht', hvar, hd, _, _⟩, _⟩ := h
  obtain rfl := Option.some.inj (gTabFb.symm.trans hg')
  obtain rfl := Option.some.inj (gTabTy.symm.trans ht')
  have hcs := cells_tab hd rfl
  have hT : Tab W := by
    intro j v hv
    rw [Nat.zero_add]
    have := World.var?_cell gTabFb hvar j
    rw [this, ← hv, ← hcs]
    simp
  refine ⟨hT, ?_⟩
  have := World.block_lt_of_cell? W _ (hT 0 (.int .i64 1) rfl)
  exact Nat.lt_of_le_of_lt (Nat.zero_le _) this
end Go.Proofs.YtacaempcbdekaaaDoor

namespace Go.Proofs.YtacaempcbdekaaaDoor
open Go.RowKit Go.Maps Go.ChangeMaps Go.MapKept
set_option linter.unusedVariables false

theorem kInt : Keyed Tryd.prog 3 := int_keyed Tryd.underlying3
theorem mapTy : Tryd.prog.underlying 96 = some (.map 3 94) := Tryd.underlying96
theorem run_ins (w : World) (b : Nat) (es : Array MapEntry) (clock : Nat) (kk : Int) (v : Value) (hb : w.heap[b]? = some (.map es clock)) (hk : (Lit.int .i64 kk).wf = true) (hf : Instr.findNow (.int .i64) (.int .i64 kk) es.toList 0 = some none) :
    (Instr.mapUpdate 96 (.map (some b)) (.int .i64 kk) v).run Tryd.prog w = .ok () (setBlock w b (.map (es.push ⟨.int .i64 kk, v, clock⟩) (clock + 1))) := by
  simp [Instr.mapUpdate, run_underlying mapTy, MapKept.run_getObj_map hb, kInt.check w false (keyOf_int_mk Tryd.underlying3 hk), Instr.findKey, run_underlying Tryd.underlying3, hf, MapKept.run_setObj_map _ hb, Result.andThen, setBlock]
theorem run_lkp (w : World) (b : Nat) (es : Array MapEntry) (clock : Nat) (kk : Int) (i : Nat) (v : Value) (hb : w.heap[b]? = some (.map es clock)) (hk : (Lit.int .i64 kk).wf = true) (hf : Instr.findNow (.int .i64) (.int .i64 kk) es.toList 0 = some (some (i, v))) :
    (Instr.lookup 96 (.map (some b)) (.int .i64 kk) true).run Tryd.prog w = .ok (.tuple #[v, .bool true]) w := by
  simp [Instr.lookup, run_underlying mapTy, MapKept.run_getObj_map hb, kInt.check w _ (keyOf_int_mk Tryd.underlying3 hk), Instr.findKey, run_underlying Tryd.underlying3, hf, Result.andThen]
/-- An entry is put into a map of the call's own, at a key that it lacks. -/
theorem wpList_ins {w : World} {ops : Array Oper} {rest : List Oper} {o : Oper} {a : Act} {Q : Exit → Act → World → Prop} (hgd : o.guard = none) (m x v : Operand) (ho : o.op = .insert 96 m x v)
    (b : Nat) (es : Array MapEntry) (clock : Nat) (hm : a.eval m = .map (some b)) (kk : Int) (hx : a.eval x = .int .i64 kk) (u : Value) (hu : a.eval v = u) (hb : w.heap[b]? = some (.map es clock)) (hk : (Lit.int .i64 kk).wf = true) (hf : Instr.findNow (.int .i64) (.int .i64 kk) es.toList 0 = some none)
    (h : ∀ w', w'.heap[b]? = some (.map (es.push ⟨.int .i64 kk, u, clock⟩) (clock + 1)) → w.grownBy w' (some b) → wpList Tryd.prog ops Q rest (a.put o.dst undef) w') : wpList Tryd.prog ops Q (o :: rest) a w := by
  refine wpList_plain hgd fun K' hK' => ?_
  unfold Oper.wp
  simp [execOp, ho, hm, hx, hu, run_ins w b es clock kk u hb hk hf, Result.andThen]
  exact hK' _ _ (h _ (heap_setBlock_same hb _) ⟨rfl, rfl, rfl, by simp [setBlock], fun i _ hi => heap_setBlock_other hb _ (fun e => hi (by rw [e]))⟩)
def entS : Array MapEntry := #[⟨.int .i64 200, .func (.func 56) #[] #[], 0⟩, ⟨.int .i64 201, .func (.func 57) #[] #[], 1⟩, ⟨.int .i64 202, .func (.func 58) #[] #[], 2⟩, ⟨.int .i64 203, .func (.func 59) #[] #[], 3⟩, ⟨.int .i64 1, .func (.func 60) #[] #[], 4⟩, ⟨.int .i64 2, .func (.func 61) #[] #[], 5⟩, ⟨.int .i64 3, .func (.func 62) #[] #[], 6⟩, ⟨.int .i64 4, .func (.func 63) #[] #[], 7⟩]
def ent0 : Array MapEntry := #[]
def ent1 : Array MapEntry := #[⟨.int .i64 200, .func (.func 56) #[] #[], 0⟩]
def ent2 : Array MapEntry := #[⟨.int .i64 200, .func (.func 56) #[] #[], 0⟩, ⟨.int .i64 201, .func (.func 57) #[] #[], 1⟩]
def ent3 : Array MapEntry := #[⟨.int .i64 200, .func (.func 56) #[] #[], 0⟩, ⟨.int .i64 201, .func (.func 57) #[] #[], 1⟩, ⟨.int .i64 202, .func (.func 58) #[] #[], 2⟩]
def ent4 : Array MapEntry := #[⟨.int .i64 200, .func (.func 56) #[] #[], 0⟩, ⟨.int .i64 201, .func (.func 57) #[] #[], 1⟩, ⟨.int .i64 202, .func (.func 58) #[] #[], 2⟩, ⟨.int .i64 203, .func (.func 59) #[] #[], 3⟩]
def ent5 : Array MapEntry := #[⟨.int .i64 200, .func (.func 56) #[] #[], 0⟩, ⟨.int .i64 201, .func (.func 57) #[] #[], 1⟩, ⟨.int .i64 202, .func (.func 58) #[] #[], 2⟩, ⟨.int .i64 203, .func (.func 59) #[] #[], 3⟩, ⟨.int .i64 1, .func (.func 60) #[] #[], 4⟩]
def ent6 : Array MapEntry := #[⟨.int .i64 200, .func (.func 56) #[] #[], 0⟩, ⟨.int .i64 201, .func (.func 57) #[] #[], 1⟩, ⟨.int .i64 202, .func (.func 58) #[] #[], 2⟩, ⟨.int .i64 203, .func (.func 59) #[] #[], 3⟩, ⟨.int .i64 1, .func (.func 60) #[] #[], 4⟩, ⟨.int .i64 2, .func (.func 61) #[] #[], 5⟩]
def ent7 : Array MapEntry := #[⟨.int .i64 200, .func (.func 56) #[] #[], 0⟩, ⟨.int .i64 201, .func (.func 57) #[] #[], 1⟩, ⟨.int .i64 202, .func (.func 58) #[] #[], 2⟩, ⟨.int .i64 203, .func (.func 59) #[] #[], 3⟩, ⟨.int .i64 1, .func (.func 60) #[] #[], 4⟩, ⟨.int .i64 2, .func (.func 61) #[] #[], 5⟩, ⟨.int .i64 3, .func (.func 62) #[] #[], 6⟩]
def ent8 : Array MapEntry := #[⟨.int .i64 200, .func (.func 56) #[] #[], 0⟩, ⟨.int .i64 201, .func (.func 57) #[] #[], 1⟩, ⟨.int .i64 202, .func (.func 58) #[] #[], 2⟩, ⟨.int .i64 203, .func (.func 59) #[] #[], 3⟩, ⟨.int .i64 1, .func (.func 60) #[] #[], 4⟩, ⟨.int .i64 2, .func (.func 61) #[] #[], 5⟩, ⟨.int .i64 3, .func (.func 62) #[] #[], 6⟩, ⟨.int .i64 4, .func (.func 63) #[] #[], 7⟩]

set_option maxRecDepth 100000 in
set_option maxHeartbeats 1000000 in
theorem bodies_any (w : World) : Calls Tryd.prog 52 #[] w fun e w' => e = .returned (.map (some w.heap.size)) ∧ w'.heap[w.heap.size]? = some (.map ent8 8) ∧ Below w.heap.size w w' := by
  have hmm := @run_makeMap Tryd.prog
  have hm0 : (w.alloc (.map #[] 0)).heap[w.heap.size]? = some (.map ent0 0) := heap_alloc_new _ _
  have b0 : Hid (Below w.heap.size w (w.alloc (.map #[] 0))) := Lib.hid ((Below.refl _ _).alloc (Nat.le_refl _) _)
  go_enter Tryd.func52, Tryd.ntmps52
  go_wp2_with (first
    | ((with_reducible refine wpList_ins rfl (.tmp 1) (.const (.int .i64 200)) (.func 56) rfl w.heap.size ent0 0 rfl 200 rfl (.func (.func 56) #[] #[]) rfl ?_ rfl rfl ?_); exact hm0; intro w1 h1 g1; have b1 : Hid (Below w.heap.size w w1) := Lib.hid (b0.out.grown g1 (by simp) (fun q hq => by injection hq with hq; omega)); clear g1)
    | ((with_reducible refine wpList_ins rfl (.tmp 1) (.const (.int .i64 201)) (.func 57) rfl w.heap.size ent1 1 rfl 201 rfl (.func (.func 57) #[] #[]) rfl ?_ rfl rfl ?_); exact h1; intro w2 h2 g2; have b2 : Hid (Below w.heap.size w w2) := Lib.hid (b1.out.grown g2 b1.out.size (fun q hq => by injection hq with hq; omega)); clear g2)
    | ((with_reducible refine wpList_ins rfl (.tmp 1) (.const (.int .i64 202)) (.func 58) rfl w.heap.size ent2 2 rfl 202 rfl (.func (.func 58) #[] #[]) rfl ?_ rfl rfl ?_); exact h2; intro w3 h3 g3; have b3 : Hid (Below w.heap.size w w3) := Lib.hid (b2.out.grown g3 b2.out.size (fun q hq => by injection hq with hq; omega)); clear g3)
    | ((with_reducible refine wpList_ins rfl (.tmp 1) (.const (.int .i64 203)) (.func 59) rfl w.heap.size ent3 3 rfl 203 rfl (.func (.func 59) #[] #[]) rfl ?_ rfl rfl ?_); exact h3; intro w4 h4 g4; have b4 : Hid (Below w.heap.size w w4) := Lib.hid (b3.out.grown g4 b3.out.size (fun q hq => by injection hq with hq; omega)); clear g4)
    | ((with_reducible refine wpList_ins rfl (.tmp 1) (.const (.int .i64 1)) (.func 60) rfl w.heap.size ent4 4 rfl 1 rfl (.func (.func 60) #[] #[]) rfl ?_ rfl rfl ?_); exact h4; intro w5 h5 g5; have b5 : Hid (Below w.heap.size w w5) := Lib.hid (b4.out.grown g5 b4.out.size (fun q hq => by injection hq with hq; omega)); clear g5)
    | ((with_reducible refine wpList_ins rfl (.tmp 1) (.const (.int .i64 2)) (.func 61) rfl w.heap.size ent5 5 rfl 2 rfl (.func (.func 61) #[] #[]) rfl ?_ rfl rfl ?_); exact h5; intro w6 h6 g6; have b6 : Hid (Below w.heap.size w w6) := Lib.hid (b5.out.grown g6 b5.out.size (fun q hq => by injection hq with hq; omega)); clear g6)
    | ((with_reducible refine wpList_ins rfl (.tmp 1) (.const (.int .i64 3)) (.func 62) rfl w.heap.size ent6 6 rfl 3 rfl (.func (.func 62) #[] #[]) rfl ?_ rfl rfl ?_); exact h6; intro w7 h7 g7; have b7 : Hid (Below w.heap.size w w7) := Lib.hid (b6.out.grown g7 b6.out.size (fun q hq => by injection hq with hq; omega)); clear g7)
    | ((with_reducible refine wpList_ins rfl (.tmp 1) (.const (.int .i64 4)) (.func 63) rfl w.heap.size ent7 7 rfl 4 rfl (.func (.func 63) #[] #[]) rfl ?_ rfl rfl ?_); exact h7; intro w8 h8 g8; have b8 : Hid (Below w.heap.size w w8) := Lib.hid (b7.out.grown g8 b7.out.size (fun q hq => by injection hq with hq; omega)); clear g8))
  go_ret
  exact ⟨rfl, h8, b8.out⟩
end Go.Proofs.YtacaempcbdekaaaDoor

namespace Go.Proofs.YtacaempcbdekaaaDoor
open Go.RowKit
set_option linter.unusedVariables false

theorem size_ok (A : Option Addr) (n c m : Nat) (bs : List UInt8) (w : World) (hr : RdS w A n c bs) (hm : numb ((bs.drop 2).take 2) = m) (hn : 4 + 4 * m ≤ n) :
    Calls Tryd.prog 36 #[.slice A n c] w fun e w' => e = .returned (.int .i64 ((4 + 4 * m : Nat) : Int)) ∧ w = w' := by
  have HN : Hid (Calls Tryd.prog 50 #[.slice A n c, .int .i64 2, .int .i64 2] w fun e w' => e = .returned (.tuple #[.int .u64 (m : Int), .bool true]) ∧ w = w') := Lib.hid (by
    have := num_yes A n c bs 2 2 w hr (by omega) (by omega) (by omega)
    rw [hm] at this
    exact this)
  have hs := hr.small
  have e1 : IntKind.i64.wrap (m : Int) = (m : Int) := by rw [IntKind.wrap_i64]; omega
  have e2 : IntKind.i64.wrap (4 * (m : Int)) = 4 * (m : Int) := by rw [IntKind.wrap_i64]; omega
  have e3 : IntKind.i64.wrap (4 + 4 * (m : Int)) = 4 + 4 * (m : Int) := by rw [IntKind.wrap_i64]; omega
  have e4 : ¬ (n : Int) < 4 + 4 * (m : Int) := by omega
  clear hr hm
  go_enter Tryd.func36, Tryd.ntmps36
  go_wp2_with (first
    | (go_at_call 50; ((with_reducible refine (Hid.out HN).mono ?_); rintro e w2 ⟨rfl, rfl⟩))
    | (go_at_call 24; ((with_reducible refine (refuse_no _ _ _ ?_).mono ?_); (first | rfl | (simp; omega)); rintro e w' ⟨rfl, rfl⟩)))
  go_ret
  exact ⟨by simp, rfl⟩

/-- What the function of a body tells, on these bytes. -/
def BodyIs (f : FuncId) (q : Nat) (body : List UInt8) (c : Ctl) : Prop := c.k = 0 ∧ ∀ g w, Rdr w g q body → Calls Tryd.prog f #[.pointer (some ⟨g, 0, none⟩)] w fun r w' => ∃ cs, r = .returned (.agg cs.toArray) ∧ OwnC w' w.heap.size cs c ∧ Rdr w' g q [] ∧ w.grownBy w' (some g)
theorem head_u8 (q : Nat) (h : q < 32) : ((128 + q : Nat) : Int) / 32 = 4 ∧ bits .and .u8 ((128 + q : Nat) : Int) 31 = (q : Int) := by
  refine ⟨by omega, ?_⟩
  have h2 : (128 + q) &&& 31 = q := by
    have h3 : (31 : Nat) = 2 ^ 5 - 1 := rfl
    rw [h3, Nat.and_two_pow_sub_one_eq_mod]; omega
  rw [show (31 : Int) = ((31 : Nat) : Int) from rfl, u8_and_nat _ _ (by omega) (by omega), h2]
theorem OwnC.kind {w : World} {b : Nat} {cs : List Value} {c : Ctl} (h : OwnC w b cs c) (k : Int) : OwnC w b (cs.set 0 (.int .i64 k)) { c with k := k } := by
  obtain ⟨A, a, B, b', C, c', D, d, E, e, h0, hh⟩ := h
  exact ⟨A, a, B, b', C, c', D, d, E, e, by rw [h0]; rfl, hh⟩
theorem OwnC.k0 {w : World} {b : Nat} {cs : List Value} {c : Ctl} (h : OwnC w b cs c) : cs[0]? = some (.int .i64 c.k) := by
  obtain ⟨A, a, B, b', C, c', D, d, E, e, h0, hh⟩ := h
  rw [h0]; rfl
theorem Rdr.none {w : World} {g q : Nat} (h : Rdr w g q []) : ∃ A c, w.cell? ⟨g, 1, none⟩ = some (.slice A 0 c) := by
  obtain ⟨A, n, c, h1, h2, _⟩ := h
  have := h2.len
  simp at this
  subst this
  exact ⟨A, c, (h1.cell 1).trans rfl⟩
theorem new_rdr (w : World) (q : Nat) (A : Option Addr) (n c : Nat) (bs : List UInt8) (hr : RdS w A n c bs) : Rdr (w.alloc (.cells #[.int .i64 (q : Int), .slice A n c] 99)) w.heap.size q bs :=
  ⟨A, n, c, BlkV.new_at _ _ _ _ _ rfl rfl, hr.below ((Below.refl _ _).alloc (Nat.le_refl _) _), hr.lo (Nat.le_refl _)⟩
theorem fit13 {cs : List Value} (h : cs.length = 13) : 0 + cs.length ≤ zCtl.length := by rw [h]; exact Nat.le_refl 13

set_option maxRecDepth 100000 in
set_option maxHeartbeats 1000000 in
theorem packet_received (A : Option Addr) (n c q s : Nat) (bs : List UInt8) (cc : Ctl) (w : World) (ht : Tab w) (hw : 0 < w.heap.size) (hr : RdS w A n c bs) (hn : 4 ≤ n) (hq : q < 32) (hs : s < 256) (h0 : (bs.getD 0 0).toNat = 128 + q) (h1 : (bs.getD 1 0).toNat = s) (hk : kindN s q = 201) (hB : BodyIs 57 q (bs.drop 4) cc) :
    Calls Tryd.prog 37 #[.slice A n c] w fun r w' => ∃ cs, r = .returned (.agg cs.toArray) ∧ OwnC w' w.heap.size cs { cc with k := 201 } ∧ Below w.heap.size w w' := by
  have hz := zeroCtl
  obtain ⟨b, off, rfl, hlt, hcl⟩ := hr.2.2.2.2 (by omega)
  have c0 := hcl 0 (by omega)
  have c1 := hcl 1 (by omega)
  rw [h0] at c0
  rw [h1] at c1
  have hs2 := hr.small
  have hle := hr.le
  obtain ⟨X, hX⟩ : ∃ X, X = 128 + q := ⟨_, rfl⟩
  rw [← hX] at c0
  have e1 : (X : Int) / 32 = 4 := hX ▸ (head_u8 q hq).1
  have e2 : bits .and .u8 (X : Int) 31 = (q : Int) := hX ▸ (head_u8 q hq).2
  have e3 : IntKind.i64.wrap (q : Int) = (q : Int) := by rw [IntKind.wrap_i64]; omega
  have e4 : IntKind.i64.wrap (s : Int) = (s : Int) := by rw [IntKind.wrap_i64]; omega
  have HR := Lib.hid hr
  have HT := Lib.hid ht
  have HK := Lib.hid hk
  have HB : Hid (∀ g w, Rdr w g q (bs.drop 4) → Calls Tryd.prog 57 #[.pointer (some ⟨g, 0, none⟩)] w fun r w' => ∃ cs, r = .returned (.agg cs.toArray) ∧ OwnC w' w.heap.size cs cc ∧ Rdr w' g q [] ∧ w.grownBy w' (some g)) := Lib.hid hB.2
  have bw : Hid (Below w.heap.size w (w.alloc (.cells zA 50))) := Lib.hid ((Below.refl _ _).alloc (Nat.le_refl _) _)
  have d0 : (w.alloc (.cells zA 50)).cell? ⟨b, off, none⟩ = some (.int .u8 (X : Int)) := (bw.out.cell (p := ⟨b, off, none⟩) hlt).trans c0
  have d1 : (w.alloc (.cells zA 50)).cell? ⟨b, off + 1, none⟩ = some (.int .u8 (s : Int)) := (bw.out.cell (p := ⟨b, off + 1, none⟩) hlt).trans c1
  have KN : Hid (∀ W, Below w.heap.size w W → Calls Tryd.prog 51 #[.int .i64 (s : Int), .int .i64 (q : Int)] W fun e w' => e = .returned (.int .i64 201) ∧ Below W.heap.size W w') := Lib.hid fun W hW => by
    have := kindOf_any s q s q rfl rfl W (HT.out.below hW hw) (Nat.lt_of_lt_of_le hw hW.size) hs hq
    rw [HK.out] at this
    exact this
  have BW : Hid (BlkV (w.alloc (.cells zA 50)) w.heap.size 50 zCtl) := Lib.hid (BlkV.new _ _ _)
  clear hcl c0 c1 hX hr ht hk hB h0 h1 hs
  go_enter Tryd.func37, Tryd.ntmps37
  go_wp2_with (first
    | (go_at_call 24; ((with_reducible refine (refuse_no _ _ _ ?_).mono ?_); (first | rfl | simp); rintro e wx ⟨rfl, rfl⟩))
    | (go_at_call 51; ((with_reducible refine (Hid.out KN _ bw.out).mono ?_); rintro e w2 ⟨rfl, hb2⟩; have b2 : Hid (Below w.heap.size w w2) := Lib.hid (bw.out.trans (hb2.mono bw.out.size)); have p2 := Lib.hid (BW.out.below hb2 BW.out.lt); clear hb2))
    | (go_at_call 52; ((with_reducible refine (bodies_any _).mono ?_); rintro e w3 ⟨rfl, hm3, hb3⟩; have b3 : Hid (Below w.heap.size w w3) := Lib.hid (b2.out.trans (hb3.mono b2.out.size)); have p3 := Lib.hid (p2.out.below hb3 p2.out.lt); have hlk := run_lkp w3 _ ent8 8 201 1 (.func (.func 57) #[] #[]) hm3 rfl rfl; clear hb3 hm3))
    | ((with_reducible refine wpList_cut rfl 25 (.tmp 36) (.const (.int .i64 4)) rfl undB szB (some ⟨b, off, none⟩) n c bs rfl 4 _ rfl rfl (HR.out.below b3.out) hn ?_); intro A2 hR2 hO2; have R3 := Lib.hid hR2; clear hR2 hO2)
    | (go_at_call 57; ((with_reducible refine (Hid.out HB w3.heap.size _ (new_rdr w3 q A2 (n - 4) (c - 4) _ R3.out)).mono ?_); rintro e w4 ⟨cs, rfl, hoc, hrd, hg4⟩; have O4 := Lib.hid hoc; have p4 := Lib.hid ((p3.out.alloc (.cells #[.int .i64 (q : Int), .slice A2 (n - 4) (c - 4)] 99)).grown hg4 (by have := p3.out.lt; intro e; injection e with e; omega)); have b4 : Hid (Below w.heap.size w w4) := Lib.hid ((b3.out.alloc b3.out.size _).grown hg4 (by simp; have := b3.out.size; omega) (fun p hp => by injection hp with hp; have := b3.out.size; omega)); have D4 := Lib.hid hrd; have hf13 := Lib.hid (fit13 hoc.len); clear hoc hrd hg4))
    | ((refine wpList_st rfl 50 (.tmp 8) (.tmp 40) rfl w4.heap.size 0 cs rfl rfl 50 zCtl (BlkV.new w4 _ _) hf13.out (rowCtl O4.out.len) O4.out.one ?_); intro w5 hB5 ho5; rw [splice_all _ _ (by rw [O4.out.len]; rfl)] at hB5; have B5 := Lib.hid hB5; have b45 : Hid (Below w4.heap.size w4 w5) := Lib.hid (((Below.refl _ _).alloc (Nat.le_refl _) _).trans (ho5.below (Nat.le_refl _))); obtain ⟨Ax, cx, hrest⟩ := (D4.out.below b45.out).none; have hfz := hB5.frozen 0; have cz := (hB5.cell 0).trans O4.out.k0; have O5 := Lib.hid (O4.out.below b45.out); have p5 := Lib.hid (p4.out.below b45.out p4.out.lt); have B6 := Lib.hid (B5.out.set_ 0 (.int .i64 201)); have R6 := Lib.hid (B6.out.range 0 (cs.set 0 (.int .i64 201)) (fun i _ => by rw [Nat.zero_add])); have L6 : Hid ((cs.set 0 (.int .i64 201)).length = 13) := Lib.hid (by rw [List.length_set]; exact O4.out.len); have O6 := Lib.hid ((O5.out.th (Only.set w5 w4.heap.size 0 (.int .i64 201)).grown (fun p hp => .inr ⟨_, _, by injection hp with hp; subst hp; exact B5.out⟩)).kind 201); have p6 := Lib.hid (p5.out.far (p := ⟨w4.heap.size, 0, none⟩) (by have := p4.out.lt; show w.heap.size ≠ w4.heap.size; omega) (.int .i64 201)); have F6 := Lib.hid (fit13 L6.out); have N6 := Lib.hid O6.out.one; clear hB5 ho5)
    | (with_reducible refine wpList_ld rfl 50 (.tmp 8) rfl w4.heap.size 0 rfl (cs.set 0 (.int .i64 201)) R6.out (rowCtl L6.out) ?_)
    | ((refine wpList_st rfl 50 (.tmp 2) (.tmp 48) rfl w.heap.size 0 (cs.set 0 (.int .i64 201)) rfl rfl 50 zCtl p6.out F6.out (rowCtl L6.out) N6.out ?_); intro w7 hB7 ho7; rw [splice_all _ _ (by rw [L6.out]; rfl)] at hB7))
  have hsz3 := b3.out.size
  have hsz4 := b4.out.size
  refine ret_row rfl rfl hB7 (rowCtl L6.out) rfl ?_
  exact ⟨_, rfl, (O6.out.th ho7.grown (fun p hp => .inl (by injection hp with hp; simp; omega))).mono (by simp; omega),
    (b4.out.trans (b45.out.mono hsz4)).trans (((Only.set w5 w4.heap.size 0 (.int .i64 201)).below hsz4).trans (ho7.below (Nat.le_refl _)))⟩

end Go.Proofs.YtacaempcbdekaaaDoor

namespace Go.Proofs.YtacaempcbdekaaaDoor
open Go.RowKit
set_option linter.unusedVariables false

theorem elCtl : ElT 50 22 13 := elT (z := .agg zA) (by8 := 168) (by kernel_rfl) (by kernel_rfl) (by decide) rfl (by decide)
theorem own_typ {w : World} {base n s : Nat} {e : TypeId} {v : Value} {xs : List Value} (h : w.ownsRow base e s v n xs) : ∀ p, v.ownBlock = some p → ∃ (cur : Array Value) (fz : Nat × Nat), w.heap[p]? = some (.cells cur e fz) := by
  intro p hp
  rcases h.2 with ⟨rfl, _⟩ | ⟨g, cap, cur, rfl, _, hg, _⟩
  · simp [Value.ownBlock] at hp
  · simp [Value.ownBlock] at hp
    subst hp
    exact ⟨cur, _, hg⟩
/-- A slice of the call's own holds these packets. -/
def OwnCs (w : World) (b : Nat) (v : Value) (l : List Ctl) : Prop := ∃ css : List (List Value), w.ownsRow b 50 13 v l.length css.flatten ∧ css.length = l.length ∧ ∀ (i : Nat) (cs : List Value) (c : Ctl), css[i]? = some cs → l[i]? = some c → OwnC w b cs c
theorem OwnCs.below {w w' : World} {b : Nat} {v : Value} {l : List Ctl} (h : OwnCs w b v l) (hb : Below w.heap.size w w') : OwnCs w' b v l := by
  obtain ⟨css, h1, h2, h3⟩ := h
  exact ⟨css, own_thN h1 (grown_of_below hb none) (fun p hp => by cases hp), h2, fun i cs c hi hj => (h3 i cs c hi hj).below hb⟩
theorem OwnCs.nil (w : World) (b : Nat) : OwnCs w b (.slice none 0 0) [] := ⟨[], nilN _ _ _ _, rfl, fun i cs c h => by simp at h⟩
theorem OwnCs.mono {w : World} {b b2 : Nat} {v : Value} {l : List Ctl} (h : OwnCs w b v l) (hb : b2 ≤ b) : OwnCs w b2 v l := by
  obtain ⟨css, h1, h2, h3⟩ := h
  exact ⟨css, own_moN h1 hb, h2, fun i cs c hi hj => (h3 i cs c hi hj).mono hb⟩
/-- One more. -/
theorem OwnCs.more {w w' : World} {b : Nat} {v v' : Value} {l : List Ctl} {css : List (List Value)} {cs : List Value} {c : Ctl} (h1 : w.ownsRow b 50 13 v l.length css.flatten) (h2 : css.length = l.length) (h3 : ∀ (i : Nat) (cs : List Value) (c : Ctl), css[i]? = some cs → l[i]? = some c → OwnC w b cs c) (hc : OwnC w b cs c)
    (hn : w'.ownsRow b 50 13 v' (l.length + 1) (css.flatten ++ cs)) (hg : w.grownBy w' v.ownBlock) : OwnCs w' b v' (l ++ [c]) := by
  have ht : ∀ p, v.ownBlock = some p → p < b ∨ ∃ (cur : Array Value) (fz : Nat × Nat), w.heap[p]? = some (.cells cur 50 fz) := fun p hp => .inr (own_typ h1 p hp)
  refine ⟨css ++ [cs], by simpa using hn, by simp [h2], fun i cs' c' hi hj => ?_⟩
  rcases Nat.lt_or_ge i css.length with h | h
  · rw [List.getElem?_append_left h] at hi
    rw [List.getElem?_append_left (by omega)] at hj
    exact (h3 i cs' c' hi hj).th hg ht
  · rw [List.getElem?_append_right h] at hi
    rw [List.getElem?_append_right (by omega), ← h2] at hj
    have h0 : i - css.length = 0 := by
      have := (List.getElem?_eq_some_iff.1 hi).1
      simp at this; omega
    rw [h0] at hi hj
    simp at hi hj
    subst hi; subst hj
    exact hc.th hg ht

/-- These bytes are that packet. -/
def PacketIs (pb : List UInt8) (c : Ctl) : Prop := (∃ m, numb ((pb.drop 2).take 2) = m ∧ 4 + 4 * m = pb.length) ∧
  ∀ A n cc w, Tab w → 0 < w.heap.size → RdS w A n cc pb → Calls Tryd.prog 37 #[.slice A n cc] w fun r w' => ∃ cs, r = .returned (.agg cs.toArray) ∧ OwnC w' w.heap.size cs c ∧ Below w.heap.size w w'
theorem flat_drop {α : Type} (f : α → List UInt8) {L : List α} {k : Nat} (h : k < L.length) : (L.drop k).flatMap f = f L[k] ++ (L.drop (k + 1)).flatMap f := by
  rw [drop_at h, List.flatMap_cons]
theorem RdS.len0 {w : World} {A : Option Addr} {n c : Nat} {bs : List UInt8} (h : RdS w A n c bs) : n = bs.length := h.1.symm

set_option maxRecDepth 100000 in
set_option maxHeartbeats 1000000 in
theorem compound_ok (ps : List (List UInt8 × Ctl)) (A : Option Addr) (n c N : Nat) (w : World) (ht : Tab w) (hw : 0 < w.heap.size) (hN : N = ps.length) (h1 : 1 ≤ N) (h8 : N ≤ 8) (hps : ∀ p ∈ ps, PacketIs p.1 p.2) (hr : RdS w A n c (ps.flatMap (·.1))) :
    Calls Tryd.prog 25 #[.slice A n c] w fun r w' => ∃ A' c', r = .returned (.slice A' N c') ∧ OwnCs w' w.heap.size (.slice A' N c') (ps.map (·.2)) ∧ Below w.heap.size w w' := by
  have HP := Lib.hid hps
  have HN := Lib.hid hN
  have HT := Lib.hid ht
  have hpos : 0 < n := by
    have h2 := hr.len
    have h3 := flat_drop (fun p : List UInt8 × Ctl => p.1) (L := ps) (k := 0) (by omega)
    rw [List.drop_zero] at h3
    obtain ⟨⟨m, _, hm⟩, _⟩ := hps _ (List.getElem_mem (show 0 < ps.length by omega))
    rw [h3, List.length_append] at h2
    omega
  have hs := hr.small
  have HR := Lib.hid hr
  clear hps hN ht hr
  go_enter Tryd.func25, Tryd.ntmps25
  go_wp2_with (go_at_call 24; ((with_reducible refine (refuse_no _ _ _ ?_).mono ?_); (first | rfl | (simp; omega)); rintro e wx ⟨rfl, rfl⟩))
  go_loopw [0, 3] (fun vb v wr => ∃ (k : Nat) (Ab : Option Addr) (nb cb : Nat) (A' : Option Addr) (c' : Nat), k ≤ N ∧ vb = .slice Ab nb cb ∧ v = .slice A' k c' ∧ Hid (RdS wr Ab nb cb ((ps.drop k).flatMap (·.1)) ∧ OwnCs wr w.heap.size (.slice A' k c') ((ps.take k).map (·.2)) ∧ Below w.heap.size w wr ∧ LoN Ab nb w.heap.size)) (fun _ v _ => N - lenOf v)
  case atStart => exact ⟨0, A, n, c, none, 0, by omega, rfl, rfl, Lib.hid ⟨HR.out, OwnCs.nil _ _, Below.refl _ _, HR.out.lo (Nat.le_refl _)⟩⟩
  case round =>
    obtain ⟨k, Ab, nb, cb, A1, c1, hk, rfl, rfl, HL⟩ := hrel
    have hsm := HL.out.1.small
    have hlb := HL.out.1.len
    by_cases hkn : k < N
    · have hkl : k < ps.length := by rw [← HN.out]; exact hkn
      obtain ⟨⟨m, hm, hml⟩, hpk⟩ := HP.out _ (List.getElem_mem hkl)
      have hfd := flat_drop (fun p : List UInt8 × Ctl => p.1) hkl
      rw [hfd] at HL hlb
      have HV : Hid ((ps.take (k + 1)).map (·.2) = (ps.take k).map (·.2) ++ [ps[k].2]) := Lib.hid (by rw [List.take_add_one, List.getElem?_eq_getElem hkl, List.map_append]; rfl)
      obtain ⟨pb, hpb⟩ : ∃ pb, pb = ps[k].1 := ⟨_, rfl⟩
      obtain ⟨cc, hcc⟩ : ∃ cc, cc = ps[k].2 := ⟨_, rfl⟩
      obtain ⟨tl, htl⟩ : ∃ tl, tl = (ps.drop (k + 1)).flatMap (·.1) := ⟨_, rfl⟩
      rw [← hpb] at hm hml hpk HL hlb
      rw [← hcc] at hpk HV
      rw [← htl] at HL hlb
      have HTL := Lib.hid htl
      rw [List.length_append] at hlb
      have hm4 : 4 ≤ pb.length := by omega
      have hle : 4 + 4 * m ≤ nb := by omega
      have HM : Hid (numb (((pb ++ tl).drop 2).take 2) = m) := Lib.hid (by
        rw [List.drop_append_of_le_length (by omega), List.take_append_of_le_length (by rw [List.length_drop]; omega)]
        exact hm)
      have C1 := Lib.hid (size_ok Ab nb cb m _ wr HL.out.1 HM.out hle)
      have hle2 := HL.out.1.le
      have R2 : Hid (RdS wr Ab (4 + 4 * m) cb pb) := Lib.hid (by
        have := HL.out.1.headR (4 + 4 * m) hle
        rw [hml, List.take_left] at this
        rw [hml]; exact this)
      have CP := Lib.hid (hpk Ab (4 + 4 * m) cb wr (HT.out.below HL.out.2.2.1 hw) (Nat.lt_of_lt_of_le hw HL.out.2.2.1.size) R2.out)
      have hD := Lib.hid (show (pb ++ tl).drop (4 + 4 * m) = tl by rw [hml]; exact List.drop_left)
      obtain ⟨S, hS⟩ : ∃ S, S = 4 + 4 * m := ⟨_, rfl⟩
      rw [← hS] at C1 CP hD hle
      have hkk : ¬ k = 8 := by omega
      have hnb : 0 < nb := by omega
      have hsz := HL.out.2.2.1.size
      have hlk : ((ps.take k).map (·.2)).length = k := by simp; omega
      have HLK := Lib.hid hlk
      clear hpb hcc htl hm hml hpk hS HM hfd R2 hlb hlk
      go_wp2_with (first
        | (go_at_call 36; ((with_reducible refine (Hid.out C1).mono ?_); rintro e wx ⟨rfl, rfl⟩))
        | (go_at_call 24; ((with_reducible refine (refuse_no _ _ _ ?_).mono ?_); (first | rfl | (simp; omega)); rintro e wx ⟨rfl, rfl⟩))
        | (go_at_call 37; ((with_reducible refine (Hid.out CP).mono ?_); rintro e w2 ⟨cs, rfl, hoc, hb2⟩; obtain ⟨B1, d1, B2, d2, B3, d3, B4, d4, B5, d5, hcs, hh⟩ := hoc; subst hcs; have O2 : Hid (OwnC w2 wr.heap.size _ cc) := Lib.hid ⟨B1, d1, B2, d2, B3, d3, B4, d4, B5, d5, rfl, hh⟩; have L2 := Lib.hid (HL.out.2.1.below hb2); have b2 := Lib.hid (HL.out.2.2.1.trans (hb2.mono hsz)); have r2 := Lib.hid (HL.out.1.below hb2); simp only [ctlC]; obtain ⟨css, l1, l2, l3⟩ := L2.out; rw [HLK.out] at l1; have X1 := Lib.hid l1; have X2 := Lib.hid l2; have X3 := Lib.hid l3; have hsz2 := b2.out.size; clear hh hb2 l1 l2 l3))
        | (at_builtin; refine wpList_appV rfl (.tmp 18) (.tmp 23) elCtl rfl w.heap.size (.slice A1 k c1) k css.flatten rfl (X1.out.alloc _) w2.heap.size rfl (ctlC cc.k cc.so cc.me cc.ti cc.st cc.pa cc.oc (.slice B1 cc.reps.length d1) (.slice B2 cc.nams.length d2) (.slice B3 cc.srcs.length d3) (.slice B4 cc.loss.length d4) (.slice B5 cc.firs.length d5) cc.ra) rfl (ctlC_one _ _ _ _ _ _ _ _ _ _ _ _ _ _ _ _ _ _ _ _ _ _ _) (BlkV.new w2 50 (ctlC cc.k cc.so cc.me cc.ti cc.st cc.pa cc.oc (.slice B1 cc.reps.length d1) (.slice B2 cc.nams.length d2) (.slice B3 cc.srcs.length d3) (.slice B4 cc.loss.length d4) (.slice B5 cc.firs.length d5) cc.ra)) (by omega) (by simp; omega) ?_; intro v3 w3 hown3 hg3 _; obtain ⟨A3, c3, hv3⟩ := own_formN hown3; subst hv3; have N3 := Lib.hid hown3; have G3 := Lib.hid hg3; have r3 := Lib.hid ((r2.out.below ((Below.refl _ _).alloc (Nat.le_refl _) _)).keep hg3 (fun p hp => HL.out.2.2.2.off (X1.out.lt p hp).1)); clear hown3 hg3)
        | ((with_reducible refine wpList_cut rfl 25 (.tmp 25) (.tmp 26) rfl undB szB Ab nb cb _ rfl S _ rfl rfl r3.out hle ?_); intro A5 hR5 hO5))
      rw [hD.out] at hR5
      go_roundw
      case rel =>
        refine ⟨k + 1, A5, nb - S, cb - S, A3, c3, by omega, rfl, rfl, Lib.hid ⟨by rw [← HTL.out]; exact hR5, ?_, ?_, HL.out.2.2.2.of_off hO5 (by omega)⟩⟩
        · rw [HV.out]
          have hX : ∀ (n : Nat), ((ps.take k).map (·.2)).length = n → w3.ownsRow w.heap.size 50 13 (.slice A3 (k + 1) c3) (n + 1) (css.flatten ++ (ctlC cc.k cc.so cc.me cc.ti cc.st cc.pa cc.oc (.slice B1 cc.reps.length d1) (.slice B2 cc.nams.length d2) (.slice B3 cc.srcs.length d3) (.slice B4 cc.loss.length d4) (.slice B5 cc.firs.length d5) cc.ra)) := fun n hn => by rw [HLK.out] at hn; subst hn; exact N3.out
          refine OwnCs.more (w := w2.alloc _) (by rw [HLK.out]; exact X1.out.alloc _) X2.out (fun i cs c hi hj => (X3.out i cs c hi hj).below ((Below.refl _ _).alloc (Nat.le_refl _) _)) ((O2.out.below ((Below.refl _ _).alloc (Nat.le_refl _) _)).mono hsz) (hX _ rfl) G3.out
        · exact (b2.out.alloc b2.out.size _).grown G3.out (by simp; omega) (fun p hp => (X1.out.lt p hp).1)
      case measure => simp [lenOf]; omega
    · obtain rfl : k = N := by omega
      rw [show ps.drop k = [] by rw [HN.out, List.drop_length], show ps.take k = ps by rw [HN.out, List.take_length]] at HL
      have hn0 : nb = 0 := by have := HL.out.1.len; simp at this; exact this.symm
      subst hn0
      go_wp2
      go_ret
      exact ⟨A1, c1, rfl, HL.out.2.1, HL.out.2.2.1⟩
end Go.Proofs.YtacaempcbdekaaaDoor

namespace Go.Proofs.YtacaempcbdekaaaDoor
open Go.RowKit
set_option linter.unusedVariables false

/-- The rest of a deferred body, where nothing recovers any more. -/
theorem wpS_tail {P : Program} {fn : Func} {c₀ c₁ : Frame} {cs : List Frame} {u : FrameMode} {R : Ending → FrameMode → World → Prop} {R0 : Ending → World → Prop} {c : Code} {a : Act} {w : World}
    (h : c.wp P (bodyPost P fn R0) a w) (hc : c₁ = { c₀ with mode := u }) (hr : ∀ e w', R0 e w' → R e u w') : c.wpS P (bodyPostS P fn c₀ cs R) a (c₁ :: cs) w := by
  subst hc
  refine wpS_of_wp (Code.wp_mono ?_ h)
  intro e a' w' hq
  cases e with
  | normal => obtain ⟨hd, v, h1, h2⟩ := hq; exact ⟨hd, u, rfl, v, h1, hr _ _ h2⟩
  | ret => obtain ⟨hd, v, h1, h2⟩ := hq; exact ⟨hd, u, rfl, v, h1, hr _ _ h2⟩
  | panic chain => obtain ⟨hd, h2⟩ := hq; exact ⟨hd, u, rfl, hr _ _ h2⟩
  | outgrown => exact ⟨u, hr _ _ hq⟩
  | exit id => exact hq.elim
  | goto l => exact hq.elim

set_option maxRecDepth 100000 in
theorem catch_idle (g h : Nat) (w : World) :
    CallsD Tryd.prog 23 #[.pointer (some ⟨g, 0, none⟩), .pointer (some ⟨h, 0, none⟩)] .returning w fun e u' w' => e = .returned (.tuple #[]) ∧ u' = .returning ∧ w' = w := by
  refine callsD_of_wpS Tryd.func23 rfl fun c₀ cs hu => ?_
  simp only [Tryd.ntmps23, List.size_toArray, List.length_cons, List.length_nil, Nat.reduceAdd, Nat.reduceSub, Array.replicate_succ, Array.replicate_zero, List.push_toArray, List.append_toArray, List.nil_append, List.cons_append]
  apply wpS_seq
  apply wpS_region
  simp [wpOpsS, go_sem, recoverD, hu, Exit.thenS]
  refine wpS_tail (R0 := fun e w' => e = .returned (.tuple #[]) ∧ w = w') (u := .returning) ?_ (by rw [← hu]) (fun e w' hh => ⟨hh.1, rfl, hh.2.symm⟩)
  go_wp2
  exact bodyPost_ret (results_none rfl _ _ _) rfl ⟨rfl, rfl⟩
theorem read_results (tmps : Array Value) (w : World) (g h : Nat) (v : Value) (y : Int) (hp : tmps.getD 2 undef = .pointer (some ⟨g, 0, none⟩)) (hq : tmps.getD 3 undef = .pointer (some ⟨h, 0, none⟩)) (hg : w.cell? ⟨g, 0, none⟩ = some v) (hh : w.cell? ⟨h, 0, none⟩ = some (.int .i64 y)) :
    (results Tryd.f10 tmps).run Tryd.prog w = .ok (.tuple #[v, .int .i64 y]) w := by
  have hp' : tmps[2]?.getD undef = .pointer (some ⟨g, 0, none⟩) := by simpa using hp
  have hq' : tmps[3]?.getD undef = .pointer (some ⟨h, 0, none⟩) := by simpa using hq
  have hld : (loadVar 22 ⟨g, 0, none⟩).run Tryd.prog w = .ok v w := by simp [go_sem, hg]
  have hle : (loadVar 26 ⟨h, 0, none⟩).run Tryd.prog w = .ok (.int .i64 y) w := by simp [go_sem, hh]
  simp [results, Tryd.results10, hp', hq', asAddr, hld, hle]
/-- The door behind a body that has gone through. -/
theorem read_through (v : Value) (y : Int) (tmps : Array Value) (g h : Nat) (W : World) (R : Ending → World → Prop) (hp : tmps.getD 2 undef = .pointer (some ⟨g, 0, none⟩)) (hq : tmps.getD 3 undef = .pointer (some ⟨h, 0, none⟩))
    (hg : W.cell? ⟨g, 0, none⟩ = some v) (hh : W.cell? ⟨h, 0, none⟩ = some (.int .i64 y))
    (hR : R (.returned (.tuple #[v, .int .i64 y])) W) :
    bodyPostD Tryd.prog Tryd.f10 R .ret { tmps := tmps, defers := [{ target := .fn (.func 23) #[.pointer (some ⟨g, 0, none⟩), .pointer (some ⟨h, 0, none⟩)], args := #[] }] } W := by
  refine leaves_cons (f := 23) (args := #[.pointer (some ⟨g, 0, none⟩), .pointer (some ⟨h, 0, none⟩)]) (by simp) (by simp [go_sem]) ?_
  refine (catch_idle g h W).mono ?_
  rintro e u' w'' ⟨rfl, rfl, rfl⟩
  exact ⟨_, read_results tmps w'' g h v y hp hq hg hh, hR⟩
abbrev rw0 (w : World) : World := (w.alloc (.cells #[.slice none 0 0] 22)).alloc (.cells #[.int .i64 0] 26)
theorem read_boxes (w : World) : Below w.heap.size w (rw0 w) ∧ BlkV (rw0 w) w.heap.size 22 [.slice none 0 0] ∧ BlkV (rw0 w) (w.heap.size + 1) 26 [.int .i64 0] :=
  ⟨((Below.refl _ _).alloc (Nat.le_refl _) _).alloc (by simp) _, (BlkV.new _ _ _).alloc _, BlkV.new_at _ _ _ _ _ (by simp) rfl⟩
theorem OwnCs.th {w w' : World} {b : Nat} {v : Value} {l : List Ctl} (h : OwnCs w b v l) {row : Option Nat} (hg : w.grownBy w' row) (hr : ∀ p, row = some p → p < b) : OwnCs w' b v l := by
  obtain ⟨css, h1, h2, h3⟩ := h
  exact ⟨css, own_thN h1 hg (fun p hp => .inl (hr p hp)), h2, fun i cs c hi hj => (h3 i cs c hi hj).th hg (fun p hp => .inl (hr p hp))⟩

set_option maxRecDepth 100000 in
theorem read_ok (ps : List (List UInt8 × Ctl)) (A : Option Addr) (n c N : Nat) (w : World) (ht : Tab w) (hw : 0 < w.heap.size) (hN : N = ps.length) (h1 : 1 ≤ N) (h8 : N ≤ 8) (hps : ∀ p ∈ ps, PacketIs p.1 p.2) (hm : ¬ 1200 < n) (hr : RdS w A n c (ps.flatMap (·.1))) :
    Calls Tryd.prog 10 #[.slice A n c] w fun r w' => ∃ A' c', r = .returned (.tuple #[.slice A' N c', .int .i64 0]) ∧ OwnCs w' w.heap.size (.slice A' N c') (ps.map (·.2)) ∧ Below w.heap.size w w' := by
  have hmf : ∀ (fn : Fn) (first cap : Array Value) (w : World), (Instr.makeFunc fn first cap).run Tryd.prog w = .ok (.func fn first cap) w := fun _ _ _ _ => rfl
  obtain ⟨b0, k1, k2⟩ := read_boxes w
  have HP := Lib.hid (compound_ok ps A n c N (rw0 w) (ht.below b0 hw) (Nat.lt_of_lt_of_le hw b0.size) hN h1 h8 hps (hr.below b0))
  have B0 := Lib.hid b0
  have K1 := Lib.hid k1
  have K2 := Lib.hid k2
  have HSZ : Hid ((rw0 w).heap.size = w.heap.size + 2) := Lib.hid (by simp [rw0])
  clear hr hps b0 k1 k2 ht hN
  go_enter_defers Tryd.func10, Tryd.ntmps10
  go_wp2_with (first
    | (go_at_call 24; ((with_reducible refine (refuse_no _ _ _ ?_).mono ?_); (first | rfl | assumption | (simp; omega)); rintro e w' ⟨rfl, rfl⟩))
    | (go_at_call 25; ((with_reducible refine (Hid.out HP).mono ?_); rintro e w4 ⟨A4, c4, rfl, ho4, hb4⟩; have O4 := Lib.hid ho4; have B4 := Lib.hid hb4; have k1 := K1.out.below hb4 (by have := HSZ.out; omega); have k2 := K2.out.below hb4 (by have := HSZ.out; omega); have hf1 := k1.frozen 0; have hf2 := k2.frozen 0; have hc1 : w4.cell? ⟨w.heap.size, 0, none⟩ = some (.slice none 0 0) := (k1.cell 0).trans rfl; have hc2 : w4.cell? ⟨w.heap.size + 1, 0, none⟩ = some (.int .i64 0) := (k2.cell 0).trans rfl; clear ho4 hb4)))
  have hsz := HSZ.out
  have j1 := k1.set_ 0 (.slice A4 N c4)
  have j2 := k2.far (p := ⟨w.heap.size, 0, none⟩) (show w.heap.size + 1 ≠ w.heap.size by omega) (.slice A4 N c4)
  have m1 := j1.far (p := ⟨w.heap.size + 1, 0, none⟩) (show w.heap.size ≠ w.heap.size + 1 by omega) (.int .i64 0)
  have m2 := j2.set_ 0 (.int .i64 0)
  have o5 := Only.set w4 w.heap.size 0 (.slice A4 N c4)
  have o6 := Only.set (w4.setCell ⟨w.heap.size, 0, none⟩ (.slice A4 N c4)) (w.heap.size + 1) 0 (.int .i64 0)
  exact read_through (.slice A4 N c4) 0 _ _ _ _ _ rfl rfl ((m1.cell 0).trans rfl) ((m2.cell 0).trans rfl) ⟨A4, c4, rfl, ((O4.out.th o5.grown (fun p hp => by injection hp with hp; omega)).th o6.grown (fun p hp => by injection hp with hp; omega)).mono (by omega),
    ((B0.out.trans (B4.out.mono (by omega))).trans (o5.below (Nat.le_refl _))).trans (o6.below (by omega))⟩
end Go.Proofs.YtacaempcbdekaaaDoor

namespace Go.Proofs.YtacaempcbdekaaaDoor
open Go.RowKit
set_option linter.unusedVariables false

theorem far_wrap (s x : Nat) (hs : s < 65536) (hx : x < 65536) : IntKind.u16.wrap ((x : Int) - (s : Int)) = (far s x : Int) := by
  rw [IntKind.wrap_u16]; unfold far; omega
theorem tell_no (g o s b x : Nat) (w : World) (hs : s < 65536) (hx : x < 65536) (c0 : w.cell? ⟨g, o, none⟩ = some (.int .u16 (s : Int))) (hd : ¬ (1 ≤ far s x ∧ far s x ≤ 16)) :
    Calls Tryd.prog 27 #[.pointer (some ⟨g, o, none⟩), .int .u16 (x : Int)] w fun e w' => e = .returned (.bool false) ∧ w = w' := by
  have e0 := far_wrap s x hs hx
  obtain ⟨D, hD⟩ : ∃ D, D = far s x := ⟨_, rfl⟩
  rw [← hD] at e0 hd
  clear hD
  by_cases h1 : D < 1
  · go_enter Tryd.func27, Tryd.ntmps27
    go_wp2
    go_ret
    exact ⟨rfl, rfl⟩
  · have h2 : 16 < D := by omega
    go_enter Tryd.func27, Tryd.ntmps27
    go_wp2
    go_ret
    exact ⟨rfl, rfl⟩
theorem tell_yes (g o s b x : Nat) (w : World) (hs : s < 65536) (hb : b < 65536) (hx : x < 65536) (c0 : w.cell? ⟨g, o, none⟩ = some (.int .u16 (s : Int))) (c1 : w.cell? ⟨g, o + 1, none⟩ = some (.int .u16 (b : Int))) (cf : w.frozen? ⟨g, o + 1, none⟩ = false) (hd : 1 ≤ far s x ∧ far s x ≤ 16) :
    Calls Tryd.prog 27 #[.pointer (some ⟨g, o, none⟩), .int .u16 (x : Int)] w fun e w' => e = .returned (.bool true) ∧ w' = w.setCell ⟨g, o + 1, none⟩ (.int .u16 ((b ||| 2 ^ (far s x - 1) : Nat) : Int)) := by
  have e0 := far_wrap s x hs hx
  obtain ⟨D, hD⟩ : ∃ D, D = far s x := ⟨_, rfl⟩
  rw [← hD] at e0 hd ⊢
  clear hD
  obtain ⟨h1, h2⟩ := hd
  obtain ⟨Q, hQ⟩ : ∃ Q, Q = D - 1 := ⟨_, rfl⟩
  have e1 : IntKind.u16.wrap ((D : Int) - 1) = (Q : Int) := by rw [IntKind.wrap_u16]; omega
  have hQ16 : Q < 16 := by omega
  rw [← hQ]
  clear hQ
  obtain ⟨P, hP⟩ : ∃ P, P = 2 ^ Q := ⟨_, rfl⟩
  have hP2 : P < 65536 := by rw [hP]; exact Nat.lt_of_lt_of_le (Nat.pow_lt_pow_right (by omega) hQ16) (by decide)
  have e4 : IntKind.u16.wrap ((2 : Int) ^ Q) = (P : Int) := by
    have e : (2 : Int) ^ Q = (P : Int) := by rw [hP]; simp
    rw [e, IntKind.wrap_u16]; omega
  have hor := u16_or_nat b P hb hP2
  rw [← hP]
  clear hP
  go_enter Tryd.func27, Tryd.ntmps27
  go_wp2
  go_ret
  exact ⟨rfl, rfl⟩

set_option maxRecDepth 100000 in
set_option maxHeartbeats 1000000 in
theorem losses_any (A : Option Addr) (n c : Nat) (L : List Nat) (w : World) (h : RdH w A n L) (hn : n ≤ 1000) :
    Calls Tryd.prog 16 #[.slice A n c] w fun e w' => ∃ A' c', e = .returned (.slice A' (lsL L).length c') ∧ w'.ownsRow w.heap.size 41 2 (.slice A' (lsL L).length c') (lsL L).length (lcells (lsL L)) ∧ Below w.heap.size w w' := by
  have HR := Lib.hid h
  have hz := zeroLoss
  clear h
  go_enter Tryd.func16, Tryd.ntmps16
  go_wp2
  go_loopw [3, 8] (fun v i wr => ∃ (k M : Nat) (A' : Option Addr) (c' : Nat), k ≤ n ∧ M ≤ k ∧ i = .int .i64 k ∧ v = .slice A' M c' ∧ Hid (M = (lsL (L.take k)).length) ∧ Hid (wr.ownsRow w.heap.size 41 2 (.slice A' M c') M (lcells (lsL (L.take k))) ∧ Below w.heap.size w wr)) (fun _ i _ => n - (intOf i).toNat)
  case atStart => exact ⟨0, 0, none, 0, by omega, by omega, rfl, rfl, Lib.hid rfl, Lib.hid ⟨World.ownsRow_nil w _ _ _, Below.refl _ _⟩⟩
  case round =>
    obtain ⟨k, M, A1, c1, hk, hM, rfl, rfl, HM, HL⟩ := hrel
    by_cases hkn : k < n
    · obtain ⟨b, off, rfl, hlt, hc⟩ := HR.out.2.2.2 (by omega)
      have q1 := hc k hkn
      have hxl : L.getD k 0 < 65536 := by
        have : k < L.length := by rw [HR.out.1]; exact hkn
        have h2 : L.getD k 0 = L[k] := by simp [List.getD, this]
        rw [h2]; exact HR.out.2.2.1 _ (List.getElem_mem _)
      have hsn : L.take (k + 1) = L.take k ++ [L.getD k 0] := by
        have : k < L.length := by rw [HR.out.1]; exact hkn
        rw [List.take_add_one, List.getD, List.getElem?_eq_getElem this]; rfl
      obtain ⟨x, hx⟩ : ∃ x, x = L.getD k 0 := ⟨_, rfl⟩
      rw [← hx] at q1 hxl hsn
      have r1 : wr.cell? ⟨b, off + k, none⟩ = some (.int .u16 (x : Int)) := (HL.out.2.cell (p := ⟨b, off + k, none⟩) hlt).trans q1
      have HSN : Hid (lsL (L.take (k + 1)) = lsS (lsL (L.take k)) x) := Lib.hid (by rw [hsn, lsL_snoc])
      obtain ⟨O, hO⟩ : ∃ O, O = lsL (L.take k) := ⟨_, rfl⟩
      rw [← hO] at HM HL HSN
      have HF : Hid (∀ a ∈ O, a.1 < 65536 ∧ a.2 < 65536) := Lib.hid (by rw [hO]; exact lsL_fit _ (fun y hy => HR.out.2.2.1 y (List.mem_of_mem_take hy)))
      have hsz := HL.out.2.size
      clear q1 hsn hx hc hO
      rcases List.eq_nil_or_concat O with hO | ⟨O1, a, hO⟩
      · subst hO
        have hM0 : M = 0 := HM.out
        subst hM0
        have HS2 : Hid (lsL (L.take (k + 1)) = [(x, 0)]) := Lib.hid (HSN.out.trans (lsS_nil x))
        clear HSN
        go_wp2_with (at_builtin; refine wpList_app2 rfl (.tmp 24) (.tmp 27) rfl w.heap.size (.slice A1 0 c1) 0 (lcells []) rfl (HL.out.1.alloc _) wr.heap.size rfl x 0 (new_loss wr x 0).1 (new_loss wr x 0).2 (by omega) (by simp; omega) ?_; intro v3 w3 hown3 hg3; obtain ⟨A3, c3, hv3⟩ := own_form2 hown3; subst hv3; have b3 := Lib.hid ((HL.out.2.alloc HL.out.2.size _).grown hg3 (by simp; omega) (fun q hq => (HL.out.1.lt q hq).1)); have o3 := Lib.hid hown3; clear hown3 hg3)
        go_roundw
        case rel => exact ⟨k + 1, 1, A3, c3, by omega, by omega, by go_num, rfl, Lib.hid (by rw [HS2.out]; rfl), Lib.hid ⟨by rw [HS2.out]; exact o3.out, b3.out⟩⟩
        case measure => simp [intOf]; omega
      · rw [List.concat_eq_append] at hO
        subst hO
        obtain ⟨s, bb⟩ := a
        obtain ⟨hs1, hs2⟩ := HF.out (s, bb) (by simp)
        simp only at hs1 hs2
        obtain ⟨m, hm⟩ : ∃ m, m = O1.length := ⟨_, rfl⟩
        have HMm : Hid (M = m + 1) := Lib.hid (by rw [HM.out, hm]; simp)
        have Hm := Lib.hid hm
        have hM1 : 0 < M := by have := HMm.out; omega
        have e0 : IntKind.i64.wrap ((M : Int) - 1) = (m : Int) := by have := HMm.out; rw [IntKind.wrap_i64]; omega
        have hmM : (m : Int) < (M : Int) := by have := HMm.out; omega
        obtain ⟨g, rfl, hg⟩ := own_block2 HL.out.1 hM1
        have CS : wr.cell? ⟨g, m * 2, none⟩ = some (.int .u16 (s : Int)) := (HL.out.1.cellAt (m * 2) (by have := HMm.out; omega)).trans (by rw [Hm.out]; exact lcells_s O1 s bb)
        have CB : wr.cell? ⟨g, m * 2 + 1, none⟩ = some (.int .u16 (bb : Int)) := (HL.out.1.cellAt (m * 2 + 1) (by have := HMm.out; omega)).trans (by rw [Hm.out]; exact lcells_b O1 s bb)
        have CF : wr.frozen? ⟨g, m * 2 + 1, none⟩ = false := HL.out.1.frozenAt (m * 2 + 1)
        clear HF HM hm
        by_cases hD : 1 ≤ far s x ∧ far s x ≤ 16
        · have T := Lib.hid (tell_yes g (m * 2) s bb x wr hs1 hs2 hxl CS CB CF hD)
          have HS2 : Hid (lsL (L.take (k + 1)) = O1 ++ [(s, bb ||| 2 ^ (far s x - 1))]) := Lib.hid (by rw [HSN.out, lsS_in O1 s bb x hD.1 hD.2])
          have HT : Hid ((wr.setCell ⟨g, m * 2 + 1, none⟩ (.int .u16 ((bb ||| 2 ^ (far s x - 1) : Nat) : Int))).ownsRow w.heap.size 41 2 (.slice (some ⟨g, 0, none⟩) M c1) M (lcells (O1 ++ [(s, bb ||| 2 ^ (far s x - 1))])) ∧ Below w.heap.size w (wr.setCell ⟨g, m * 2 + 1, none⟩ (.int .u16 ((bb ||| 2 ^ (far s x - 1) : Nat) : Int)))) := Lib.hid (by
            have h3 := (HL.out.1.stored (m * 2 + 1) (.int .u16 ((bb ||| 2 ^ (far s x - 1) : Nat) : Int))).1
            rw [Hm.out, lcells_set] at h3
            rw [Hm.out]
            exact ⟨h3, HL.out.2.setCell hg _⟩)
          clear CS CB CF hD HSN
          generalize bb ||| 2 ^ (far s x - 1) = Z at T HS2 HT
          go_wp2_with (go_at_call 27; ((with_reducible refine (Hid.out T).mono ?_); rintro e w2 ⟨rfl, hw2⟩; have HW2 := Lib.hid hw2; clear hw2))
          go_roundw
          case rel => exact ⟨k + 1, M, _, c1, by omega, by omega, by go_num, rfl, Lib.hid (by rw [HS2.out, HMm.out, Hm.out]; simp), Lib.hid ⟨by rw [HS2.out, HW2.out]; exact HT.out.1, by rw [HW2.out]; exact HT.out.2⟩⟩
          case measure => simp [intOf]; omega
        · have T := Lib.hid (tell_no g (m * 2) s bb x wr hs1 hxl CS hD)
          have HS2 : Hid (lsL (L.take (k + 1)) = (O1 ++ [(s, bb)]) ++ [(x, 0)]) := Lib.hid (by rw [HSN.out, lsS_new O1 s bb x hD])
          clear CS CB CF hD HSN
          go_wp2_with (first
            | (go_at_call 27; ((with_reducible refine (Hid.out T).mono ?_); rintro e w2 ⟨rfl, rfl⟩))
            | (at_builtin; refine wpList_app2 rfl (.tmp 24) (.tmp 27) rfl w.heap.size (.slice (some ⟨g, 0, none⟩) M c1) M (lcells (O1 ++ [(s, bb)])) rfl (HL.out.1.alloc _) wr.heap.size rfl x 0 (new_loss wr x 0).1 (new_loss wr x 0).2 (by omega) (by simp; omega) ?_; intro v3 w3 hown3 hg3; obtain ⟨A3, c3, hv3⟩ := own_form2 hown3; subst hv3; have b3 := Lib.hid ((HL.out.2.alloc HL.out.2.size _).grown hg3 (by simp; omega) (fun q hq => (HL.out.1.lt q hq).1)); have o3 := Lib.hid hown3; clear hown3 hg3))
          go_roundw
          case rel => exact ⟨k + 1, M + 1, A3, c3, by omega, by omega, by go_num, rfl, Lib.hid (by rw [HS2.out, HMm.out, Hm.out]; simp), Lib.hid ⟨by rw [HS2.out, lcells_snoc]; exact o3.out, b3.out⟩⟩
          case measure => simp [intOf]; omega
    · obtain rfl : k = n := by omega
      rw [show L.take k = L by rw [← HR.out.1, List.take_length]] at HL HM
      have hm : M = (lsL L).length := HM.out
      subst hm
      go_wp2
      go_ret
      exact ⟨A1, c1, rfl, HL.out.1, HL.out.2⟩
end Go.Proofs.YtacaempcbdekaaaDoor

namespace Go.Proofs.YtacaempcbdekaaaDoor
open Go.RowKit
set_option linter.unusedVariables false

theorem flat13 : ∀ (css : List (List Value)) (i d : Nat), (∀ cs ∈ css, cs.length = 13) → d < 13 → css.flatten[i * 13 + d]? = (css[i]?).bind (·[d]?)
  | [], i, d, _, _ => by simp
  | cs :: r, 0, d, h, hd => by
    have h1 := h cs (by simp)
    simp only [List.flatten_cons, Nat.zero_mul, Nat.zero_add, List.getElem?_cons_zero, Option.bind_some]
    rw [List.getElem?_append_left (by omega)]
  | cs :: r, i + 1, d, h, hd => by
    have h1 := h cs (by simp)
    have ih := flat13 r i d (fun c hc => h c (by simp [hc])) hd
    simp only [List.flatten_cons, List.getElem?_cons_succ]
    rw [List.getElem?_append_right (by omega), ← ih]
    congr 1
    omega
/-- A packet among packets of the call's own, its cells. -/
theorem OwnCs.at {w : World} {b n c : Nat} {A : Option Addr} {l : List Ctl} (h : OwnCs w b (.slice A n c) l) (hn : l.length = n) {i : Nat} (hi : i < l.length) : ∃ g cs, A = some ⟨g, 0, none⟩ ∧ b ≤ g ∧ OwnC w b cs l[i] ∧ ∀ d, d < 13 → w.cell? ⟨g, i * 13 + d, none⟩ = cs[d]? := by
  subst hn
  obtain ⟨css, h1, h2, h3⟩ := h
  have hic : i < css.length := by omega
  have hown := h3 i css[i] l[i] (List.getElem?_eq_getElem hic) (List.getElem?_eq_getElem hi)
  have hl : ∀ cs ∈ css, cs.length = 13 := by
    intro cs hcs
    obtain ⟨j, hj, rfl⟩ := List.mem_iff_getElem.1 hcs
    exact (h3 j css[j] (l[j]'(by omega)) (List.getElem?_eq_getElem hj) (List.getElem?_eq_getElem _)).len
  rcases h1.2 with ⟨_, h0⟩ | ⟨g, cap, cur, hv, hb, _⟩
  · omega
  · injection hv with e1 e2 e3
    subst e1; subst e3
    refine ⟨g, css[i], rfl, hb, hown, fun d hd => ?_⟩
    rw [h1.cellAt (i * 13 + d) (by omega), flat13 css i d hl hd, List.getElem?_eq_getElem hic]
    rfl

def exB : List UInt8 := [129, 201, 0, 7] ++ List.replicate 28 0
def exR : Rep := ⟨0, 0, 0, 0, 0, 0, 0⟩
theorem exB_drop : exB.drop 4 = bRR 0 [exR] := by decide +kernel
theorem exB_num : numb ((exB.drop 2).take 2) = 7 := by decide +kernel
theorem exB_len : exB.length = 32 := by decide +kernel
theorem bodyRR (so : Nat) (L : List Rep) (hso : so < 4294967296) (h16 : L.length ≤ 16) (hL : ∀ x ∈ L, x.fit ∧ x.ok) : BodyIs 57 L.length (bRR so L) (mkRR 0 so L) :=
  ⟨rfl, fun g w h => received_any g L.length so L w hso hL rfl h16 h⟩
theorem exPacket : PacketIs exB (mkRR 201 0 [exR]) := by
  refine ⟨⟨7, exB_num, by rw [exB_len]⟩, fun A n cc w ht hw hr => ?_⟩
  have hn := hr.len
  rw [exB_len] at hn
  have hB : BodyIs 57 1 (exB.drop 4) (mkRR 0 0 [exR]) := by
    rw [exB_drop]
    exact bodyRR 0 [exR] (by decide) (by decide) (fun x hx => by simp at hx; subst hx; unfold Rep.fit Rep.ok exR; decide)
  exact packet_received A n cc 1 201 exB (mkRR 0 0 [exR]) w ht hw hr (by omega) (by omega) (by omega) (by decide +kernel) (by decide +kernel) (by decide +kernel) hB
theorem rdl_one (w : World) : RdL (w.alloc (.cells #[.int .u16 5, .int .u16 5] 41)) (some ⟨w.heap.size, 0, none⟩) 1 [(5, 5)] := by
  have hB : BlkV (w.alloc (.cells #[.int .u16 5, .int .u16 5] 41)) w.heap.size 41 [.int .u16 5, .int .u16 5] := BlkV.new _ _ _
  refine ⟨rfl, by omega, by simp, fun _ => ⟨w.heap.size, 0, rfl, hB.lt, fun j hj => ?_⟩⟩
  obtain rfl : j = 0 := by omega
  exact ⟨(hB.cell 0).trans rfl, (hB.cell 1).trans rfl⟩
theorem rdh_three (w : World) : RdH (w.alloc (.cells #[.int .u16 5, .int .u16 6, .int .u16 8] 39)) (some ⟨w.heap.size, 0, none⟩) 3 [5, 6, 8] := by
  have hB : BlkV (w.alloc (.cells #[.int .u16 5, .int .u16 6, .int .u16 8] 39)) w.heap.size 39 [.int .u16 5, .int .u16 6, .int .u16 8] := BlkV.new _ _ _
  refine ⟨rfl, by omega, by simp, fun _ => ⟨w.heap.size, 0, rfl, hB.lt, fun j hj => ?_⟩⟩
  rw [Nat.zero_add]
  match j, hj with
  | 0, _ => exact (hB.cell 0).trans rfl
  | 1, _ => exact (hB.cell 1).trans rfl
  | 2, _ => exact (hB.cell 2).trans rfl
def Z32 : List UInt8 := List.replicate 32 0
abbrev exA : Array Value := ((((cells Z32).set 0 (.int .u8 129)).set 1 (.int .u8 201)).set 3 (.int .u8 7)).toArray
theorem exA_is : exA = (cells exB).toArray := by kernel_rfl
theorem ex_nk : nkL [(5, 5)] = [5, 6, 8] := by decide +kernel
theorem ex_ls : lsL [5, 6, 8] = [(5, 5)] := by decide +kernel

theorem own_blockN {w : World} {base s : Nat} {e : TypeId} {A : Option Addr} {n c : Nat} {xs : List Value} (h : w.ownsRow base e s (.slice A n c) n xs) (hn : 0 < n) : ∃ g, A = some ⟨g, 0, none⟩ ∧ base ≤ g := by
  rcases h.2 with ⟨_, h0⟩ | ⟨g, cap, cur, hv, hb, _⟩
  · omega
  · injection hv with h1 _ _
    exact ⟨g, h1, hb⟩
theorem ex_nacked (w : World) : Calls Tryd.prog 14 #[.slice (some ⟨w.heap.size, 0, none⟩) 1 1] (w.alloc (.cells #[.int .u16 5, .int .u16 5] 41)) fun e w' => ∃ g c, e = .returned (.slice (some ⟨g, 0, none⟩) 3 c) ∧ (∀ wx, Below w'.heap.size w' wx → wx.cell? ⟨g, 1, none⟩ = some (.int .u16 6) ∧ wx.cell? ⟨g, 2, none⟩ = some (.int .u16 8)) ∧ Below w.heap.size w w' := by
  refine (nacked_any _ 1 1 [(5, 5)] _ (rdl_one w) (by omega)).mono ?_
  rintro e w' ⟨A, c, rfl, ho, hb⟩
  rw [ex_nk] at ho
  obtain ⟨g, rfl, hg⟩ := own_blockN ho (by decide)
  rw [ex_nk]
  have l1 : w'.cell? ⟨g, 1, none⟩ = some (.int .u16 6) := (ho.cellAt 1 (by decide)).trans rfl
  have l2 : w'.cell? ⟨g, 2, none⟩ = some (.int .u16 8) := (ho.cellAt 2 (by decide)).trans rfl
  exact ⟨g, c, rfl, fun wx hx => ⟨(hx.cell (p := ⟨g, 1, none⟩) (World.block_lt_of_cell? w' ⟨g, 1, none⟩ l1)).trans l1, (hx.cell (p := ⟨g, 2, none⟩) (World.block_lt_of_cell? w' ⟨g, 2, none⟩ l2)).trans l2⟩, ((Below.refl _ _).alloc (Nat.le_refl _) _).trans (hb.mono (by simp))⟩
theorem ex_losses (w : World) : Calls Tryd.prog 16 #[.slice (some ⟨w.heap.size, 0, none⟩) 3 3] (w.alloc (.cells #[.int .u16 5, .int .u16 6, .int .u16 8] 39)) fun e w' => ∃ g c, e = .returned (.slice (some ⟨g, 0, none⟩) 1 c) ∧ w'.cell? ⟨g, 0, none⟩ = some (.int .u16 5) ∧ w'.cell? ⟨g, 1, none⟩ = some (.int .u16 5) ∧ Below w.heap.size w w' := by
  refine (losses_any _ 3 3 [5, 6, 8] _ (rdh_three w) (by omega)).mono ?_
  rintro e w' ⟨A, c, rfl, ho, hb⟩
  rw [ex_ls] at ho
  obtain ⟨g, rfl, hg⟩ := own_block2 ho (by decide)
  rw [ex_ls]
  exact ⟨g, c, rfl, (ho.cellAt 0 (by decide)).trans rfl, (ho.cellAt 1 (by decide)).trans rfl, ((Below.refl _ _).alloc (Nat.le_refl _) _).trans (hb.mono (by simp))⟩

set_option maxRecDepth 100000 in
set_option maxHeartbeats 1000000 in
theorem alive_any (w : World) (ht : Tab w) (hw : 0 < w.heap.size) : Calls Tryd.prog 6 #[] w fun e w' => e = .returned (.bool true) ∧ Below w.heap.size w w' := by
  have hmk : ∀ wx : World, (Instr.makeSlice 25 (.int .i64 32) (.int .i64 32)).run Tryd.prog wx = .ok (.slice (some ⟨wx.heap.size, 0, none⟩) 32 32) (wx.alloc (.cells (cells Z32).toArray 5)) := fun wx => run_makeB Tryd.underlying25 u8_info .i64 .i64 32 32 32 rfl rfl (by omega) wx
  have B0 : Blk (w.alloc (.cells (cells Z32).toArray 5)) w.heap.size 5 Z32 := Blk.new _ _ _
  have B1 : Blk ((w.alloc (.cells (cells Z32).toArray 5)).setCell ⟨w.heap.size, 0, none⟩ (.int .u8 129)) w.heap.size 5 (Z32.set 0 129) := B0.set_ 0 129
  have B2 : Blk (((w.alloc (.cells (cells Z32).toArray 5)).setCell ⟨w.heap.size, 0, none⟩ (.int .u8 129)).setCell ⟨w.heap.size, 1, none⟩ (.int .u8 201)) w.heap.size 5 ((Z32.set 0 129).set 1 201) := B1.set_ 1 201
  have b3 : Below w.heap.size w (w.alloc (.cells exA 5)) := (Below.refl _ _).alloc (Nat.le_refl _) _
  have B3 : Blk (w.alloc (.cells exA 5)) w.heap.size 5 exB := Blk.new_at _ _ _ _ _ rfl exA_is
  have c0 : (w.alloc (.cells (cells Z32).toArray 5)).cell? ⟨w.heap.size, 0, none⟩ = some (.int .u8 0) := B0.cell (j := 0) (by decide)
  have c1 : ((w.alloc (.cells (cells Z32).toArray 5)).setCell ⟨w.heap.size, 0, none⟩ (.int .u8 129)).cell? ⟨w.heap.size, 1, none⟩ = some (.int .u8 0) := B1.cell (j := 1) (by decide)
  have c3 : (((w.alloc (.cells (cells Z32).toArray 5)).setCell ⟨w.heap.size, 0, none⟩ (.int .u8 129)).setCell ⟨w.heap.size, 1, none⟩ (.int .u8 201)).cell? ⟨w.heap.size, 3, none⟩ = some (.int .u8 0) := B2.cell (j := 3) (by decide)
  have f0 := B0.frozen 0
  have f1 := B1.frozen 1
  have f3 := B2.frozen 3
  have CR := Lib.hid (read_ok [(exB, mkRR 201 0 [exR])] (some ⟨w.heap.size, 0, none⟩) 32 32 1 _ (ht.below b3 hw) (Nat.lt_of_lt_of_le hw b3.size) rfl (by omega) (by omega) (fun p hp => by simp at hp; subst hp; exact exPacket) (by omega) (by
    rw [show [(exB, mkRR 201 0 [exR])].flatMap (·.1) = exB by simp]
    exact B3.rd (by decide +kernel) (by omega) (by simp [maxLen])))
  have B3' := Lib.hid b3
  clear B0 B1 B2 B3 b3 ht
  go_enter Tryd.func6, Tryd.ntmps6
  go_wp2_with (first
    | (go_at_call 10; ((with_reducible refine (Hid.out CR).mono ?_); rintro e w4 ⟨A4, d4, rfl, ho4, hb4⟩; obtain ⟨g4, cs4, rfl, hg4, hc4, hcell⟩ := ho4.at rfl (i := 0) (by decide); obtain ⟨R1, r1, R2, r2, R3, r3, R4, r4, R5, r5, hcs, _⟩ := hc4; subst hcs; have x0 : Hid (∀ wx, Below w4.heap.size w4 wx → wx.cell? ⟨g4, 0, none⟩ = some (.int .i64 201)) := Lib.hid (fun wx hb => (hb.cell (p := ⟨g4, 0, none⟩) (World.block_lt_of_cell? w4 ⟨g4, 0, none⟩ (hcell 0 (by omega)))).trans (hcell 0 (by omega))); have x7 : Hid (∀ wx, Below w4.heap.size w4 wx → wx.cell? ⟨g4, 7, none⟩ = some (.slice R1 1 r1)) := Lib.hid (fun wx hb => (hb.cell (p := ⟨g4, 7, none⟩) (World.block_lt_of_cell? w4 ⟨g4, 7, none⟩ (hcell 7 (by omega)))).trans (hcell 7 (by omega))); have b4 := Lib.hid (B3'.out.trans (hb4.mono B3'.out.size)); have hsz4 := b4.out.size; clear hb4 ho4 hcell))
    | (go_at_call 14; ((with_reducible refine (ex_nacked w4).mono ?_); rintro e w5 ⟨g5, d5, rfl, hx5, hb5⟩; have x5 := Lib.hid hx5; have b45 := Lib.hid hb5; clear hb5 hx5))
    | (go_at_call 16; ((with_reducible refine (ex_losses w5).mono ?_); rintro e w6 ⟨g6, d6, rfl, y0, y1, hb6⟩; have b56 := Lib.hid hb6; have b46 : Hid (Below w4.heap.size w4 w6) := Lib.hid (b45.out.trans (hb6.mono b45.out.size)); have z0 := x0.out w6 b46.out; have z7 := x7.out w6 b46.out; obtain ⟨z1, z2⟩ := x5.out w6 hb6; clear hb6)))
  go_ret
  exact ⟨rfl, b4.out.trans (b46.out.mono b4.out.size)⟩
end Go.Proofs.YtacaempcbdekaaaDoor
