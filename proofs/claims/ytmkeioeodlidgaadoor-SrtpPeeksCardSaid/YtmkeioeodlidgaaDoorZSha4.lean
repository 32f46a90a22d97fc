/- Contracts of package sha: what closes a message, and a sum under way. No statement is proved here. -/
import Derived.Test.YtmkeioeodlidgaaDoorZM7
namespace Go.Proofs.YtmkeioeodlidgaaDoor
open Go.RowKit
set_option linter.unusedVariables false

set_option maxHeartbeats 1000000 in
theorem closing_any (n : Nat) (w : World) (hn : n ≤ 1000000) :
    Calls Tryd.prog 75 #[.int .i64 n] w fun e w' => ∃ g, e = .returned (.slice (some ⟨g, 0, none⟩) (padBH n).length (padBH n).length) ∧ w.heap.size ≤ g ∧ Blk w' g 5 (padBH n) ∧ Below w.heap.size w w' := by
  obtain ⟨q, hq⟩ : ∃ q, q = n % 64 := ⟨_, rfl⟩
  obtain ⟨z, hz⟩ : ∃ z, z = zeros n := ⟨_, rfl⟩
  have e1 : ((n : Int) % 64) = (q : Int) := by omega
  have e2 : (119 - (q : Int)) % 64 = (z : Int) := by unfold zeros at hz; omega
  have hql : (q : Int) ≤ 63 := by omega
  have hzl : (z : Int) ≤ 63 := by unfold zeros at hz; omega
  have hzn : z ≤ 63 := by omega
  have hmk := run_makeB (P := Tryd.prog) Tryd.underlying22 u8_info .i64 .i64 (1 + (z : Int)) (1 + (z : Int)) (1 + z) (by omega) (by omega) (by omega)
  have er : List.replicate (1 + z) (0 : UInt8) = 0 :: List.replicate z 0 := by rw [Nat.add_comm, List.replicate_succ]
  have b1 := Blk.new w 5 (List.replicate (1 + z) 0)
  have hc0 := b1.cell (j := 0) (by simp; omega)
  have hf0 := b1.frozen 0
  have b2 : Blk (w.alloc (.cells ((cells (List.replicate (1 + z) 0)).set 0 (.int .u8 128)).toArray 5)) w.heap.size 5 (128 :: List.replicate z 0) := Blk.new_at _ _ _ _ _ rfl (by
    have e := cells_set (List.replicate (1 + z) 0) 0 128
    rw [er] at e ⊢
    exact congrArg List.toArray e)
  have hbel : Below w.heap.size w (w.alloc (.cells ((cells (List.replicate (1 + z) 0)).set 0 (.int .u8 128)).toArray 5)) := (Below.refl _ _).alloc (Nat.le_refl _) _
  have hrd := b2.rd (n := 1 + z) (c := 1 + z) (by simp; omega) (Nat.le_refl _) (by simp [maxLen]; omega)
  have hput : Calls Tryd.prog 29 #[.slice (some ⟨w.heap.size, 0, none⟩) (1 + z) (1 + z), .int .i64 8, .int .u64 ((n : Int) * 8)] (w.alloc (.cells ((cells (List.replicate (1 + z) 0)).set 0 (.int .u8 128)).toArray 5)) fun e w' => ∃ g, e = .returned (.slice (some ⟨g, 0, none⟩) (1 + z + 8) (1 + z + 8)) ∧ w.heap.size ≤ g ∧ Blk w' g 5 (padBH n) ∧ Below w.heap.size w w' := by
    refine (put_some _ _ _ _ 8 (n * 8) _ hrd (by omega) (by omega) (by omega) (by omega)).mono fun e w' ⟨he, hB, hb⟩ => ⟨_, he, ?_, ?_, hbel.trans (hb.mono ?_)⟩
    · simp
    · unfold padBH; rw [← hz]; exact hB
    · simp
  have hlen : (padBH n).length = 1 + z + 8 := by rw [padB_lenH, ← hz]; omega
  rw [hlen]
  have HP := Lib.hid hput
  clear b1 b2 hrd hput hbel hlen hz hq er
  go_enter Tryd.func75, Tryd.ntmps75
  go_wp2_with (go_at_call 29; ((with_reducible refine (Hid.out HP).mono ?_); rintro e w' ⟨g, rfl, hg, hB, hb⟩))
  go_ret
  exact ⟨g, rfl, hg, hB, hb⟩

/-- A sum under way, as its block has it. -/
def stC (s : S5) (r : List UInt8) (n : Nat) : List Value := c32 s.l ++ (cells r ++ [.int .i64 (n : Int)])
theorem stC_len (s : S5) (r : List UInt8) (n : Nat) (h : r.length = 64) : (stC s r n).length = 70 := by simp [stC, c32_len, length_cells, h, S5.l]
theorem stC_words (s s' : S5) (r : List UInt8) (n : Nat) : splice (stC s r n) 0 (c32 s'.l) = stC s' r n := by simp [splice, stC, c32, S5.l]
theorem stC_rest (s : S5) (r : List UInt8) (n a : Nat) (x : List UInt8) (h : r.length = 64) (hx : a + x.length ≤ 64) : splice (stC s r n) (5 + a) (cells x) = stC s (splice r a x) n := by
  have e0 : (c32 s.l).length = 5 := by simp [c32_len, S5.l]
  unfold splice stC
  have e1 : (c32 s.l ++ (cells r ++ [Value.int .i64 (n : Int)])).take (5 + a) = c32 s.l ++ cells (r.take a) := by
    rw [List.take_append, e0, List.take_of_length_le (by omega), show 5 + a - 5 = a by omega, List.take_append_of_le_length (by rw [length_cells]; omega)]
    simp [cells]
  have e2 : (c32 s.l ++ (cells r ++ [Value.int .i64 (n : Int)])).drop (5 + a + (cells x).length) = cells (r.drop (a + x.length)) ++ [.int .i64 (n : Int)] := by
    rw [length_cells, List.drop_append, e0, List.drop_of_length_le (by omega), List.nil_append, show 5 + a + x.length - 5 = a + x.length by omega, List.drop_append_of_le_length (by rw [length_cells]; omega)]
    simp [cells]
  rw [e1, e2, cells_append, cells_append]
  simp
theorem stC_size (s : S5) (r : List UInt8) (n k : Nat) (h : r.length = 64) : (stC s r n).set 69 (.int .i64 (k : Int)) = stC s r k := by
  have e0 : (c32 s.l).length = 5 := by simp [c32_len, S5.l]
  unfold stC
  rw [List.set_append_right _ _ (by omega), List.set_append_right _ _ (by rw [length_cells]; omega), e0, length_cells, h]
  rfl
theorem stC_atWords (s : S5) (r : List UInt8) (n i : Nat) (h : i < (c32 s.l).length) : (stC s r n)[0 + i]? = (c32 s.l)[i]? := by
  unfold stC
  rw [Nat.zero_add, List.getElem?_append_left h]
theorem stC_atRest (s : S5) (r : List UInt8) (n i : Nat) (h : i < (cells r).length) : (stC s r n)[5 + i]? = (cells r)[i]? := by
  have e0 : (c32 s.l).length = 5 := by simp [c32_len, S5.l]
  unfold stC
  rw [List.getElem?_append_right (by omega), e0, show 5 + i - 5 = i by omega, List.getElem?_append_left h]
theorem stC_atSize (s : S5) (r : List UInt8) (n : Nat) (h : r.length = 64) : (stC s r n)[69]? = some (.int .i64 (n : Int)) := by
  have e0 : (c32 s.l).length = 5 := by simp [c32_len, S5.l]
  unfold stC
  rw [List.getElem?_append_right (by omega), e0, List.getElem?_append_right (by rw [length_cells]; omega), length_cells, h]
  rfl
theorem stC_one (s : S5) (r : List UInt8) (n : Nat) : ∀ v ∈ stC s r n, v.oneCell' = true := by
  intro v hv
  unfold stC at hv
  simp only [List.mem_append, List.mem_singleton] at hv
  rcases hv with hv | hv | rfl
  · exact c32_one _ v hv
  · exact cells_one _ v hv
  · rfl

/-- s are the words and r the bytes behind them of the message m. -/
def Inv (s : S5) (r m : List UInt8) : Prop := r.length = 64 ∧ s = hN m (m.length / 64) ∧ r.take (m.length % 64) = m.drop (64 * (m.length / 64))
theorem Inv.start (r : List UInt8) (h : r.length = 64) : Inv h0 r [] := ⟨h, rfl, by simp⟩
theorem Inv.ok {s : S5} {r m : List UInt8} (h : Inv s r m) : s.ok := by rw [h.2.1]; exact hN_ok _ _
theorem splice_take {r x : List UInt8} {a : Nat} (h : a + x.length ≤ r.length) : (splice r a x).take (a + x.length) = r.take a ++ x := by
  unfold splice
  rw [← List.append_assoc, List.take_append_of_le_length (by simp; omega), List.take_of_length_le (by simp; omega)]
theorem Inv.rest {s : S5} {r m x : List UInt8} (h : Inv s r m) (hx : m.length % 64 + x.length ≤ 64) :
    (splice r (m.length % 64) x).take (m.length % 64 + x.length) = (m ++ x).drop (64 * (m.length / 64)) := by
  rw [splice_take (by rw [h.1]; exact hx), h.2.2, List.drop_append_of_le_length (by omega)]
theorem Inv.part {s : S5} {r m x : List UInt8} (h : Inv s r m) (hx : m.length % 64 + x.length < 64) : Inv s (splice r (m.length % 64) x) (m ++ x) := by
  have e : (m ++ x).length / 64 = m.length / 64 := by rw [List.length_append]; omega
  have e2 : (m ++ x).length % 64 = m.length % 64 + x.length := by rw [List.length_append]; omega
  refine ⟨by rw [length_splice _ _ _ (by rw [h.1]; omega)]; exact h.1, ?_, ?_⟩
  · rw [e, hN_append m x _ (by omega)]; exact h.2.1
  · rw [e2, e]; exact h.rest (by omega)
theorem Inv.full {s : S5} {r m x : List UInt8} (h : Inv s r m) (hx : m.length % 64 + x.length = 64) : Inv (blockW s (splice r (m.length % 64) x)) (splice r (m.length % 64) x) (m ++ x) := by
  have e : (m ++ x).length / 64 = m.length / 64 + 1 := by rw [List.length_append]; omega
  have e2 : (m ++ x).length % 64 = 0 := by rw [List.length_append]; omega
  have hl : (splice r (m.length % 64) x).length = 64 := by rw [length_splice _ _ _ (by rw [h.1]; omega)]; exact h.1
  have hr := h.rest (x := x) (by omega)
  rw [hx, List.take_of_length_le (by omega)] at hr
  refine ⟨hl, ?_, ?_⟩
  · rw [e, hN, hN_append m x _ (by omega), ← h.2.1, ← hr, List.take_of_length_le (by omega)]
  · rw [e2, e, List.take_zero, List.drop_of_length_le (by rw [List.length_append]; omega)]
/-- Block p is a sum under way of the bytes m, its words laid. -/
def StInv (w : World) (p : Nat) (m : List UInt8) : Prop := ∃ (s : S5) (r : List UInt8), Inv s r m ∧ BlkV w p 136 (stC s r m.length)
/-- Block p is a sum under way of the bytes m. -/
def StIs (w : World) (p : Nat) (m : List UInt8) : Prop := ∃ (s : S5) (r : List UInt8), r.length = 64 ∧ BlkV w p 136 (stC s r m.length) ∧ (m ≠ [] → Inv s r m)
theorem StInv.is {w : World} {p : Nat} {m : List UInt8} (h : StInv w p m) : StIs w p m := by
  obtain ⟨s, r, hi, hB⟩ := h
  exact ⟨s, r, hi.1, hB, fun _ => hi⟩
theorem StIs.grown {w w' : World} {p : Nat} {m : List UInt8} {row : Option Nat} (h : StIs w p m) (hg : w.grownBy w' row) (hp : some p ≠ row) : StIs w' p m := by
  obtain ⟨s, r, hi, hB, hm⟩ := h
  exact ⟨s, r, hi, hB.grown hg hp, hm⟩
theorem StIs.lt {w : World} {p : Nat} {m : List UInt8} (h : StIs w p m) : p < w.heap.size := by
  obtain ⟨s, r, hi, hB, hm⟩ := h
  exact hB.lt
/-- The package's first words lie where they were laid. -/
def TabH (w : World) : Prop := w.rangeAt 0 0 (c32 h0.l)
theorem TabH.grown {w w' : World} {row : Option Nat} (h : TabH w) (hg : w.grownBy w' row) (hr : some 0 ≠ row) : TabH w' := fun j v hv => hg.cell (h j v hv) hr
theorem size8_1 (w : World) : (sizeOf 5).run Tryd.prog w = .ok 1 w := by kernel_rfl
end Go.Proofs.YtmkeioeodlidgaaDoor
