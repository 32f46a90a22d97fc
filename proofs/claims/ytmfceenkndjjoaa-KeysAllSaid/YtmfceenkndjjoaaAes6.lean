/- Contracts of package aes: a key's words. No statement is proved here. -/
import Derived.Test.YtmfceenkndjjoaaAes5
import Derived.Test.YtmfceenkndjjoaaArr
namespace Go.Proofs.Ytmfceenkndjjoaa
open Go.RowKit
set_option linter.unusedVariables false

/-- A box lies at the head of block p. -/
def BoxRd (w : World) (p : Nat) : Prop := p < w.heap.size ∧ ∀ i, i < 256 → w.cell? ⟨p, i, none⟩ = some (.int .u8 ((boxT.getD i 0).toNat : Int))
theorem BoxRd.below {w w' : World} {p : Nat} (h : BoxRd w p) (hb : Below w.heap.size w w') : BoxRd w' p := ⟨Nat.lt_of_lt_of_le h.1 hb.size, fun i hi => (hb.cell (p := ⟨p, i, none⟩) h.1).trans (h.2 i hi)⟩
theorem BlkV.boxrd {w : World} {p : Nat} {e : TypeId} {ks : List UInt8} (h : BlkV w p e (ciph ks)) : BoxRd w p := ⟨h.lt, fun i hi => (h.cell i).trans (ciph_box hi)⟩
theorem Blk.boxrd {w : World} {p : Nat} {e : TypeId} (h : Blk w p e boxT) : BoxRd w p := ⟨h.lt, fun i hi => h.cell (by rw [boxT_len]; exact hi)⟩

theorem und_s8 : Try.prog.underlying 27 = some (.slice (Try.prog.elem 27)) := by kernel_rfl
theorem und_a176 : Try.prog.underlying 55 = some (.array (Try.prog.arrayLen 55) (Try.prog.elem 55)) := by kernel_rfl
theorem sz_a176 (w : World) : (sizeOf (Try.prog.elem 55)).run Try.prog w = .ok 1 w := by kernel_rfl
theorem len_a176 : Try.prog.arrayLen 55 = 176 := by kernel_rfl
theorem und_a4 : Try.prog.underlying 52 = some (.array 4 5) := by kernel_rfl
theorem u8_inf : (Try.prog.info? 5).map (fun i => (i.zero, i.size, i.bytes)) = some (some (.int .u8 0), 1, 1) := by kernel_rfl

set_option maxRecDepth 100000 in
set_option maxHeartbeats 1000000 in
theorem turned_any (p : Nat) (t : List UInt8) (c : UInt8) (ci : Int) (w : World) (ht : t.length = 4) (hci : ci = (c.toNat : Int)) (hbx : BoxRd w p) :
    Calls Try.prog 33 #[.pointer (some ⟨p, 0, none⟩), .agg (cells t).toArray, .int .u8 ci] w fun e w' => e = .returned (.agg (cells [sb (t.getD 1 0) ^^^ c, sb (t.getD 2 0), sb (t.getD 3 0), sb (t.getD 0 0)]).toArray) ∧ Below w.heap.size w w' := by
  have hz := zero4
  have hb0 : Below w.heap.size w ((w.alloc (Obj.cells (cells t).toArray 52)).alloc (Obj.cells (cells Z4).toArray 52)) := ((Below.refl _ _).alloc (Nat.le_refl _) _).alloc (by simp) _
  have h0 : Blk ((w.alloc (Obj.cells (cells t).toArray 52)).alloc (Obj.cells (cells Z4).toArray 52)) w.heap.size 52 t := (Blk.new _ _ _).alloc _
  have h1 : Blk ((w.alloc (Obj.cells (cells t).toArray 52)).alloc (Obj.cells (cells Z4).toArray 52)) (w.heap.size + 1) 52 Z4 := Blk.new_at _ _ _ _ _ (by simp) rfl
  have hbx1 := hbx.below hb0
  obtain ⟨w1, hw1⟩ : ∃ w1, w1 = ((w.alloc (Obj.cells (cells t).toArray 52)).alloc (Obj.cells (cells Z4).toArray 52)) := ⟨_, rfl⟩
  rw [← hw1] at hb0 h0 h1 hbx1
  have c0 := h0.cell (j := 0) (by omega)
  have c1 := h0.cell (j := 1) (by omega)
  have c2 := h0.cell (j := 2) (by omega)
  have c3 := h0.cell (j := 3) (by omega)
  obtain ⟨x0, hx0⟩ : ∃ x, x = t.getD 0 0 := ⟨_, rfl⟩
  obtain ⟨x1, hx1⟩ : ∃ x, x = t.getD 1 0 := ⟨_, rfl⟩
  obtain ⟨x2, hx2⟩ : ∃ x, x = t.getD 2 0 := ⟨_, rfl⟩
  obtain ⟨x3, hx3⟩ : ∃ x, x = t.getD 3 0 := ⟨_, rfl⟩
  rw [← hx0, ← hx1, ← hx2, ← hx3]
  rw [← hx0] at c0
  rw [← hx1] at c1
  rw [← hx2] at c2
  rw [← hx3] at c3
  have d0 := hbx1.2 x0.toNat x0.toNat_lt
  have d1 := hbx1.2 x1.toNat x1.toNat_lt
  have d2 := hbx1.2 x2.toNat x2.toNat_lt
  have d3 := hbx1.2 x3.toNat x3.toNat_lt
  have hsb : ∀ x : UInt8, boxT.getD x.toNat 0 = sb x := fun _ => rfl
  rw [hsb] at d0 d1 d2 d3
  obtain ⟨v0, hv0, v01, v02⟩ := u8_ex (sb x0)
  obtain ⟨v1, hv1, v11, v12⟩ := u8_ex (sb x1)
  obtain ⟨v2, hv2, v21, v22⟩ := u8_ex (sb x2)
  obtain ⟨v3, hv3, v31, v32⟩ := u8_ex (sb x3)
  obtain ⟨vc, hvc, vc1, vc2⟩ := u8_ex (sb x1 ^^^ c)
  have bx := xr8i hv1 hci hvc
  rw [← hv0] at d0
  rw [← hv1] at d1
  rw [← hv2] at d2
  rw [← hv3] at d3
  have hfin : cells [sb x1 ^^^ c, sb x2, sb x3, sb x0] = [.int .u8 vc, .int .u8 v2, .int .u8 v3, .int .u8 v0] := by simp only [cells, List.map_cons, List.map_nil, ← hvc, ← hv2, ← hv3, ← hv0]
  rw [hfin]
  obtain ⟨y0, hy0⟩ : ∃ y, y = x0.toNat := ⟨_, rfl⟩
  obtain ⟨y1, hy1⟩ : ∃ y, y = x1.toNat := ⟨_, rfl⟩
  obtain ⟨y2, hy2⟩ : ∃ y, y = x2.toNat := ⟨_, rfl⟩
  obtain ⟨y3, hy3⟩ : ∃ y, y = x3.toNat := ⟨_, rfl⟩
  have l0 : (y0 : Int) < 256 := by have := x0.toNat_lt; omega
  have l1 : (y1 : Int) < 256 := by have := x1.toNat_lt; omega
  have l2 : (y2 : Int) < 256 := by have := x2.toNat_lt; omega
  have l3 : (y3 : Int) < 256 := by have := x3.toNat_lt; omega
  rw [← hy0] at c0 d0
  rw [← hy1] at c1 d1
  rw [← hy2] at c2 d2
  rw [← hy3] at c3 d3
  have hZ : (cells Z4).length = 4 := by rw [length_cells, Z4_len]
  have HZ := Lib.hid hZ
  have HW := Lib.hid hw1
  clear hx0 hx1 hx2 hx3 hy0 hy1 hy2 hy3 hv0 hv1 hv2 hv3 hvc hci hfin hsb ht hbx hbx1 h0 hw1 hZ
  go_enter Try.func33, Try.ntmps33
  go_wp2
  rw [← HW.out]
  go_still_tail 26, (by kernel_rfl)
  change wpList _ _ _ _ _ w1.drew
  clear c0 c1 c2 c3 d0 d1 d2 d3
  have h1d : Blk w1.drew (w.heap.size + 1) 52 Z4 := h1
  have hbd : Below w.heap.size w w1.drew := hb0.drew
  generalize w1.drew = w2 at *
  go_wp2_with (first
    | ((with_reducible refine wpList_st rfl 52 (.tmp 6) (.tmp 33) rfl (w.heap.size + 1) 0 [.int .u8 vc, .int .u8 v2, .int .u8 v3, .int .u8 v0] rfl rfl 52 _ h1d.v (by rw [HZ.out]; simp) (row4 (by simp)) (by simp [Value.oneCell']) ?_); intro w3 hB3 ho3; rw [splice_all _ _ (by rw [HZ.out]; rfl)] at hB3))
  exact ret_row (by rfl) (by rfl) hB3 (row4 (by simp)) (by rfl) ⟨rfl, hbd.trans (ho3.below (by omega))⟩
end Go.Proofs.Ytmfceenkndjjoaa
