/- The law's examples of layer 13 (tenaillelaw13), and the walk of Vp8Reads, over what package vp8 tells. No statement is proved here. -/
import Derived.Test.YtpflgkepgoicjaaVpR2
import Derived.BigQuiet
namespace Go.Proofs.Ytpflgkepgoicjaa
open Go.RowKit
set_option linter.unusedVariables false

/-- What the program's Read tells. -/
def P13 (bs : List UInt8) (w : World) (e : Ending) (w' : World) : Prop := e = .returned (.tuple #[.agg (vC (vpV bs)).toArray, .int .i64 (whyV bs : Int)]) ∧ Below w.heap.size w w'
/-- What package vp8's functions tell, in worlds of which T holds. -/
structure Tells13 (T : World → Prop) : Prop where
  keep : ∀ w w', T w → Below w.heap.size w w' → T w'
  read : ∀ A n c bs w, T w → RdS w A n c bs → n ≤ 5000 → Calls Try.prog 6 #[.slice A n c] w (P13 bs w)
  turn : ∀ A n c bs (p : Nat) w, T w → RdS w A n c bs → n ≤ 5000 → p < 65536 → Calls Try.prog 8 #[.slice A n c, .int .u16 (p : Int)] w (T13 bs p w)
def exV1 : List UInt8 := [144, 128, 5, 0]
def exV2 : List UInt8 := [144, 128]
theorem exV1_is : vpV exV1 = ⟨true, 0, true, false, 5, true, 3⟩ ∧ whyV exV1 = 0 := ⟨by rfl, by rfl⟩
theorem exV2_is : whyV exV2 = 2 ∧ vpV exV2 = ⟨false, 0, false, false, 0, false, 0⟩ := ⟨by rfl, by rfl⟩
theorem exV1_rd (w : World) : RdS (w.alloc (.cells #[.int .u8 144, .int .u8 128, .int .u8 5, .int .u8 0] 5)) (some ⟨w.heap.size, 0, none⟩) 4 4 exV1 := by
  have hB : Blk (w.alloc (.cells #[.int .u8 144, .int .u8 128, .int .u8 5, .int .u8 0] 5)) w.heap.size 5 exV1 := Blk.new_at _ _ _ _ _ rfl rfl
  exact hB.rd rfl (by omega) (by simp [maxLen])
theorem exV2_rd (w : World) (o : Obj) : RdS ((w.alloc o).alloc (.cells #[.int .u8 144, .int .u8 128] 5)) (some ⟨w.heap.size + 1, 0, none⟩) 2 2 exV2 := by
  have hB : Blk ((w.alloc o).alloc (.cells #[.int .u8 144, .int .u8 128] 5)) (w.heap.size + 1) 5 exV2 := Blk.new_at _ _ _ _ _ (by show (w.heap.push o).size = _; simp) rfl
  exact hB.rd rfl (by omega) (by simp [maxLen])
theorem kept1 {w1 w2 : World} {Y : Array Value} {t : TypeId} (hb : Below (w1.alloc (.cells Y t)).heap.size (w1.alloc (.cells Y t)) w2) (X : Obj) (j : Nat) : (w2.alloc X).cell? ⟨w1.heap.size, j, none⟩ = Y[j]? := by
  have hB : BlkV (w1.alloc (.cells Y t)) w1.heap.size t Y.toList := BlkV.new_at w1 _ t Y.toList Y rfl (by simp)
  rw [((hB.below hb hB.lt).alloc X).cell j]; simp
theorem kept2 {w1 w2 : World} {Y : Array Value} {t : TypeId} {o : Obj} (hb : Below ((w1.alloc (.cells Y t)).alloc o).heap.size ((w1.alloc (.cells Y t)).alloc o) w2) (X : Obj) (j : Nat) : (w2.alloc X).cell? ⟨w1.heap.size, j, none⟩ = Y[j]? := by
  have hB : BlkV ((w1.alloc (.cells Y t)).alloc o) w1.heap.size t Y.toList := (BlkV.new_at w1 _ t Y.toList Y rfl (by simp)).alloc o
  rw [((hB.below hb hB.lt).alloc X).cell j]; simp
theorem below2 {w w1 : World} (h : Below w.heap.size w w1) (o o2 : Obj) : Below w.heap.size w ((w1.alloc o).alloc o2) := h.trans ((twoBelow w1 o o2).mono h.size)
set_option maxRecDepth 100000 in
set_option maxHeartbeats 2000000 in
theorem alive13 {T : World → Prop} (H : Tells13 T) (w : World) (hw : T w) : Calls Try.prog 5 #[] w fun e w' => e = .returned (.bool true) ∧ Below w.heap.size w w' := by
  have b0 : Below w.heap.size w (w.alloc (.cells #[.int .u8 144, .int .u8 128, .int .u8 5, .int .u8 0] 5)) := (Below.refl _ _).alloc (Nat.le_refl _) _
  have HB := Lib.hid b0
  have HR1 := Lib.hid ((H.read _ 4 4 exV1 _ (H.keep _ _ hw b0) (exV1_rd w) (by omega)).mono (R' := fun e w' => e = .returned (.tuple #[.agg #[.bool true, .int .u8 0, .bool true, .bool false, .int .u16 5, .bool true, .int .i64 3], .int .i64 0]) ∧ Below (w.alloc (.cells #[.int .u8 144, .int .u8 128, .int .u8 5, .int .u8 0] 5)).heap.size (w.alloc (.cells #[.int .u8 144, .int .u8 128, .int .u8 5, .int .u8 0] 5)) w') (fun e w' ⟨h1, h2⟩ => by
    rw [exV1_is.1, exV1_is.2] at h1
    exact ⟨h1, h2⟩))
  have HR2 : Hid (∀ (W : World) (A : Option Addr), T W → RdS W A 2 2 exV2 → Calls Try.prog 6 #[.slice A 2 2] W fun e w' => e = .returned (.tuple #[.agg #[.bool false, .int .u8 0, .bool false, .bool false, .int .u16 0, .bool false, .int .i64 0], .int .i64 2]) ∧ Below W.heap.size W w') := Lib.hid (fun W A hW hr => (H.read A 2 2 exV2 W hW hr (by omega)).mono (fun e w' ⟨h1, h2⟩ => by
    rw [exV2_is.1, exV2_is.2] at h1
    exact ⟨h1, h2⟩))
  have HK := Lib.hid H.keep
  have HTW := Lib.hid hw
  clear H b0 hw
  go_enter Try.func5, Try.ntmps5
  go_wp2_with (first
    | (go_at_call 6; ((with_reducible refine (Hid.out HR1).mono ?_); rintro e w1 ⟨rfl, hb1⟩; have f1 := Lib.hid (HB.out.trans (hb1.mono HB.out.size)); have x1 := Lib.hid (below2 f1.out (.cells #[.bool true, .int .u8 0, .bool true, .bool false, .int .u16 5, .bool true, .int .i64 3] 26) (.cells #[.int .u8 144, .int .u8 128] 5)); have t1 := Lib.hid (HK.out _ _ HTW.out x1.out); have e2 := Lib.hid (exV2_rd w1 (.cells #[.bool true, .int .u8 0, .bool true, .bool false, .int .u16 5, .bool true, .int .i64 3] 26)); clear hb1))
    | (go_at_call 6; ((with_reducible refine (Hid.out HR2 _ _ t1.out e2.out).mono ?_); rintro e w2 ⟨rfl, hb2⟩; have f2 := Lib.hid (x1.out.trans (hb2.mono x1.out.size)); have y2 := Lib.hid (f2.out.alloc f2.out.size (.cells #[.bool false, .int .u8 0, .bool false, .bool false, .int .u16 0, .bool false, .int .i64 0] 26)); have k0 : ∀ X, (w2.alloc X).cell? ⟨w1.heap.size, 0, none⟩ = some (.bool true) := fun X => (kept2 hb2 X 0).trans (by rfl); have k1 : ∀ X, (w2.alloc X).cell? ⟨w1.heap.size, 1, none⟩ = some (.int .u8 0) := fun X => (kept2 hb2 X 1).trans (by rfl); have k2 : ∀ X, (w2.alloc X).cell? ⟨w1.heap.size, 2, none⟩ = some (.bool true) := fun X => (kept2 hb2 X 2).trans (by rfl); have k3 : ∀ X, (w2.alloc X).cell? ⟨w1.heap.size, 3, none⟩ = some (.bool false) := fun X => (kept2 hb2 X 3).trans (by rfl); have k4 : ∀ X, (w2.alloc X).cell? ⟨w1.heap.size, 4, none⟩ = some (.int .u16 5) := fun X => (kept2 hb2 X 4).trans (by rfl); have k5 : ∀ X, (w2.alloc X).cell? ⟨w1.heap.size, 5, none⟩ = some (.bool true) := fun X => (kept2 hb2 X 5).trans (by rfl); have k6 : ∀ X, (w2.alloc X).cell? ⟨w1.heap.size, 6, none⟩ = some (.int .i64 3) := fun X => (kept2 hb2 X 6).trans (by rfl); clear hb2)))
  go_ret
  exact ⟨rfl, y2.out⟩
end Go.Proofs.Ytpflgkepgoicjaa
