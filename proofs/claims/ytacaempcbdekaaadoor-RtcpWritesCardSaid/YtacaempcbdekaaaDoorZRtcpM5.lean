/- What the document's answer for layer 11 tells of which packets may be: NACK, PLI, FIR where they may. No statement is proved here. -/
import Derived.Test.YtacaempcbdekaaaDoorZRtcpM1
namespace Go.Proofs.YtacaempcbdekaaaDoor
open Go.RowKit
set_option linter.unusedVariables false

set_option maxRecDepth 100000 in
set_option maxHeartbeats 2000000 in
theorem may_1_yes (cs : List Value) (so me : Nat) (L : List (Nat × Nat)) (n : Nat) (w : World) (h : CtRd w cs (mkNA 1 so me L)) (l0 : L.length = n) (hn : n ≤ 16) (hn1 : 1 ≤ n) :
    Calls Tryd.prog 20 #[.agg cs.toArray] w fun r w' => r = .returned (.bool true) ∧ Below w.heap.size w w' := by
  have hCS := h
  obtain ⟨A, a, B, b', C, c', D, d, E, e, h0, r7, r8, r9, r10, r11⟩ := h
  subst h0
  unfold ctlC at hCS ⊢
  simp only [mkNA, List.length_nil, l0] at hCS r7 r8 r9 r10 r11 ⊢
  change Calls Tryd.prog 20 #[.agg #[.int .i64 1, .int .u32 (so : Int), .int .u32 (me : Int), .int .u64 0, .int .u32 0, .int .u32 0, .int .u32 0, .slice A 0 a, .slice B 0 b', .slice C 0 c', .slice D n d, .slice E 0 e, .int .u64 0]] w _
  replace hCS : CtRd w [.int .i64 1, .int .u32 (so : Int), .int .u32 (me : Int), .int .u64 0, .int .u32 0, .int .u32 0, .int .u32 0, .slice A 0 a, .slice B 0 b', .slice C 0 c', .slice D n d, .slice E 0 e, .int .u64 0] (mkNA 1 so me L) := hCS
  have hD : CtRd w [.int .i64 1, .int .u32 (so : Int), .int .u32 (me : Int), .int .u64 0, .int .u32 0, .int .u32 0, .int .u32 0, .slice none 0 0, .slice none 0 0, .slice none 0 0, .slice D n d, .slice none 0 0, .int .u64 0] (mkNA 1 so me L) := ⟨none, 0, none, 0, none, 0, D, d, none, 0, by (simp only [ctlC, mkNA, List.length_nil, l0]; rfl), nilG _ _, nilG _ _, nilG _ _, r10, nilG _ _⟩
  have HSH : Hid (smallL (mkNA 1 so me L)) := Lib.hid (by simp [smallL, mkNA]; omega)
  have SM : Hid (Calls Tryd.prog 26 #[.agg #[.int .i64 1, .int .u32 (so : Int), .int .u32 (me : Int), .int .u64 0, .int .u32 0, .int .u32 0, .int .u32 0, .slice A 0 a, .slice B 0 b', .slice C 0 c', .slice D n d, .slice E 0 e, .int .u64 0], .agg #[.int .i64 1, .int .u32 (so : Int), .int .u32 (me : Int), .int .u64 0, .int .u32 0, .int .u32 0, .int .u32 0, .slice none 0 0, .slice none 0 0, .slice none 0 0, .slice D n d, .slice none 0 0, .int .u64 0]] ((w.alloc (.cells #[.int .i64 1, .int .u32 (so : Int), .int .u32 (me : Int), .int .u64 0, .int .u32 0, .int .u32 0, .int .u32 0, .slice A 0 a, .slice B 0 b', .slice C 0 c', .slice D n d, .slice E 0 e, .int .u64 0] 50)).alloc (.cells #[.int .i64 1, .int .u32 (so : Int), .int .u32 (me : Int), .int .u64 0, .int .u32 0, .int .u32 0, .int .u32 0, .slice none 0 0, .slice none 0 0, .slice none 0 0, .slice D n d, .slice none 0 0, .int .u64 0] 50)) fun r w' => r = .returned (.bool true) ∧ Below ((w.alloc (.cells #[.int .i64 1, .int .u32 (so : Int), .int .u32 (me : Int), .int .u64 0, .int .u32 0, .int .u32 0, .int .u32 0, .slice A 0 a, .slice B 0 b', .slice C 0 c', .slice D n d, .slice E 0 e, .int .u64 0] 50)).alloc (.cells #[.int .i64 1, .int .u32 (so : Int), .int .u32 (me : Int), .int .u64 0, .int .u32 0, .int .u32 0, .int .u32 0, .slice none 0 0, .slice none 0 0, .slice none 0 0, .slice D n d, .slice none 0 0, .int .u64 0] 50)).heap.size ((w.alloc (.cells #[.int .i64 1, .int .u32 (so : Int), .int .u32 (me : Int), .int .u64 0, .int .u32 0, .int .u32 0, .int .u32 0, .slice A 0 a, .slice B 0 b', .slice C 0 c', .slice D n d, .slice E 0 e, .int .u64 0] 50)).alloc (.cells #[.int .i64 1, .int .u32 (so : Int), .int .u32 (me : Int), .int .u64 0, .int .u32 0, .int .u32 0, .int .u32 0, .slice none 0 0, .slice none 0 0, .slice none 0 0, .slice D n d, .slice none 0 0, .int .u64 0] 50)) w') := Lib.hid (same_yes [.int .i64 1, .int .u32 (so : Int), .int .u32 (me : Int), .int .u64 0, .int .u32 0, .int .u32 0, .int .u32 0, .slice A 0 a, .slice B 0 b', .slice C 0 c', .slice D n d, .slice E 0 e, .int .u64 0] [.int .i64 1, .int .u32 (so : Int), .int .u32 (me : Int), .int .u64 0, .int .u32 0, .int .u32 0, .int .u32 0, .slice none 0 0, .slice none 0 0, .slice none 0 0, .slice D n d, .slice none 0 0, .int .u64 0] (mkNA 1 so me L) _ (CtRd.below (by exact hCS) (twoBelow _ _ _)) (hD.below (twoBelow _ _ _)) HSH.out.1 HSH.out.2.1 HSH.out.2.2.1 HSH.out.2.2.2.1 HSH.out.2.2.2.2)
  have TWO : Hid (∀ w4, Below ((w.alloc (.cells #[.int .i64 1, .int .u32 (so : Int), .int .u32 (me : Int), .int .u64 0, .int .u32 0, .int .u32 0, .int .u32 0, .slice A 0 a, .slice B 0 b', .slice C 0 c', .slice D n d, .slice E 0 e, .int .u64 0] 50)).alloc (.cells #[.int .i64 1, .int .u32 (so : Int), .int .u32 (me : Int), .int .u64 0, .int .u32 0, .int .u32 0, .int .u32 0, .slice none 0 0, .slice none 0 0, .slice none 0 0, .slice D n d, .slice none 0 0, .int .u64 0] 50)).heap.size ((w.alloc (.cells #[.int .i64 1, .int .u32 (so : Int), .int .u32 (me : Int), .int .u64 0, .int .u32 0, .int .u32 0, .int .u32 0, .slice A 0 a, .slice B 0 b', .slice C 0 c', .slice D n d, .slice E 0 e, .int .u64 0] 50)).alloc (.cells #[.int .i64 1, .int .u32 (so : Int), .int .u32 (me : Int), .int .u64 0, .int .u32 0, .int .u32 0, .int .u32 0, .slice none 0 0, .slice none 0 0, .slice none 0 0, .slice D n d, .slice none 0 0, .int .u64 0] 50)) w4 → Below w.heap.size w w4 ∧ BlkV w4 w.heap.size 50 [.int .i64 1, .int .u32 (so : Int), .int .u32 (me : Int), .int .u64 0, .int .u32 0, .int .u32 0, .int .u32 0, .slice A 0 a, .slice B 0 b', .slice C 0 c', .slice D n d, .slice E 0 e, .int .u64 0]) := Lib.hid (fun w4 hb => ⟨(twoBelow w _ _).trans (hb.mono (twoBelow w _ _).size), (oneB2 w [.int .i64 1, .int .u32 (so : Int), .int .u32 (me : Int), .int .u64 0, .int .u32 0, .int .u32 0, .int .u32 0, .slice A 0 a, .slice B 0 b', .slice C 0 c', .slice D n d, .slice E 0 e, .int .u64 0] 50 _).below hb (oneB2 w [.int .i64 1, .int .u32 (so : Int), .int .u32 (me : Int), .int .u64 0, .int .u32 0, .int .u32 0, .int .u32 0, .slice A 0 a, .slice B 0 b', .slice C 0 c', .slice D n d, .slice E 0 e, .int .u64 0] 50 _).lt⟩)
  have RL := Lib.hid r10
  have HN := Lib.hid l0
  have hn0 : ¬ (n : Int) = 0 := by omega
  clear hCS hD r7 r8 r9 r10 r11 HSH l0
  go_enter Tryd.func20, Tryd.ntmps20
  go_wp2_with (go_at_call 26; ((with_reducible refine (Hid.out SM).mono ?_); rintro r w4 ⟨rfl, hb⟩; have B4 := Lib.hid (TWO.out w4 hb).1; have V4 := Lib.hid (TWO.out w4 hb).2; clear hb))
  go_loopw [8] (fun i wr => i = .int .i64 0 ∧ Hid (Below w4.heap.size w4 wr)) (fun i _ => 0)
  case atStart => exact ⟨rfl, Lib.hid (Below.refl _ _)⟩
  case round =>
    obtain ⟨rfl, HB⟩ := hrel
    have V5 := Lib.hid (V4.out.below HB.out V4.out.lt)
    have B5 := Lib.hid (B4.out.trans (HB.out.mono B4.out.size))
    have y8 : wr.cell? ⟨w.heap.size, 8, none⟩ = some (.slice B 0 b') := (V5.out.cell 8).trans rfl
    have y7 : wr.cell? ⟨w.heap.size, 7, none⟩ = some (.slice A 0 a) := (V5.out.cell 7).trans rfl
    go_wp2
    go_loopw [9] (fun i wx => i = .int .i64 0 ∧ Hid (Below wr.heap.size wr wx)) (fun i _ => 0)
    case atStart => exact ⟨rfl, Lib.hid (Below.refl _ _)⟩
    case round =>
      clear y7 y8
      obtain ⟨rfl, HB9⟩ := hrel
      have V6 := Lib.hid (V5.out.below HB9.out V5.out.lt)
      have B6 := Lib.hid (B5.out.trans (HB9.out.mono B5.out.size))
      have y7 : wr.cell? ⟨w.heap.size, 7, none⟩ = some (.slice A 0 a) := (V6.out.cell 7).trans rfl
      go_wp2
      go_ret
      exact ⟨rfl, B6.out⟩
set_option maxRecDepth 100000 in
set_option maxHeartbeats 2000000 in
theorem may_2_yes (cs : List Value) (so me : Nat) (w : World) (h : CtRd w cs (mkPL 2 so me))  :
    Calls Tryd.prog 20 #[.agg cs.toArray] w fun r w' => r = .returned (.bool true) ∧ Below w.heap.size w w' := by
  have hCS := h
  obtain ⟨A, a, B, b', C, c', D, d, E, e, h0, r7, r8, r9, r10, r11⟩ := h
  subst h0
  unfold ctlC at hCS ⊢
  simp only [mkPL, List.length_nil] at hCS r7 r8 r9 r10 r11 ⊢
  change Calls Tryd.prog 20 #[.agg #[.int .i64 2, .int .u32 (so : Int), .int .u32 (me : Int), .int .u64 0, .int .u32 0, .int .u32 0, .int .u32 0, .slice A 0 a, .slice B 0 b', .slice C 0 c', .slice D 0 d, .slice E 0 e, .int .u64 0]] w _
  replace hCS : CtRd w [.int .i64 2, .int .u32 (so : Int), .int .u32 (me : Int), .int .u64 0, .int .u32 0, .int .u32 0, .int .u32 0, .slice A 0 a, .slice B 0 b', .slice C 0 c', .slice D 0 d, .slice E 0 e, .int .u64 0] (mkPL 2 so me) := hCS
  have hD : CtRd w [.int .i64 2, .int .u32 (so : Int), .int .u32 (me : Int), .int .u64 0, .int .u32 0, .int .u32 0, .int .u32 0, .slice none 0 0, .slice none 0 0, .slice none 0 0, .slice none 0 0, .slice none 0 0, .int .u64 0] (mkPL 2 so me) := ⟨none, 0, none, 0, none, 0, none, 0, none, 0, by (simp only [ctlC, mkPL, List.length_nil]; rfl), nilG _ _, nilG _ _, nilG _ _, nilG _ _, nilG _ _⟩
  have HSH : Hid (smallL (mkPL 2 so me)) := Lib.hid (by simp [smallL, mkPL])
  have SM : Hid (Calls Tryd.prog 26 #[.agg #[.int .i64 2, .int .u32 (so : Int), .int .u32 (me : Int), .int .u64 0, .int .u32 0, .int .u32 0, .int .u32 0, .slice A 0 a, .slice B 0 b', .slice C 0 c', .slice D 0 d, .slice E 0 e, .int .u64 0], .agg #[.int .i64 2, .int .u32 (so : Int), .int .u32 (me : Int), .int .u64 0, .int .u32 0, .int .u32 0, .int .u32 0, .slice none 0 0, .slice none 0 0, .slice none 0 0, .slice none 0 0, .slice none 0 0, .int .u64 0]] ((w.alloc (.cells #[.int .i64 2, .int .u32 (so : Int), .int .u32 (me : Int), .int .u64 0, .int .u32 0, .int .u32 0, .int .u32 0, .slice A 0 a, .slice B 0 b', .slice C 0 c', .slice D 0 d, .slice E 0 e, .int .u64 0] 50)).alloc (.cells #[.int .i64 2, .int .u32 (so : Int), .int .u32 (me : Int), .int .u64 0, .int .u32 0, .int .u32 0, .int .u32 0, .slice none 0 0, .slice none 0 0, .slice none 0 0, .slice none 0 0, .slice none 0 0, .int .u64 0] 50)) fun r w' => r = .returned (.bool true) ∧ Below ((w.alloc (.cells #[.int .i64 2, .int .u32 (so : Int), .int .u32 (me : Int), .int .u64 0, .int .u32 0, .int .u32 0, .int .u32 0, .slice A 0 a, .slice B 0 b', .slice C 0 c', .slice D 0 d, .slice E 0 e, .int .u64 0] 50)).alloc (.cells #[.int .i64 2, .int .u32 (so : Int), .int .u32 (me : Int), .int .u64 0, .int .u32 0, .int .u32 0, .int .u32 0, .slice none 0 0, .slice none 0 0, .slice none 0 0, .slice none 0 0, .slice none 0 0, .int .u64 0] 50)).heap.size ((w.alloc (.cells #[.int .i64 2, .int .u32 (so : Int), .int .u32 (me : Int), .int .u64 0, .int .u32 0, .int .u32 0, .int .u32 0, .slice A 0 a, .slice B 0 b', .slice C 0 c', .slice D 0 d, .slice E 0 e, .int .u64 0] 50)).alloc (.cells #[.int .i64 2, .int .u32 (so : Int), .int .u32 (me : Int), .int .u64 0, .int .u32 0, .int .u32 0, .int .u32 0, .slice none 0 0, .slice none 0 0, .slice none 0 0, .slice none 0 0, .slice none 0 0, .int .u64 0] 50)) w') := Lib.hid (same_yes [.int .i64 2, .int .u32 (so : Int), .int .u32 (me : Int), .int .u64 0, .int .u32 0, .int .u32 0, .int .u32 0, .slice A 0 a, .slice B 0 b', .slice C 0 c', .slice D 0 d, .slice E 0 e, .int .u64 0] [.int .i64 2, .int .u32 (so : Int), .int .u32 (me : Int), .int .u64 0, .int .u32 0, .int .u32 0, .int .u32 0, .slice none 0 0, .slice none 0 0, .slice none 0 0, .slice none 0 0, .slice none 0 0, .int .u64 0] (mkPL 2 so me) _ (CtRd.below (by exact hCS) (twoBelow _ _ _)) (hD.below (twoBelow _ _ _)) HSH.out.1 HSH.out.2.1 HSH.out.2.2.1 HSH.out.2.2.2.1 HSH.out.2.2.2.2)
  have TWO : Hid (∀ w4, Below ((w.alloc (.cells #[.int .i64 2, .int .u32 (so : Int), .int .u32 (me : Int), .int .u64 0, .int .u32 0, .int .u32 0, .int .u32 0, .slice A 0 a, .slice B 0 b', .slice C 0 c', .slice D 0 d, .slice E 0 e, .int .u64 0] 50)).alloc (.cells #[.int .i64 2, .int .u32 (so : Int), .int .u32 (me : Int), .int .u64 0, .int .u32 0, .int .u32 0, .int .u32 0, .slice none 0 0, .slice none 0 0, .slice none 0 0, .slice none 0 0, .slice none 0 0, .int .u64 0] 50)).heap.size ((w.alloc (.cells #[.int .i64 2, .int .u32 (so : Int), .int .u32 (me : Int), .int .u64 0, .int .u32 0, .int .u32 0, .int .u32 0, .slice A 0 a, .slice B 0 b', .slice C 0 c', .slice D 0 d, .slice E 0 e, .int .u64 0] 50)).alloc (.cells #[.int .i64 2, .int .u32 (so : Int), .int .u32 (me : Int), .int .u64 0, .int .u32 0, .int .u32 0, .int .u32 0, .slice none 0 0, .slice none 0 0, .slice none 0 0, .slice none 0 0, .slice none 0 0, .int .u64 0] 50)) w4 → Below w.heap.size w w4 ∧ BlkV w4 w.heap.size 50 [.int .i64 2, .int .u32 (so : Int), .int .u32 (me : Int), .int .u64 0, .int .u32 0, .int .u32 0, .int .u32 0, .slice A 0 a, .slice B 0 b', .slice C 0 c', .slice D 0 d, .slice E 0 e, .int .u64 0]) := Lib.hid (fun w4 hb => ⟨(twoBelow w _ _).trans (hb.mono (twoBelow w _ _).size), (oneB2 w [.int .i64 2, .int .u32 (so : Int), .int .u32 (me : Int), .int .u64 0, .int .u32 0, .int .u32 0, .int .u32 0, .slice A 0 a, .slice B 0 b', .slice C 0 c', .slice D 0 d, .slice E 0 e, .int .u64 0] 50 _).below hb (oneB2 w [.int .i64 2, .int .u32 (so : Int), .int .u32 (me : Int), .int .u64 0, .int .u32 0, .int .u32 0, .int .u32 0, .slice A 0 a, .slice B 0 b', .slice C 0 c', .slice D 0 d, .slice E 0 e, .int .u64 0] 50 _).lt⟩)
  clear hCS hD r7 r8 r9 r10 r11 HSH
  go_enter Tryd.func20, Tryd.ntmps20
  go_wp2_with (go_at_call 26; ((with_reducible refine (Hid.out SM).mono ?_); rintro r w4 ⟨rfl, hb⟩; have B4 := Lib.hid (TWO.out w4 hb).1; have V4 := Lib.hid (TWO.out w4 hb).2; clear hb))
  go_loopw [8] (fun i wr => i = .int .i64 0 ∧ Hid (Below w4.heap.size w4 wr)) (fun i _ => 0)
  case atStart => exact ⟨rfl, Lib.hid (Below.refl _ _)⟩
  case round =>
    obtain ⟨rfl, HB⟩ := hrel
    have V5 := Lib.hid (V4.out.below HB.out V4.out.lt)
    have B5 := Lib.hid (B4.out.trans (HB.out.mono B4.out.size))
    have y8 : wr.cell? ⟨w.heap.size, 8, none⟩ = some (.slice B 0 b') := (V5.out.cell 8).trans rfl
    have y7 : wr.cell? ⟨w.heap.size, 7, none⟩ = some (.slice A 0 a) := (V5.out.cell 7).trans rfl
    go_wp2
    go_loopw [9] (fun i wx => i = .int .i64 0 ∧ Hid (Below wr.heap.size wr wx)) (fun i _ => 0)
    case atStart => exact ⟨rfl, Lib.hid (Below.refl _ _)⟩
    case round =>
      clear y7 y8
      obtain ⟨rfl, HB9⟩ := hrel
      have V6 := Lib.hid (V5.out.below HB9.out V5.out.lt)
      have B6 := Lib.hid (B5.out.trans (HB9.out.mono B5.out.size))
      have y7 : wr.cell? ⟨w.heap.size, 7, none⟩ = some (.slice A 0 a) := (V6.out.cell 7).trans rfl
      go_wp2
      go_ret
      exact ⟨rfl, B6.out⟩
set_option maxRecDepth 100000 in
set_option maxHeartbeats 2000000 in
theorem may_3_yes (cs : List Value) (so : Nat) (L : List (Nat × Nat)) (n : Nat) (w : World) (h : CtRd w cs (mkFI 3 so L)) (l0 : L.length = n) (hn : n ≤ 16) (hn1 : 1 ≤ n) :
    Calls Tryd.prog 20 #[.agg cs.toArray] w fun r w' => r = .returned (.bool true) ∧ Below w.heap.size w w' := by
  have hCS := h
  obtain ⟨A, a, B, b', C, c', D, d, E, e, h0, r7, r8, r9, r10, r11⟩ := h
  subst h0
  unfold ctlC at hCS ⊢
  simp only [mkFI, List.length_nil, l0] at hCS r7 r8 r9 r10 r11 ⊢
  change Calls Tryd.prog 20 #[.agg #[.int .i64 3, .int .u32 (so : Int), .int .u32 0, .int .u64 0, .int .u32 0, .int .u32 0, .int .u32 0, .slice A 0 a, .slice B 0 b', .slice C 0 c', .slice D 0 d, .slice E n e, .int .u64 0]] w _
  replace hCS : CtRd w [.int .i64 3, .int .u32 (so : Int), .int .u32 0, .int .u64 0, .int .u32 0, .int .u32 0, .int .u32 0, .slice A 0 a, .slice B 0 b', .slice C 0 c', .slice D 0 d, .slice E n e, .int .u64 0] (mkFI 3 so L) := hCS
  have hD : CtRd w [.int .i64 3, .int .u32 (so : Int), .int .u32 0, .int .u64 0, .int .u32 0, .int .u32 0, .int .u32 0, .slice none 0 0, .slice none 0 0, .slice none 0 0, .slice none 0 0, .slice E n e, .int .u64 0] (mkFI 3 so L) := ⟨none, 0, none, 0, none, 0, none, 0, E, e, by (simp only [ctlC, mkFI, List.length_nil, l0]; rfl), nilG _ _, nilG _ _, nilG _ _, nilG _ _, r11⟩
  have HSH : Hid (smallL (mkFI 3 so L)) := Lib.hid (by simp [smallL, mkFI]; omega)
  have SM : Hid (Calls Tryd.prog 26 #[.agg #[.int .i64 3, .int .u32 (so : Int), .int .u32 0, .int .u64 0, .int .u32 0, .int .u32 0, .int .u32 0, .slice A 0 a, .slice B 0 b', .slice C 0 c', .slice D 0 d, .slice E n e, .int .u64 0], .agg #[.int .i64 3, .int .u32 (so : Int), .int .u32 0, .int .u64 0, .int .u32 0, .int .u32 0, .int .u32 0, .slice none 0 0, .slice none 0 0, .slice none 0 0, .slice none 0 0, .slice E n e, .int .u64 0]] ((w.alloc (.cells #[.int .i64 3, .int .u32 (so : Int), .int .u32 0, .int .u64 0, .int .u32 0, .int .u32 0, .int .u32 0, .slice A 0 a, .slice B 0 b', .slice C 0 c', .slice D 0 d, .slice E n e, .int .u64 0] 50)).alloc (.cells #[.int .i64 3, .int .u32 (so : Int), .int .u32 0, .int .u64 0, .int .u32 0, .int .u32 0, .int .u32 0, .slice none 0 0, .slice none 0 0, .slice none 0 0, .slice none 0 0, .slice E n e, .int .u64 0] 50)) fun r w' => r = .returned (.bool true) ∧ Below ((w.alloc (.cells #[.int .i64 3, .int .u32 (so : Int), .int .u32 0, .int .u64 0, .int .u32 0, .int .u32 0, .int .u32 0, .slice A 0 a, .slice B 0 b', .slice C 0 c', .slice D 0 d, .slice E n e, .int .u64 0] 50)).alloc (.cells #[.int .i64 3, .int .u32 (so : Int), .int .u32 0, .int .u64 0, .int .u32 0, .int .u32 0, .int .u32 0, .slice none 0 0, .slice none 0 0, .slice none 0 0, .slice none 0 0, .slice E n e, .int .u64 0] 50)).heap.size ((w.alloc (.cells #[.int .i64 3, .int .u32 (so : Int), .int .u32 0, .int .u64 0, .int .u32 0, .int .u32 0, .int .u32 0, .slice A 0 a, .slice B 0 b', .slice C 0 c', .slice D 0 d, .slice E n e, .int .u64 0] 50)).alloc (.cells #[.int .i64 3, .int .u32 (so : Int), .int .u32 0, .int .u64 0, .int .u32 0, .int .u32 0, .int .u32 0, .slice none 0 0, .slice none 0 0, .slice none 0 0, .slice none 0 0, .slice E n e, .int .u64 0] 50)) w') := Lib.hid (same_yes [.int .i64 3, .int .u32 (so : Int), .int .u32 0, .int .u64 0, .int .u32 0, .int .u32 0, .int .u32 0, .slice A 0 a, .slice B 0 b', .slice C 0 c', .slice D 0 d, .slice E n e, .int .u64 0] [.int .i64 3, .int .u32 (so : Int), .int .u32 0, .int .u64 0, .int .u32 0, .int .u32 0, .int .u32 0, .slice none 0 0, .slice none 0 0, .slice none 0 0, .slice none 0 0, .slice E n e, .int .u64 0] (mkFI 3 so L) _ (CtRd.below (by exact hCS) (twoBelow _ _ _)) (hD.below (twoBelow _ _ _)) HSH.out.1 HSH.out.2.1 HSH.out.2.2.1 HSH.out.2.2.2.1 HSH.out.2.2.2.2)
  have TWO : Hid (∀ w4, Below ((w.alloc (.cells #[.int .i64 3, .int .u32 (so : Int), .int .u32 0, .int .u64 0, .int .u32 0, .int .u32 0, .int .u32 0, .slice A 0 a, .slice B 0 b', .slice C 0 c', .slice D 0 d, .slice E n e, .int .u64 0] 50)).alloc (.cells #[.int .i64 3, .int .u32 (so : Int), .int .u32 0, .int .u64 0, .int .u32 0, .int .u32 0, .int .u32 0, .slice none 0 0, .slice none 0 0, .slice none 0 0, .slice none 0 0, .slice E n e, .int .u64 0] 50)).heap.size ((w.alloc (.cells #[.int .i64 3, .int .u32 (so : Int), .int .u32 0, .int .u64 0, .int .u32 0, .int .u32 0, .int .u32 0, .slice A 0 a, .slice B 0 b', .slice C 0 c', .slice D 0 d, .slice E n e, .int .u64 0] 50)).alloc (.cells #[.int .i64 3, .int .u32 (so : Int), .int .u32 0, .int .u64 0, .int .u32 0, .int .u32 0, .int .u32 0, .slice none 0 0, .slice none 0 0, .slice none 0 0, .slice none 0 0, .slice E n e, .int .u64 0] 50)) w4 → Below w.heap.size w w4 ∧ BlkV w4 w.heap.size 50 [.int .i64 3, .int .u32 (so : Int), .int .u32 0, .int .u64 0, .int .u32 0, .int .u32 0, .int .u32 0, .slice A 0 a, .slice B 0 b', .slice C 0 c', .slice D 0 d, .slice E n e, .int .u64 0]) := Lib.hid (fun w4 hb => ⟨(twoBelow w _ _).trans (hb.mono (twoBelow w _ _).size), (oneB2 w [.int .i64 3, .int .u32 (so : Int), .int .u32 0, .int .u64 0, .int .u32 0, .int .u32 0, .int .u32 0, .slice A 0 a, .slice B 0 b', .slice C 0 c', .slice D 0 d, .slice E n e, .int .u64 0] 50 _).below hb (oneB2 w [.int .i64 3, .int .u32 (so : Int), .int .u32 0, .int .u64 0, .int .u32 0, .int .u32 0, .int .u32 0, .slice A 0 a, .slice B 0 b', .slice C 0 c', .slice D 0 d, .slice E n e, .int .u64 0] 50 _).lt⟩)
  have RL := Lib.hid r11
  have HN := Lib.hid l0
  have hn0 : ¬ (n : Int) = 0 := by omega
  clear hCS hD r7 r8 r9 r10 r11 HSH l0
  go_enter Tryd.func20, Tryd.ntmps20
  go_wp2_with (go_at_call 26; ((with_reducible refine (Hid.out SM).mono ?_); rintro r w4 ⟨rfl, hb⟩; have B4 := Lib.hid (TWO.out w4 hb).1; have V4 := Lib.hid (TWO.out w4 hb).2; clear hb))
  go_loopw [8] (fun i wr => i = .int .i64 0 ∧ Hid (Below w4.heap.size w4 wr)) (fun i _ => 0)
  case atStart => exact ⟨rfl, Lib.hid (Below.refl _ _)⟩
  case round =>
    obtain ⟨rfl, HB⟩ := hrel
    have V5 := Lib.hid (V4.out.below HB.out V4.out.lt)
    have B5 := Lib.hid (B4.out.trans (HB.out.mono B4.out.size))
    have y8 : wr.cell? ⟨w.heap.size, 8, none⟩ = some (.slice B 0 b') := (V5.out.cell 8).trans rfl
    have y7 : wr.cell? ⟨w.heap.size, 7, none⟩ = some (.slice A 0 a) := (V5.out.cell 7).trans rfl
    go_wp2
    go_loopw [9] (fun i wx => i = .int .i64 0 ∧ Hid (Below wr.heap.size wr wx)) (fun i _ => 0)
    case atStart => exact ⟨rfl, Lib.hid (Below.refl _ _)⟩
    case round =>
      clear y7 y8
      obtain ⟨rfl, HB9⟩ := hrel
      have V6 := Lib.hid (V5.out.below HB9.out V5.out.lt)
      have B6 := Lib.hid (B5.out.trans (HB9.out.mono B5.out.size))
      have y7 : wr.cell? ⟨w.heap.size, 7, none⟩ = some (.slice A 0 a) := (V6.out.cell 7).trans rfl
      go_wp2
      go_ret
      exact ⟨rfl, B6.out⟩
end Go.Proofs.YtacaempcbdekaaaDoor
