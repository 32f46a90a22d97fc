/- What the document's answer for layer 11 tells of which packets may be: SR, RR, SDES, BYE where they may. No statement is proved here. -/
import Derived.Test.YtacaempcbdekaaaDoorZRtcpM1
namespace Go.Proofs.YtacaempcbdekaaaDoor
open Go.RowKit
set_option linter.unusedVariables false

set_option maxRecDepth 100000 in
set_option maxHeartbeats 2000000 in
theorem may_200_yes (cs : List Value) (so ti st pa oc : Nat) (L : List Rep) (n : Nat) (w : World) (h : CtRd w cs (mkSR 200 so ti st pa oc L)) (l0 : L.length = n) (hn : n ≤ 16) (bb : Bool) (hbb : bb = true ↔ ∀ x ∈ L, x.ok) :
    Calls Tryd.prog 20 #[.agg cs.toArray] w fun r w' => r = .returned (.bool bb) ∧ Below w.heap.size w w' := by
  have hCS := h
  obtain ⟨A, a, B, b', C, c', D, d, E, e, h0, r7, r8, r9, r10, r11⟩ := h
  subst h0
  unfold ctlC at hCS ⊢
  simp only [mkSR, List.length_nil, l0] at hCS r7 r8 r9 r10 r11 ⊢
  change Calls Tryd.prog 20 #[.agg #[.int .i64 200, .int .u32 (so : Int), .int .u32 0, .int .u64 (ti : Int), .int .u32 (st : Int), .int .u32 (pa : Int), .int .u32 (oc : Int), .slice A n a, .slice B 0 b', .slice C 0 c', .slice D 0 d, .slice E 0 e, .int .u64 0]] w _
  replace hCS : CtRd w [.int .i64 200, .int .u32 (so : Int), .int .u32 0, .int .u64 (ti : Int), .int .u32 (st : Int), .int .u32 (pa : Int), .int .u32 (oc : Int), .slice A n a, .slice B 0 b', .slice C 0 c', .slice D 0 d, .slice E 0 e, .int .u64 0] (mkSR 200 so ti st pa oc L) := hCS
  have hD : CtRd w [.int .i64 200, .int .u32 (so : Int), .int .u32 0, .int .u64 (ti : Int), .int .u32 (st : Int), .int .u32 (pa : Int), .int .u32 (oc : Int), .slice A n a, .slice none 0 0, .slice none 0 0, .slice none 0 0, .slice none 0 0, .int .u64 0] (mkSR 200 so ti st pa oc L) := ⟨A, a, none, 0, none, 0, none, 0, none, 0, by (simp only [ctlC, mkSR, List.length_nil, l0]; rfl), r7, nilG _ _, nilG _ _, nilG _ _, nilG _ _⟩
  have HSH : Hid (smallL (mkSR 200 so ti st pa oc L)) := Lib.hid (by simp [smallL, mkSR]; omega)
  have SM : Hid (Calls Tryd.prog 26 #[.agg #[.int .i64 200, .int .u32 (so : Int), .int .u32 0, .int .u64 (ti : Int), .int .u32 (st : Int), .int .u32 (pa : Int), .int .u32 (oc : Int), .slice A n a, .slice B 0 b', .slice C 0 c', .slice D 0 d, .slice E 0 e, .int .u64 0], .agg #[.int .i64 200, .int .u32 (so : Int), .int .u32 0, .int .u64 (ti : Int), .int .u32 (st : Int), .int .u32 (pa : Int), .int .u32 (oc : Int), .slice A n a, .slice none 0 0, .slice none 0 0, .slice none 0 0, .slice none 0 0, .int .u64 0]] ((w.alloc (.cells #[.int .i64 200, .int .u32 (so : Int), .int .u32 0, .int .u64 (ti : Int), .int .u32 (st : Int), .int .u32 (pa : Int), .int .u32 (oc : Int), .slice A n a, .slice B 0 b', .slice C 0 c', .slice D 0 d, .slice E 0 e, .int .u64 0] 50)).alloc (.cells #[.int .i64 200, .int .u32 (so : Int), .int .u32 0, .int .u64 (ti : Int), .int .u32 (st : Int), .int .u32 (pa : Int), .int .u32 (oc : Int), .slice A n a, .slice none 0 0, .slice none 0 0, .slice none 0 0, .slice none 0 0, .int .u64 0] 50)) fun r w' => r = .returned (.bool true) ∧ Below ((w.alloc (.cells #[.int .i64 200, .int .u32 (so : Int), .int .u32 0, .int .u64 (ti : Int), .int .u32 (st : Int), .int .u32 (pa : Int), .int .u32 (oc : Int), .slice A n a, .slice B 0 b', .slice C 0 c', .slice D 0 d, .slice E 0 e, .int .u64 0] 50)).alloc (.cells #[.int .i64 200, .int .u32 (so : Int), .int .u32 0, .int .u64 (ti : Int), .int .u32 (st : Int), .int .u32 (pa : Int), .int .u32 (oc : Int), .slice A n a, .slice none 0 0, .slice none 0 0, .slice none 0 0, .slice none 0 0, .int .u64 0] 50)).heap.size ((w.alloc (.cells #[.int .i64 200, .int .u32 (so : Int), .int .u32 0, .int .u64 (ti : Int), .int .u32 (st : Int), .int .u32 (pa : Int), .int .u32 (oc : Int), .slice A n a, .slice B 0 b', .slice C 0 c', .slice D 0 d, .slice E 0 e, .int .u64 0] 50)).alloc (.cells #[.int .i64 200, .int .u32 (so : Int), .int .u32 0, .int .u64 (ti : Int), .int .u32 (st : Int), .int .u32 (pa : Int), .int .u32 (oc : Int), .slice A n a, .slice none 0 0, .slice none 0 0, .slice none 0 0, .slice none 0 0, .int .u64 0] 50)) w') := Lib.hid (same_yes [.int .i64 200, .int .u32 (so : Int), .int .u32 0, .int .u64 (ti : Int), .int .u32 (st : Int), .int .u32 (pa : Int), .int .u32 (oc : Int), .slice A n a, .slice B 0 b', .slice C 0 c', .slice D 0 d, .slice E 0 e, .int .u64 0] [.int .i64 200, .int .u32 (so : Int), .int .u32 0, .int .u64 (ti : Int), .int .u32 (st : Int), .int .u32 (pa : Int), .int .u32 (oc : Int), .slice A n a, .slice none 0 0, .slice none 0 0, .slice none 0 0, .slice none 0 0, .int .u64 0] (mkSR 200 so ti st pa oc L) _ (CtRd.below (by exact hCS) (twoBelow _ _ _)) (hD.below (twoBelow _ _ _)) HSH.out.1 HSH.out.2.1 HSH.out.2.2.1 HSH.out.2.2.2.1 HSH.out.2.2.2.2)
  have TWO : Hid (∀ w4, Below ((w.alloc (.cells #[.int .i64 200, .int .u32 (so : Int), .int .u32 0, .int .u64 (ti : Int), .int .u32 (st : Int), .int .u32 (pa : Int), .int .u32 (oc : Int), .slice A n a, .slice B 0 b', .slice C 0 c', .slice D 0 d, .slice E 0 e, .int .u64 0] 50)).alloc (.cells #[.int .i64 200, .int .u32 (so : Int), .int .u32 0, .int .u64 (ti : Int), .int .u32 (st : Int), .int .u32 (pa : Int), .int .u32 (oc : Int), .slice A n a, .slice none 0 0, .slice none 0 0, .slice none 0 0, .slice none 0 0, .int .u64 0] 50)).heap.size ((w.alloc (.cells #[.int .i64 200, .int .u32 (so : Int), .int .u32 0, .int .u64 (ti : Int), .int .u32 (st : Int), .int .u32 (pa : Int), .int .u32 (oc : Int), .slice A n a, .slice B 0 b', .slice C 0 c', .slice D 0 d, .slice E 0 e, .int .u64 0] 50)).alloc (.cells #[.int .i64 200, .int .u32 (so : Int), .int .u32 0, .int .u64 (ti : Int), .int .u32 (st : Int), .int .u32 (pa : Int), .int .u32 (oc : Int), .slice A n a, .slice none 0 0, .slice none 0 0, .slice none 0 0, .slice none 0 0, .int .u64 0] 50)) w4 → Below w.heap.size w w4 ∧ BlkV w4 w.heap.size 50 [.int .i64 200, .int .u32 (so : Int), .int .u32 0, .int .u64 (ti : Int), .int .u32 (st : Int), .int .u32 (pa : Int), .int .u32 (oc : Int), .slice A n a, .slice B 0 b', .slice C 0 c', .slice D 0 d, .slice E 0 e, .int .u64 0]) := Lib.hid (fun w4 hb => ⟨(twoBelow w _ _).trans (hb.mono (twoBelow w _ _).size), (oneB2 w [.int .i64 200, .int .u32 (so : Int), .int .u32 0, .int .u64 (ti : Int), .int .u32 (st : Int), .int .u32 (pa : Int), .int .u32 (oc : Int), .slice A n a, .slice B 0 b', .slice C 0 c', .slice D 0 d, .slice E 0 e, .int .u64 0] 50 _).below hb (oneB2 w [.int .i64 200, .int .u32 (so : Int), .int .u32 0, .int .u64 (ti : Int), .int .u32 (st : Int), .int .u32 (pa : Int), .int .u32 (oc : Int), .slice A n a, .slice B 0 b', .slice C 0 c', .slice D 0 d, .slice E 0 e, .int .u64 0] 50 _).lt⟩)
  have RL := Lib.hid r7
  have HN := Lib.hid l0
  have HBB := Lib.hid hbb
  clear hbb
  clear hCS hD r7 r8 r9 r10 r11 HSH l0
  go_enter Tryd.func20, Tryd.ntmps20
  go_wp2_with (go_at_call 26; ((with_reducible refine (Hid.out SM).mono ?_); rintro r w4 ⟨rfl, hb⟩; have B4 := Lib.hid (TWO.out w4 hb).1; have V4 := Lib.hid (TWO.out w4 hb).2; clear hb))
  go_loopw [8] (fun i wr => i = .int .i64 0 ∧ Hid (Below w4.heap.size w4 wr)) (fun i _ => 0)
  case atStart => exact ⟨rfl, Lib.hid (Below.refl _ _)⟩
  case round =>
    obtain ⟨rfl, HB⟩ := hrel
    have V5 := Lib.hid (V4.out.below HB.out V4.out.lt)
    have B5 := Lib.hid (B4.out.trans (HB.out.mono B4.out.size))
    have y8 : wr.cell? ⟨w.heap.size, 8, none⟩ = some (.slice B 0 b') := (V5.out.cell 8).trans rfl
    have y7 : wr.cell? ⟨w.heap.size, 7, none⟩ = some (.slice A n a) := (V5.out.cell 7).trans rfl
    go_wp2
    go_loopw [9] (fun i wx => ∃ k : Nat, k ≤ n ∧ i = .int .i64 k ∧ Hid (Below wr.heap.size wr wx) ∧ Hid (∀ x ∈ L.take k, x.ok)) (fun i _ => n - (intOf i).toNat)
    case atStart => exact ⟨0, by omega, rfl, Lib.hid (Below.refl _ _), Lib.hid (by simp)⟩
    case round =>
      clear y7 y8
      clear HB
      obtain ⟨k, hk, rfl, HB, HP⟩ := hrel
      have V6 := Lib.hid (V5.out.below HB.out V5.out.lt)
      have B6 := Lib.hid (B5.out.trans (HB.out.mono B5.out.size))
      have y7 : wr.cell? ⟨w.heap.size, 7, none⟩ = some (.slice A n a) := (V6.out.cell 7).trans rfl
      by_cases hkn : k < n
      · have hkl : k < L.length := by rw [HN.out]; exact hkn
        obtain ⟨bb2, ob, rfl, ga⟩ := RL.out.at_ hkl
        have G := ga wr B6.out
        have HX : Hid (L[k] ∈ L) := Lib.hid (List.getElem_mem hkl)
        have HS : Hid (L[k].ok → ∀ x ∈ L.take (k + 1), x.ok) := Lib.hid (fun hp x hx => by rw [List.take_add_one, List.getElem?_eq_getElem hkl] at hx; rcases List.mem_append.1 hx with hx | hx; exact HP.out x hx; simp at hx; subst hx; exact hp)
        obtain ⟨x, hx⟩ : ∃ x, x = L[k] := ⟨_, rfl⟩
        rw [← hx] at G HX HS
        have t1 : wr.cell? ⟨bb2, ob + k * 7 + 2, none⟩ = some (.int .i32 x.lo) := by have := G 2 _ rfl; simpa using this
        clear hx ga G
        obtain ⟨lo, hlo⟩ : ∃ lo, lo = x.lo := ⟨_, rfl⟩
        rw [← hlo] at t1
        by_cases c1 : lo < -8388608
        · obtain rfl := bool_no HBB.out (fun h => by have := (h x HX.out).1; omega)
          clear hlo HP
          go_wp2
          go_ret
          exact ⟨rfl, B6.out⟩
        · by_cases c2 : 8388607 < lo
          · obtain rfl := bool_no HBB.out (fun h => by have := (h x HX.out).2; omega)
            clear hlo HP
            go_wp2
            go_ret
            exact ⟨rfl, B6.out⟩
          · have HP2 := Lib.hid (HS.out ⟨by omega, by omega⟩)
            clear hlo HP HS
            go_wp2
            go_roundw
            case rel => exact ⟨k + 1, by omega, by go_num, HB, HP2⟩
            case measure => simp [intOf]; omega
      · obtain rfl : k = n := by omega
        obtain rfl := bool_yes HBB.out (by have h := HP.out; rw [← HN.out, List.take_length] at h; exact h)
        clear HP hk hkn
        go_wp2
        go_ret
        exact ⟨rfl, B6.out⟩
set_option maxRecDepth 100000 in
set_option maxHeartbeats 2000000 in
theorem may_201_yes (cs : List Value) (so : Nat) (L : List Rep) (n : Nat) (w : World) (h : CtRd w cs (mkRR 201 so L)) (l0 : L.length = n) (hn : n ≤ 16) (bb : Bool) (hbb : bb = true ↔ ∀ x ∈ L, x.ok) :
    Calls Tryd.prog 20 #[.agg cs.toArray] w fun r w' => r = .returned (.bool bb) ∧ Below w.heap.size w w' := by
  have hCS := h
  obtain ⟨A, a, B, b', C, c', D, d, E, e, h0, r7, r8, r9, r10, r11⟩ := h
  subst h0
  unfold ctlC at hCS ⊢
  simp only [mkRR, List.length_nil, l0] at hCS r7 r8 r9 r10 r11 ⊢
  change Calls Tryd.prog 20 #[.agg #[.int .i64 201, .int .u32 (so : Int), .int .u32 0, .int .u64 0, .int .u32 0, .int .u32 0, .int .u32 0, .slice A n a, .slice B 0 b', .slice C 0 c', .slice D 0 d, .slice E 0 e, .int .u64 0]] w _
  replace hCS : CtRd w [.int .i64 201, .int .u32 (so : Int), .int .u32 0, .int .u64 0, .int .u32 0, .int .u32 0, .int .u32 0, .slice A n a, .slice B 0 b', .slice C 0 c', .slice D 0 d, .slice E 0 e, .int .u64 0] (mkRR 201 so L) := hCS
  have hD : CtRd w [.int .i64 201, .int .u32 (so : Int), .int .u32 0, .int .u64 0, .int .u32 0, .int .u32 0, .int .u32 0, .slice A n a, .slice none 0 0, .slice none 0 0, .slice none 0 0, .slice none 0 0, .int .u64 0] (mkRR 201 so L) := ⟨A, a, none, 0, none, 0, none, 0, none, 0, by (simp only [ctlC, mkRR, List.length_nil, l0]; rfl), r7, nilG _ _, nilG _ _, nilG _ _, nilG _ _⟩
  have HSH : Hid (smallL (mkRR 201 so L)) := Lib.hid (by simp [smallL, mkRR]; omega)
  have SM : Hid (Calls Tryd.prog 26 #[.agg #[.int .i64 201, .int .u32 (so : Int), .int .u32 0, .int .u64 0, .int .u32 0, .int .u32 0, .int .u32 0, .slice A n a, .slice B 0 b', .slice C 0 c', .slice D 0 d, .slice E 0 e, .int .u64 0], .agg #[.int .i64 201, .int .u32 (so : Int), .int .u32 0, .int .u64 0, .int .u32 0, .int .u32 0, .int .u32 0, .slice A n a, .slice none 0 0, .slice none 0 0, .slice none 0 0, .slice none 0 0, .int .u64 0]] ((w.alloc (.cells #[.int .i64 201, .int .u32 (so : Int), .int .u32 0, .int .u64 0, .int .u32 0, .int .u32 0, .int .u32 0, .slice A n a, .slice B 0 b', .slice C 0 c', .slice D 0 d, .slice E 0 e, .int .u64 0] 50)).alloc (.cells #[.int .i64 201, .int .u32 (so : Int), .int .u32 0, .int .u64 0, .int .u32 0, .int .u32 0, .int .u32 0, .slice A n a, .slice none 0 0, .slice none 0 0, .slice none 0 0, .slice none 0 0, .int .u64 0] 50)) fun r w' => r = .returned (.bool true) ∧ Below ((w.alloc (.cells #[.int .i64 201, .int .u32 (so : Int), .int .u32 0, .int .u64 0, .int .u32 0, .int .u32 0, .int .u32 0, .slice A n a, .slice B 0 b', .slice C 0 c', .slice D 0 d, .slice E 0 e, .int .u64 0] 50)).alloc (.cells #[.int .i64 201, .int .u32 (so : Int), .int .u32 0, .int .u64 0, .int .u32 0, .int .u32 0, .int .u32 0, .slice A n a, .slice none 0 0, .slice none 0 0, .slice none 0 0, .slice none 0 0, .int .u64 0] 50)).heap.size ((w.alloc (.cells #[.int .i64 201, .int .u32 (so : Int), .int .u32 0, .int .u64 0, .int .u32 0, .int .u32 0, .int .u32 0, .slice A n a, .slice B 0 b', .slice C 0 c', .slice D 0 d, .slice E 0 e, .int .u64 0] 50)).alloc (.cells #[.int .i64 201, .int .u32 (so : Int), .int .u32 0, .int .u64 0, .int .u32 0, .int .u32 0, .int .u32 0, .slice A n a, .slice none 0 0, .slice none 0 0, .slice none 0 0, .slice none 0 0, .int .u64 0] 50)) w') := Lib.hid (same_yes [.int .i64 201, .int .u32 (so : Int), .int .u32 0, .int .u64 0, .int .u32 0, .int .u32 0, .int .u32 0, .slice A n a, .slice B 0 b', .slice C 0 c', .slice D 0 d, .slice E 0 e, .int .u64 0] [.int .i64 201, .int .u32 (so : Int), .int .u32 0, .int .u64 0, .int .u32 0, .int .u32 0, .int .u32 0, .slice A n a, .slice none 0 0, .slice none 0 0, .slice none 0 0, .slice none 0 0, .int .u64 0] (mkRR 201 so L) _ (CtRd.below (by exact hCS) (twoBelow _ _ _)) (hD.below (twoBelow _ _ _)) HSH.out.1 HSH.out.2.1 HSH.out.2.2.1 HSH.out.2.2.2.1 HSH.out.2.2.2.2)
  have TWO : Hid (∀ w4, Below ((w.alloc (.cells #[.int .i64 201, .int .u32 (so : Int), .int .u32 0, .int .u64 0, .int .u32 0, .int .u32 0, .int .u32 0, .slice A n a, .slice B 0 b', .slice C 0 c', .slice D 0 d, .slice E 0 e, .int .u64 0] 50)).alloc (.cells #[.int .i64 201, .int .u32 (so : Int), .int .u32 0, .int .u64 0, .int .u32 0, .int .u32 0, .int .u32 0, .slice A n a, .slice none 0 0, .slice none 0 0, .slice none 0 0, .slice none 0 0, .int .u64 0] 50)).heap.size ((w.alloc (.cells #[.int .i64 201, .int .u32 (so : Int), .int .u32 0, .int .u64 0, .int .u32 0, .int .u32 0, .int .u32 0, .slice A n a, .slice B 0 b', .slice C 0 c', .slice D 0 d, .slice E 0 e, .int .u64 0] 50)).alloc (.cells #[.int .i64 201, .int .u32 (so : Int), .int .u32 0, .int .u64 0, .int .u32 0, .int .u32 0, .int .u32 0, .slice A n a, .slice none 0 0, .slice none 0 0, .slice none 0 0, .slice none 0 0, .int .u64 0] 50)) w4 → Below w.heap.size w w4 ∧ BlkV w4 w.heap.size 50 [.int .i64 201, .int .u32 (so : Int), .int .u32 0, .int .u64 0, .int .u32 0, .int .u32 0, .int .u32 0, .slice A n a, .slice B 0 b', .slice C 0 c', .slice D 0 d, .slice E 0 e, .int .u64 0]) := Lib.hid (fun w4 hb => ⟨(twoBelow w _ _).trans (hb.mono (twoBelow w _ _).size), (oneB2 w [.int .i64 201, .int .u32 (so : Int), .int .u32 0, .int .u64 0, .int .u32 0, .int .u32 0, .int .u32 0, .slice A n a, .slice B 0 b', .slice C 0 c', .slice D 0 d, .slice E 0 e, .int .u64 0] 50 _).below hb (oneB2 w [.int .i64 201, .int .u32 (so : Int), .int .u32 0, .int .u64 0, .int .u32 0, .int .u32 0, .int .u32 0, .slice A n a, .slice B 0 b', .slice C 0 c', .slice D 0 d, .slice E 0 e, .int .u64 0] 50 _).lt⟩)
  have RL := Lib.hid r7
  have HN := Lib.hid l0
  have HBB := Lib.hid hbb
  clear hbb
  clear hCS hD r7 r8 r9 r10 r11 HSH l0
  go_enter Tryd.func20, Tryd.ntmps20
  go_wp2_with (go_at_call 26; ((with_reducible refine (Hid.out SM).mono ?_); rintro r w4 ⟨rfl, hb⟩; have B4 := Lib.hid (TWO.out w4 hb).1; have V4 := Lib.hid (TWO.out w4 hb).2; clear hb))
  go_loopw [8] (fun i wr => i = .int .i64 0 ∧ Hid (Below w4.heap.size w4 wr)) (fun i _ => 0)
  case atStart => exact ⟨rfl, Lib.hid (Below.refl _ _)⟩
  case round =>
    obtain ⟨rfl, HB⟩ := hrel
    have V5 := Lib.hid (V4.out.below HB.out V4.out.lt)
    have B5 := Lib.hid (B4.out.trans (HB.out.mono B4.out.size))
    have y8 : wr.cell? ⟨w.heap.size, 8, none⟩ = some (.slice B 0 b') := (V5.out.cell 8).trans rfl
    have y7 : wr.cell? ⟨w.heap.size, 7, none⟩ = some (.slice A n a) := (V5.out.cell 7).trans rfl
    go_wp2
    go_loopw [9] (fun i wx => ∃ k : Nat, k ≤ n ∧ i = .int .i64 k ∧ Hid (Below wr.heap.size wr wx) ∧ Hid (∀ x ∈ L.take k, x.ok)) (fun i _ => n - (intOf i).toNat)
    case atStart => exact ⟨0, by omega, rfl, Lib.hid (Below.refl _ _), Lib.hid (by simp)⟩
    case round =>
      clear y7 y8
      clear HB
      obtain ⟨k, hk, rfl, HB, HP⟩ := hrel
      have V6 := Lib.hid (V5.out.below HB.out V5.out.lt)
      have B6 := Lib.hid (B5.out.trans (HB.out.mono B5.out.size))
      have y7 : wr.cell? ⟨w.heap.size, 7, none⟩ = some (.slice A n a) := (V6.out.cell 7).trans rfl
      by_cases hkn : k < n
      · have hkl : k < L.length := by rw [HN.out]; exact hkn
        obtain ⟨bb2, ob, rfl, ga⟩ := RL.out.at_ hkl
        have G := ga wr B6.out
        have HX : Hid (L[k] ∈ L) := Lib.hid (List.getElem_mem hkl)
        have HS : Hid (L[k].ok → ∀ x ∈ L.take (k + 1), x.ok) := Lib.hid (fun hp x hx => by rw [List.take_add_one, List.getElem?_eq_getElem hkl] at hx; rcases List.mem_append.1 hx with hx | hx; exact HP.out x hx; simp at hx; subst hx; exact hp)
        obtain ⟨x, hx⟩ : ∃ x, x = L[k] := ⟨_, rfl⟩
        rw [← hx] at G HX HS
        have t1 : wr.cell? ⟨bb2, ob + k * 7 + 2, none⟩ = some (.int .i32 x.lo) := by have := G 2 _ rfl; simpa using this
        clear hx ga G
        obtain ⟨lo, hlo⟩ : ∃ lo, lo = x.lo := ⟨_, rfl⟩
        rw [← hlo] at t1
        by_cases c1 : lo < -8388608
        · obtain rfl := bool_no HBB.out (fun h => by have := (h x HX.out).1; omega)
          clear hlo HP
          go_wp2
          go_ret
          exact ⟨rfl, B6.out⟩
        · by_cases c2 : 8388607 < lo
          · obtain rfl := bool_no HBB.out (fun h => by have := (h x HX.out).2; omega)
            clear hlo HP
            go_wp2
            go_ret
            exact ⟨rfl, B6.out⟩
          · have HP2 := Lib.hid (HS.out ⟨by omega, by omega⟩)
            clear hlo HP HS
            go_wp2
            go_roundw
            case rel => exact ⟨k + 1, by omega, by go_num, HB, HP2⟩
            case measure => simp [intOf]; omega
      · obtain rfl : k = n := by omega
        obtain rfl := bool_yes HBB.out (by have h := HP.out; rw [← HN.out, List.take_length] at h; exact h)
        clear HP hk hkn
        go_wp2
        go_ret
        exact ⟨rfl, B6.out⟩
set_option maxRecDepth 100000 in
set_option maxHeartbeats 2000000 in
theorem may_202_yes (cs : List Value) (L : List (Nat × List UInt8)) (n : Nat) (w : World) (h : CtRd w cs (mkSD 202 L)) (l0 : L.length = n) (hn : n ≤ 16) (bb : Bool) (hbb : bb = true ↔ ∀ x ∈ L, nameP (txt x.2)) :
    Calls Tryd.prog 20 #[.agg cs.toArray] w fun r w' => r = .returned (.bool bb) ∧ Below w.heap.size w w' := by
  have hCS := h
  obtain ⟨A, a, B, b', C, c', D, d, E, e, h0, r7, r8, r9, r10, r11⟩ := h
  subst h0
  unfold ctlC at hCS ⊢
  simp only [mkSD, List.length_nil, l0] at hCS r7 r8 r9 r10 r11 ⊢
  change Calls Tryd.prog 20 #[.agg #[.int .i64 202, .int .u32 0, .int .u32 0, .int .u64 0, .int .u32 0, .int .u32 0, .int .u32 0, .slice A 0 a, .slice B n b', .slice C 0 c', .slice D 0 d, .slice E 0 e, .int .u64 0]] w _
  replace hCS : CtRd w [.int .i64 202, .int .u32 0, .int .u32 0, .int .u64 0, .int .u32 0, .int .u32 0, .int .u32 0, .slice A 0 a, .slice B n b', .slice C 0 c', .slice D 0 d, .slice E 0 e, .int .u64 0] (mkSD 202 L) := hCS
  have hD : CtRd w [.int .i64 202, .int .u32 0, .int .u32 0, .int .u64 0, .int .u32 0, .int .u32 0, .int .u32 0, .slice none 0 0, .slice B n b', .slice none 0 0, .slice none 0 0, .slice none 0 0, .int .u64 0] (mkSD 202 L) := ⟨none, 0, B, b', none, 0, none, 0, none, 0, by (simp only [ctlC, mkSD, List.length_nil, l0]; rfl), nilG _ _, r8, nilG _ _, nilG _ _, nilG _ _⟩
  have HSH : Hid (smallL (mkSD 202 L)) := Lib.hid (by simp [smallL, mkSD]; omega)
  have SM : Hid (Calls Tryd.prog 26 #[.agg #[.int .i64 202, .int .u32 0, .int .u32 0, .int .u64 0, .int .u32 0, .int .u32 0, .int .u32 0, .slice A 0 a, .slice B n b', .slice C 0 c', .slice D 0 d, .slice E 0 e, .int .u64 0], .agg #[.int .i64 202, .int .u32 0, .int .u32 0, .int .u64 0, .int .u32 0, .int .u32 0, .int .u32 0, .slice none 0 0, .slice B n b', .slice none 0 0, .slice none 0 0, .slice none 0 0, .int .u64 0]] ((w.alloc (.cells #[.int .i64 202, .int .u32 0, .int .u32 0, .int .u64 0, .int .u32 0, .int .u32 0, .int .u32 0, .slice A 0 a, .slice B n b', .slice C 0 c', .slice D 0 d, .slice E 0 e, .int .u64 0] 50)).alloc (.cells #[.int .i64 202, .int .u32 0, .int .u32 0, .int .u64 0, .int .u32 0, .int .u32 0, .int .u32 0, .slice none 0 0, .slice B n b', .slice none 0 0, .slice none 0 0, .slice none 0 0, .int .u64 0] 50)) fun r w' => r = .returned (.bool true) ∧ Below ((w.alloc (.cells #[.int .i64 202, .int .u32 0, .int .u32 0, .int .u64 0, .int .u32 0, .int .u32 0, .int .u32 0, .slice A 0 a, .slice B n b', .slice C 0 c', .slice D 0 d, .slice E 0 e, .int .u64 0] 50)).alloc (.cells #[.int .i64 202, .int .u32 0, .int .u32 0, .int .u64 0, .int .u32 0, .int .u32 0, .int .u32 0, .slice none 0 0, .slice B n b', .slice none 0 0, .slice none 0 0, .slice none 0 0, .int .u64 0] 50)).heap.size ((w.alloc (.cells #[.int .i64 202, .int .u32 0, .int .u32 0, .int .u64 0, .int .u32 0, .int .u32 0, .int .u32 0, .slice A 0 a, .slice B n b', .slice C 0 c', .slice D 0 d, .slice E 0 e, .int .u64 0] 50)).alloc (.cells #[.int .i64 202, .int .u32 0, .int .u32 0, .int .u64 0, .int .u32 0, .int .u32 0, .int .u32 0, .slice none 0 0, .slice B n b', .slice none 0 0, .slice none 0 0, .slice none 0 0, .int .u64 0] 50)) w') := Lib.hid (same_yes [.int .i64 202, .int .u32 0, .int .u32 0, .int .u64 0, .int .u32 0, .int .u32 0, .int .u32 0, .slice A 0 a, .slice B n b', .slice C 0 c', .slice D 0 d, .slice E 0 e, .int .u64 0] [.int .i64 202, .int .u32 0, .int .u32 0, .int .u64 0, .int .u32 0, .int .u32 0, .int .u32 0, .slice none 0 0, .slice B n b', .slice none 0 0, .slice none 0 0, .slice none 0 0, .int .u64 0] (mkSD 202 L) _ (CtRd.below (by exact hCS) (twoBelow _ _ _)) (hD.below (twoBelow _ _ _)) HSH.out.1 HSH.out.2.1 HSH.out.2.2.1 HSH.out.2.2.2.1 HSH.out.2.2.2.2)
  have TWO : Hid (∀ w4, Below ((w.alloc (.cells #[.int .i64 202, .int .u32 0, .int .u32 0, .int .u64 0, .int .u32 0, .int .u32 0, .int .u32 0, .slice A 0 a, .slice B n b', .slice C 0 c', .slice D 0 d, .slice E 0 e, .int .u64 0] 50)).alloc (.cells #[.int .i64 202, .int .u32 0, .int .u32 0, .int .u64 0, .int .u32 0, .int .u32 0, .int .u32 0, .slice none 0 0, .slice B n b', .slice none 0 0, .slice none 0 0, .slice none 0 0, .int .u64 0] 50)).heap.size ((w.alloc (.cells #[.int .i64 202, .int .u32 0, .int .u32 0, .int .u64 0, .int .u32 0, .int .u32 0, .int .u32 0, .slice A 0 a, .slice B n b', .slice C 0 c', .slice D 0 d, .slice E 0 e, .int .u64 0] 50)).alloc (.cells #[.int .i64 202, .int .u32 0, .int .u32 0, .int .u64 0, .int .u32 0, .int .u32 0, .int .u32 0, .slice none 0 0, .slice B n b', .slice none 0 0, .slice none 0 0, .slice none 0 0, .int .u64 0] 50)) w4 → Below w.heap.size w w4 ∧ BlkV w4 w.heap.size 50 [.int .i64 202, .int .u32 0, .int .u32 0, .int .u64 0, .int .u32 0, .int .u32 0, .int .u32 0, .slice A 0 a, .slice B n b', .slice C 0 c', .slice D 0 d, .slice E 0 e, .int .u64 0]) := Lib.hid (fun w4 hb => ⟨(twoBelow w _ _).trans (hb.mono (twoBelow w _ _).size), (oneB2 w [.int .i64 202, .int .u32 0, .int .u32 0, .int .u64 0, .int .u32 0, .int .u32 0, .int .u32 0, .slice A 0 a, .slice B n b', .slice C 0 c', .slice D 0 d, .slice E 0 e, .int .u64 0] 50 _).below hb (oneB2 w [.int .i64 202, .int .u32 0, .int .u32 0, .int .u64 0, .int .u32 0, .int .u32 0, .int .u32 0, .slice A 0 a, .slice B n b', .slice C 0 c', .slice D 0 d, .slice E 0 e, .int .u64 0] 50 _).lt⟩)
  have RL := Lib.hid r8
  have HN := Lib.hid l0
  have HBB := Lib.hid hbb
  clear hbb
  clear hCS hD r7 r8 r9 r10 r11 HSH l0
  go_enter Tryd.func20, Tryd.ntmps20
  go_wp2_with (go_at_call 26; ((with_reducible refine (Hid.out SM).mono ?_); rintro r w4 ⟨rfl, hb⟩; have B4 := Lib.hid (TWO.out w4 hb).1; have V4 := Lib.hid (TWO.out w4 hb).2; clear hb))
  go_loopw [8] (fun i wr => ∃ k : Nat, k ≤ n ∧ i = .int .i64 k ∧ Hid (Below w4.heap.size w4 wr) ∧ Hid (∀ x ∈ L.take k, nameP (txt x.2))) (fun i _ => n - (intOf i).toNat)
  case atStart => exact ⟨0, by omega, rfl, Lib.hid (Below.refl _ _), Lib.hid (by simp)⟩
  case round =>
    obtain ⟨k, hk, rfl, HB, HP⟩ := hrel
    have V5 := Lib.hid (V4.out.below HB.out V4.out.lt)
    have B5 := Lib.hid (B4.out.trans (HB.out.mono B4.out.size))
    have y8 : wr.cell? ⟨w.heap.size, 8, none⟩ = some (.slice B n b') := (V5.out.cell 8).trans rfl
    have y7 : wr.cell? ⟨w.heap.size, 7, none⟩ = some (.slice A 0 a) := (V5.out.cell 7).trans rfl
    by_cases hkn : k < n
    · have hkl : k < L.length := by rw [HN.out]; exact hkn
      obtain ⟨bb2, ob, rfl, ga⟩ := RL.out.at_ hkl
      have G := ga wr B5.out
      have HX : Hid (L[k] ∈ L) := Lib.hid (List.getElem_mem hkl)
      have HS : nameP (txt L[k].2) → ∀ x ∈ L.take (k + 1), nameP (txt x.2) := fun hp x hx => by rw [List.take_add_one, List.getElem?_eq_getElem hkl] at hx; rcases List.mem_append.1 hx with hx | hx; exact HP.out x hx; simp at hx; subst hx; exact hp
      obtain ⟨x, hx⟩ : ∃ x, x = L[k] := ⟨_, rfl⟩
      rw [← hx] at G HX HS
      have t1 : wr.cell? ⟨bb2, ob + k * 2 + 1, none⟩ = some (.string (txt x.2)) := by have := G 1 _ rfl; simpa using this
      clear hx ga G
      obtain ⟨s, hs⟩ : ∃ s, s = txt x.2 := ⟨_, rfl⟩
      rw [← hs] at t1 HS
      have HSS := Lib.hid HS
      have hss := Lib.hid hs
      clear HS hs
      by_cases hp : nameP s
      · have HNM : Hid (∀ W, Calls Tryd.prog 13 #[.string s] W fun r w' => r = .returned (.bool true) ∧ W = w') := Lib.hid (fun W => (rname_any s W).mono (by rintro r w' ⟨⟨b, rfl, hb⟩, rfl⟩; exact ⟨by rw [hb.2 hp], rfl⟩))
        have HP2 := Lib.hid (HSS.out hp)
        clear hp HP
        go_wp2_with (go_at_call 13; ((with_reducible refine (Hid.out HNM _).mono ?_); rintro r wx ⟨rfl, rfl⟩))
        go_roundw
        case rel => exact ⟨k + 1, by omega, by go_num, HB, HP2⟩
        case measure => simp [intOf]; omega
      · have HNM : Hid (∀ W, Calls Tryd.prog 13 #[.string s] W fun r w' => r = .returned (.bool false) ∧ W = w') := Lib.hid (fun W => (rname_any s W).mono (by rintro r w' ⟨⟨b, rfl, hb⟩, rfl⟩; exact ⟨by rw [bool_no hb hp], rfl⟩))
        obtain rfl := bool_no HBB.out (fun h => hp (by rw [hss.out]; exact h x HX.out))
        clear hp HP
        go_wp2_with (go_at_call 13; ((with_reducible refine (Hid.out HNM _).mono ?_); rintro r wx ⟨rfl, rfl⟩))
        go_ret
        exact ⟨rfl, B5.out⟩
    · obtain rfl : k = n := by omega
      obtain rfl := bool_yes HBB.out (by have h := HP.out; rw [← HN.out, List.take_length] at h; exact h)
      clear HP hk hkn
      go_wp2
      go_loopw [9] (fun i wx => i = .int .i64 0 ∧ Hid (Below wr.heap.size wr wx)) (fun i _ => 0)
      case atStart => exact ⟨rfl, Lib.hid (Below.refl _ _)⟩
      case round =>
        clear y7 y8
        obtain ⟨rfl, HB9⟩ := hrel
        have V6 := Lib.hid (V5.out.below HB9.out V5.out.lt)
        have B6 := Lib.hid (B5.out.trans (HB9.out.mono B5.out.size))
        have y7 : wr.cell? ⟨w.heap.size, 7, none⟩ = some (.slice A 0 a) := (V6.out.cell 7).trans rfl
        go_wp2
        go_ret
        exact ⟨rfl, B6.out⟩
set_option maxRecDepth 100000 in
set_option maxHeartbeats 2000000 in
theorem may_203_yes (cs : List Value) (L : List Nat) (n : Nat) (w : World) (h : CtRd w cs (mkBY 203 L)) (l0 : L.length = n) (hn : n ≤ 16) :
    Calls Tryd.prog 20 #[.agg cs.toArray] w fun r w' => r = .returned (.bool true) ∧ Below w.heap.size w w' := by
  have hCS := h
  obtain ⟨A, a, B, b', C, c', D, d, E, e, h0, r7, r8, r9, r10, r11⟩ := h
  subst h0
  unfold ctlC at hCS ⊢
  simp only [mkBY, List.length_nil, l0] at hCS r7 r8 r9 r10 r11 ⊢
  change Calls Tryd.prog 20 #[.agg #[.int .i64 203, .int .u32 0, .int .u32 0, .int .u64 0, .int .u32 0, .int .u32 0, .int .u32 0, .slice A 0 a, .slice B 0 b', .slice C n c', .slice D 0 d, .slice E 0 e, .int .u64 0]] w _
  replace hCS : CtRd w [.int .i64 203, .int .u32 0, .int .u32 0, .int .u64 0, .int .u32 0, .int .u32 0, .int .u32 0, .slice A 0 a, .slice B 0 b', .slice C n c', .slice D 0 d, .slice E 0 e, .int .u64 0] (mkBY 203 L) := hCS
  have hD : CtRd w [.int .i64 203, .int .u32 0, .int .u32 0, .int .u64 0, .int .u32 0, .int .u32 0, .int .u32 0, .slice none 0 0, .slice none 0 0, .slice C n c', .slice none 0 0, .slice none 0 0, .int .u64 0] (mkBY 203 L) := ⟨none, 0, none, 0, C, c', none, 0, none, 0, by (simp only [ctlC, mkBY, List.length_nil, l0]; rfl), nilG _ _, nilG _ _, r9, nilG _ _, nilG _ _⟩
  have HSH : Hid (smallL (mkBY 203 L)) := Lib.hid (by simp [smallL, mkBY]; omega)
  have SM : Hid (Calls Tryd.prog 26 #[.agg #[.int .i64 203, .int .u32 0, .int .u32 0, .int .u64 0, .int .u32 0, .int .u32 0, .int .u32 0, .slice A 0 a, .slice B 0 b', .slice C n c', .slice D 0 d, .slice E 0 e, .int .u64 0], .agg #[.int .i64 203, .int .u32 0, .int .u32 0, .int .u64 0, .int .u32 0, .int .u32 0, .int .u32 0, .slice none 0 0, .slice none 0 0, .slice C n c', .slice none 0 0, .slice none 0 0, .int .u64 0]] ((w.alloc (.cells #[.int .i64 203, .int .u32 0, .int .u32 0, .int .u64 0, .int .u32 0, .int .u32 0, .int .u32 0, .slice A 0 a, .slice B 0 b', .slice C n c', .slice D 0 d, .slice E 0 e, .int .u64 0] 50)).alloc (.cells #[.int .i64 203, .int .u32 0, .int .u32 0, .int .u64 0, .int .u32 0, .int .u32 0, .int .u32 0, .slice none 0 0, .slice none 0 0, .slice C n c', .slice none 0 0, .slice none 0 0, .int .u64 0] 50)) fun r w' => r = .returned (.bool true) ∧ Below ((w.alloc (.cells #[.int .i64 203, .int .u32 0, .int .u32 0, .int .u64 0, .int .u32 0, .int .u32 0, .int .u32 0, .slice A 0 a, .slice B 0 b', .slice C n c', .slice D 0 d, .slice E 0 e, .int .u64 0] 50)).alloc (.cells #[.int .i64 203, .int .u32 0, .int .u32 0, .int .u64 0, .int .u32 0, .int .u32 0, .int .u32 0, .slice none 0 0, .slice none 0 0, .slice C n c', .slice none 0 0, .slice none 0 0, .int .u64 0] 50)).heap.size ((w.alloc (.cells #[.int .i64 203, .int .u32 0, .int .u32 0, .int .u64 0, .int .u32 0, .int .u32 0, .int .u32 0, .slice A 0 a, .slice B 0 b', .slice C n c', .slice D 0 d, .slice E 0 e, .int .u64 0] 50)).alloc (.cells #[.int .i64 203, .int .u32 0, .int .u32 0, .int .u64 0, .int .u32 0, .int .u32 0, .int .u32 0, .slice none 0 0, .slice none 0 0, .slice C n c', .slice none 0 0, .slice none 0 0, .int .u64 0] 50)) w') := Lib.hid (same_yes [.int .i64 203, .int .u32 0, .int .u32 0, .int .u64 0, .int .u32 0, .int .u32 0, .int .u32 0, .slice A 0 a, .slice B 0 b', .slice C n c', .slice D 0 d, .slice E 0 e, .int .u64 0] [.int .i64 203, .int .u32 0, .int .u32 0, .int .u64 0, .int .u32 0, .int .u32 0, .int .u32 0, .slice none 0 0, .slice none 0 0, .slice C n c', .slice none 0 0, .slice none 0 0, .int .u64 0] (mkBY 203 L) _ (CtRd.below (by exact hCS) (twoBelow _ _ _)) (hD.below (twoBelow _ _ _)) HSH.out.1 HSH.out.2.1 HSH.out.2.2.1 HSH.out.2.2.2.1 HSH.out.2.2.2.2)
  have TWO : Hid (∀ w4, Below ((w.alloc (.cells #[.int .i64 203, .int .u32 0, .int .u32 0, .int .u64 0, .int .u32 0, .int .u32 0, .int .u32 0, .slice A 0 a, .slice B 0 b', .slice C n c', .slice D 0 d, .slice E 0 e, .int .u64 0] 50)).alloc (.cells #[.int .i64 203, .int .u32 0, .int .u32 0, .int .u64 0, .int .u32 0, .int .u32 0, .int .u32 0, .slice none 0 0, .slice none 0 0, .slice C n c', .slice none 0 0, .slice none 0 0, .int .u64 0] 50)).heap.size ((w.alloc (.cells #[.int .i64 203, .int .u32 0, .int .u32 0, .int .u64 0, .int .u32 0, .int .u32 0, .int .u32 0, .slice A 0 a, .slice B 0 b', .slice C n c', .slice D 0 d, .slice E 0 e, .int .u64 0] 50)).alloc (.cells #[.int .i64 203, .int .u32 0, .int .u32 0, .int .u64 0, .int .u32 0, .int .u32 0, .int .u32 0, .slice none 0 0, .slice none 0 0, .slice C n c', .slice none 0 0, .slice none 0 0, .int .u64 0] 50)) w4 → Below w.heap.size w w4 ∧ BlkV w4 w.heap.size 50 [.int .i64 203, .int .u32 0, .int .u32 0, .int .u64 0, .int .u32 0, .int .u32 0, .int .u32 0, .slice A 0 a, .slice B 0 b', .slice C n c', .slice D 0 d, .slice E 0 e, .int .u64 0]) := Lib.hid (fun w4 hb => ⟨(twoBelow w _ _).trans (hb.mono (twoBelow w _ _).size), (oneB2 w [.int .i64 203, .int .u32 0, .int .u32 0, .int .u64 0, .int .u32 0, .int .u32 0, .int .u32 0, .slice A 0 a, .slice B 0 b', .slice C n c', .slice D 0 d, .slice E 0 e, .int .u64 0] 50 _).below hb (oneB2 w [.int .i64 203, .int .u32 0, .int .u32 0, .int .u64 0, .int .u32 0, .int .u32 0, .int .u32 0, .slice A 0 a, .slice B 0 b', .slice C n c', .slice D 0 d, .slice E 0 e, .int .u64 0] 50 _).lt⟩)
  have RL := Lib.hid r9
  have HN := Lib.hid l0
  clear hCS hD r7 r8 r9 r10 r11 HSH l0
  go_enter Tryd.func20, Tryd.ntmps20
  go_wp2_with (go_at_call 26; ((with_reducible refine (Hid.out SM).mono ?_); rintro r w4 ⟨rfl, hb⟩; have B4 := Lib.hid (TWO.out w4 hb).1; have V4 := Lib.hid (TWO.out w4 hb).2; clear hb))
  go_loopw [8] (fun i wr => i = .int .i64 0 ∧ Hid (Below w4.heap.size w4 wr)) (fun i _ => 0)
  case atStart => exact ⟨rfl, Lib.hid (Below.refl _ _)⟩
  case round =>
    obtain ⟨rfl, HB⟩ := hrel
    have V5 := Lib.hid (V4.out.below HB.out V4.out.lt)
    have B5 := Lib.hid (B4.out.trans (HB.out.mono B4.out.size))
    have y8 : wr.cell? ⟨w.heap.size, 8, none⟩ = some (.slice B 0 b') := (V5.out.cell 8).trans rfl
    have y7 : wr.cell? ⟨w.heap.size, 7, none⟩ = some (.slice A 0 a) := (V5.out.cell 7).trans rfl
    go_wp2
    go_loopw [9] (fun i wx => i = .int .i64 0 ∧ Hid (Below wr.heap.size wr wx)) (fun i _ => 0)
    case atStart => exact ⟨rfl, Lib.hid (Below.refl _ _)⟩
    case round =>
      clear y7 y8
      obtain ⟨rfl, HB9⟩ := hrel
      have V6 := Lib.hid (V5.out.below HB9.out V5.out.lt)
      have B6 := Lib.hid (B5.out.trans (HB9.out.mono B5.out.size))
      have y7 : wr.cell? ⟨w.heap.size, 7, none⟩ = some (.slice A 0 a) := (V6.out.cell 7).trans rfl
      go_wp2
      go_ret
      exact ⟨rfl, B6.out⟩
end Go.Proofs.YtacaempcbdekaaaDoor
