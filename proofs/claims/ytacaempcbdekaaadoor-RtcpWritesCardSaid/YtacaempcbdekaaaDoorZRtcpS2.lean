/- What the document's answer for layer 11 tells of two packets that are the same. No statement is proved here. -/
import Derived.Test.YtacaempcbdekaaaDoorZRtcpS1
namespace Go.Proofs.YtacaempcbdekaaaDoor
open Go.RowKit
set_option linter.unusedVariables false

theorem oneB2 (w : World) (cs : List Value) (e : TypeId) (o : Obj) : BlkV ((w.alloc (.cells cs.toArray e)).alloc o) w.heap.size e cs := (BlkV.new w e cs).below ((Below.refl _ _).alloc (Nat.le_refl _) _) (BlkV.new w e cs).lt
set_option maxRecDepth 100000 in
set_option maxHeartbeats 4000000 in
theorem same_raw (x0 : Int) (x1 x2 x3 x4 x5 x6 x12 : Nat) (n7 n8 n9 n10 n11 q7a q7b q8a q8b q9a q9b q10a q10b q11a q11b : Nat) (A7a A7b A8a A8b A9a A9b A10a A10b A11a A11b : Option Addr) (L7 : List Rep) (L8 : List (Nat × List UInt8)) (L9 : List Nat) (L10 L11 : List (Nat × Nat)) (w : World)
    (l7 : L7.length = n7) (l8 : L8.length = n8) (l9 : L9.length = n9) (l10 : L10.length = n10) (l11 : L11.length = n11)
    (m7 : n7 ≤ 1000) (m8 : n8 ≤ 1000) (m9 : n9 ≤ 1000) (m10 : n10 ≤ 1000) (m11 : n11 ≤ 1000)
    (r7a : RdG 7 w A7a (L7.map cRep)) (r7b : RdG 7 w A7b (L7.map cRep)) (r8a : RdG 2 w A8a (L8.map cNam)) (r8b : RdG 2 w A8b (L8.map cNam)) (r9a : RdG 1 w A9a (L9.map cSrc)) (r9b : RdG 1 w A9b (L9.map cSrc)) (r10a : RdG 2 w A10a (L10.map cLos)) (r10b : RdG 2 w A10b (L10.map cLos)) (r11a : RdG 2 w A11a (L11.map cFir)) (r11b : RdG 2 w A11b (L11.map cFir)) :
    Calls Tryd.prog 26 #[.agg #[.int .i64 x0, .int .u32 (x1 : Int), .int .u32 (x2 : Int), .int .u64 (x3 : Int), .int .u32 (x4 : Int), .int .u32 (x5 : Int), .int .u32 (x6 : Int), .slice A7a n7 q7a, .slice A8a n8 q8a, .slice A9a n9 q9a, .slice A10a n10 q10a, .slice A11a n11 q11a, .int .u64 (x12 : Int)], .agg #[.int .i64 x0, .int .u32 (x1 : Int), .int .u32 (x2 : Int), .int .u64 (x3 : Int), .int .u32 (x4 : Int), .int .u32 (x5 : Int), .int .u32 (x6 : Int), .slice A7b n7 q7b, .slice A8b n8 q8b, .slice A9b n9 q9b, .slice A10b n10 q10b, .slice A11b n11 q11b, .int .u64 (x12 : Int)]] w fun r w' => r = .returned (.bool true) ∧ Below w.heap.size w w' := by
  have b0 := twoBelow w (.cells #[.int .i64 x0, .int .u32 (x1 : Int), .int .u32 (x2 : Int), .int .u64 (x3 : Int), .int .u32 (x4 : Int), .int .u32 (x5 : Int), .int .u32 (x6 : Int), .slice A7a n7 q7a, .slice A8a n8 q8a, .slice A9a n9 q9a, .slice A10a n10 q10a, .slice A11a n11 q11a, .int .u64 (x12 : Int)] 50) (.cells #[.int .i64 x0, .int .u32 (x1 : Int), .int .u32 (x2 : Int), .int .u64 (x3 : Int), .int .u32 (x4 : Int), .int .u32 (x5 : Int), .int .u32 (x6 : Int), .slice A7b n7 q7b, .slice A8b n8 q8b, .slice A9b n9 q9b, .slice A10b n10 q10b, .slice A11b n11 q11b, .int .u64 (x12 : Int)] 50)
  have VA := Lib.hid (oneB2 w [.int .i64 x0, .int .u32 (x1 : Int), .int .u32 (x2 : Int), .int .u64 (x3 : Int), .int .u32 (x4 : Int), .int .u32 (x5 : Int), .int .u32 (x6 : Int), .slice A7a n7 q7a, .slice A8a n8 q8a, .slice A9a n9 q9a, .slice A10a n10 q10a, .slice A11a n11 q11a, .int .u64 (x12 : Int)] 50 (.cells #[.int .i64 x0, .int .u32 (x1 : Int), .int .u32 (x2 : Int), .int .u64 (x3 : Int), .int .u32 (x4 : Int), .int .u32 (x5 : Int), .int .u32 (x6 : Int), .slice A7b n7 q7b, .slice A8b n8 q8b, .slice A9b n9 q9b, .slice A10b n10 q10b, .slice A11b n11 q11b, .int .u64 (x12 : Int)] 50))
  have VB := Lib.hid (twoB w (.cells #[.int .i64 x0, .int .u32 (x1 : Int), .int .u32 (x2 : Int), .int .u64 (x3 : Int), .int .u32 (x4 : Int), .int .u32 (x5 : Int), .int .u32 (x6 : Int), .slice A7a n7 q7a, .slice A8a n8 q8a, .slice A9a n9 q9a, .slice A10a n10 q10a, .slice A11a n11 q11a, .int .u64 (x12 : Int)] 50) [.int .i64 x0, .int .u32 (x1 : Int), .int .u32 (x2 : Int), .int .u64 (x3 : Int), .int .u32 (x4 : Int), .int .u32 (x5 : Int), .int .u32 (x6 : Int), .slice A7b n7 q7b, .slice A8b n8 q8b, .slice A9b n9 q9b, .slice A10b n10 q10b, .slice A11b n11 q11b, .int .u64 (x12 : Int)] 50)
  have R7a := Lib.hid (r7a.below b0)
  have R7b := Lib.hid (r7b.below b0)
  have K7 := Lib.hid l7
  have R8a := Lib.hid (r8a.below b0)
  have R8b := Lib.hid (r8b.below b0)
  have K8 := Lib.hid l8
  have R9a := Lib.hid (r9a.below b0)
  have R9b := Lib.hid (r9b.below b0)
  have K9 := Lib.hid l9
  have R10a := Lib.hid (r10a.below b0)
  have R10b := Lib.hid (r10b.below b0)
  have K10 := Lib.hid l10
  have R11a := Lib.hid (r11a.below b0)
  have R11b := Lib.hid (r11b.below b0)
  have K11 := Lib.hid l11
  have B0 := Lib.hid b0
  clear b0 r7a r7b l7 r8a r8b l8 r9a r9b l9 r10a r10b l10 r11a r11b l11
  go_enter Tryd.func26, Tryd.ntmps26
  go_wp2
  have HB := Lib.hid (Below.refl ((w.alloc (.cells #[.int .i64 x0, .int .u32 (x1 : Int), .int .u32 (x2 : Int), .int .u64 (x3 : Int), .int .u32 (x4 : Int), .int .u32 (x5 : Int), .int .u32 (x6 : Int), .slice A7a n7 q7a, .slice A8a n8 q8a, .slice A9a n9 q9a, .slice A10a n10 q10a, .slice A11a n11 q11a, .int .u64 (x12 : Int)] 50)).alloc (.cells #[.int .i64 x0, .int .u32 (x1 : Int), .int .u32 (x2 : Int), .int .u64 (x3 : Int), .int .u32 (x4 : Int), .int .u32 (x5 : Int), .int .u32 (x6 : Int), .slice A7b n7 q7b, .slice A8b n8 q8b, .slice A9b n9 q9b, .slice A10b n10 q10b, .slice A11b n11 q11b, .int .u64 (x12 : Int)] 50)).heap.size ((w.alloc (.cells #[.int .i64 x0, .int .u32 (x1 : Int), .int .u32 (x2 : Int), .int .u64 (x3 : Int), .int .u32 (x4 : Int), .int .u32 (x5 : Int), .int .u32 (x6 : Int), .slice A7a n7 q7a, .slice A8a n8 q8a, .slice A9a n9 q9a, .slice A10a n10 q10a, .slice A11a n11 q11a, .int .u64 (x12 : Int)] 50)).alloc (.cells #[.int .i64 x0, .int .u32 (x1 : Int), .int .u32 (x2 : Int), .int .u64 (x3 : Int), .int .u32 (x4 : Int), .int .u32 (x5 : Int), .int .u32 (x6 : Int), .slice A7b n7 q7b, .slice A8b n8 q8b, .slice A9b n9 q9b, .slice A10b n10 q10b, .slice A11b n11 q11b, .int .u64 (x12 : Int)] 50)))
  generalize hw0 : (w.alloc (.cells #[.int .i64 x0, .int .u32 (x1 : Int), .int .u32 (x2 : Int), .int .u64 (x3 : Int), .int .u32 (x4 : Int), .int .u32 (x5 : Int), .int .u32 (x6 : Int), .slice A7a n7 q7a, .slice A8a n8 q8a, .slice A9a n9 q9a, .slice A10a n10 q10a, .slice A11a n11 q11a, .int .u64 (x12 : Int)] 50)).alloc (.cells #[.int .i64 x0, .int .u32 (x1 : Int), .int .u32 (x2 : Int), .int .u64 (x3 : Int), .int .u32 (x4 : Int), .int .u32 (x5 : Int), .int .u32 (x6 : Int), .slice A7b n7 q7b, .slice A8b n8 q8b, .slice A9b n9 q9b, .slice A10b n10 q10b, .slice A11b n11 q11b, .int .u64 (x12 : Int)] 50) = w0 at *
  clear hw0
  go_loopw [5] (fun i wx => ∃ k : Nat, k ≤ n7 ∧ i = .int .i64 k ∧ Hid (Below w0.heap.size w0 wx)) (fun i _ => n7 - (intOf i).toNat)
  case atStart => exact ⟨0, by omega, rfl, HB⟩
  case round =>
    clear HB
    obtain ⟨k, hk, rfl, HB⟩ := hrel
    have ya : wr.cell? ⟨w.heap.size, 7, none⟩ = some (.slice A7a n7 q7a) := ((VA.out.below HB.out VA.out.lt).cell 7).trans rfl
    have yb : wr.cell? ⟨w.heap.size + 1, 7, none⟩ = some (.slice A7b n7 q7b) := ((VB.out.below HB.out VB.out.lt).cell 7).trans rfl
    by_cases hkn : k < n7
    · have hkl : k < L7.length := by rw [K7.out]; exact hkn
      obtain ⟨ba, oa, rfl, ga⟩ := R7a.out.at_ hkl
      obtain ⟨bb, ob, rfl, gb⟩ := R7b.out.at_ hkl
      have Ga := ga wr HB.out
      have Gb := gb wr HB.out
      obtain ⟨x, hx⟩ : ∃ x, x = L7[k] := ⟨_, rfl⟩
      rw [← hx] at Ga Gb
      clear hx ga gb
      obtain ⟨s0, s1, s2, s3, s4, s5, s6⟩ := x
      have ta0 : wr.cell? ⟨ba, oa + k * 7, none⟩ = some (.int .u32 (s0 : Int)) := by have := Ga 0 _ rfl; simpa using this
      have ta1 : wr.cell? ⟨ba, oa + k * 7 + 1, none⟩ = some (.int .u8 (s1 : Int)) := by have := Ga 1 _ rfl; simpa using this
      have ta2 : wr.cell? ⟨ba, oa + k * 7 + 2, none⟩ = some (.int .i32 s2) := by have := Ga 2 _ rfl; simpa using this
      have ta3 : wr.cell? ⟨ba, oa + k * 7 + 3, none⟩ = some (.int .u32 (s3 : Int)) := by have := Ga 3 _ rfl; simpa using this
      have ta4 : wr.cell? ⟨ba, oa + k * 7 + 4, none⟩ = some (.int .u32 (s4 : Int)) := by have := Ga 4 _ rfl; simpa using this
      have ta5 : wr.cell? ⟨ba, oa + k * 7 + 5, none⟩ = some (.int .u32 (s5 : Int)) := by have := Ga 5 _ rfl; simpa using this
      have ta6 : wr.cell? ⟨ba, oa + k * 7 + 6, none⟩ = some (.int .u32 (s6 : Int)) := by have := Ga 6 _ rfl; simpa using this
      have tb0 : wr.cell? ⟨bb, ob + k * 7, none⟩ = some (.int .u32 (s0 : Int)) := by have := Gb 0 _ rfl; simpa using this
      have tb1 : wr.cell? ⟨bb, ob + k * 7 + 1, none⟩ = some (.int .u8 (s1 : Int)) := by have := Gb 1 _ rfl; simpa using this
      have tb2 : wr.cell? ⟨bb, ob + k * 7 + 2, none⟩ = some (.int .i32 s2) := by have := Gb 2 _ rfl; simpa using this
      have tb3 : wr.cell? ⟨bb, ob + k * 7 + 3, none⟩ = some (.int .u32 (s3 : Int)) := by have := Gb 3 _ rfl; simpa using this
      have tb4 : wr.cell? ⟨bb, ob + k * 7 + 4, none⟩ = some (.int .u32 (s4 : Int)) := by have := Gb 4 _ rfl; simpa using this
      have tb5 : wr.cell? ⟨bb, ob + k * 7 + 5, none⟩ = some (.int .u32 (s5 : Int)) := by have := Gb 5 _ rfl; simpa using this
      have tb6 : wr.cell? ⟨bb, ob + k * 7 + 6, none⟩ = some (.int .u32 (s6 : Int)) := by have := Gb 6 _ rfl; simpa using this
      clear Ga Gb
      go_wp2
      go_quiet (fail)
      have h3 := Lib.hid (below_drewN HB.out nq)
      generalize wr.drewN nq = wq at h3 ⊢
      go_wp2
      go_roundw
      case rel => exact ⟨k + 1, by omega, by go_num, h3⟩
      case measure => simp [intOf]; omega
    · obtain rfl : k = n7 := by omega
      clear hk hkn
      go_wp2
      go_loopw [6] (fun i wx => ∃ k : Nat, k ≤ n8 ∧ i = .int .i64 k ∧ Hid (Below w0.heap.size w0 wx)) (fun i _ => n8 - (intOf i).toNat)
      case atStart => exact ⟨0, by omega, rfl, HB⟩
      case round =>
        clear HB
        obtain ⟨k, hk, rfl, HB⟩ := hrel
        have ya : wr.cell? ⟨w.heap.size, 8, none⟩ = some (.slice A8a n8 q8a) := ((VA.out.below HB.out VA.out.lt).cell 8).trans rfl
        have yb : wr.cell? ⟨w.heap.size + 1, 8, none⟩ = some (.slice A8b n8 q8b) := ((VB.out.below HB.out VB.out.lt).cell 8).trans rfl
        by_cases hkn : k < n8
        · have hkl : k < L8.length := by rw [K8.out]; exact hkn
          obtain ⟨ba, oa, rfl, ga⟩ := R8a.out.at_ hkl
          obtain ⟨bb, ob, rfl, gb⟩ := R8b.out.at_ hkl
          have Ga := ga wr HB.out
          have Gb := gb wr HB.out
          obtain ⟨x, hx⟩ : ∃ x, x = L8[k] := ⟨_, rfl⟩
          rw [← hx] at Ga Gb
          clear hx ga gb
          obtain ⟨s0, s1⟩ := x
          have ta0 : wr.cell? ⟨ba, oa + k * 2, none⟩ = some (.int .u32 (s0 : Int)) := by have := Ga 0 _ rfl; simpa using this
          have ta1 : wr.cell? ⟨ba, oa + k * 2 + 1, none⟩ = some (.string (txt s1)) := by have := Ga 1 _ rfl; simpa using this
          have tb0 : wr.cell? ⟨bb, ob + k * 2, none⟩ = some (.int .u32 (s0 : Int)) := by have := Gb 0 _ rfl; simpa using this
          have tb1 : wr.cell? ⟨bb, ob + k * 2 + 1, none⟩ = some (.string (txt s1)) := by have := Gb 1 _ rfl; simpa using this
          clear Ga Gb
          go_wp2
          go_quiet (fail)
          have h3 := Lib.hid (below_drewN HB.out nq)
          generalize wr.drewN nq = wq at h3 ⊢
          go_wp2
          go_roundw
          case rel => exact ⟨k + 1, by omega, by go_num, h3⟩
          case measure => simp [intOf]; omega
        · obtain rfl : k = n8 := by omega
          clear hk hkn
          go_wp2
          go_loopw [7] (fun i wx => ∃ k : Nat, k ≤ n9 ∧ i = .int .i64 k ∧ Hid (Below w0.heap.size w0 wx)) (fun i _ => n9 - (intOf i).toNat)
          case atStart => exact ⟨0, by omega, rfl, HB⟩
          case round =>
            clear HB
            obtain ⟨k, hk, rfl, HB⟩ := hrel
            have ya : wr.cell? ⟨w.heap.size, 9, none⟩ = some (.slice A9a n9 q9a) := ((VA.out.below HB.out VA.out.lt).cell 9).trans rfl
            have yb : wr.cell? ⟨w.heap.size + 1, 9, none⟩ = some (.slice A9b n9 q9b) := ((VB.out.below HB.out VB.out.lt).cell 9).trans rfl
            by_cases hkn : k < n9
            · have hkl : k < L9.length := by rw [K9.out]; exact hkn
              obtain ⟨ba, oa, rfl, ga⟩ := R9a.out.at_ hkl
              obtain ⟨bb, ob, rfl, gb⟩ := R9b.out.at_ hkl
              have Ga := ga wr HB.out
              have Gb := gb wr HB.out
              obtain ⟨x, hx⟩ : ∃ x, x = L9[k] := ⟨_, rfl⟩
              rw [← hx] at Ga Gb
              clear hx ga gb
              obtain ⟨s0, rfl⟩ : ∃ s0, s0 = x := ⟨_, rfl⟩
              have ta0 : wr.cell? ⟨ba, oa + k, none⟩ = some (.int .u32 (s0 : Int)) := by have := Ga 0 _ rfl; simpa using this
              have tb0 : wr.cell? ⟨bb, ob + k, none⟩ = some (.int .u32 (s0 : Int)) := by have := Gb 0 _ rfl; simpa using this
              clear Ga Gb
              go_wp2
              go_quiet (fail)
              have h3 := Lib.hid (below_drewN HB.out nq)
              generalize wr.drewN nq = wq at h3 ⊢
              go_wp2
              go_roundw
              case rel => exact ⟨k + 1, by omega, by go_num, h3⟩
              case measure => simp [intOf]; omega
            · obtain rfl : k = n9 := by omega
              clear hk hkn
              go_wp2
              go_loopw [8] (fun i wx => ∃ k : Nat, k ≤ n10 ∧ i = .int .i64 k ∧ Hid (Below w0.heap.size w0 wx)) (fun i _ => n10 - (intOf i).toNat)
              case atStart => exact ⟨0, by omega, rfl, HB⟩
              case round =>
                clear HB
                obtain ⟨k, hk, rfl, HB⟩ := hrel
                have ya : wr.cell? ⟨w.heap.size, 10, none⟩ = some (.slice A10a n10 q10a) := ((VA.out.below HB.out VA.out.lt).cell 10).trans rfl
                have yb : wr.cell? ⟨w.heap.size + 1, 10, none⟩ = some (.slice A10b n10 q10b) := ((VB.out.below HB.out VB.out.lt).cell 10).trans rfl
                by_cases hkn : k < n10
                · have hkl : k < L10.length := by rw [K10.out]; exact hkn
                  obtain ⟨ba, oa, rfl, ga⟩ := R10a.out.at_ hkl
                  obtain ⟨bb, ob, rfl, gb⟩ := R10b.out.at_ hkl
                  have Ga := ga wr HB.out
                  have Gb := gb wr HB.out
                  obtain ⟨x, hx⟩ : ∃ x, x = L10[k] := ⟨_, rfl⟩
                  rw [← hx] at Ga Gb
                  clear hx ga gb
                  obtain ⟨s0, s1⟩ := x
                  have ta0 : wr.cell? ⟨ba, oa + k * 2, none⟩ = some (.int .u16 (s0 : Int)) := by have := Ga 0 _ rfl; simpa using this
                  have ta1 : wr.cell? ⟨ba, oa + k * 2 + 1, none⟩ = some (.int .u16 (s1 : Int)) := by have := Ga 1 _ rfl; simpa using this
                  have tb0 : wr.cell? ⟨bb, ob + k * 2, none⟩ = some (.int .u16 (s0 : Int)) := by have := Gb 0 _ rfl; simpa using this
                  have tb1 : wr.cell? ⟨bb, ob + k * 2 + 1, none⟩ = some (.int .u16 (s1 : Int)) := by have := Gb 1 _ rfl; simpa using this
                  clear Ga Gb
                  go_wp2
                  go_quiet (fail)
                  have h3 := Lib.hid (below_drewN HB.out nq)
                  generalize wr.drewN nq = wq at h3 ⊢
                  go_wp2
                  go_roundw
                  case rel => exact ⟨k + 1, by omega, by go_num, h3⟩
                  case measure => simp [intOf]; omega
                · obtain rfl : k = n10 := by omega
                  clear hk hkn
                  go_wp2
                  go_loopw [9] (fun i wx => ∃ k : Nat, k ≤ n11 ∧ i = .int .i64 k ∧ Hid (Below w0.heap.size w0 wx)) (fun i _ => n11 - (intOf i).toNat)
                  case atStart => exact ⟨0, by omega, rfl, HB⟩
                  case round =>
                    clear HB
                    obtain ⟨k, hk, rfl, HB⟩ := hrel
                    have ya : wr.cell? ⟨w.heap.size, 11, none⟩ = some (.slice A11a n11 q11a) := ((VA.out.below HB.out VA.out.lt).cell 11).trans rfl
                    have yb : wr.cell? ⟨w.heap.size + 1, 11, none⟩ = some (.slice A11b n11 q11b) := ((VB.out.below HB.out VB.out.lt).cell 11).trans rfl
                    by_cases hkn : k < n11
                    · have hkl : k < L11.length := by rw [K11.out]; exact hkn
                      obtain ⟨ba, oa, rfl, ga⟩ := R11a.out.at_ hkl
                      obtain ⟨bb, ob, rfl, gb⟩ := R11b.out.at_ hkl
                      have Ga := ga wr HB.out
                      have Gb := gb wr HB.out
                      obtain ⟨x, hx⟩ : ∃ x, x = L11[k] := ⟨_, rfl⟩
                      rw [← hx] at Ga Gb
                      clear hx ga gb
                      obtain ⟨s0, s1⟩ := x
                      have ta0 : wr.cell? ⟨ba, oa + k * 2, none⟩ = some (.int .u32 (s0 : Int)) := by have := Ga 0 _ rfl; simpa using this
                      have ta1 : wr.cell? ⟨ba, oa + k * 2 + 1, none⟩ = some (.int .u8 (s1 : Int)) := by have := Ga 1 _ rfl; simpa using this
                      have tb0 : wr.cell? ⟨bb, ob + k * 2, none⟩ = some (.int .u32 (s0 : Int)) := by have := Gb 0 _ rfl; simpa using this
                      have tb1 : wr.cell? ⟨bb, ob + k * 2 + 1, none⟩ = some (.int .u8 (s1 : Int)) := by have := Gb 1 _ rfl; simpa using this
                      clear Ga Gb
                      go_wp2
                      go_quiet (fail)
                      have h3 := Lib.hid (below_drewN HB.out nq)
                      generalize wr.drewN nq = wq at h3 ⊢
                      go_wp2
                      go_roundw
                      case rel => exact ⟨k + 1, by omega, by go_num, h3⟩
                      case measure => simp [intOf]; omega
                    · obtain rfl : k = n11 := by omega
                      clear hk hkn
                      go_wp2
                      go_ret
                      exact ⟨rfl, B0.out.trans (HB.out.mono B0.out.size)⟩

/-- Two that read as one packet are the same. -/
theorem same_yes (cs1 cs2 : List Value) (c : Ctl) (w : World) (h1 : CtRd w cs1 c) (h2 : CtRd w cs2 c) (m7 : c.reps.length ≤ 1000) (m8 : c.nams.length ≤ 1000) (m9 : c.srcs.length ≤ 1000) (m10 : c.loss.length ≤ 1000) (m11 : c.firs.length ≤ 1000) :
    Calls Tryd.prog 26 #[.agg cs1.toArray, .agg cs2.toArray] w fun r w' => r = .returned (.bool true) ∧ Below w.heap.size w w' := by
  obtain ⟨A7a, q7a, A8a, q8a, A9a, q9a, A10a, q10a, A11a, q11a, rfl, r7a, r8a, r9a, r10a, r11a⟩ := h1
  obtain ⟨A7b, q7b, A8b, q8b, A9b, q9b, A10b, q10b, A11b, q11b, rfl, r7b, r8b, r9b, r10b, r11b⟩ := h2
  unfold ctlC
  exact same_raw _ _ _ _ _ _ _ _ _ _ _ _ _ _ _ _ _ _ _ _ _ _ _ _ _ _ _ _ _ _ _ _ _ c.reps c.nams c.srcs c.loss c.firs w rfl rfl rfl rfl rfl m7 m8 m9 m10 m11 r7a r7b r8a r8b r9a r9b r10a r10b r11a r11b
end Go.Proofs.YtacaempcbdekaaaDoor
