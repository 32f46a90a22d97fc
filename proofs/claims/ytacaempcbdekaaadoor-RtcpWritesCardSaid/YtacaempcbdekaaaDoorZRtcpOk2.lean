/- What the document's answer for layer 11 tells of a packet's bytes: kind 2. No statement is proved here. -/
import Derived.Test.YtacaempcbdekaaaDoorZRtcpO1
namespace Go.Proofs.YtacaempcbdekaaaDoor
open Go.RowKit
set_option linter.unusedVariables false

set_option maxRecDepth 100000 in
set_option maxHeartbeats 4000000 in
theorem one_2 (cs : List Value) (so me : Nat) (m1 x1 : Int) (w : World) (h : CtRd w cs (mkPL 2 so me)) (f1 : so < 4294967296) (f2 : me < 4294967296) :
    Calls Tryd.prog 22 #[.agg cs.toArray, .int .u64 m1, .int .i64 x1] w (OneTold (mkPL 2 so me) w) := by
  obtain ⟨A, a, B, b', C, c', D, d, E, e, h0, r7, r8, r9, r10, r11⟩ := h
  subst h0
  unfold ctlC
  simp only [mkPL, List.length_nil] at r7 r8 r9 r10 r11 ⊢
  change Calls Tryd.prog 22 #[.agg #[.int .i64 2, .int .u32 (so : Int), .int .u32 (me : Int), .int .u64 0, .int .u32 0, .int .u32 0, .int .u32 0, .slice A 0 a, .slice B 0 b', .slice C 0 c', .slice D 0 d, .slice E 0 e, .int .u64 0], .int .u64 m1, .int .i64 x1] w (OneTold (mkPL 2 so me) w)
  have HBD : Hid (bodyC (mkPL 2 so me) = bPL so me) := Lib.hid (by simp [bodyC, mkPL])
  have HQ : Hid (cntC (mkPL 2 so me) = 1) := Lib.hid (by simp [cntC, mkPL])
  have HTY : Hid (typC (mkPL 2 so me) = 206) := Lib.hid (by simp [typC, mkPL])
  have ew1 : IntKind.u64.wrap (so : Int) = (so : Int) := by rw [IntKind.wrap_u64]; omega
  have ew2 : IntKind.u64.wrap (me : Int) = (me : Int) := by rw [IntKind.wrap_u64]; omega
  clear r7 r8 r9 r10 r11
  go_enter Tryd.func22, Tryd.ntmps22
  go_wp2
  go_quiet (fail)
  have B0 : Hid (BO w (w.alloc (.cells #[.int .i64 2, .int .u32 (so : Int), .int .u32 (me : Int), .int .u64 0, .int .u32 0, .int .u32 0, .int .u32 0, .slice A 0 a, .slice B 0 b', .slice C 0 c', .slice D 0 d, .slice E 0 e, .int .u64 0] 50)) none 0 0 []) := Lib.hid ((BO.nil w).below ((Below.refl _ _).alloc (Nat.le_refl _) _))
  have B1 : Hid (BO w ((w.alloc (.cells #[.int .i64 2, .int .u32 (so : Int), .int .u32 (me : Int), .int .u64 0, .int .u32 0, .int .u32 0, .int .u32 0, .slice A 0 a, .slice B 0 b', .slice C 0 c', .slice D 0 d, .slice E 0 e, .int .u64 0] 50)).drewN nq) none 0 0 []) := Lib.hid (B0.out.below (below_drewN (Below.refl _ _) nq))
  have S1 : Hid (OneS w [.int .i64 2, .int .u32 (so : Int), .int .u32 (me : Int), .int .u64 0, .int .u32 0, .int .u32 0, .int .u32 0, .slice A 0 a, .slice B 0 b', .slice C 0 c', .slice D 0 d, .slice E 0 e, .int .u64 0] ((w.alloc (.cells #[.int .i64 2, .int .u32 (so : Int), .int .u32 (me : Int), .int .u64 0, .int .u32 0, .int .u32 0, .int .u32 0, .slice A 0 a, .slice B 0 b', .slice C 0 c', .slice D 0 d, .slice E 0 e, .int .u64 0] 50)).drewN nq)) := Lib.hid ⟨below_drewN ((Below.refl _ _).alloc (Nat.le_refl _) _) nq, (BlkV.new w 50 [.int .i64 2, .int .u32 (so : Int), .int .u32 (me : Int), .int .u64 0, .int .u32 0, .int .u32 0, .int .u32 0, .slice A 0 a, .slice B 0 b', .slice C 0 c', .slice D 0 d, .slice E 0 e, .int .u64 0]).below (below_drewN (Below.refl _ _) nq) (BlkV.new w 50 [.int .i64 2, .int .u32 (so : Int), .int .u32 (me : Int), .int .u64 0, .int .u32 0, .int .u32 0, .int .u32 0, .slice A 0 a, .slice B 0 b', .slice C 0 c', .slice D 0 d, .slice E 0 e, .int .u64 0]).lt⟩
  generalize (w.alloc (.cells #[.int .i64 2, .int .u32 (so : Int), .int .u32 (me : Int), .int .u64 0, .int .u32 0, .int .u32 0, .int .u32 0, .slice A 0 a, .slice B 0 b', .slice C 0 c', .slice D 0 d, .slice E 0 e, .int .u64 0] 50)).drewN nq = w1 at B1 S1 ⊢
  clear B0
  have B1B := Lib.hid B1.out.2
  have B1R := Lib.hid B1.out.rd
  have qw1_0 : w1.cell? ⟨w.heap.size, 0, none⟩ = some (.int .i64 2) := (S1.out.2.cell 0).trans rfl; have qw1_1 : w1.cell? ⟨w.heap.size, 1, none⟩ = some (.int .u32 (so : Int)) := (S1.out.2.cell 1).trans rfl; have qw1_2 : w1.cell? ⟨w.heap.size, 2, none⟩ = some (.int .u32 (me : Int)) := (S1.out.2.cell 2).trans rfl; have qw1_7 : w1.cell? ⟨w.heap.size, 7, none⟩ = some (.slice A 0 a) := (S1.out.2.cell 7).trans rfl; have qw1_8 : w1.cell? ⟨w.heap.size, 8, none⟩ = some (.slice B 0 b') := (S1.out.2.cell 8).trans rfl; have qw1_9 : w1.cell? ⟨w.heap.size, 9, none⟩ = some (.slice C 0 c') := (S1.out.2.cell 9).trans rfl
  go_wp2_with (first
    | (go_at_call 35; ((with_reducible refine (rput11 w _ none 0 0 4 _ 4 so _ _ (by omega) (by omega) (by omega) B1B.out B1R.out (by omega) (by omega) (by omega) (by omega)).mono ?_); rintro e9 w2 ⟨A2, c2, rfl, hbo, hb⟩; have B2 := Lib.hid hbo; have B2B := Lib.hid hbo.2; have B2R := Lib.hid hbo.rd; have S2 := Lib.hid (S1.out.on hb); have qw2_0 : w2.cell? ⟨w.heap.size, 0, none⟩ = some (.int .i64 2) := (S2.out.2.cell 0).trans rfl; have qw2_1 : w2.cell? ⟨w.heap.size, 1, none⟩ = some (.int .u32 (so : Int)) := (S2.out.2.cell 1).trans rfl; have qw2_2 : w2.cell? ⟨w.heap.size, 2, none⟩ = some (.int .u32 (me : Int)) := (S2.out.2.cell 2).trans rfl; have qw2_7 : w2.cell? ⟨w.heap.size, 7, none⟩ = some (.slice A 0 a) := (S2.out.2.cell 7).trans rfl; have qw2_8 : w2.cell? ⟨w.heap.size, 8, none⟩ = some (.slice B 0 b') := (S2.out.2.cell 8).trans rfl; have qw2_9 : w2.cell? ⟨w.heap.size, 9, none⟩ = some (.slice C 0 c') := (S2.out.2.cell 9).trans rfl; clear hbo hb))
    | (go_at_call 35; ((with_reducible refine (rput11 w _ A2 4 c2 8 _ 4 me _ _ (by omega) (by omega) (by omega) B2B.out B2R.out (by omega) (by omega) (by omega) (by omega)).mono ?_); rintro e9 w3 ⟨A3, c3, rfl, hbo, hb⟩; have B3 := Lib.hid hbo; have B3B := Lib.hid hbo.2; have B3R := Lib.hid hbo.rd; have S3 := Lib.hid (S2.out.on hb); have qw3_0 : w3.cell? ⟨w.heap.size, 0, none⟩ = some (.int .i64 2) := (S3.out.2.cell 0).trans rfl; have qw3_1 : w3.cell? ⟨w.heap.size, 1, none⟩ = some (.int .u32 (so : Int)) := (S3.out.2.cell 1).trans rfl; have qw3_2 : w3.cell? ⟨w.heap.size, 2, none⟩ = some (.int .u32 (me : Int)) := (S3.out.2.cell 2).trans rfl; have qw3_7 : w3.cell? ⟨w.heap.size, 7, none⟩ = some (.slice A 0 a) := (S3.out.2.cell 7).trans rfl; have qw3_8 : w3.cell? ⟨w.heap.size, 8, none⟩ = some (.slice B 0 b') := (S3.out.2.cell 8).trans rfl; have qw3_9 : w3.cell? ⟨w.heap.size, 9, none⟩ = some (.slice C 0 c') := (S3.out.2.cell 9).trans rfl; clear hbo hb)))
  obtain ⟨T0, hT0⟩ : ∃ T0, T0 = (([] ++ beb 4 so) ++ beb 4 me) := ⟨_, rfl⟩
  have HT0 := Lib.hid hT0
  have B3N : Hid (BO w w3 A3 8 c3 T0) := Lib.hid (by rw [HT0.out]; exact B3.out)
  clear hT0
  go_loopw [7, 12] (fun v i wx => v = .slice A3 8 c3 ∧ i = .int .i64 0 ∧ wx = w3) (fun _ _ _ => 0)
  case atStart => exact ⟨rfl, rfl, rfl⟩
  case round =>
    obtain ⟨rfl, rfl, rfl⟩ := hrel
    have qwr_0 : wr.cell? ⟨w.heap.size, 0, none⟩ = some (.int .i64 2) := (S3.out.2.cell 0).trans rfl; have qwr_1 : wr.cell? ⟨w.heap.size, 1, none⟩ = some (.int .u32 (so : Int)) := (S3.out.2.cell 1).trans rfl; have qwr_2 : wr.cell? ⟨w.heap.size, 2, none⟩ = some (.int .u32 (me : Int)) := (S3.out.2.cell 2).trans rfl; have qwr_7 : wr.cell? ⟨w.heap.size, 7, none⟩ = some (.slice A 0 a) := (S3.out.2.cell 7).trans rfl; have qwr_8 : wr.cell? ⟨w.heap.size, 8, none⟩ = some (.slice B 0 b') := (S3.out.2.cell 8).trans rfl; have qwr_9 : wr.cell? ⟨w.heap.size, 9, none⟩ = some (.slice C 0 c') := (S3.out.2.cell 9).trans rfl
    go_wp2
    go_loopw [7, 14] (fun v i wx => v = .slice A3 8 c3 ∧ i = .int .i64 0 ∧ wx = wr) (fun _ _ _ => 0)
    case atStart => exact ⟨rfl, rfl, rfl⟩
    case round =>
      obtain ⟨rfl, rfl, rfl⟩ := hrel
      have qwr_0 : wr.cell? ⟨w.heap.size, 0, none⟩ = some (.int .i64 2) := (S3.out.2.cell 0).trans rfl; have qwr_1 : wr.cell? ⟨w.heap.size, 1, none⟩ = some (.int .u32 (so : Int)) := (S3.out.2.cell 1).trans rfl; have qwr_2 : wr.cell? ⟨w.heap.size, 2, none⟩ = some (.int .u32 (me : Int)) := (S3.out.2.cell 2).trans rfl; have qwr_7 : wr.cell? ⟨w.heap.size, 7, none⟩ = some (.slice A 0 a) := (S3.out.2.cell 7).trans rfl; have qwr_8 : wr.cell? ⟨w.heap.size, 8, none⟩ = some (.slice B 0 b') := (S3.out.2.cell 8).trans rfl; have qwr_9 : wr.cell? ⟨w.heap.size, 9, none⟩ = some (.slice C 0 c') := (S3.out.2.cell 9).trans rfl
      go_wp2
      go_loopw [7, 15] (fun v i wx => v = .slice A3 8 c3 ∧ i = .int .i64 0 ∧ wx = wr) (fun _ _ _ => 0)
      case atStart => exact ⟨rfl, rfl, rfl⟩
      case round =>
        obtain ⟨rfl, rfl, rfl⟩ := hrel
        have qwr_0 : wr.cell? ⟨w.heap.size, 0, none⟩ = some (.int .i64 2) := (S3.out.2.cell 0).trans rfl; have qwr_1 : wr.cell? ⟨w.heap.size, 1, none⟩ = some (.int .u32 (so : Int)) := (S3.out.2.cell 1).trans rfl; have qwr_2 : wr.cell? ⟨w.heap.size, 2, none⟩ = some (.int .u32 (me : Int)) := (S3.out.2.cell 2).trans rfl; have qwr_7 : wr.cell? ⟨w.heap.size, 7, none⟩ = some (.slice A 0 a) := (S3.out.2.cell 7).trans rfl; have qwr_8 : wr.cell? ⟨w.heap.size, 8, none⟩ = some (.slice B 0 b') := (S3.out.2.cell 8).trans rfl; have qwr_9 : wr.cell? ⟨w.heap.size, 9, none⟩ = some (.slice C 0 c') := (S3.out.2.cell 9).trans rfl
        obtain ⟨MM, hMM⟩ : ∃ MM, MM = 8 := ⟨_, rfl⟩
        have hMl : MM ≤ 5000 := by omega
        have HB9 : Hid (BO w wr A3 MM c3 T0) := Lib.hid (by rw [hMM]; exact B3N.out)
        obtain ⟨Y, hY⟩ : ∃ Y, Y = 128 + 1 := ⟨_, rfl⟩
        have HTB : Hid (T0 = bPL so me) := Lib.hid (by have h1 := HT0.out; rw [h1]; simp [bPL])
        have HY := Lib.hid hY
        have lY : Y < 256 := by omega
        have et1 : Hid True := Lib.hid trivial
        obtain ⟨Z9, hZ9⟩ : ∃ Z9, Z9 = MM / 4 := ⟨_, rfl⟩
        have et3 : IntKind.i64.wrap ((MM : Int) / 4) = (Z9 : Int) := by rw [IntKind.wrap_i64]; omega
        have et4 : IntKind.u64.wrap (Z9 : Int) = (Z9 : Int) := by rw [IntKind.wrap_u64]; omega
        have et5 : (MM : Int) / 4 = (Z9 : Int) := by omega
        have et6 : IntKind.i64.wrap (Z9 : Int) = (Z9 : Int) := by rw [IntKind.wrap_i64]; omega
        have HZ9 := Lib.hid hZ9
        have HMM := Lib.hid hMM
        have lZ9 : Z9 < 5000 := by omega
        have HNUM : Hid (MM = 8) := Lib.hid hMM
        skip
        clear hY hZ9 hMM
        have HB9R := Lib.hid HB9.out.rd
        have HB9B := Lib.hid HB9.out.2
        go_wp2_with (first
          | (go_at_call 35; ((with_reducible refine (rput11 w _ (some ⟨wr.heap.size, 0, none⟩) 2 2 4 _ 2 Z9 _ _ (by omega) (by have h8 := HZ9.out; have h9 := HNUM.out; omega) (by omega) (Below.alloc HB9B.out HB9B.out.size _) (rd_tq wr Y 206 129 206 (by have hy := HY.out; omega) (by omega) (by omega) (by omega)) (by omega) (by omega) (by omega) (by omega)).mono ?_); rintro e9 w40 ⟨A40, c40, rfl, hbo, hb⟩; have B40 := Lib.hid hbo; have R40 := Lib.hid (HB9R.out.below (((Below.refl wr.heap.size wr).alloc (Nat.le_refl _) (.cells #[.int .u8 129, .int .u8 206] 5)).trans (hb.mono ((Below.refl wr.heap.size wr).alloc (Nat.le_refl _) (.cells #[.int .u8 129, .int .u8 206] 5)).size))); clear hbo hb))
          | (at_builtin; refine wpList_append_rd _ rfl (.tmp 262) (.tmp 263) rfl Tryd.underlying25 u8_info w.heap.size (.slice A40 4 c40) 4 _ rfl B40.out.1 A3 8 c3 T0 rfl (HNUM.out ▸ R40.out) (by omega) B40.out.2.size ?_; intro v41 w41 hown hg _; obtain ⟨A41, c41, hv⟩ := own_formN hown; subst hv; have B41 := Lib.hid (B40.out.more hown hg); clear hown hg))
        go_ret
        have hfin : wr1 (mkPL 2 so me) = beb 1 Y ++ beb 1 206 ++ beb 2 Z9 ++ T0 := by unfold wr1; rw [HQ.out, HTY.out, HBD.out, ← HTB.out, HB9.out.len, ← HY.out, ← HZ9.out]; simp only [List.append_assoc]
        have hl : 4 + 8 = (wr1 (mkPL 2 so me)).length := by rw [hfin]; exact B41.out.len.symm
        exact ⟨A41, c41, 4 + 8, hl, rfl, by rw [hfin]; exact B41.out.rd, B41.out.2⟩
end Go.Proofs.YtacaempcbdekaaaDoor
