/- What the document's answer for layer 11 tells of a packet's bytes: kind 4. No statement is proved here. -/
import Derived.Test.YtacaempcbdekaaaDoorZRtcpO1
namespace Go.Proofs.YtacaempcbdekaaaDoor
open Go.RowKit
set_option linter.unusedVariables false

set_option maxRecDepth 100000 in
set_option maxHeartbeats 4000000 in
theorem one_4 (cs : List Value) (so ra : Nat) (L : List Nat) (n : Nat) (m x : Nat) (w : World) (h : CtRd w cs (mkRE 4 so L ra)) (l0 : L.length = n) (hn : n ≤ 16) (f1 : so < 4294967296) (fl : ∀ y ∈ L, y < 4294967296) (hm : m < 262144) (hx : x ≤ 46) (em : rM ra = m) (ex : rE ra = x) :
    Calls Tryd.prog 22 #[.agg cs.toArray, .int .u64 (m : Int), .int .i64 (x : Int)] w (OneTold (mkRE 4 so L ra) w) := by
  obtain ⟨A, a, B, b', C, c', D, d, E, e, h0, r7, r8, r9, r10, r11⟩ := h
  subst h0
  unfold ctlC
  simp only [mkRE, List.length_nil, l0] at r7 r8 r9 r10 r11 ⊢
  change Calls Tryd.prog 22 #[.agg #[.int .i64 4, .int .u32 (so : Int), .int .u32 0, .int .u64 0, .int .u32 0, .int .u32 0, .int .u32 0, .slice A 0 a, .slice B 0 b', .slice C n c', .slice D 0 d, .slice E 0 e, .int .u64 (ra : Int)], .int .u64 (m : Int), .int .i64 (x : Int)] w (OneTold (mkRE 4 so L ra) w)
  have RL := Lib.hid r9
  have HN := Lib.hid l0
  have HF := Lib.hid fl
  have HBD : Hid (bodyC (mkRE 4 so L ra) = bRE so L m x) := Lib.hid (by simp [bodyC, mkRE, em, ex])
  have HQ : Hid (cntC (mkRE 4 so L ra) = 15) := Lib.hid (by simp [cntC, mkRE])
  have HTY : Hid (typC (mkRE 4 so L ra) = 206) := Lib.hid (by simp [typC, mkRE])
  have ew1 : IntKind.u64.wrap (so : Int) = (so : Int) := by rw [IntKind.wrap_u64]; omega
  clear r7 r8 r9 r10 r11 l0 fl
  clear em ex
  have ex1 : IntKind.u64.wrap (x : Int) = (x : Int) := by rw [IntKind.wrap_u64]; omega
  obtain ⟨Z1, hZ1⟩ : ∃ Z1, Z1 = x * 262144 := ⟨_, rfl⟩
  obtain ⟨Z2, hZ2⟩ : ∃ Z2, Z2 = x * 262144 + m := ⟨_, rfl⟩
  have ex2 : IntKind.u64.wrap ((x : Int) * 262144) = (Z1 : Int) := by rw [IntKind.wrap_u64]; omega
  have ex3 : IntKind.u64.wrap ((Z1 : Int) + (m : Int)) = (Z2 : Int) := by rw [IntKind.wrap_u64]; omega
  have en8 : IntKind.u8.wrap (n : Int) = (n : Int) := by rw [IntKind.wrap_u8]; omega
  have lZ2 : Hid (Z2 < 18446744073709551616) := Lib.hid (by omega)
  have HZ2 := Lib.hid hZ2
  clear hZ1 hZ2
  go_enter Tryd.func22, Tryd.ntmps22
  go_wp2
  go_quiet (fail)
  have B0 : Hid (BO w (w.alloc (.cells #[.int .i64 4, .int .u32 (so : Int), .int .u32 0, .int .u64 0, .int .u32 0, .int .u32 0, .int .u32 0, .slice A 0 a, .slice B 0 b', .slice C n c', .slice D 0 d, .slice E 0 e, .int .u64 (ra : Int)] 50)) none 0 0 []) := Lib.hid ((BO.nil w).below ((Below.refl _ _).alloc (Nat.le_refl _) _))
  have B1 : Hid (BO w ((w.alloc (.cells #[.int .i64 4, .int .u32 (so : Int), .int .u32 0, .int .u64 0, .int .u32 0, .int .u32 0, .int .u32 0, .slice A 0 a, .slice B 0 b', .slice C n c', .slice D 0 d, .slice E 0 e, .int .u64 (ra : Int)] 50)).drewN nq) none 0 0 []) := Lib.hid (B0.out.below (below_drewN (Below.refl _ _) nq))
  have S1 : Hid (OneS w [.int .i64 4, .int .u32 (so : Int), .int .u32 0, .int .u64 0, .int .u32 0, .int .u32 0, .int .u32 0, .slice A 0 a, .slice B 0 b', .slice C n c', .slice D 0 d, .slice E 0 e, .int .u64 (ra : Int)] ((w.alloc (.cells #[.int .i64 4, .int .u32 (so : Int), .int .u32 0, .int .u64 0, .int .u32 0, .int .u32 0, .int .u32 0, .slice A 0 a, .slice B 0 b', .slice C n c', .slice D 0 d, .slice E 0 e, .int .u64 (ra : Int)] 50)).drewN nq)) := Lib.hid ⟨below_drewN ((Below.refl _ _).alloc (Nat.le_refl _) _) nq, (BlkV.new w 50 [.int .i64 4, .int .u32 (so : Int), .int .u32 0, .int .u64 0, .int .u32 0, .int .u32 0, .int .u32 0, .slice A 0 a, .slice B 0 b', .slice C n c', .slice D 0 d, .slice E 0 e, .int .u64 (ra : Int)]).below (below_drewN (Below.refl _ _) nq) (BlkV.new w 50 [.int .i64 4, .int .u32 (so : Int), .int .u32 0, .int .u64 0, .int .u32 0, .int .u32 0, .int .u32 0, .slice A 0 a, .slice B 0 b', .slice C n c', .slice D 0 d, .slice E 0 e, .int .u64 (ra : Int)]).lt⟩
  generalize (w.alloc (.cells #[.int .i64 4, .int .u32 (so : Int), .int .u32 0, .int .u64 0, .int .u32 0, .int .u32 0, .int .u32 0, .slice A 0 a, .slice B 0 b', .slice C n c', .slice D 0 d, .slice E 0 e, .int .u64 (ra : Int)] 50)).drewN nq = w1 at B1 S1 ⊢
  clear B0
  have B1B := Lib.hid B1.out.2
  have B1R := Lib.hid B1.out.rd
  have qw1_0 : w1.cell? ⟨w.heap.size, 0, none⟩ = some (.int .i64 4) := (S1.out.2.cell 0).trans rfl; have qw1_1 : w1.cell? ⟨w.heap.size, 1, none⟩ = some (.int .u32 (so : Int)) := (S1.out.2.cell 1).trans rfl; have qw1_7 : w1.cell? ⟨w.heap.size, 7, none⟩ = some (.slice A 0 a) := (S1.out.2.cell 7).trans rfl; have qw1_8 : w1.cell? ⟨w.heap.size, 8, none⟩ = some (.slice B 0 b') := (S1.out.2.cell 8).trans rfl; have qw1_9 : w1.cell? ⟨w.heap.size, 9, none⟩ = some (.slice C n c') := (S1.out.2.cell 9).trans rfl
  go_wp2_with (first
    | (go_at_call 35; ((with_reducible refine (rput11 w _ none 0 0 4 _ 4 so _ _ (by omega) (by omega) (by omega) B1B.out B1R.out (by omega) (by omega) (by omega) (by omega)).mono ?_); rintro e9 w2 ⟨A2, c2, rfl, hbo, hb⟩; have B2 := Lib.hid hbo; have B2B := Lib.hid hbo.2; have B2R := Lib.hid hbo.rd; have S2 := Lib.hid (S1.out.on hb); have qw2_0 : w2.cell? ⟨w.heap.size, 0, none⟩ = some (.int .i64 4) := (S2.out.2.cell 0).trans rfl; have qw2_1 : w2.cell? ⟨w.heap.size, 1, none⟩ = some (.int .u32 (so : Int)) := (S2.out.2.cell 1).trans rfl; have qw2_7 : w2.cell? ⟨w.heap.size, 7, none⟩ = some (.slice A 0 a) := (S2.out.2.cell 7).trans rfl; have qw2_8 : w2.cell? ⟨w.heap.size, 8, none⟩ = some (.slice B 0 b') := (S2.out.2.cell 8).trans rfl; have qw2_9 : w2.cell? ⟨w.heap.size, 9, none⟩ = some (.slice C n c') := (S2.out.2.cell 9).trans rfl; clear hbo hb))
    | (go_at_call 35; ((with_reducible refine (rput11 w _ A2 4 c2 8 _ 4 0 _ _ (by omega) (by omega) (by omega) B2B.out B2R.out (by omega) (by omega) (by omega) (by omega)).mono ?_); rintro e9 w3 ⟨A3, c3, rfl, hbo, hb⟩; have B3 := Lib.hid hbo; have B3B := Lib.hid hbo.2; have B3R := Lib.hid hbo.rd; have S3 := Lib.hid (S2.out.on hb); have qw3_0 : w3.cell? ⟨w.heap.size, 0, none⟩ = some (.int .i64 4) := (S3.out.2.cell 0).trans rfl; have qw3_1 : w3.cell? ⟨w.heap.size, 1, none⟩ = some (.int .u32 (so : Int)) := (S3.out.2.cell 1).trans rfl; have qw3_7 : w3.cell? ⟨w.heap.size, 7, none⟩ = some (.slice A 0 a) := (S3.out.2.cell 7).trans rfl; have qw3_8 : w3.cell? ⟨w.heap.size, 8, none⟩ = some (.slice B 0 b') := (S3.out.2.cell 8).trans rfl; have qw3_9 : w3.cell? ⟨w.heap.size, 9, none⟩ = some (.slice C n c') := (S3.out.2.cell 9).trans rfl; clear hbo hb))
    | (at_builtin; refine wpList_append_rd _ rfl (.tmp 133) (.tmp 138) rfl Tryd.underlying25 u8_info w.heap.size (.slice A3 8 c3) 8 (([] ++ beb 4 so) ++ beb 4 0) rfl (B3.out.1.alloc _) (some ⟨w3.heap.size, 0, none⟩) 5 5 (letB ++ beb 1 n) rfl (rd_five w3 n (by omega)) (by omega) (by have := B3B.out.size; simp; omega) ?_; intro v9 w4 hown hg _; obtain ⟨A4, c4, hv⟩ := own_formN hown; subst hv; have B4 := Lib.hid ((B3.out.below ((Below.refl _ _).alloc (Nat.le_refl _) _)).more hown hg); have B4B := Lib.hid B4.out.2; have B4R := Lib.hid B4.out.rd; have S4 : Hid (OneS w [.int .i64 4, .int .u32 (so : Int), .int .u32 0, .int .u64 0, .int .u32 0, .int .u32 0, .int .u32 0, .slice A 0 a, .slice B 0 b', .slice C n c', .slice D 0 d, .slice E 0 e, .int .u64 (ra : Int)] w4) := Lib.hid ⟨B4.out.2, ((S3.out.2.alloc (.cells #[.int .u8 82, .int .u8 69, .int .u8 77, .int .u8 66, .int .u8 (n : Int)] 5)).grown hg (fun e => own_ne B3.out.1 S3.out.2 (by decide) e.symm))⟩; have qw4_0 : w4.cell? ⟨w.heap.size, 0, none⟩ = some (.int .i64 4) := (S4.out.2.cell 0).trans rfl; have qw4_1 : w4.cell? ⟨w.heap.size, 1, none⟩ = some (.int .u32 (so : Int)) := (S4.out.2.cell 1).trans rfl; have qw4_7 : w4.cell? ⟨w.heap.size, 7, none⟩ = some (.slice A 0 a) := (S4.out.2.cell 7).trans rfl; have qw4_8 : w4.cell? ⟨w.heap.size, 8, none⟩ = some (.slice B 0 b') := (S4.out.2.cell 8).trans rfl; have qw4_9 : w4.cell? ⟨w.heap.size, 9, none⟩ = some (.slice C n c') := (S4.out.2.cell 9).trans rfl; clear hown hg)
    | (go_at_call 35; ((with_reducible refine (rput11 w _ A4 13 c4 16 _ 3 Z2 _ _ (by omega) (by omega) (by omega) B4B.out B4R.out (by omega) (by omega) lZ2.out (by omega)).mono ?_); rintro e9 w5 ⟨A5, c5, rfl, hbo, hb⟩; have B5 := Lib.hid hbo; have B5B := Lib.hid hbo.2; have B5R := Lib.hid hbo.rd; have S5 := Lib.hid (S4.out.on hb); have qw5_0 : w5.cell? ⟨w.heap.size, 0, none⟩ = some (.int .i64 4) := (S5.out.2.cell 0).trans rfl; have qw5_1 : w5.cell? ⟨w.heap.size, 1, none⟩ = some (.int .u32 (so : Int)) := (S5.out.2.cell 1).trans rfl; have qw5_7 : w5.cell? ⟨w.heap.size, 7, none⟩ = some (.slice A 0 a) := (S5.out.2.cell 7).trans rfl; have qw5_8 : w5.cell? ⟨w.heap.size, 8, none⟩ = some (.slice B 0 b') := (S5.out.2.cell 8).trans rfl; have qw5_9 : w5.cell? ⟨w.heap.size, 9, none⟩ = some (.slice C n c') := (S5.out.2.cell 9).trans rfl; clear hbo hb)))
  obtain ⟨T0, hT0⟩ : ∃ T0, T0 = (((([] ++ beb 4 so) ++ beb 4 0) ++ (letB ++ beb 1 n)) ++ beb 3 Z2) := ⟨_, rfl⟩
  have HT0 := Lib.hid hT0
  have B5N : Hid (BO w w5 A5 16 c5 T0) := Lib.hid (by rw [HT0.out]; exact B5.out)
  clear hT0
  go_loopw [7, 12] (fun v i wx => v = .slice A5 16 c5 ∧ i = .int .i64 0 ∧ wx = w5) (fun _ _ _ => 0)
  case atStart => exact ⟨rfl, rfl, rfl⟩
  case round =>
    obtain ⟨rfl, rfl, rfl⟩ := hrel
    have qwr_0 : wr.cell? ⟨w.heap.size, 0, none⟩ = some (.int .i64 4) := (S5.out.2.cell 0).trans rfl; have qwr_1 : wr.cell? ⟨w.heap.size, 1, none⟩ = some (.int .u32 (so : Int)) := (S5.out.2.cell 1).trans rfl; have qwr_7 : wr.cell? ⟨w.heap.size, 7, none⟩ = some (.slice A 0 a) := (S5.out.2.cell 7).trans rfl; have qwr_8 : wr.cell? ⟨w.heap.size, 8, none⟩ = some (.slice B 0 b') := (S5.out.2.cell 8).trans rfl; have qwr_9 : wr.cell? ⟨w.heap.size, 9, none⟩ = some (.slice C n c') := (S5.out.2.cell 9).trans rfl
    go_wp2
    go_loopw [7, 14] (fun v i wx => v = .slice A5 16 c5 ∧ i = .int .i64 0 ∧ wx = wr) (fun _ _ _ => 0)
    case atStart => exact ⟨rfl, rfl, rfl⟩
    case round =>
      obtain ⟨rfl, rfl, rfl⟩ := hrel
      have qwr_0 : wr.cell? ⟨w.heap.size, 0, none⟩ = some (.int .i64 4) := (S5.out.2.cell 0).trans rfl; have qwr_1 : wr.cell? ⟨w.heap.size, 1, none⟩ = some (.int .u32 (so : Int)) := (S5.out.2.cell 1).trans rfl; have qwr_7 : wr.cell? ⟨w.heap.size, 7, none⟩ = some (.slice A 0 a) := (S5.out.2.cell 7).trans rfl; have qwr_8 : wr.cell? ⟨w.heap.size, 8, none⟩ = some (.slice B 0 b') := (S5.out.2.cell 8).trans rfl; have qwr_9 : wr.cell? ⟨w.heap.size, 9, none⟩ = some (.slice C n c') := (S5.out.2.cell 9).trans rfl
      go_wp2
      go_loopw [7, 15] (fun v i wx => ∃ (k M : Nat) (A' : Option Addr) (c2 : Nat), k ≤ n ∧ M ≤ 16 + 4 * k ∧ i = .int .i64 k ∧ v = .slice A' M c2 ∧ Hid (BO w wx A' M c2 (T0 ++ (L.take k).flatMap (beb 4))) ∧ Hid (OneS w [.int .i64 4, .int .u32 (so : Int), .int .u32 0, .int .u64 0, .int .u32 0, .int .u32 0, .int .u32 0, .slice A 0 a, .slice B 0 b', .slice C n c', .slice D 0 d, .slice E 0 e, .int .u64 (ra : Int)] wx)) (fun _ i _ => n - (intOf i).toNat)
      case atStart => exact ⟨0, 16, A5, c5, by omega, by omega, rfl, rfl, Lib.hid (by simpa using B5N.out), S5⟩
      case round =>
        obtain ⟨k, M, A20, c20, hk, hM, rfl, rfl, HL, HS⟩ := hrel
        have HLB := Lib.hid HL.out.2
        have qwr_0 : wr.cell? ⟨w.heap.size, 0, none⟩ = some (.int .i64 4) := (HS.out.2.cell 0).trans rfl; have qwr_1 : wr.cell? ⟨w.heap.size, 1, none⟩ = some (.int .u32 (so : Int)) := (HS.out.2.cell 1).trans rfl; have qwr_7 : wr.cell? ⟨w.heap.size, 7, none⟩ = some (.slice A 0 a) := (HS.out.2.cell 7).trans rfl; have qwr_8 : wr.cell? ⟨w.heap.size, 8, none⟩ = some (.slice B 0 b') := (HS.out.2.cell 8).trans rfl; have qwr_9 : wr.cell? ⟨w.heap.size, 9, none⟩ = some (.slice C n c') := (HS.out.2.cell 9).trans rfl
        by_cases hkn : k < n
        · have hkl : k < L.length := by rw [HN.out]; exact hkn
          obtain ⟨gb, go, rfl, ga⟩ := RL.out.at_ hkl
          have hxf := HF.out _ (List.getElem_mem hkl)
          have HV := Lib.hid (flat_snoc (beb 4) hkl)
          have HG := Lib.hid ga
          obtain ⟨y, hy⟩ : ∃ y, y = L[k] := ⟨_, rfl⟩
          rw [← hy] at hxf HV HG
          obtain ⟨T1, hT1⟩ : ∃ T1, T1 = T0 ++ (L.take k).flatMap (beb 4) := ⟨_, rfl⟩
          rw [← hT1] at HL
          have HV2 : Hid (T0 ++ (L.take (k + 1)).flatMap (beb 4) = T1 ++ (beb 4) y) := Lib.hid (by rw [HV.out, hT1, List.append_assoc])
          have HLR := Lib.hid HL.out.rd
          clear hy ga hT1 HV
          have hM6 : M ≤ 5000 := by omega
          have ew : IntKind.u64.wrap (y : Int) = (y : Int) := by rw [IntKind.wrap_u64]; omega
          have zy : wr.cell? ⟨gb, go + k, none⟩ = some (.int .u32 (y : Int)) := by have := HG.out wr HS.out.1 0 _ rfl; simpa using this
          go_wp2_with (go_at_call 35; ((with_reducible refine (rput11 w _ A20 M c20 (M + 4) _ 4 y _ _ (by omega) (by omega) (by omega) HLB.out HLR.out (by omega) (by omega) (by omega) (by omega)).mono ?_); rintro e9 w30 ⟨A30, c30, rfl, hbo, hb⟩; have B30 := Lib.hid hbo; have S30 := Lib.hid (HS.out.on hb); clear hbo hb))
          go_roundw
          case rel => exact ⟨k + 1, M + 4, A30, c30, by omega, by omega, by go_num, rfl, Lib.hid (by rw [HV2.out]; exact B30.out), S30⟩
          case measure => simp [intOf]; omega
        · obtain rfl : n = k := by omega
          rw [show L.take n = L by rw [← HN.out, List.take_length]] at HL
          clear hk hkn
          obtain ⟨T3, hT3⟩ : ∃ T3, T3 = (T0 ++ L.flatMap (beb 4)) := ⟨_, rfl⟩
          have HT3 := Lib.hid hT3
          have HLN : Hid (BO w wr A20 M c20 T3) := Lib.hid (by rw [HT3.out]; exact HL.out)
          clear hT3
          obtain ⟨MM, hMM⟩ : ∃ MM, MM = M := ⟨_, rfl⟩
          have hMl : MM ≤ 5000 := by omega
          have HB9 : Hid (BO w wr A20 MM c20 T3) := Lib.hid (by rw [hMM]; exact HLN.out)
          obtain ⟨Y, hY⟩ : ∃ Y, Y = 128 + 15 := ⟨_, rfl⟩
          have HTB : Hid (T3 = bRE so L m x) := Lib.hid (by have h1 := HT0.out; have h3 := HT3.out; rw [h3, h1, HZ2.out]; simp [bRE, HN.out])
          have HY := Lib.hid hY
          have lY : Y < 256 := by omega
          have et1 : Hid True := Lib.hid trivial
          obtain ⟨Z9, hZ9⟩ : ∃ Z9, Z9 = MM / 4 := ⟨_, rfl⟩
          have et3 : IntKind.i64.wrap ((MM : Int) / 4) = (Z9 : Int) := by rw [IntKind.wrap_i64]; omega
          have et4 : IntKind.u64.wrap (Z9 : Int) = (Z9 : Int) := by rw [IntKind.wrap_u64]; omega
          have et5 : (MM : Int) / 4 = (Z9 : Int) := by omega
          have et6 : IntKind.i64.wrap (Z9 : Int) = (Z9 : Int) := by rw [IntKind.wrap_i64]; omega
          have HZ9 := Lib.hid hZ9
          have HMM := Lib.hid hMM
          have lZ9 : Z9 < 5000 := by omega
          rw [← hMM] at ⊢
          clear hY hZ9 hMM
          have HB9R := Lib.hid HB9.out.rd
          have HB9B := Lib.hid HB9.out.2
          go_wp2_with (first
            | (go_at_call 35; ((with_reducible refine (rput11 w _ (some ⟨wr.heap.size, 0, none⟩) 2 2 4 _ 2 Z9 _ _ (by omega) (by omega) (by omega) (Below.alloc HB9B.out HB9B.out.size _) (rd_tq wr Y 206 143 206 (by have hy := HY.out; omega) (by omega) (by omega) (by omega)) (by omega) (by omega) (by omega) (by omega)).mono ?_); rintro e9 w40 ⟨A40, c40, rfl, hbo, hb⟩; have B40 := Lib.hid hbo; have R40 := Lib.hid (HB9R.out.below (((Below.refl wr.heap.size wr).alloc (Nat.le_refl _) (.cells #[.int .u8 143, .int .u8 206] 5)).trans (hb.mono ((Below.refl wr.heap.size wr).alloc (Nat.le_refl _) (.cells #[.int .u8 143, .int .u8 206] 5)).size))); clear hbo hb))
            | (at_builtin; refine wpList_append_rd _ rfl (.tmp 262) (.tmp 263) rfl Tryd.underlying25 u8_info w.heap.size (.slice A40 4 c40) 4 _ rfl B40.out.1 A20 MM c20 T3 rfl R40.out (by omega) B40.out.2.size ?_; intro v41 w41 hown hg _; obtain ⟨A41, c41, hv⟩ := own_formN hown; subst hv; have B41 := Lib.hid (B40.out.more hown hg); clear hown hg))
          go_ret
          have hfin : wr1 (mkRE 4 so L ra) = beb 1 Y ++ beb 1 206 ++ beb 2 Z9 ++ T3 := by unfold wr1; rw [HQ.out, HTY.out, HBD.out, ← HTB.out, HB9.out.len, ← HY.out, ← HZ9.out]; simp only [List.append_assoc]
          have hl : 4 + MM = (wr1 (mkRE 4 so L ra)).length := by rw [hfin]; exact B41.out.len.symm
          exact ⟨A41, c41, 4 + MM, hl, rfl, by rw [hfin]; exact B41.out.rd, B41.out.2⟩
end Go.Proofs.YtacaempcbdekaaaDoor
