/- What the document's answer for layer 11 tells of a packet's bytes: kind 202. No statement is proved here. -/
import Derived.Test.YtacaempcbdekaaaDoorZRtcpO1
namespace Go.Proofs.YtacaempcbdekaaaDoor
open Go.RowKit
set_option linter.unusedVariables false

set_option maxRecDepth 100000 in
set_option maxHeartbeats 4000000 in
theorem one_202 (cs : List Value) (L : List (Nat × List UInt8)) (n : Nat) (m1 x1 : Int) (w : World) (h : CtRd w cs (mkSD 202 L)) (l0 : L.length = n) (hn : n ≤ 16) (fl : ∀ y ∈ L, y.1 < 4294967296 ∧ nameP (txt y.2)) :
    Calls Tryd.prog 22 #[.agg cs.toArray, .int .u64 m1, .int .i64 x1] w (OneTold (mkSD 202 L) w) := by
  obtain ⟨A, a, B, b', C, c', D, d, E, e, h0, r7, r8, r9, r10, r11⟩ := h
  subst h0
  unfold ctlC
  simp only [mkSD, List.length_nil, l0] at r7 r8 r9 r10 r11 ⊢
  change Calls Tryd.prog 22 #[.agg #[.int .i64 202, .int .u32 0, .int .u32 0, .int .u64 0, .int .u32 0, .int .u32 0, .int .u32 0, .slice A 0 a, .slice B n b', .slice C 0 c', .slice D 0 d, .slice E 0 e, .int .u64 0], .int .u64 m1, .int .i64 x1] w (OneTold (mkSD 202 L) w)
  have RL := Lib.hid r8
  have HN := Lib.hid l0
  have HF := Lib.hid fl
  have HBD : Hid (bodyC (mkSD 202 L) = bSD L) := Lib.hid (by simp [bodyC, mkSD])
  have HQ : Hid (cntC (mkSD 202 L) = n) := Lib.hid (by simp [cntC, mkSD, l0])
  have HTY : Hid (typC (mkSD 202 L) = 202) := Lib.hid (by simp [typC, mkSD])
  have en : IntKind.i64.wrap (n : Int) = (n : Int) := by rw [IntKind.wrap_i64]; omega
  clear r7 r8 r9 r10 r11 l0 fl
  go_enter Tryd.func22, Tryd.ntmps22
  go_wp2
  go_quiet (fail)
  have B0 : Hid (BO w (w.alloc (.cells #[.int .i64 202, .int .u32 0, .int .u32 0, .int .u64 0, .int .u32 0, .int .u32 0, .int .u32 0, .slice A 0 a, .slice B n b', .slice C 0 c', .slice D 0 d, .slice E 0 e, .int .u64 0] 50)) none 0 0 []) := Lib.hid ((BO.nil w).below ((Below.refl _ _).alloc (Nat.le_refl _) _))
  have B1 : Hid (BO w ((w.alloc (.cells #[.int .i64 202, .int .u32 0, .int .u32 0, .int .u64 0, .int .u32 0, .int .u32 0, .int .u32 0, .slice A 0 a, .slice B n b', .slice C 0 c', .slice D 0 d, .slice E 0 e, .int .u64 0] 50)).drewN nq) none 0 0 []) := Lib.hid (B0.out.below (below_drewN (Below.refl _ _) nq))
  have S1 : Hid (OneS w [.int .i64 202, .int .u32 0, .int .u32 0, .int .u64 0, .int .u32 0, .int .u32 0, .int .u32 0, .slice A 0 a, .slice B n b', .slice C 0 c', .slice D 0 d, .slice E 0 e, .int .u64 0] ((w.alloc (.cells #[.int .i64 202, .int .u32 0, .int .u32 0, .int .u64 0, .int .u32 0, .int .u32 0, .int .u32 0, .slice A 0 a, .slice B n b', .slice C 0 c', .slice D 0 d, .slice E 0 e, .int .u64 0] 50)).drewN nq)) := Lib.hid ⟨below_drewN ((Below.refl _ _).alloc (Nat.le_refl _) _) nq, (BlkV.new w 50 [.int .i64 202, .int .u32 0, .int .u32 0, .int .u64 0, .int .u32 0, .int .u32 0, .int .u32 0, .slice A 0 a, .slice B n b', .slice C 0 c', .slice D 0 d, .slice E 0 e, .int .u64 0]).below (below_drewN (Below.refl _ _) nq) (BlkV.new w 50 [.int .i64 202, .int .u32 0, .int .u32 0, .int .u64 0, .int .u32 0, .int .u32 0, .int .u32 0, .slice A 0 a, .slice B n b', .slice C 0 c', .slice D 0 d, .slice E 0 e, .int .u64 0]).lt⟩
  generalize (w.alloc (.cells #[.int .i64 202, .int .u32 0, .int .u32 0, .int .u64 0, .int .u32 0, .int .u32 0, .int .u32 0, .slice A 0 a, .slice B n b', .slice C 0 c', .slice D 0 d, .slice E 0 e, .int .u64 0] 50)).drewN nq = w1 at B1 S1 ⊢
  clear B0
  have B1B := Lib.hid B1.out.2
  have B1R := Lib.hid B1.out.rd
  have qw1_0 : w1.cell? ⟨w.heap.size, 0, none⟩ = some (.int .i64 202) := (S1.out.2.cell 0).trans rfl; have qw1_7 : w1.cell? ⟨w.heap.size, 7, none⟩ = some (.slice A 0 a) := (S1.out.2.cell 7).trans rfl; have qw1_8 : w1.cell? ⟨w.heap.size, 8, none⟩ = some (.slice B n b') := (S1.out.2.cell 8).trans rfl; have qw1_9 : w1.cell? ⟨w.heap.size, 9, none⟩ = some (.slice C 0 c') := (S1.out.2.cell 9).trans rfl
  go_wp2
  obtain ⟨T0, hT0⟩ : ∃ T0, T0 = [] := ⟨_, rfl⟩
  have HT0 := Lib.hid hT0
  have B1N : Hid (BO w w1 none 0 0 T0) := Lib.hid (by rw [HT0.out]; exact B1.out)
  clear hT0
  go_loopw [7, 12] (fun v i wx => v = .slice none 0 0 ∧ i = .int .i64 0 ∧ wx = w1) (fun _ _ _ => 0)
  case atStart => exact ⟨rfl, rfl, rfl⟩
  case round =>
    obtain ⟨rfl, rfl, rfl⟩ := hrel
    have qwr_0 : wr.cell? ⟨w.heap.size, 0, none⟩ = some (.int .i64 202) := (S1.out.2.cell 0).trans rfl; have qwr_7 : wr.cell? ⟨w.heap.size, 7, none⟩ = some (.slice A 0 a) := (S1.out.2.cell 7).trans rfl; have qwr_8 : wr.cell? ⟨w.heap.size, 8, none⟩ = some (.slice B n b') := (S1.out.2.cell 8).trans rfl; have qwr_9 : wr.cell? ⟨w.heap.size, 9, none⟩ = some (.slice C 0 c') := (S1.out.2.cell 9).trans rfl
    go_wp2
    go_loopw [7, 14] (fun v i wx => ∃ (k M : Nat) (A' : Option Addr) (c2 : Nat), k ≤ n ∧ M ≤ 0 + 26 * k ∧ M % 4 = 0 ∧ i = .int .i64 k ∧ v = .slice A' M c2 ∧ Hid (BO w wx A' M c2 (T0 ++ (L.take k).flatMap namB)) ∧ Hid (OneS w [.int .i64 202, .int .u32 0, .int .u32 0, .int .u64 0, .int .u32 0, .int .u32 0, .int .u32 0, .slice A 0 a, .slice B n b', .slice C 0 c', .slice D 0 d, .slice E 0 e, .int .u64 0] wx)) (fun _ i _ => n - (intOf i).toNat)
    case atStart => exact ⟨0, 0, none, 0, by omega, by omega, by omega, rfl, rfl, Lib.hid (by simpa using B1N.out), S1⟩
    case round =>
      obtain ⟨k, M, A20, c20, hk, hM, hM4, rfl, rfl, HL, HS⟩ := hrel
      have HLB := Lib.hid HL.out.2
      have qwr_0 : wr.cell? ⟨w.heap.size, 0, none⟩ = some (.int .i64 202) := (HS.out.2.cell 0).trans rfl; have qwr_7 : wr.cell? ⟨w.heap.size, 7, none⟩ = some (.slice A 0 a) := (HS.out.2.cell 7).trans rfl; have qwr_8 : wr.cell? ⟨w.heap.size, 8, none⟩ = some (.slice B n b') := (HS.out.2.cell 8).trans rfl; have qwr_9 : wr.cell? ⟨w.heap.size, 9, none⟩ = some (.slice C 0 c') := (HS.out.2.cell 9).trans rfl
      by_cases hkn : k < n
      · have hkl : k < L.length := by rw [HN.out]; exact hkn
        obtain ⟨gb, go, rfl, ga⟩ := RL.out.at_ hkl
        have hxf := HF.out _ (List.getElem_mem hkl)
        have HV := Lib.hid (flat_snoc namB hkl)
        have HG := Lib.hid ga
        obtain ⟨y, hy⟩ : ∃ y, y = L[k] := ⟨_, rfl⟩
        rw [← hy] at hxf HV HG
        obtain ⟨T1, hT1⟩ : ∃ T1, T1 = T0 ++ (L.take k).flatMap namB := ⟨_, rfl⟩
        rw [← hT1] at HL
        have HV2 : Hid (T0 ++ (L.take (k + 1)).flatMap namB = T1 ++ namB y) := Lib.hid (by rw [HV.out, hT1, List.append_assoc])
        have HLR := Lib.hid HL.out.rd
        clear hy ga hT1 HV
        have hM6 : M ≤ 5000 := by omega
        obtain ⟨y0, y1⟩ := y
        obtain ⟨hx0, hnm⟩ := hxf
        simp only at hx0 hnm
        have ew20 : IntKind.u64.wrap (y0 : Int) = (y0 : Int) := by rw [IntKind.wrap_u64]; omega
        have hsz1 := size_txt y1
        have l2 : y1.length ≤ 16 := by have := hnm.2.1; omega
        clear hnm
        obtain ⟨N, hN⟩ : ∃ N, N = y1.length := ⟨_, rfl⟩
        rw [← hN] at hsz1 l2
        have ew21 : IntKind.u8.wrap (N : Int) = (N : Int) := by rw [IntKind.wrap_u8]; omega
        have HN2 := Lib.hid hN
        clear hN
        have z0 : wr.cell? ⟨gb, go + k * 2, none⟩ = some (.int .u32 (y0 : Int)) := by have := HG.out wr HS.out.1 0 _ rfl; simpa using this
        go_wp2_with (first
          | (go_at_call 35; ((with_reducible refine (rput11 w _ A20 M c20 (M + 4) _ 4 y0 _ _ (by omega) (by omega) (by omega) HLB.out HLR.out (by omega) (by omega) (by omega) (by omega)).mono ?_); rintro e9 w22 ⟨A22, c22, rfl, hbo, hb⟩; have B22 := Lib.hid hbo; have S22 := Lib.hid (HS.out.on hb); have zw22 : w22.cell? ⟨gb, go + k * 2 + 1, none⟩ = some (.string (txt y1)) := (by have := HG.out w22 S22.out.1 1 _ rfl; simpa using this); have xw22 : w22.cell? ⟨w.heap.size, 8, none⟩ = some (.slice (some ⟨gb, go, none⟩) n b') := (S22.out.2.cell 8).trans rfl; clear hbo hb))
          | (at_builtin; refine wpList_append_rd _ rfl (.tmp 208) (.tmp 217) rfl Tryd.underlying25 u8_info w.heap.size (.slice A22 (M + 4) c22) (M + 4) (T1 ++ beb 4 y0) rfl (B22.out.1.alloc _) (some ⟨w22.heap.size, 0, none⟩) 2 2 (beb 1 1 ++ beb 1 N) rfl (rd_two w22 N (by omega)) (by omega) (by have := B22.out.2.size; simp; omega) ?_; intro v3 w23 hown3 hg3 _; obtain ⟨A23, c23, hv3⟩ := own_formN hown3; subst hv3; have B23 := Lib.hid ((B22.out.below ((Below.refl _ _).alloc (Nat.le_refl _) _)).more hown3 hg3); have S23 : Hid (OneS w [.int .i64 202, .int .u32 0, .int .u32 0, .int .u64 0, .int .u32 0, .int .u32 0, .int .u32 0, .slice A 0 a, .slice (some ⟨gb, go, none⟩) n b', .slice C 0 c', .slice D 0 d, .slice E 0 e, .int .u64 0] w23) := Lib.hid ⟨B23.out.2, (S22.out.2.alloc (.cells #[.int .u8 1, .int .u8 (N : Int)] 5)).grown hg3 (fun e => own_ne B22.out.1 S22.out.2 (by decide) e.symm)⟩; have zw23 : w23.cell? ⟨gb, go + k * 2 + 1, none⟩ = some (.string (txt y1)) := (by have := HG.out w23 S23.out.1 1 _ rfl; simpa using this); have xw23 : w23.cell? ⟨w.heap.size, 8, none⟩ = some (.slice (some ⟨gb, go, none⟩) n b') := (S23.out.2.cell 8).trans rfl; clear hown3 hg3)
          | (at_builtin; refine wpList_app_str rfl (.tmp 219) (.tmp 225) rfl w A23 (M + 6) c23 _ y1 rfl B23.out rfl (by omega) (by have := HN2.out; omega) ?_; intro A24 c24 w24 hb4 hx4; (try rw [← HN2.out] at hb4); (try rw [← HN2.out] at hx4); rw [← HN2.out]; have B24 := Lib.hid hb4; have S24 : Hid (OneS w [.int .i64 202, .int .u32 0, .int .u32 0, .int .u64 0, .int .u32 0, .int .u32 0, .int .u32 0, .slice A 0 a, .slice (some ⟨gb, go, none⟩) n b', .slice C 0 c', .slice D 0 d, .slice E 0 e, .int .u64 0] w24) := Lib.hid ⟨B24.out.2, S23.out.2.grown hx4 (fun e => own_ne B23.out.1 S23.out.2 (by decide) e.symm)⟩; clear hb4 hx4)
          | (at_builtin; refine wpList_append_rd _ rfl (.tmp 227) (.tmp 228) rfl Tryd.underlying25 u8_info w.heap.size (.slice A24 (M + 6 + N) c24) (M + 6 + N) _ rfl (B24.out.1.alloc _) (some ⟨w24.heap.size, 0, none⟩) 1 1 [0] rfl (rd_zero w24) (by omega) (by have := B24.out.2.size; simp; omega) ?_; intro v5 w25 hown5 hg5 _; obtain ⟨A25, c25, hv5⟩ := own_formN hown5; subst hv5; have B25 := Lib.hid ((B24.out.below ((Below.refl _ _).alloc (Nat.le_refl _) _)).more hown5 hg5); have S25 : Hid (OneS w [.int .i64 202, .int .u32 0, .int .u32 0, .int .u64 0, .int .u32 0, .int .u32 0, .int .u32 0, .slice A 0 a, .slice (some ⟨gb, go, none⟩) n b', .slice C 0 c', .slice D 0 d, .slice E 0 e, .int .u64 0] w25) := Lib.hid ⟨B25.out.2, (S24.out.2.alloc (.cells #[.int .u8 0] 5)).grown hg5 (fun e => own_ne B24.out.1 S24.out.2 (by decide) e.symm)⟩; clear hown5 hg5))
        obtain ⟨T2, hT2⟩ : ∃ T2, T2 = T1 ++ beb 4 y0 ++ (beb 1 1 ++ beb 1 N) ++ y1 := ⟨_, rfl⟩
        rw [← hT2] at B25
        have HT2 := Lib.hid hT2
        clear hT2
        obtain ⟨Z, hZ⟩ : ∃ Z, Z = zb N := ⟨_, rfl⟩
        have HZ := Lib.hid hZ
        have hzm : (6 + N + Z) % 4 = 0 ∧ 1 ≤ Z ∧ Z ≤ 4 := by rw [hZ]; unfold zb; omega
        clear hZ
        go_loopw [7] (fun v wx => ∃ (z : Nat) (A' : Option Addr) (c2 : Nat), 1 ≤ z ∧ z ≤ Z ∧ v = .slice A' (M + 6 + N + z) c2 ∧ Hid (BO w wx A' (M + 6 + N + z) c2 (T2 ++ List.replicate z 0)) ∧ Hid (OneS w [.int .i64 202, .int .u32 0, .int .u32 0, .int .u64 0, .int .u32 0, .int .u32 0, .int .u32 0, .slice A 0 a, .slice (some ⟨gb, go, none⟩) n b', .slice C 0 c', .slice D 0 d, .slice E 0 e, .int .u64 0] wx)) (fun v _ => M + 6 + N + Z - lenOf v)
        case atStart => exact ⟨1, A25, c25, by omega, by omega, rfl, B25, S25⟩
        case round =>
          obtain ⟨z, A26, c26, hz1, hz2, rfl, HL6, HS6⟩ := hrel
          by_cases hzz : z < Z
          · have hmod : 0 < (((M + 6 + N + z) % 4 : Nat) : Int) := by omega
            obtain ⟨R, hR⟩ : ∃ R, R = (M + 6 + N + z) % 4 := ⟨_, rfl⟩
            obtain ⟨U, hU⟩ : ∃ U, U = M + 6 + N + z := ⟨_, rfl⟩
            have hUU : U ≤ 6000 := by omega
            rw [← hU] at HL6 ⊢
            have hR0 : 0 < (U : Int) % 4 := by omega
            go_wp2_with (at_builtin; refine wpList_append_rd _ rfl (.tmp 234) (.tmp 235) rfl Tryd.underlying25 u8_info w.heap.size (.slice A26 U c26) U _ rfl (HL6.out.1.alloc _) (some ⟨wr.heap.size, 0, none⟩) 1 1 [0] rfl (rd_zero wr) (by omega) (by have := HL6.out.2.size; simp; omega) ?_; intro v7 w27 hown7 hg7 _; obtain ⟨A27, c27, hv7⟩ := own_formN hown7; subst hv7; have B27 := Lib.hid ((HL6.out.below ((Below.refl _ _).alloc (Nat.le_refl _) _)).more hown7 hg7); have S27 : Hid (OneS w [.int .i64 202, .int .u32 0, .int .u32 0, .int .u64 0, .int .u32 0, .int .u32 0, .int .u32 0, .slice A 0 a, .slice (some ⟨gb, go, none⟩) n b', .slice C 0 c', .slice D 0 d, .slice E 0 e, .int .u64 0] w27) := Lib.hid ⟨B27.out.2, (HS6.out.2.alloc (.cells #[.int .u8 0] 5)).grown hg7 (fun e => own_ne HL6.out.1 HS6.out.2 (by decide) e.symm)⟩; clear hown7 hg7)
            subst hU
            go_roundw
            case rel => exact ⟨z + 1, A27, c27, by omega, by omega, rfl, Lib.hid (by have := B27.out; rw [List.append_assoc, ← List.replicate_succ'] at this; exact this), S27⟩
            case measure => simp [lenOf]; omega
          · obtain rfl : z = Z := by omega
            have hmod : ((((M + 6 + N + z : Nat) : Int)) % 4) = 0 := by omega
            have hMz : (M + 6 + N + z) % 4 = 0 := by omega
            have hMw : M + 6 + N + z ≤ M + 26 := by omega
            obtain ⟨U, hU⟩ : ∃ U, U = M + 6 + N + z := ⟨_, rfl⟩
            have HUU : Hid (U % 4 = 0 ∧ U ≤ M + 26) := Lib.hid (by rw [hU]; exact ⟨hMz, hMw⟩)
            rw [← hU] at HL6 hmod ⊢
            clear hU hMz hMw hz1 hz2 hzz hzm
            go_wp2
            go_roundw
            case rel => exact ⟨k + 1, U, A26, c26, by omega, by have := HUU.out.2; omega, HUU.out.1, by go_num, rfl, Lib.hid (by rw [HV2.out]; have := HL6.out; rw [HT2.out, HN2.out, HZ.out, HN2.out] at this; simp only [namB, ← List.append_assoc] at this ⊢; exact this), HS6⟩
            case measure => simp [intOf]; omega
      · obtain rfl : n = k := by omega
        rw [show L.take n = L by rw [← HN.out, List.take_length]] at HL
        clear hk hkn
        go_wp2
        obtain ⟨T3, hT3⟩ : ∃ T3, T3 = (T0 ++ L.flatMap namB) := ⟨_, rfl⟩
        have HT3 := Lib.hid hT3
        have HLN : Hid (BO w wr A20 M c20 T3) := Lib.hid (by rw [HT3.out]; exact HL.out)
        clear hT3
        go_loopw [7, 15] (fun v i wx => v = .slice A20 M c20 ∧ i = .int .i64 0 ∧ wx = wr) (fun _ _ _ => 0)
        case atStart => exact ⟨rfl, rfl, rfl⟩
        case round =>
          obtain ⟨rfl, rfl, rfl⟩ := hrel
          have qwr_0 : wr.cell? ⟨w.heap.size, 0, none⟩ = some (.int .i64 202) := (HS.out.2.cell 0).trans rfl; have qwr_7 : wr.cell? ⟨w.heap.size, 7, none⟩ = some (.slice A 0 a) := (HS.out.2.cell 7).trans rfl; have qwr_8 : wr.cell? ⟨w.heap.size, 8, none⟩ = some (.slice B n b') := (HS.out.2.cell 8).trans rfl; have qwr_9 : wr.cell? ⟨w.heap.size, 9, none⟩ = some (.slice C 0 c') := (HS.out.2.cell 9).trans rfl
          obtain ⟨MM, hMM⟩ : ∃ MM, MM = M := ⟨_, rfl⟩
          have hMl : MM ≤ 5000 := by omega
          have HB9 : Hid (BO w wr A20 MM c20 T3) := Lib.hid (by rw [hMM]; exact HLN.out)
          obtain ⟨Y, hY⟩ : ∃ Y, Y = 128 + n := ⟨_, rfl⟩
          have HTB : Hid (T3 = bSD L) := Lib.hid (by have h1 := HT0.out; have h3 := HT3.out; rw [h3, h1]; simp [bSD])
          have HY := Lib.hid hY
          have lY : Y < 256 := by omega
          have et1 : IntKind.i64.wrap (128 + (n : Int)) = (Y : Int) := by rw [IntKind.wrap_i64]; omega
          have et2 : IntKind.u8.wrap (Y : Int) = (Y : Int) := by rw [IntKind.wrap_u8]; omega
          obtain ⟨Z9, hZ9⟩ : ∃ Z9, Z9 = MM / 4 := ⟨_, rfl⟩
          have et3 : IntKind.i64.wrap ((MM : Int) / 4) = (Z9 : Int) := by rw [IntKind.wrap_i64]; omega
          have et4 : IntKind.u64.wrap (Z9 : Int) = (Z9 : Int) := by rw [IntKind.wrap_u64]; omega
          have et5 : (MM : Int) / 4 = (Z9 : Int) := by omega
          have et6 : IntKind.i64.wrap (Z9 : Int) = (Z9 : Int) := by rw [IntKind.wrap_i64]; omega
          have HZ9 := Lib.hid hZ9
          have HMM := Lib.hid hMM
          have lZ9 : Z9 < 5000 := by omega
          rw [← hMM] at ⊢
          clear hY hZ9 hMM
          have HB9R := Lib.hid HB9.out.rd
          have HB9B := Lib.hid HB9.out.2
          go_wp2_with (first
            | (go_at_call 35; ((with_reducible refine (rput11 w _ (some ⟨wr.heap.size, 0, none⟩) 2 2 4 _ 2 Z9 _ _ (by omega) (by omega) (by omega) (Below.alloc HB9B.out HB9B.out.size _) (rd_tq wr Y 202 (Y : Int) 202 (by omega) (by omega) (by omega) (by omega)) (by omega) (by omega) (by omega) (by omega)).mono ?_); rintro e9 w40 ⟨A40, c40, rfl, hbo, hb⟩; have B40 := Lib.hid hbo; have R40 := Lib.hid (HB9R.out.below (((Below.refl wr.heap.size wr).alloc (Nat.le_refl _) (.cells #[.int .u8 (Y : Int), .int .u8 202] 5)).trans (hb.mono ((Below.refl wr.heap.size wr).alloc (Nat.le_refl _) (.cells #[.int .u8 (Y : Int), .int .u8 202] 5)).size))); clear hbo hb))
            | (at_builtin; refine wpList_append_rd _ rfl (.tmp 262) (.tmp 263) rfl Tryd.underlying25 u8_info w.heap.size (.slice A40 4 c40) 4 _ rfl B40.out.1 A20 MM c20 T3 rfl R40.out (by omega) B40.out.2.size ?_; intro v41 w41 hown hg _; obtain ⟨A41, c41, hv⟩ := own_formN hown; subst hv; have B41 := Lib.hid (B40.out.more hown hg); clear hown hg))
          go_ret
          have hfin : wr1 (mkSD 202 L) = beb 1 Y ++ beb 1 202 ++ beb 2 Z9 ++ T3 := by unfold wr1; rw [HQ.out, HTY.out, HBD.out, ← HTB.out, HB9.out.len, ← HY.out, ← HZ9.out]; simp only [List.append_assoc]
          have hl : 4 + MM = (wr1 (mkSD 202 L)).length := by rw [hfin]; exact B41.out.len.symm
          exact ⟨A41, c41, 4 + MM, hl, rfl, by rw [hfin]; exact B41.out.rd, B41.out.2⟩
end Go.Proofs.YtacaempcbdekaaaDoor
