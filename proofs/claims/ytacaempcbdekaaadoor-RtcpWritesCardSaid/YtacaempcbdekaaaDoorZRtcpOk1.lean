/- What the document's answer for layer 11 tells of a packet's bytes: kind 1. No statement is proved here. -/
import Derived.Test.YtacaempcbdekaaaDoorZRtcpO1
namespace Go.Proofs.YtacaempcbdekaaaDoor
open Go.RowKit
set_option linter.unusedVariables false

set_option maxRecDepth 100000 in
set_option maxHeartbeats 4000000 in
theorem one_1 (cs : List Value) (so me : Nat) (L : List (Nat × Nat)) (n : Nat) (m1 x1 : Int) (w : World) (h : CtRd w cs (mkNA 1 so me L)) (l0 : L.length = n) (hn : n ≤ 16) (f1 : so < 4294967296) (f2 : me < 4294967296) (fl : ∀ y ∈ L, y.1 < 65536 ∧ y.2 < 65536) :
    Calls Tryd.prog 22 #[.agg cs.toArray, .int .u64 m1, .int .i64 x1] w (OneTold (mkNA 1 so me L) w) := by
  obtain ⟨A, a, B, b', C, c', D, d, E, e, h0, r7, r8, r9, r10, r11⟩ := h
  subst h0
  unfold ctlC
  simp only [mkNA, List.length_nil, l0] at r7 r8 r9 r10 r11 ⊢
  change Calls Tryd.prog 22 #[.agg #[.int .i64 1, .int .u32 (so : Int), .int .u32 (me : Int), .int .u64 0, .int .u32 0, .int .u32 0, .int .u32 0, .slice A 0 a, .slice B 0 b', .slice C 0 c', .slice D n d, .slice E 0 e, .int .u64 0], .int .u64 m1, .int .i64 x1] w (OneTold (mkNA 1 so me L) w)
  have RL := Lib.hid r10
  have HN := Lib.hid l0
  have HF := Lib.hid fl
  have HBD : Hid (bodyC (mkNA 1 so me L) = bNA so me L) := Lib.hid (by simp [bodyC, mkNA])
  have HQ : Hid (cntC (mkNA 1 so me L) = 1) := Lib.hid (by simp [cntC, mkNA])
  have HTY : Hid (typC (mkNA 1 so me L) = 205) := Lib.hid (by simp [typC, mkNA])
  have ew1 : IntKind.u64.wrap (so : Int) = (so : Int) := by rw [IntKind.wrap_u64]; omega
  have ew2 : IntKind.u64.wrap (me : Int) = (me : Int) := by rw [IntKind.wrap_u64]; omega
  clear r7 r8 r9 r10 r11 l0 fl
  go_enter Tryd.func22, Tryd.ntmps22
  go_wp2
  go_quiet (fail)
  have B0 : Hid (BO w (w.alloc (.cells #[.int .i64 1, .int .u32 (so : Int), .int .u32 (me : Int), .int .u64 0, .int .u32 0, .int .u32 0, .int .u32 0, .slice A 0 a, .slice B 0 b', .slice C 0 c', .slice D n d, .slice E 0 e, .int .u64 0] 50)) none 0 0 []) := Lib.hid ((BO.nil w).below ((Below.refl _ _).alloc (Nat.le_refl _) _))
  have B1 : Hid (BO w ((w.alloc (.cells #[.int .i64 1, .int .u32 (so : Int), .int .u32 (me : Int), .int .u64 0, .int .u32 0, .int .u32 0, .int .u32 0, .slice A 0 a, .slice B 0 b', .slice C 0 c', .slice D n d, .slice E 0 e, .int .u64 0] 50)).drewN nq) none 0 0 []) := Lib.hid (B0.out.below (below_drewN (Below.refl _ _) nq))
  have S1 : Hid (OneS w [.int .i64 1, .int .u32 (so : Int), .int .u32 (me : Int), .int .u64 0, .int .u32 0, .int .u32 0, .int .u32 0, .slice A 0 a, .slice B 0 b', .slice C 0 c', .slice D n d, .slice E 0 e, .int .u64 0] ((w.alloc (.cells #[.int .i64 1, .int .u32 (so : Int), .int .u32 (me : Int), .int .u64 0, .int .u32 0, .int .u32 0, .int .u32 0, .slice A 0 a, .slice B 0 b', .slice C 0 c', .slice D n d, .slice E 0 e, .int .u64 0] 50)).drewN nq)) := Lib.hid ⟨below_drewN ((Below.refl _ _).alloc (Nat.le_refl _) _) nq, (BlkV.new w 50 [.int .i64 1, .int .u32 (so : Int), .int .u32 (me : Int), .int .u64 0, .int .u32 0, .int .u32 0, .int .u32 0, .slice A 0 a, .slice B 0 b', .slice C 0 c', .slice D n d, .slice E 0 e, .int .u64 0]).below (below_drewN (Below.refl _ _) nq) (BlkV.new w 50 [.int .i64 1, .int .u32 (so : Int), .int .u32 (me : Int), .int .u64 0, .int .u32 0, .int .u32 0, .int .u32 0, .slice A 0 a, .slice B 0 b', .slice C 0 c', .slice D n d, .slice E 0 e, .int .u64 0]).lt⟩
  generalize (w.alloc (.cells #[.int .i64 1, .int .u32 (so : Int), .int .u32 (me : Int), .int .u64 0, .int .u32 0, .int .u32 0, .int .u32 0, .slice A 0 a, .slice B 0 b', .slice C 0 c', .slice D n d, .slice E 0 e, .int .u64 0] 50)).drewN nq = w1 at B1 S1 ⊢
  clear B0
  have B1B := Lib.hid B1.out.2
  have B1R := Lib.hid B1.out.rd
  have qw1_0 : w1.cell? ⟨w.heap.size, 0, none⟩ = some (.int .i64 1) := (S1.out.2.cell 0).trans rfl; have qw1_1 : w1.cell? ⟨w.heap.size, 1, none⟩ = some (.int .u32 (so : Int)) := (S1.out.2.cell 1).trans rfl; have qw1_2 : w1.cell? ⟨w.heap.size, 2, none⟩ = some (.int .u32 (me : Int)) := (S1.out.2.cell 2).trans rfl; have qw1_7 : w1.cell? ⟨w.heap.size, 7, none⟩ = some (.slice A 0 a) := (S1.out.2.cell 7).trans rfl; have qw1_8 : w1.cell? ⟨w.heap.size, 8, none⟩ = some (.slice B 0 b') := (S1.out.2.cell 8).trans rfl; have qw1_9 : w1.cell? ⟨w.heap.size, 9, none⟩ = some (.slice C 0 c') := (S1.out.2.cell 9).trans rfl; have qw1_10 : w1.cell? ⟨w.heap.size, 10, none⟩ = some (.slice D n d) := (S1.out.2.cell 10).trans rfl
  go_wp2_with (first
    | (go_at_call 35; ((with_reducible refine (rput11 w _ none 0 0 4 _ 4 so _ _ (by omega) (by omega) (by omega) B1B.out B1R.out (by omega) (by omega) (by omega) (by omega)).mono ?_); rintro e9 w2 ⟨A2, c2, rfl, hbo, hb⟩; have B2 := Lib.hid hbo; have B2B := Lib.hid hbo.2; have B2R := Lib.hid hbo.rd; have S2 := Lib.hid (S1.out.on hb); have qw2_0 : w2.cell? ⟨w.heap.size, 0, none⟩ = some (.int .i64 1) := (S2.out.2.cell 0).trans rfl; have qw2_1 : w2.cell? ⟨w.heap.size, 1, none⟩ = some (.int .u32 (so : Int)) := (S2.out.2.cell 1).trans rfl; have qw2_2 : w2.cell? ⟨w.heap.size, 2, none⟩ = some (.int .u32 (me : Int)) := (S2.out.2.cell 2).trans rfl; have qw2_7 : w2.cell? ⟨w.heap.size, 7, none⟩ = some (.slice A 0 a) := (S2.out.2.cell 7).trans rfl; have qw2_8 : w2.cell? ⟨w.heap.size, 8, none⟩ = some (.slice B 0 b') := (S2.out.2.cell 8).trans rfl; have qw2_9 : w2.cell? ⟨w.heap.size, 9, none⟩ = some (.slice C 0 c') := (S2.out.2.cell 9).trans rfl; have qw2_10 : w2.cell? ⟨w.heap.size, 10, none⟩ = some (.slice D n d) := (S2.out.2.cell 10).trans rfl; clear hbo hb))
    | (go_at_call 35; ((with_reducible refine (rput11 w _ A2 4 c2 8 _ 4 me _ _ (by omega) (by omega) (by omega) B2B.out B2R.out (by omega) (by omega) (by omega) (by omega)).mono ?_); rintro e9 w3 ⟨A3, c3, rfl, hbo, hb⟩; have B3 := Lib.hid hbo; have B3B := Lib.hid hbo.2; have B3R := Lib.hid hbo.rd; have S3 := Lib.hid (S2.out.on hb); have qw3_0 : w3.cell? ⟨w.heap.size, 0, none⟩ = some (.int .i64 1) := (S3.out.2.cell 0).trans rfl; have qw3_1 : w3.cell? ⟨w.heap.size, 1, none⟩ = some (.int .u32 (so : Int)) := (S3.out.2.cell 1).trans rfl; have qw3_2 : w3.cell? ⟨w.heap.size, 2, none⟩ = some (.int .u32 (me : Int)) := (S3.out.2.cell 2).trans rfl; have qw3_7 : w3.cell? ⟨w.heap.size, 7, none⟩ = some (.slice A 0 a) := (S3.out.2.cell 7).trans rfl; have qw3_8 : w3.cell? ⟨w.heap.size, 8, none⟩ = some (.slice B 0 b') := (S3.out.2.cell 8).trans rfl; have qw3_9 : w3.cell? ⟨w.heap.size, 9, none⟩ = some (.slice C 0 c') := (S3.out.2.cell 9).trans rfl; have qw3_10 : w3.cell? ⟨w.heap.size, 10, none⟩ = some (.slice D n d) := (S3.out.2.cell 10).trans rfl; clear hbo hb)))
  obtain ⟨T0, hT0⟩ : ∃ T0, T0 = (([] ++ beb 4 so) ++ beb 4 me) := ⟨_, rfl⟩
  have HT0 := Lib.hid hT0
  have B3N : Hid (BO w w3 A3 8 c3 T0) := Lib.hid (by rw [HT0.out]; exact B3.out)
  clear hT0
  go_loopw [7, 10] (fun v i wx => ∃ (k M : Nat) (A' : Option Addr) (c2 : Nat), k ≤ n ∧ M ≤ 8 + 4 * k ∧ i = .int .i64 k ∧ v = .slice A' M c2 ∧ Hid (BO w wx A' M c2 (T0 ++ (L.take k).flatMap lossB)) ∧ Hid (OneS w [.int .i64 1, .int .u32 (so : Int), .int .u32 (me : Int), .int .u64 0, .int .u32 0, .int .u32 0, .int .u32 0, .slice A 0 a, .slice B 0 b', .slice C 0 c', .slice D n d, .slice E 0 e, .int .u64 0] wx)) (fun _ i _ => n - (intOf i).toNat)
  case atStart => exact ⟨0, 8, A3, c3, by omega, by omega, rfl, rfl, Lib.hid (by simpa using B3N.out), S3⟩
  case round =>
    obtain ⟨k, M, A20, c20, hk, hM, rfl, rfl, HL, HS⟩ := hrel
    have HLB := Lib.hid HL.out.2
    have qwr_0 : wr.cell? ⟨w.heap.size, 0, none⟩ = some (.int .i64 1) := (HS.out.2.cell 0).trans rfl; have qwr_1 : wr.cell? ⟨w.heap.size, 1, none⟩ = some (.int .u32 (so : Int)) := (HS.out.2.cell 1).trans rfl; have qwr_2 : wr.cell? ⟨w.heap.size, 2, none⟩ = some (.int .u32 (me : Int)) := (HS.out.2.cell 2).trans rfl; have qwr_7 : wr.cell? ⟨w.heap.size, 7, none⟩ = some (.slice A 0 a) := (HS.out.2.cell 7).trans rfl; have qwr_8 : wr.cell? ⟨w.heap.size, 8, none⟩ = some (.slice B 0 b') := (HS.out.2.cell 8).trans rfl; have qwr_9 : wr.cell? ⟨w.heap.size, 9, none⟩ = some (.slice C 0 c') := (HS.out.2.cell 9).trans rfl; have qwr_10 : wr.cell? ⟨w.heap.size, 10, none⟩ = some (.slice D n d) := (HS.out.2.cell 10).trans rfl
    by_cases hkn : k < n
    · have hkl : k < L.length := by rw [HN.out]; exact hkn
      obtain ⟨gb, go, rfl, ga⟩ := RL.out.at_ hkl
      have hxf := HF.out _ (List.getElem_mem hkl)
      have HV := Lib.hid (flat_snoc lossB hkl)
      have HG := Lib.hid ga
      obtain ⟨y, hy⟩ : ∃ y, y = L[k] := ⟨_, rfl⟩
      rw [← hy] at hxf HV HG
      obtain ⟨T1, hT1⟩ : ∃ T1, T1 = T0 ++ (L.take k).flatMap lossB := ⟨_, rfl⟩
      rw [← hT1] at HL
      have HV2 : Hid (T0 ++ (L.take (k + 1)).flatMap lossB = T1 ++ lossB y) := Lib.hid (by rw [HV.out, hT1, List.append_assoc])
      have HLR := Lib.hid HL.out.rd
      clear hy ga hT1 HV
      have hM6 : M ≤ 5000 := by omega
      obtain ⟨y0, y1⟩ := y
      simp only at hxf
      obtain ⟨hx0, hx1⟩ := hxf
      have ew20 : IntKind.u64.wrap (y0 : Int) = (y0 : Int) := by rw [IntKind.wrap_u64]; omega
      have ew21 : IntKind.u64.wrap (y1 : Int) = (y1 : Int) := by rw [IntKind.wrap_u64]; omega
      go_wp2
      refine wp_region_noPanic ?_
      refine wp_region_held (S := OneS w [.int .i64 1, .int .u32 (so : Int), .int .u32 (me : Int), .int .u64 0, .int .u32 0, .int .u32 0, .int .u32 0, .slice A 0 a, .slice B 0 b', .slice C 0 c', .slice (some ⟨gb, go, none⟩) n d, .slice E 0 e, .int .u64 0]) (by kernel_rfl) ?_
      change wpAnyH _ _ _ _ _ _ _ _ (World.drew _)
      have HSD := Lib.hid HS.out.drew
      have BD := Lib.hid (HL.out.below ((Below.refl wr.heap.size wr).drew))
      generalize wr.drew = wd2 at HSD BD ⊢
      have BDB := Lib.hid BD.out.2
      have BDR := Lib.hid BD.out.rd
      refine wpAnyH_take (i := 0) (v := ?_) rfl (by kernel_rfl) (by kernel_rfl) (by kernel_rfl) (fun _ _ _ h => h) (Or.inl ⟨by rfl, ?_⟩) HSD.out ?_
      case refine_2 => (intro wz hz; go_simp; with_reducible rfl)
      simp only [Act.put, List.getElem_toArray, List.getElem_cons_zero, List.setIfInBounds_toArray, List.set_cons_succ, List.set_cons_zero]
      refine wpAnyH_take (i := 1) (v := ?_) rfl (by kernel_rfl) (by kernel_rfl) (by kernel_rfl) (fun _ _ _ h => h) (Or.inl ⟨by rfl, ?_⟩) HSD.out ?_
      case refine_2 => (intro wz hz; go_simp; with_reducible rfl)
      simp only [Act.put, List.getElem_toArray, List.getElem_cons_succ, List.getElem_cons_zero, List.setIfInBounds_toArray, List.set_cons_succ, List.set_cons_zero]
      refine wpAnyH_take (i := 2) (v := ?_) rfl (by kernel_rfl) (by kernel_rfl) (by kernel_rfl) (fun _ _ _ h => h) (Or.inl ⟨by rfl, ?_⟩) HSD.out ?_
      case refine_2 => (intro wz hz; have kk : wz.cell? ⟨w.heap.size, 10, none⟩ = some (.slice (some ⟨gb, go, none⟩) n d) := (hz.2.cell 10).trans rfl; go_simp; with_reducible rfl)
      simp only [Act.put, List.getElem_toArray, List.getElem_cons_succ, List.getElem_cons_zero, List.setIfInBounds_toArray, List.set_cons_succ, List.set_cons_zero]
      refine wpAnyH_take (i := 3) (v := ?_) rfl (by kernel_rfl) (by kernel_rfl) (by kernel_rfl) (fun _ _ _ h => h) (Or.inl ⟨by rfl, ?_⟩) HSD.out ?_
      case refine_2 => (intro wz hz; go_simp; with_reducible rfl)
      simp only [Act.put, List.getElem_toArray, List.getElem_cons_succ, List.getElem_cons_zero, List.setIfInBounds_toArray, List.set_cons_succ, List.set_cons_zero]
      refine wpAnyH_take (i := 4) (v := ?_) rfl (by kernel_rfl) (by kernel_rfl) (by kernel_rfl) (fun _ _ _ h => h) (Or.inl ⟨by rfl, ?_⟩) HSD.out ?_
      case refine_2 => (intro wz hz; go_simp; with_reducible rfl)
      simp only [Act.put, List.getElem_toArray, List.getElem_cons_succ, List.getElem_cons_zero, List.setIfInBounds_toArray, List.set_cons_succ, List.set_cons_zero]
      refine wpAnyH_take (i := 5) (v := ?_) rfl (by kernel_rfl) (by kernel_rfl) (by kernel_rfl) (fun _ _ _ h => h) (Or.inl ⟨by rfl, ?_⟩) HSD.out ?_
      case refine_2 => (intro wz hz; go_simp; with_reducible rfl)
      simp only [Act.put, List.getElem_toArray, List.getElem_cons_succ, List.getElem_cons_zero, List.setIfInBounds_toArray, List.set_cons_succ, List.set_cons_zero]
      refine wpAnyH_take (i := 6) (v := ?_) rfl (by kernel_rfl) (by kernel_rfl) (by kernel_rfl) (fun _ _ _ h => h) (Or.inl ⟨by rfl, ?_⟩) HSD.out ?_
      case refine_2 => (intro wz hz; have kk : wz.cell? ⟨gb, go + k * 2, none⟩ = some (.int .u16 (y0 : Int)) := (by have := HG.out wz hz.1 0 _ rfl; simpa using this); go_simp; with_reducible rfl)
      simp only [Act.put, List.getElem_toArray, List.getElem_cons_succ, List.getElem_cons_zero, List.setIfInBounds_toArray, List.set_cons_succ, List.set_cons_zero]
      refine wpAnyH_take (i := 7) (v := ?_) rfl (by kernel_rfl) (by kernel_rfl) (by kernel_rfl) (fun _ _ _ h => h) (Or.inl ⟨by rfl, ?_⟩) HSD.out ?_
      case refine_2 => (intro wz hz; go_simp; with_reducible rfl)
      simp only [Act.put, List.getElem_toArray, List.getElem_cons_succ, List.getElem_cons_zero, List.setIfInBounds_toArray, List.set_cons_succ, List.set_cons_zero]
      refine wpAnyH_take (i := 9) (v := ?_) rfl (by kernel_rfl) (by kernel_rfl) (by kernel_rfl) (fun _ _ _ h => h) (Or.inl ⟨by rfl, ?_⟩) HSD.out ?_
      case refine_2 => (intro wz hz; go_simp; with_reducible rfl)
      simp only [Act.put, List.getElem_toArray, List.getElem_cons_succ, List.getElem_cons_zero, List.setIfInBounds_toArray, List.set_cons_succ, List.set_cons_zero]
      refine wpAnyH_take (i := 10) (v := ?_) rfl (by kernel_rfl) (by kernel_rfl) (by kernel_rfl) (fun _ _ _ h => h) (Or.inl ⟨by rfl, ?_⟩) HSD.out ?_
      case refine_2 => (intro wz hz; have kk : wz.cell? ⟨w.heap.size, 10, none⟩ = some (.slice (some ⟨gb, go, none⟩) n d) := (hz.2.cell 10).trans rfl; go_simp; with_reducible rfl)
      simp only [Act.put, List.getElem_toArray, List.getElem_cons_succ, List.getElem_cons_zero, List.setIfInBounds_toArray, List.set_cons_succ, List.set_cons_zero]
      refine wpAnyH_take (i := 11) (v := ?_) rfl (by kernel_rfl) (by kernel_rfl) (by kernel_rfl) (fun _ _ _ h => h) (Or.inl ⟨by rfl, ?_⟩) HSD.out ?_
      case refine_2 => (intro wz hz; go_simp; with_reducible rfl)
      simp only [Act.put, List.getElem_toArray, List.getElem_cons_succ, List.getElem_cons_zero, List.setIfInBounds_toArray, List.set_cons_succ, List.set_cons_zero]
      refine wpAnyH_take (i := 12) (v := ?_) rfl (by kernel_rfl) (by kernel_rfl) (by kernel_rfl) (fun _ _ _ h => h) (Or.inl ⟨by rfl, ?_⟩) HSD.out ?_
      case refine_2 => (intro wz hz; go_simp; with_reducible rfl)
      simp only [Act.put, List.getElem_toArray, List.getElem_cons_succ, List.getElem_cons_zero, List.setIfInBounds_toArray, List.set_cons_succ, List.set_cons_zero]
      refine wpAnyH_take (i := 13) (v := ?_) rfl (by kernel_rfl) (by kernel_rfl) (by kernel_rfl) (fun _ _ _ h => h) (Or.inl ⟨by rfl, ?_⟩) HSD.out ?_
      case refine_2 => (intro wz hz; go_simp; with_reducible rfl)
      simp only [Act.put, List.getElem_toArray, List.getElem_cons_succ, List.getElem_cons_zero, List.setIfInBounds_toArray, List.set_cons_succ, List.set_cons_zero]
      refine wpAnyH_take (i := 14) (v := ?_) rfl (by kernel_rfl) (by kernel_rfl) (by kernel_rfl) (fun _ _ _ h => h) (Or.inl ⟨by rfl, ?_⟩) HSD.out ?_
      case refine_2 => (intro wz hz; have kk : wz.cell? ⟨gb, go + k * 2 + 1, none⟩ = some (.int .u16 (y1 : Int)) := (by have := HG.out wz hz.1 1 _ rfl; simpa using this); go_simp; with_reducible rfl)
      simp only [Act.put, List.getElem_toArray, List.getElem_cons_succ, List.getElem_cons_zero, List.setIfInBounds_toArray, List.set_cons_succ, List.set_cons_zero]
      refine wpAnyH_take (i := 15) (v := ?_) rfl (by kernel_rfl) (by kernel_rfl) (by kernel_rfl) (fun _ _ _ h => h) (Or.inl ⟨by rfl, ?_⟩) HSD.out ?_
      case refine_2 => (intro wz hz; go_simp; with_reducible rfl)
      simp only [Act.put, List.getElem_toArray, List.getElem_cons_succ, List.getElem_cons_zero, List.setIfInBounds_toArray, List.set_cons_succ, List.set_cons_zero]
      refine anyH_one (i := 8) (by kernel_rfl) rfl rfl (fun H hH => ?_)
      simp only [List.getElem_toArray, List.getElem_cons_succ, List.getElem_cons_zero]
      go_simp
      refine (rput11 w _ A20 M c20 (M + 2) _ 2 y0 _ _ (by omega) (by omega) (by omega) BDB.out BDR.out (by omega) (by omega) (by omega) (by omega)).mono ?_
      rintro e9 w4 ⟨A4, c4, rfl, hbo, hb⟩
      have B4 := Lib.hid hbo
      have B4B := Lib.hid hbo.2
      have B4R := Lib.hid hbo.rd
      have TS4 := Lib.hid (HSD.out.on hb)
      clear hbo hb
      refine hH _ _ TS4.out ?_
      clear hH H
      refine anyH_one (i := 16) (by kernel_rfl) rfl rfl (fun H hH => ?_)
      simp only [List.getElem_toArray, List.getElem_cons_succ, List.getElem_cons_zero]
      go_simp
      refine (rput11 w _ A4 (M + 2) c4 (M + 4) _ 2 y1 _ _ (by omega) (by omega) (by omega) B4B.out B4R.out (by omega) (by omega) (by omega) (by omega)).mono ?_
      rintro e9 w5 ⟨A5, c5, rfl, hbo, hb⟩
      have B5 := Lib.hid hbo
      have B5B := Lib.hid hbo.2
      have B5R := Lib.hid hbo.rd
      have TS5 := Lib.hid (TS4.out.on hb)
      clear hbo hb
      refine hH _ _ TS5.out ?_
      clear hH H
      refine wpAnyH_take (i := 17) (v := ?_) rfl (by kernel_rfl) (by kernel_rfl) (by kernel_rfl) (fun _ _ _ h => h) (Or.inl ⟨by rfl, ?_⟩) TS5.out ?_
      case refine_2 => (intro wz hz; go_simp; with_reducible rfl)
      simp only [Act.put, List.getElem_toArray, List.getElem_cons_succ, List.getElem_cons_zero, List.setIfInBounds_toArray, List.set_cons_succ, List.set_cons_zero]
      refine wpAnyH_done (by kernel_rfl) ?_ _
      refine NoPanic.normal ?_
      go_wp2
      go_roundw
      case rel => exact ⟨k + 1, M + 4, A5, c5, by omega, by omega, by go_num, rfl, Lib.hid (by rw [HV2.out]; have := B5.out; simp only [lossB, ← List.append_assoc] at this ⊢; exact this), TS5⟩
      case measure => simp [intOf]; omega
    · obtain rfl : n = k := by omega
      rw [show L.take n = L by rw [← HN.out, List.take_length]] at HL
      clear hk hkn
      go_wp2
      obtain ⟨T3, hT3⟩ : ∃ T3, T3 = (T0 ++ L.flatMap lossB) := ⟨_, rfl⟩
      have HT3 := Lib.hid hT3
      have HLN : Hid (BO w wr A20 M c20 T3) := Lib.hid (by rw [HT3.out]; exact HL.out)
      clear hT3
      go_loopw [7, 12] (fun v i wx => v = .slice A20 M c20 ∧ i = .int .i64 0 ∧ wx = wr) (fun _ _ _ => 0)
      case atStart => exact ⟨rfl, rfl, rfl⟩
      case round =>
        obtain ⟨rfl, rfl, rfl⟩ := hrel
        have qwr_0 : wr.cell? ⟨w.heap.size, 0, none⟩ = some (.int .i64 1) := (HS.out.2.cell 0).trans rfl; have qwr_1 : wr.cell? ⟨w.heap.size, 1, none⟩ = some (.int .u32 (so : Int)) := (HS.out.2.cell 1).trans rfl; have qwr_2 : wr.cell? ⟨w.heap.size, 2, none⟩ = some (.int .u32 (me : Int)) := (HS.out.2.cell 2).trans rfl; have qwr_7 : wr.cell? ⟨w.heap.size, 7, none⟩ = some (.slice A 0 a) := (HS.out.2.cell 7).trans rfl; have qwr_8 : wr.cell? ⟨w.heap.size, 8, none⟩ = some (.slice B 0 b') := (HS.out.2.cell 8).trans rfl; have qwr_9 : wr.cell? ⟨w.heap.size, 9, none⟩ = some (.slice C 0 c') := (HS.out.2.cell 9).trans rfl; have qwr_10 : wr.cell? ⟨w.heap.size, 10, none⟩ = some (.slice D n d) := (HS.out.2.cell 10).trans rfl
        go_wp2
        go_loopw [7, 14] (fun v i wx => v = .slice A20 M c20 ∧ i = .int .i64 0 ∧ wx = wr) (fun _ _ _ => 0)
        case atStart => exact ⟨rfl, rfl, rfl⟩
        case round =>
          obtain ⟨rfl, rfl, rfl⟩ := hrel
          have qwr_0 : wr.cell? ⟨w.heap.size, 0, none⟩ = some (.int .i64 1) := (HS.out.2.cell 0).trans rfl; have qwr_1 : wr.cell? ⟨w.heap.size, 1, none⟩ = some (.int .u32 (so : Int)) := (HS.out.2.cell 1).trans rfl; have qwr_2 : wr.cell? ⟨w.heap.size, 2, none⟩ = some (.int .u32 (me : Int)) := (HS.out.2.cell 2).trans rfl; have qwr_7 : wr.cell? ⟨w.heap.size, 7, none⟩ = some (.slice A 0 a) := (HS.out.2.cell 7).trans rfl; have qwr_8 : wr.cell? ⟨w.heap.size, 8, none⟩ = some (.slice B 0 b') := (HS.out.2.cell 8).trans rfl; have qwr_9 : wr.cell? ⟨w.heap.size, 9, none⟩ = some (.slice C 0 c') := (HS.out.2.cell 9).trans rfl; have qwr_10 : wr.cell? ⟨w.heap.size, 10, none⟩ = some (.slice D n d) := (HS.out.2.cell 10).trans rfl
          go_wp2
          go_loopw [7, 15] (fun v i wx => v = .slice A20 M c20 ∧ i = .int .i64 0 ∧ wx = wr) (fun _ _ _ => 0)
          case atStart => exact ⟨rfl, rfl, rfl⟩
          case round =>
            obtain ⟨rfl, rfl, rfl⟩ := hrel
            have qwr_0 : wr.cell? ⟨w.heap.size, 0, none⟩ = some (.int .i64 1) := (HS.out.2.cell 0).trans rfl; have qwr_1 : wr.cell? ⟨w.heap.size, 1, none⟩ = some (.int .u32 (so : Int)) := (HS.out.2.cell 1).trans rfl; have qwr_2 : wr.cell? ⟨w.heap.size, 2, none⟩ = some (.int .u32 (me : Int)) := (HS.out.2.cell 2).trans rfl; have qwr_7 : wr.cell? ⟨w.heap.size, 7, none⟩ = some (.slice A 0 a) := (HS.out.2.cell 7).trans rfl; have qwr_8 : wr.cell? ⟨w.heap.size, 8, none⟩ = some (.slice B 0 b') := (HS.out.2.cell 8).trans rfl; have qwr_9 : wr.cell? ⟨w.heap.size, 9, none⟩ = some (.slice C 0 c') := (HS.out.2.cell 9).trans rfl; have qwr_10 : wr.cell? ⟨w.heap.size, 10, none⟩ = some (.slice D n d) := (HS.out.2.cell 10).trans rfl
            obtain ⟨MM, hMM⟩ : ∃ MM, MM = M := ⟨_, rfl⟩
            have hMl : MM ≤ 5000 := by omega
            have HB9 : Hid (BO w wr A20 MM c20 T3) := Lib.hid (by rw [hMM]; exact HLN.out)
            obtain ⟨Y, hY⟩ : ∃ Y, Y = 128 + 1 := ⟨_, rfl⟩
            have HTB : Hid (T3 = bNA so me L) := Lib.hid (by have h1 := HT0.out; have h3 := HT3.out; rw [h3, h1]; simp [bNA])
            have HY := Lib.hid hY
            have lY : Y < 256 := by omega
            have et1 : Hid True := Lib.hid trivial
            obtain ⟨Z9, hZ9⟩ : ∃ Z9, Z9 = MM / 4 := ⟨_, rfl⟩
            have et3 : IntKind.i64.wrap ((MM : Int) / 4) = (Z9 : Int) := by rw [IntKind.wrap_i64]; omega
            have et4 : IntKind.u64.wrap (Z9 : Int) = (Z9 : Int) := by rw [IntKind.wrap_u64]; omega
            have et5 : (MM : Int) / 4 = (Z9 : Int) := by omega
            have et6 : IntKind.i64.wrap (Z9 : Int) = (Z9 : Int) := by rw [IntKind.wrap_i64]; omega
            have HZ9 := Lib.hid hZ9
            have HMM := Lib.hid hMM
            have lZ9 : Z9 < 5000 := by omega
            rw [← hMM] at ⊢
            clear hY hZ9 hMM
            have HB9R := Lib.hid HB9.out.rd
            have HB9B := Lib.hid HB9.out.2
            go_wp2_with (first
              | (go_at_call 35; ((with_reducible refine (rput11 w _ (some ⟨wr.heap.size, 0, none⟩) 2 2 4 _ 2 Z9 _ _ (by omega) (by omega) (by omega) (Below.alloc HB9B.out HB9B.out.size _) (rd_tq wr Y 205 129 205 (by have hy := HY.out; omega) (by omega) (by omega) (by omega)) (by omega) (by omega) (by omega) (by omega)).mono ?_); rintro e9 w40 ⟨A40, c40, rfl, hbo, hb⟩; have B40 := Lib.hid hbo; have R40 := Lib.hid (HB9R.out.below (((Below.refl wr.heap.size wr).alloc (Nat.le_refl _) (.cells #[.int .u8 129, .int .u8 205] 5)).trans (hb.mono ((Below.refl wr.heap.size wr).alloc (Nat.le_refl _) (.cells #[.int .u8 129, .int .u8 205] 5)).size))); clear hbo hb))
              | (at_builtin; refine wpList_append_rd _ rfl (.tmp 262) (.tmp 263) rfl Tryd.underlying25 u8_info w.heap.size (.slice A40 4 c40) 4 _ rfl B40.out.1 A20 MM c20 T3 rfl R40.out (by omega) B40.out.2.size ?_; intro v41 w41 hown hg _; obtain ⟨A41, c41, hv⟩ := own_formN hown; subst hv; have B41 := Lib.hid (B40.out.more hown hg); clear hown hg))
            go_ret
            have hfin : wr1 (mkNA 1 so me L) = beb 1 Y ++ beb 1 205 ++ beb 2 Z9 ++ T3 := by unfold wr1; rw [HQ.out, HTY.out, HBD.out, ← HTB.out, HB9.out.len, ← HY.out, ← HZ9.out]; simp only [List.append_assoc]
            have hl : 4 + MM = (wr1 (mkNA 1 so me L)).length := by rw [hfin]; exact B41.out.len.symm
            exact ⟨A41, c41, 4 + MM, hl, rfl, by rw [hfin]; exact B41.out.rd, B41.out.2⟩
end Go.Proofs.YtacaempcbdekaaaDoor
