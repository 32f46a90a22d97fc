/- What the document's answer for layer 11 tells of a packet's bytes: kind 200. No statement is proved here. -/
import Derived.Test.YtacaempcbdekaaaDoorZRtcpO1
namespace Go.Proofs.YtacaempcbdekaaaDoor
open Go.RowKit
set_option linter.unusedVariables false

set_option maxRecDepth 100000 in
set_option maxHeartbeats 4000000 in
theorem one_200 (cs : List Value) (so ti st pa oc : Nat) (L : List Rep) (n : Nat) (m1 x1 : Int) (w : World) (h : CtRd w cs (mkSR 200 so ti st pa oc L)) (l0 : L.length = n) (hn : n ≤ 16) (f1 : so < 4294967296) (f3 : ti < 18446744073709551616) (f4 : st < 4294967296) (f5 : pa < 4294967296) (f6 : oc < 4294967296) (fl : ∀ y ∈ L, y.fit ∧ y.ok) :
    Calls Tryd.prog 22 #[.agg cs.toArray, .int .u64 m1, .int .i64 x1] w (OneTold (mkSR 200 so ti st pa oc L) w) := by
  obtain ⟨A, a, B, b', C, c', D, d, E, e, h0, r7, r8, r9, r10, r11⟩ := h
  subst h0
  unfold ctlC
  simp only [mkSR, List.length_nil, l0] at r7 r8 r9 r10 r11 ⊢
  change Calls Tryd.prog 22 #[.agg #[.int .i64 200, .int .u32 (so : Int), .int .u32 0, .int .u64 (ti : Int), .int .u32 (st : Int), .int .u32 (pa : Int), .int .u32 (oc : Int), .slice A n a, .slice B 0 b', .slice C 0 c', .slice D 0 d, .slice E 0 e, .int .u64 0], .int .u64 m1, .int .i64 x1] w (OneTold (mkSR 200 so ti st pa oc L) w)
  have RL := Lib.hid r7
  have HN := Lib.hid l0
  have HF := Lib.hid fl
  have HBD : Hid (bodyC (mkSR 200 so ti st pa oc L) = bSR so ti st pa oc L) := Lib.hid (by simp [bodyC, mkSR])
  have HQ : Hid (cntC (mkSR 200 so ti st pa oc L) = n) := Lib.hid (by simp [cntC, mkSR, l0])
  have HTY : Hid (typC (mkSR 200 so ti st pa oc L) = 200) := Lib.hid (by simp [typC, mkSR])
  have en : IntKind.i64.wrap (n : Int) = (n : Int) := by rw [IntKind.wrap_i64]; omega
  have ew1 : IntKind.u64.wrap (so : Int) = (so : Int) := by rw [IntKind.wrap_u64]; omega
  have ew4 : IntKind.u64.wrap (st : Int) = (st : Int) := by rw [IntKind.wrap_u64]; omega
  have ew5 : IntKind.u64.wrap (pa : Int) = (pa : Int) := by rw [IntKind.wrap_u64]; omega
  have ew6 : IntKind.u64.wrap (oc : Int) = (oc : Int) := by rw [IntKind.wrap_u64]; omega
  clear r7 r8 r9 r10 r11 l0 fl
  go_enter Tryd.func22, Tryd.ntmps22
  go_wp2
  go_quiet (fail)
  have B0 : Hid (BO w (w.alloc (.cells #[.int .i64 200, .int .u32 (so : Int), .int .u32 0, .int .u64 (ti : Int), .int .u32 (st : Int), .int .u32 (pa : Int), .int .u32 (oc : Int), .slice A n a, .slice B 0 b', .slice C 0 c', .slice D 0 d, .slice E 0 e, .int .u64 0] 50)) none 0 0 []) := Lib.hid ((BO.nil w).below ((Below.refl _ _).alloc (Nat.le_refl _) _))
  have B1 : Hid (BO w ((w.alloc (.cells #[.int .i64 200, .int .u32 (so : Int), .int .u32 0, .int .u64 (ti : Int), .int .u32 (st : Int), .int .u32 (pa : Int), .int .u32 (oc : Int), .slice A n a, .slice B 0 b', .slice C 0 c', .slice D 0 d, .slice E 0 e, .int .u64 0] 50)).drewN nq) none 0 0 []) := Lib.hid (B0.out.below (below_drewN (Below.refl _ _) nq))
  have S1 : Hid (OneS w [.int .i64 200, .int .u32 (so : Int), .int .u32 0, .int .u64 (ti : Int), .int .u32 (st : Int), .int .u32 (pa : Int), .int .u32 (oc : Int), .slice A n a, .slice B 0 b', .slice C 0 c', .slice D 0 d, .slice E 0 e, .int .u64 0] ((w.alloc (.cells #[.int .i64 200, .int .u32 (so : Int), .int .u32 0, .int .u64 (ti : Int), .int .u32 (st : Int), .int .u32 (pa : Int), .int .u32 (oc : Int), .slice A n a, .slice B 0 b', .slice C 0 c', .slice D 0 d, .slice E 0 e, .int .u64 0] 50)).drewN nq)) := Lib.hid ⟨below_drewN ((Below.refl _ _).alloc (Nat.le_refl _) _) nq, (BlkV.new w 50 [.int .i64 200, .int .u32 (so : Int), .int .u32 0, .int .u64 (ti : Int), .int .u32 (st : Int), .int .u32 (pa : Int), .int .u32 (oc : Int), .slice A n a, .slice B 0 b', .slice C 0 c', .slice D 0 d, .slice E 0 e, .int .u64 0]).below (below_drewN (Below.refl _ _) nq) (BlkV.new w 50 [.int .i64 200, .int .u32 (so : Int), .int .u32 0, .int .u64 (ti : Int), .int .u32 (st : Int), .int .u32 (pa : Int), .int .u32 (oc : Int), .slice A n a, .slice B 0 b', .slice C 0 c', .slice D 0 d, .slice E 0 e, .int .u64 0]).lt⟩
  generalize (w.alloc (.cells #[.int .i64 200, .int .u32 (so : Int), .int .u32 0, .int .u64 (ti : Int), .int .u32 (st : Int), .int .u32 (pa : Int), .int .u32 (oc : Int), .slice A n a, .slice B 0 b', .slice C 0 c', .slice D 0 d, .slice E 0 e, .int .u64 0] 50)).drewN nq = w1 at B1 S1 ⊢
  clear B0
  have B1B := Lib.hid B1.out.2
  have B1R := Lib.hid B1.out.rd
  have qw1_0 : w1.cell? ⟨w.heap.size, 0, none⟩ = some (.int .i64 200) := (S1.out.2.cell 0).trans rfl; have qw1_1 : w1.cell? ⟨w.heap.size, 1, none⟩ = some (.int .u32 (so : Int)) := (S1.out.2.cell 1).trans rfl; have qw1_3 : w1.cell? ⟨w.heap.size, 3, none⟩ = some (.int .u64 (ti : Int)) := (S1.out.2.cell 3).trans rfl; have qw1_4 : w1.cell? ⟨w.heap.size, 4, none⟩ = some (.int .u32 (st : Int)) := (S1.out.2.cell 4).trans rfl; have qw1_5 : w1.cell? ⟨w.heap.size, 5, none⟩ = some (.int .u32 (pa : Int)) := (S1.out.2.cell 5).trans rfl; have qw1_6 : w1.cell? ⟨w.heap.size, 6, none⟩ = some (.int .u32 (oc : Int)) := (S1.out.2.cell 6).trans rfl; have qw1_7 : w1.cell? ⟨w.heap.size, 7, none⟩ = some (.slice A n a) := (S1.out.2.cell 7).trans rfl; have qw1_8 : w1.cell? ⟨w.heap.size, 8, none⟩ = some (.slice B 0 b') := (S1.out.2.cell 8).trans rfl; have qw1_9 : w1.cell? ⟨w.heap.size, 9, none⟩ = some (.slice C 0 c') := (S1.out.2.cell 9).trans rfl
  go_wp2_with (first
    | (go_at_call 35; ((with_reducible refine (rput11 w _ none 0 0 4 _ 4 so _ _ (by omega) (by omega) (by omega) B1B.out B1R.out (by omega) (by omega) (by omega) (by omega)).mono ?_); rintro e9 w2 ⟨A2, c2, rfl, hbo, hb⟩; have B2 := Lib.hid hbo; have B2B := Lib.hid hbo.2; have B2R := Lib.hid hbo.rd; have S2 := Lib.hid (S1.out.on hb); have qw2_0 : w2.cell? ⟨w.heap.size, 0, none⟩ = some (.int .i64 200) := (S2.out.2.cell 0).trans rfl; have qw2_1 : w2.cell? ⟨w.heap.size, 1, none⟩ = some (.int .u32 (so : Int)) := (S2.out.2.cell 1).trans rfl; have qw2_3 : w2.cell? ⟨w.heap.size, 3, none⟩ = some (.int .u64 (ti : Int)) := (S2.out.2.cell 3).trans rfl; have qw2_4 : w2.cell? ⟨w.heap.size, 4, none⟩ = some (.int .u32 (st : Int)) := (S2.out.2.cell 4).trans rfl; have qw2_5 : w2.cell? ⟨w.heap.size, 5, none⟩ = some (.int .u32 (pa : Int)) := (S2.out.2.cell 5).trans rfl; have qw2_6 : w2.cell? ⟨w.heap.size, 6, none⟩ = some (.int .u32 (oc : Int)) := (S2.out.2.cell 6).trans rfl; have qw2_7 : w2.cell? ⟨w.heap.size, 7, none⟩ = some (.slice A n a) := (S2.out.2.cell 7).trans rfl; have qw2_8 : w2.cell? ⟨w.heap.size, 8, none⟩ = some (.slice B 0 b') := (S2.out.2.cell 8).trans rfl; have qw2_9 : w2.cell? ⟨w.heap.size, 9, none⟩ = some (.slice C 0 c') := (S2.out.2.cell 9).trans rfl; clear hbo hb)))
  refine wp_region_noPanic ?_
  refine wp_region_held (S := OneS w [.int .i64 200, .int .u32 (so : Int), .int .u32 0, .int .u64 (ti : Int), .int .u32 (st : Int), .int .u32 (pa : Int), .int .u32 (oc : Int), .slice A n a, .slice B 0 b', .slice C 0 c', .slice D 0 d, .slice E 0 e, .int .u64 0]) (by kernel_rfl) ?_
  change wpAnyH _ _ _ _ _ _ _ _ (World.drew _)
  have S2D := Lib.hid S2.out.drew
  have BD := Lib.hid (B2.out.below ((Below.refl w2.heap.size w2).drew))
  generalize w2.drew = wd1 at S2D BD ⊢
  have BDB := Lib.hid BD.out.2
  have BDR := Lib.hid BD.out.rd
  refine wpAnyH_take (i := 0) (v := ?_) rfl (by kernel_rfl) (by kernel_rfl) (by kernel_rfl) (fun _ _ _ h => h) (Or.inl ⟨by rfl, ?_⟩) S2D.out ?_
  case refine_2 => (intro wz hz; go_simp; with_reducible rfl)
  simp only [Act.put, List.getElem_toArray, List.getElem_cons_zero, List.setIfInBounds_toArray, List.set_cons_succ, List.set_cons_zero]
  refine wpAnyH_take (i := 1) (v := ?_) rfl (by kernel_rfl) (by kernel_rfl) (by kernel_rfl) (fun _ _ _ h => h) (Or.inl ⟨by rfl, ?_⟩) S2D.out ?_
  case refine_2 => (intro wz hz; go_simp; with_reducible rfl)
  simp only [Act.put, List.getElem_toArray, List.getElem_cons_succ, List.getElem_cons_zero, List.setIfInBounds_toArray, List.set_cons_succ, List.set_cons_zero]
  refine wpAnyH_take (i := 2) (v := ?_) rfl (by kernel_rfl) (by kernel_rfl) (by kernel_rfl) (fun _ _ _ h => h) (Or.inl ⟨by rfl, ?_⟩) S2D.out ?_
  case refine_2 => (intro wz hz; have kk : wz.cell? ⟨w.heap.size, 3, none⟩ = some (.int .u64 (ti : Int)) := (hz.2.cell 3).trans rfl; go_simp; with_reducible rfl)
  simp only [Act.put, List.getElem_toArray, List.getElem_cons_succ, List.getElem_cons_zero, List.setIfInBounds_toArray, List.set_cons_succ, List.set_cons_zero]
  refine wpAnyH_take (i := 4) (v := ?_) rfl (by kernel_rfl) (by kernel_rfl) (by kernel_rfl) (fun _ _ _ h => h) (Or.inl ⟨by rfl, ?_⟩) S2D.out ?_
  case refine_2 => (intro wz hz; go_simp; with_reducible rfl)
  simp only [Act.put, List.getElem_toArray, List.getElem_cons_succ, List.getElem_cons_zero, List.setIfInBounds_toArray, List.set_cons_succ, List.set_cons_zero]
  refine wpAnyH_take (i := 5) (v := ?_) rfl (by kernel_rfl) (by kernel_rfl) (by kernel_rfl) (fun _ _ _ h => h) (Or.inl ⟨by rfl, ?_⟩) S2D.out ?_
  case refine_2 => (intro wz hz; have kk : wz.cell? ⟨w.heap.size, 4, none⟩ = some (.int .u32 (st : Int)) := (hz.2.cell 4).trans rfl; go_simp; with_reducible rfl)
  simp only [Act.put, List.getElem_toArray, List.getElem_cons_succ, List.getElem_cons_zero, List.setIfInBounds_toArray, List.set_cons_succ, List.set_cons_zero]
  refine wpAnyH_take (i := 6) (v := ?_) rfl (by kernel_rfl) (by kernel_rfl) (by kernel_rfl) (fun _ _ _ h => h) (Or.inl ⟨by rfl, ?_⟩) S2D.out ?_
  case refine_2 => (intro wz hz; go_simp; with_reducible rfl)
  simp only [Act.put, List.getElem_toArray, List.getElem_cons_succ, List.getElem_cons_zero, List.setIfInBounds_toArray, List.set_cons_succ, List.set_cons_zero]
  refine wpAnyH_take (i := 8) (v := ?_) rfl (by kernel_rfl) (by kernel_rfl) (by kernel_rfl) (fun _ _ _ h => h) (Or.inl ⟨by rfl, ?_⟩) S2D.out ?_
  case refine_2 => (intro wz hz; go_simp; with_reducible rfl)
  simp only [Act.put, List.getElem_toArray, List.getElem_cons_succ, List.getElem_cons_zero, List.setIfInBounds_toArray, List.set_cons_succ, List.set_cons_zero]
  refine wpAnyH_take (i := 9) (v := ?_) rfl (by kernel_rfl) (by kernel_rfl) (by kernel_rfl) (fun _ _ _ h => h) (Or.inl ⟨by rfl, ?_⟩) S2D.out ?_
  case refine_2 => (intro wz hz; have kk : wz.cell? ⟨w.heap.size, 5, none⟩ = some (.int .u32 (pa : Int)) := (hz.2.cell 5).trans rfl; go_simp; with_reducible rfl)
  simp only [Act.put, List.getElem_toArray, List.getElem_cons_succ, List.getElem_cons_zero, List.setIfInBounds_toArray, List.set_cons_succ, List.set_cons_zero]
  refine wpAnyH_take (i := 10) (v := ?_) rfl (by kernel_rfl) (by kernel_rfl) (by kernel_rfl) (fun _ _ _ h => h) (Or.inl ⟨by rfl, ?_⟩) S2D.out ?_
  case refine_2 => (intro wz hz; go_simp; with_reducible rfl)
  simp only [Act.put, List.getElem_toArray, List.getElem_cons_succ, List.getElem_cons_zero, List.setIfInBounds_toArray, List.set_cons_succ, List.set_cons_zero]
  refine wpAnyH_take (i := 12) (v := ?_) rfl (by kernel_rfl) (by kernel_rfl) (by kernel_rfl) (fun _ _ _ h => h) (Or.inl ⟨by rfl, ?_⟩) S2D.out ?_
  case refine_2 => (intro wz hz; go_simp; with_reducible rfl)
  simp only [Act.put, List.getElem_toArray, List.getElem_cons_succ, List.getElem_cons_zero, List.setIfInBounds_toArray, List.set_cons_succ, List.set_cons_zero]
  refine wpAnyH_take (i := 13) (v := ?_) rfl (by kernel_rfl) (by kernel_rfl) (by kernel_rfl) (fun _ _ _ h => h) (Or.inl ⟨by rfl, ?_⟩) S2D.out ?_
  case refine_2 => (intro wz hz; have kk : wz.cell? ⟨w.heap.size, 6, none⟩ = some (.int .u32 (oc : Int)) := (hz.2.cell 6).trans rfl; go_simp; with_reducible rfl)
  simp only [Act.put, List.getElem_toArray, List.getElem_cons_succ, List.getElem_cons_zero, List.setIfInBounds_toArray, List.set_cons_succ, List.set_cons_zero]
  refine wpAnyH_take (i := 14) (v := ?_) rfl (by kernel_rfl) (by kernel_rfl) (by kernel_rfl) (fun _ _ _ h => h) (Or.inl ⟨by rfl, ?_⟩) S2D.out ?_
  case refine_2 => (intro wz hz; go_simp; with_reducible rfl)
  simp only [Act.put, List.getElem_toArray, List.getElem_cons_succ, List.getElem_cons_zero, List.setIfInBounds_toArray, List.set_cons_succ, List.set_cons_zero]
  refine anyH_one (i := 3) (by kernel_rfl) rfl rfl (fun H hH => ?_)
  simp only [List.getElem_toArray, List.getElem_cons_succ, List.getElem_cons_zero]
  go_simp
  refine (rput11 w _ A2 4 c2 12 _ 8 ti _ _ (by omega) (by omega) (by omega) BDB.out BDR.out (by omega) (by omega) (by omega) (by omega)).mono ?_
  rintro e9 w3 ⟨A3, c3, rfl, hbo, hb⟩
  have B3 := Lib.hid hbo
  have B3B := Lib.hid hbo.2
  have B3R := Lib.hid hbo.rd
  have TS3 := Lib.hid (S2D.out.on hb)
  clear hbo hb
  refine hH _ _ TS3.out ?_
  clear hH H
  refine anyH_one (i := 7) (by kernel_rfl) rfl rfl (fun H hH => ?_)
  simp only [List.getElem_toArray, List.getElem_cons_succ, List.getElem_cons_zero]
  go_simp
  refine (rput11 w _ A3 12 c3 16 _ 4 st _ _ (by omega) (by omega) (by omega) B3B.out B3R.out (by omega) (by omega) (by omega) (by omega)).mono ?_
  rintro e9 w4 ⟨A4, c4, rfl, hbo, hb⟩
  have B4 := Lib.hid hbo
  have B4B := Lib.hid hbo.2
  have B4R := Lib.hid hbo.rd
  have TS4 := Lib.hid (TS3.out.on hb)
  clear hbo hb
  refine hH _ _ TS4.out ?_
  clear hH H
  refine anyH_one (i := 11) (by kernel_rfl) rfl rfl (fun H hH => ?_)
  simp only [List.getElem_toArray, List.getElem_cons_succ, List.getElem_cons_zero]
  go_simp
  refine (rput11 w _ A4 16 c4 20 _ 4 pa _ _ (by omega) (by omega) (by omega) B4B.out B4R.out (by omega) (by omega) (by omega) (by omega)).mono ?_
  rintro e9 w5 ⟨A5, c5, rfl, hbo, hb⟩
  have B5 := Lib.hid hbo
  have B5B := Lib.hid hbo.2
  have B5R := Lib.hid hbo.rd
  have TS5 := Lib.hid (TS4.out.on hb)
  clear hbo hb
  refine hH _ _ TS5.out ?_
  clear hH H
  refine anyH_one (i := 15) (by kernel_rfl) rfl rfl (fun H hH => ?_)
  simp only [List.getElem_toArray, List.getElem_cons_succ, List.getElem_cons_zero]
  go_simp
  refine (rput11 w _ A5 20 c5 24 _ 4 oc _ _ (by omega) (by omega) (by omega) B5B.out B5R.out (by omega) (by omega) (by omega) (by omega)).mono ?_
  rintro e9 w6 ⟨A6, c6, rfl, hbo, hb⟩
  have B6 := Lib.hid hbo
  have B6B := Lib.hid hbo.2
  have B6R := Lib.hid hbo.rd
  have TS6 := Lib.hid (TS5.out.on hb)
  clear hbo hb
  refine hH _ _ TS6.out ?_
  clear hH H
  refine wpAnyH_take (i := 16) (v := ?_) rfl (by kernel_rfl) (by kernel_rfl) (by kernel_rfl) (fun _ _ _ h => h) (Or.inl ⟨by rfl, ?_⟩) TS6.out ?_
  case refine_2 => (intro wz hz; go_simp; with_reducible rfl)
  simp only [Act.put, List.getElem_toArray, List.getElem_cons_succ, List.getElem_cons_zero, List.setIfInBounds_toArray, List.set_cons_succ, List.set_cons_zero]
  refine wpAnyH_done (by kernel_rfl) ?_ _
  refine NoPanic.normal ?_
  have qw6_0 : w6.cell? ⟨w.heap.size, 0, none⟩ = some (.int .i64 200) := (TS6.out.2.cell 0).trans rfl; have qw6_1 : w6.cell? ⟨w.heap.size, 1, none⟩ = some (.int .u32 (so : Int)) := (TS6.out.2.cell 1).trans rfl; have qw6_3 : w6.cell? ⟨w.heap.size, 3, none⟩ = some (.int .u64 (ti : Int)) := (TS6.out.2.cell 3).trans rfl; have qw6_4 : w6.cell? ⟨w.heap.size, 4, none⟩ = some (.int .u32 (st : Int)) := (TS6.out.2.cell 4).trans rfl; have qw6_5 : w6.cell? ⟨w.heap.size, 5, none⟩ = some (.int .u32 (pa : Int)) := (TS6.out.2.cell 5).trans rfl; have qw6_6 : w6.cell? ⟨w.heap.size, 6, none⟩ = some (.int .u32 (oc : Int)) := (TS6.out.2.cell 6).trans rfl; have qw6_7 : w6.cell? ⟨w.heap.size, 7, none⟩ = some (.slice A n a) := (TS6.out.2.cell 7).trans rfl; have qw6_8 : w6.cell? ⟨w.heap.size, 8, none⟩ = some (.slice B 0 b') := (TS6.out.2.cell 8).trans rfl; have qw6_9 : w6.cell? ⟨w.heap.size, 9, none⟩ = some (.slice C 0 c') := (TS6.out.2.cell 9).trans rfl
  go_wp2
  obtain ⟨T0, hT0⟩ : ∃ T0, T0 = ((((([] ++ beb 4 so) ++ beb 8 ti) ++ beb 4 st) ++ beb 4 pa) ++ beb 4 oc) := ⟨_, rfl⟩
  have HT0 := Lib.hid hT0
  have B6N : Hid (BO w w6 A6 24 c6 T0) := Lib.hid (by rw [HT0.out]; exact B6.out)
  clear hT0
  go_loopw [7, 12] (fun v i wx => ∃ (k M : Nat) (A' : Option Addr) (c2 : Nat), k ≤ n ∧ M ≤ 24 + 24 * k ∧ i = .int .i64 k ∧ v = .slice A' M c2 ∧ Hid (BO w wx A' M c2 (T0 ++ (L.take k).flatMap repB)) ∧ Hid (OneS w [.int .i64 200, .int .u32 (so : Int), .int .u32 0, .int .u64 (ti : Int), .int .u32 (st : Int), .int .u32 (pa : Int), .int .u32 (oc : Int), .slice A n a, .slice B 0 b', .slice C 0 c', .slice D 0 d, .slice E 0 e, .int .u64 0] wx)) (fun _ i _ => n - (intOf i).toNat)
  case atStart => exact ⟨0, 24, A6, c6, by omega, by omega, rfl, rfl, Lib.hid (by simpa using B6N.out), TS6⟩
  case round =>
    obtain ⟨k, M, A20, c20, hk, hM, rfl, rfl, HL, HS⟩ := hrel
    have HLB := Lib.hid HL.out.2
    have qwr_0 : wr.cell? ⟨w.heap.size, 0, none⟩ = some (.int .i64 200) := (HS.out.2.cell 0).trans rfl; have qwr_1 : wr.cell? ⟨w.heap.size, 1, none⟩ = some (.int .u32 (so : Int)) := (HS.out.2.cell 1).trans rfl; have qwr_3 : wr.cell? ⟨w.heap.size, 3, none⟩ = some (.int .u64 (ti : Int)) := (HS.out.2.cell 3).trans rfl; have qwr_4 : wr.cell? ⟨w.heap.size, 4, none⟩ = some (.int .u32 (st : Int)) := (HS.out.2.cell 4).trans rfl; have qwr_5 : wr.cell? ⟨w.heap.size, 5, none⟩ = some (.int .u32 (pa : Int)) := (HS.out.2.cell 5).trans rfl; have qwr_6 : wr.cell? ⟨w.heap.size, 6, none⟩ = some (.int .u32 (oc : Int)) := (HS.out.2.cell 6).trans rfl; have qwr_7 : wr.cell? ⟨w.heap.size, 7, none⟩ = some (.slice A n a) := (HS.out.2.cell 7).trans rfl; have qwr_8 : wr.cell? ⟨w.heap.size, 8, none⟩ = some (.slice B 0 b') := (HS.out.2.cell 8).trans rfl; have qwr_9 : wr.cell? ⟨w.heap.size, 9, none⟩ = some (.slice C 0 c') := (HS.out.2.cell 9).trans rfl
    by_cases hkn : k < n
    · have hkl : k < L.length := by rw [HN.out]; exact hkn
      obtain ⟨gb, go, rfl, ga⟩ := RL.out.at_ hkl
      have hxf := HF.out _ (List.getElem_mem hkl)
      have HV := Lib.hid (flat_snoc repB hkl)
      have HG := Lib.hid ga
      obtain ⟨y, hy⟩ : ∃ y, y = L[k] := ⟨_, rfl⟩
      rw [← hy] at hxf HV HG
      obtain ⟨T1, hT1⟩ : ∃ T1, T1 = T0 ++ (L.take k).flatMap repB := ⟨_, rfl⟩
      rw [← hT1] at HL
      have HV2 : Hid (T0 ++ (L.take (k + 1)).flatMap repB = T1 ++ repB y) := Lib.hid (by rw [HV.out, hT1, List.append_assoc])
      have HLR := Lib.hid HL.out.rd
      clear hy ga hT1 HV
      have hM6 : M ≤ 5000 := by omega
      obtain ⟨y0, y1, y2, y3, y4, y5, y6⟩ := y
      obtain ⟨⟨h0, h1, -, h3, h4, h5, h6⟩, o1, o2⟩ := hxf
      simp only at h0 h1 h3 h4 h5 h6 o1 o2
      have ew20 : IntKind.u64.wrap (y0 : Int) = (y0 : Int) := by rw [IntKind.wrap_u64]; omega
      have ew21 : IntKind.u64.wrap (y1 : Int) = (y1 : Int) := by rw [IntKind.wrap_u64]; omega
      have ew23 : IntKind.u64.wrap (y3 : Int) = (y3 : Int) := by rw [IntKind.wrap_u64]; omega
      have ew24 : IntKind.u64.wrap (y4 : Int) = (y4 : Int) := by rw [IntKind.wrap_u64]; omega
      have ew25 : IntKind.u64.wrap (y5 : Int) = (y5 : Int) := by rw [IntKind.wrap_u64]; omega
      have ew26 : IntKind.u64.wrap (y6 : Int) = (y6 : Int) := by rw [IntKind.wrap_u64]; omega
      have HLO := Lib.hid (lo_more y2 o1 o2)
      obtain ⟨X, hX⟩ : ∃ X, X = (y2 + 16777216).toNat := ⟨_, rfl⟩
      rw [← hX] at HLO
      have ew30 : IntKind.i64.wrap y2 = y2 := by rw [IntKind.wrap_i64]; omega
      have ew31 : IntKind.i64.wrap (y2 + 16777216) = (X : Int) := by rw [IntKind.wrap_i64]; omega
      have ew32 : IntKind.u64.wrap (X : Int) = (X : Int) := by rw [IntKind.wrap_u64]; omega
      have LX : Hid (X < 18446744073709551616) := Lib.hid (by omega)
      have HGW := Lib.hid (HG.out wr HS.out.1)
      clear hX o1 o2
      go_wp2_with (first
        | (with_reducible refine wpList_ld rfl 74 (.tmp 157) rfl gb (go + k * 7) rfl (cRep ⟨y0, y1, y2, y3, y4, y5, y6⟩) HGW.out (rowRep rfl) ?_)
        | ((refine wpList_st rfl 74 (.tmp 13) (.tmp 158) rfl wr.heap.size 0 (cRep ⟨y0, y1, y2, y3, y4, y5, y6⟩) rfl (by with_unfolding_all rfl) 74 zRep (BlkV.new wr _ _) (Nat.le_refl 7) (rowRep rfl) (cRep_one _) ?_); intro w21 hB1 ho1; rw [splice_all _ _ (by rfl)] at hB1; have b21 := (((Below.refl wr.heap.size wr).alloc (Nat.le_refl _) (.cells zRep.toArray 74)).trans (ho1.below (Nat.le_refl _))); have B21 := Lib.hid (HL.out.below b21); have S21 : Hid (OneR w [.int .i64 200, .int .u32 (so : Int), .int .u32 0, .int .u64 (ti : Int), .int .u32 (st : Int), .int .u32 (pa : Int), .int .u32 (oc : Int), .slice (some ⟨gb, go, none⟩) n a, .slice B 0 b', .slice C 0 c', .slice D 0 d, .slice E 0 e, .int .u64 0] wr.heap.size ⟨y0, y1, y2, y3, y4, y5, y6⟩ w21) := Lib.hid ⟨HS.out.on b21, hB1⟩; clear hB1 ho1 b21))
      refine wp_region_noPanic ?_
      refine wp_region_held (S := OneR w [.int .i64 200, .int .u32 (so : Int), .int .u32 0, .int .u64 (ti : Int), .int .u32 (st : Int), .int .u32 (pa : Int), .int .u32 (oc : Int), .slice (some ⟨gb, go, none⟩) n a, .slice B 0 b', .slice C 0 c', .slice D 0 d, .slice E 0 e, .int .u64 0] wr.heap.size ⟨y0, y1, y2, y3, y4, y5, y6⟩) (by kernel_rfl) ?_
      change wpAnyH _ _ _ _ _ _ _ _ (World.drew _)
      have S21D := Lib.hid S21.out.drew
      have BD := Lib.hid (B21.out.below ((Below.refl w21.heap.size w21).drew))
      generalize w21.drew = wd2 at S21D BD ⊢
      have BDB := Lib.hid BD.out.2
      have BDR := Lib.hid BD.out.rd
      refine wpAnyH_take (i := 0) (v := ?_) rfl (by kernel_rfl) (by kernel_rfl) (by kernel_rfl) (fun _ _ _ h => h) (Or.inl ⟨by rfl, ?_⟩) S21D.out ?_
      case refine_2 => (intro wz hz; go_simp; with_reducible rfl)
      simp only [Act.put, List.getElem_toArray, List.getElem_cons_zero, List.setIfInBounds_toArray, List.set_cons_succ, List.set_cons_zero]
      refine wpAnyH_take (i := 1) (v := ?_) rfl (by kernel_rfl) (by kernel_rfl) (by kernel_rfl) (fun _ _ _ h => h) (Or.inl ⟨by rfl, ?_⟩) S21D.out ?_
      case refine_2 => (intro wz hz; go_simp; with_reducible rfl)
      simp only [Act.put, List.getElem_toArray, List.getElem_cons_succ, List.getElem_cons_zero, List.setIfInBounds_toArray, List.set_cons_succ, List.set_cons_zero]
      refine wpAnyH_take (i := 2) (v := ?_) rfl (by kernel_rfl) (by kernel_rfl) (by kernel_rfl) (fun _ _ _ h => h) (Or.inl ⟨by rfl, ?_⟩) S21D.out ?_
      case refine_2 => (intro wz hz; have kk : wz.cell? ⟨wr.heap.size, 0, none⟩ = some (.int .u32 (y0 : Int)) := (hz.2.cell 0).trans rfl; go_simp; with_reducible rfl)
      simp only [Act.put, List.getElem_toArray, List.getElem_cons_succ, List.getElem_cons_zero, List.setIfInBounds_toArray, List.set_cons_succ, List.set_cons_zero]
      refine wpAnyH_take (i := 3) (v := ?_) rfl (by kernel_rfl) (by kernel_rfl) (by kernel_rfl) (fun _ _ _ h => h) (Or.inl ⟨by rfl, ?_⟩) S21D.out ?_
      case refine_2 => (intro wz hz; go_simp; with_reducible rfl)
      simp only [Act.put, List.getElem_toArray, List.getElem_cons_succ, List.getElem_cons_zero, List.setIfInBounds_toArray, List.set_cons_succ, List.set_cons_zero]
      refine wpAnyH_take (i := 5) (v := ?_) rfl (by kernel_rfl) (by kernel_rfl) (by kernel_rfl) (fun _ _ _ h => h) (Or.inl ⟨by rfl, ?_⟩) S21D.out ?_
      case refine_2 => (intro wz hz; go_simp; with_reducible rfl)
      simp only [Act.put, List.getElem_toArray, List.getElem_cons_succ, List.getElem_cons_zero, List.setIfInBounds_toArray, List.set_cons_succ, List.set_cons_zero]
      refine wpAnyH_take (i := 6) (v := ?_) rfl (by kernel_rfl) (by kernel_rfl) (by kernel_rfl) (fun _ _ _ h => h) (Or.inl ⟨by rfl, ?_⟩) S21D.out ?_
      case refine_2 => (intro wz hz; have kk : wz.cell? ⟨wr.heap.size, 1, none⟩ = some (.int .u8 (y1 : Int)) := (hz.2.cell 1).trans rfl; go_simp; with_reducible rfl)
      simp only [Act.put, List.getElem_toArray, List.getElem_cons_succ, List.getElem_cons_zero, List.setIfInBounds_toArray, List.set_cons_succ, List.set_cons_zero]
      refine wpAnyH_take (i := 7) (v := ?_) rfl (by kernel_rfl) (by kernel_rfl) (by kernel_rfl) (fun _ _ _ h => h) (Or.inl ⟨by rfl, ?_⟩) S21D.out ?_
      case refine_2 => (intro wz hz; go_simp; with_reducible rfl)
      simp only [Act.put, List.getElem_toArray, List.getElem_cons_succ, List.getElem_cons_zero, List.setIfInBounds_toArray, List.set_cons_succ, List.set_cons_zero]
      refine anyH_one (i := 4) (by kernel_rfl) rfl rfl (fun H hH => ?_)
      simp only [List.getElem_toArray, List.getElem_cons_succ, List.getElem_cons_zero]
      go_simp
      refine (rput11 w _ A20 M c20 (M + 4) _ 4 y0 _ _ (by omega) (by omega) (by omega) BDB.out BDR.out (by omega) (by omega) (by omega) (by omega)).mono ?_
      rintro e9 w7 ⟨A7, c7, rfl, hbo, hb⟩
      have B7 := Lib.hid hbo
      have B7B := Lib.hid hbo.2
      have B7R := Lib.hid hbo.rd
      have TS7 := Lib.hid (S21D.out.on hb)
      clear hbo hb
      refine hH _ _ TS7.out ?_
      clear hH H
      refine anyH_one (i := 8) (by kernel_rfl) rfl rfl (fun H hH => ?_)
      simp only [List.getElem_toArray, List.getElem_cons_succ, List.getElem_cons_zero]
      go_simp
      refine (rput11 w _ A7 (M + 4) c7 (M + 5) _ 1 y1 _ _ (by omega) (by omega) (by omega) B7B.out B7R.out (by omega) (by omega) (by omega) (by omega)).mono ?_
      rintro e9 w8 ⟨A8, c8, rfl, hbo, hb⟩
      have B8 := Lib.hid hbo
      have B8B := Lib.hid hbo.2
      have B8R := Lib.hid hbo.rd
      have TS8 := Lib.hid (TS7.out.on hb)
      clear hbo hb
      refine hH _ _ TS8.out ?_
      clear hH H
      refine wpAnyH_take (i := 9) (v := ?_) rfl (by kernel_rfl) (by kernel_rfl) (by kernel_rfl) (fun _ _ _ h => h) (Or.inl ⟨by rfl, ?_⟩) TS8.out ?_
      case refine_2 => (intro wz hz; go_simp; with_reducible rfl)
      simp only [Act.put, List.getElem_toArray, List.getElem_cons_succ, List.getElem_cons_zero, List.setIfInBounds_toArray, List.set_cons_succ, List.set_cons_zero]
      refine wpAnyH_done (by kernel_rfl) ?_ _
      refine NoPanic.normal ?_
      have kl2 : w8.cell? ⟨wr.heap.size, 2, none⟩ = some (.int .i32 y2) := (TS8.out.2.cell 2).trans rfl
      go_wp2_with (go_at_call 35; ((with_reducible refine (rput11 w _ A8 (M + 5) c8 (M + 8) _ 3 X _ _ (by omega) (by omega) (by omega) B8B.out B8R.out (by omega) (by omega) LX.out (by omega)).mono ?_); rintro e9 w9 ⟨A9, c9, rfl, hbo, hb⟩; have B9 := Lib.hid hbo; have S9 := Lib.hid (TS8.out.on hb); clear hbo hb))
      refine wp_region_noPanic ?_
      refine wp_region_held (S := OneR w [.int .i64 200, .int .u32 (so : Int), .int .u32 0, .int .u64 (ti : Int), .int .u32 (st : Int), .int .u32 (pa : Int), .int .u32 (oc : Int), .slice (some ⟨gb, go, none⟩) n a, .slice B 0 b', .slice C 0 c', .slice D 0 d, .slice E 0 e, .int .u64 0] wr.heap.size ⟨y0, y1, y2, y3, y4, y5, y6⟩) (by kernel_rfl) ?_
      change wpAnyH _ _ _ _ _ _ _ _ (World.drew _)
      have S9D := Lib.hid S9.out.drew
      have BD := Lib.hid (B9.out.below ((Below.refl w9.heap.size w9).drew))
      generalize w9.drew = wd3 at S9D BD ⊢
      have BDB := Lib.hid BD.out.2
      have BDR := Lib.hid BD.out.rd
      refine wpAnyH_take (i := 0) (v := ?_) rfl (by kernel_rfl) (by kernel_rfl) (by kernel_rfl) (fun _ _ _ h => h) (Or.inl ⟨by rfl, ?_⟩) S9D.out ?_
      case refine_2 => (intro wz hz; go_simp; with_reducible rfl)
      simp only [Act.put, List.getElem_toArray, List.getElem_cons_zero, List.setIfInBounds_toArray, List.set_cons_succ, List.set_cons_zero]
      refine wpAnyH_take (i := 1) (v := ?_) rfl (by kernel_rfl) (by kernel_rfl) (by kernel_rfl) (fun _ _ _ h => h) (Or.inl ⟨by rfl, ?_⟩) S9D.out ?_
      case refine_2 => (intro wz hz; go_simp; with_reducible rfl)
      simp only [Act.put, List.getElem_toArray, List.getElem_cons_succ, List.getElem_cons_zero, List.setIfInBounds_toArray, List.set_cons_succ, List.set_cons_zero]
      refine wpAnyH_take (i := 2) (v := ?_) rfl (by kernel_rfl) (by kernel_rfl) (by kernel_rfl) (fun _ _ _ h => h) (Or.inl ⟨by rfl, ?_⟩) S9D.out ?_
      case refine_2 => (intro wz hz; have kk : wz.cell? ⟨wr.heap.size, 3, none⟩ = some (.int .u32 (y3 : Int)) := (hz.2.cell 3).trans rfl; go_simp; with_reducible rfl)
      simp only [Act.put, List.getElem_toArray, List.getElem_cons_succ, List.getElem_cons_zero, List.setIfInBounds_toArray, List.set_cons_succ, List.set_cons_zero]
      refine wpAnyH_take (i := 3) (v := ?_) rfl (by kernel_rfl) (by kernel_rfl) (by kernel_rfl) (fun _ _ _ h => h) (Or.inl ⟨by rfl, ?_⟩) S9D.out ?_
      case refine_2 => (intro wz hz; go_simp; with_reducible rfl)
      simp only [Act.put, List.getElem_toArray, List.getElem_cons_succ, List.getElem_cons_zero, List.setIfInBounds_toArray, List.set_cons_succ, List.set_cons_zero]
      refine wpAnyH_take (i := 5) (v := ?_) rfl (by kernel_rfl) (by kernel_rfl) (by kernel_rfl) (fun _ _ _ h => h) (Or.inl ⟨by rfl, ?_⟩) S9D.out ?_
      case refine_2 => (intro wz hz; go_simp; with_reducible rfl)
      simp only [Act.put, List.getElem_toArray, List.getElem_cons_succ, List.getElem_cons_zero, List.setIfInBounds_toArray, List.set_cons_succ, List.set_cons_zero]
      refine wpAnyH_take (i := 6) (v := ?_) rfl (by kernel_rfl) (by kernel_rfl) (by kernel_rfl) (fun _ _ _ h => h) (Or.inl ⟨by rfl, ?_⟩) S9D.out ?_
      case refine_2 => (intro wz hz; have kk : wz.cell? ⟨wr.heap.size, 4, none⟩ = some (.int .u32 (y4 : Int)) := (hz.2.cell 4).trans rfl; go_simp; with_reducible rfl)
      simp only [Act.put, List.getElem_toArray, List.getElem_cons_succ, List.getElem_cons_zero, List.setIfInBounds_toArray, List.set_cons_succ, List.set_cons_zero]
      refine wpAnyH_take (i := 7) (v := ?_) rfl (by kernel_rfl) (by kernel_rfl) (by kernel_rfl) (fun _ _ _ h => h) (Or.inl ⟨by rfl, ?_⟩) S9D.out ?_
      case refine_2 => (intro wz hz; go_simp; with_reducible rfl)
      simp only [Act.put, List.getElem_toArray, List.getElem_cons_succ, List.getElem_cons_zero, List.setIfInBounds_toArray, List.set_cons_succ, List.set_cons_zero]
      refine wpAnyH_take (i := 9) (v := ?_) rfl (by kernel_rfl) (by kernel_rfl) (by kernel_rfl) (fun _ _ _ h => h) (Or.inl ⟨by rfl, ?_⟩) S9D.out ?_
      case refine_2 => (intro wz hz; go_simp; with_reducible rfl)
      simp only [Act.put, List.getElem_toArray, List.getElem_cons_succ, List.getElem_cons_zero, List.setIfInBounds_toArray, List.set_cons_succ, List.set_cons_zero]
      refine wpAnyH_take (i := 10) (v := ?_) rfl (by kernel_rfl) (by kernel_rfl) (by kernel_rfl) (fun _ _ _ h => h) (Or.inl ⟨by rfl, ?_⟩) S9D.out ?_
      case refine_2 => (intro wz hz; have kk : wz.cell? ⟨wr.heap.size, 5, none⟩ = some (.int .u32 (y5 : Int)) := (hz.2.cell 5).trans rfl; go_simp; with_reducible rfl)
      simp only [Act.put, List.getElem_toArray, List.getElem_cons_succ, List.getElem_cons_zero, List.setIfInBounds_toArray, List.set_cons_succ, List.set_cons_zero]
      refine wpAnyH_take (i := 11) (v := ?_) rfl (by kernel_rfl) (by kernel_rfl) (by kernel_rfl) (fun _ _ _ h => h) (Or.inl ⟨by rfl, ?_⟩) S9D.out ?_
      case refine_2 => (intro wz hz; go_simp; with_reducible rfl)
      simp only [Act.put, List.getElem_toArray, List.getElem_cons_succ, List.getElem_cons_zero, List.setIfInBounds_toArray, List.set_cons_succ, List.set_cons_zero]
      refine wpAnyH_take (i := 13) (v := ?_) rfl (by kernel_rfl) (by kernel_rfl) (by kernel_rfl) (fun _ _ _ h => h) (Or.inl ⟨by rfl, ?_⟩) S9D.out ?_
      case refine_2 => (intro wz hz; go_simp; with_reducible rfl)
      simp only [Act.put, List.getElem_toArray, List.getElem_cons_succ, List.getElem_cons_zero, List.setIfInBounds_toArray, List.set_cons_succ, List.set_cons_zero]
      refine wpAnyH_take (i := 14) (v := ?_) rfl (by kernel_rfl) (by kernel_rfl) (by kernel_rfl) (fun _ _ _ h => h) (Or.inl ⟨by rfl, ?_⟩) S9D.out ?_
      case refine_2 => (intro wz hz; have kk : wz.cell? ⟨wr.heap.size, 6, none⟩ = some (.int .u32 (y6 : Int)) := (hz.2.cell 6).trans rfl; go_simp; with_reducible rfl)
      simp only [Act.put, List.getElem_toArray, List.getElem_cons_succ, List.getElem_cons_zero, List.setIfInBounds_toArray, List.set_cons_succ, List.set_cons_zero]
      refine wpAnyH_take (i := 15) (v := ?_) rfl (by kernel_rfl) (by kernel_rfl) (by kernel_rfl) (fun _ _ _ h => h) (Or.inl ⟨by rfl, ?_⟩) S9D.out ?_
      case refine_2 => (intro wz hz; go_simp; with_reducible rfl)
      simp only [Act.put, List.getElem_toArray, List.getElem_cons_succ, List.getElem_cons_zero, List.setIfInBounds_toArray, List.set_cons_succ, List.set_cons_zero]
      refine anyH_one (i := 4) (by kernel_rfl) rfl rfl (fun H hH => ?_)
      simp only [List.getElem_toArray, List.getElem_cons_succ, List.getElem_cons_zero]
      go_simp
      refine (rput11 w _ A9 (M + 8) c9 (M + 12) _ 4 y3 _ _ (by omega) (by omega) (by omega) BDB.out BDR.out (by omega) (by omega) (by omega) (by omega)).mono ?_
      rintro e9 w10 ⟨A10, c10, rfl, hbo, hb⟩
      have B10 := Lib.hid hbo
      have B10B := Lib.hid hbo.2
      have B10R := Lib.hid hbo.rd
      have TS10 := Lib.hid (S9D.out.on hb)
      clear hbo hb
      refine hH _ _ TS10.out ?_
      clear hH H
      refine anyH_one (i := 8) (by kernel_rfl) rfl rfl (fun H hH => ?_)
      simp only [List.getElem_toArray, List.getElem_cons_succ, List.getElem_cons_zero]
      go_simp
      refine (rput11 w _ A10 (M + 12) c10 (M + 16) _ 4 y4 _ _ (by omega) (by omega) (by omega) B10B.out B10R.out (by omega) (by omega) (by omega) (by omega)).mono ?_
      rintro e9 w11 ⟨A11, c11, rfl, hbo, hb⟩
      have B11 := Lib.hid hbo
      have B11B := Lib.hid hbo.2
      have B11R := Lib.hid hbo.rd
      have TS11 := Lib.hid (TS10.out.on hb)
      clear hbo hb
      refine hH _ _ TS11.out ?_
      clear hH H
      refine anyH_one (i := 12) (by kernel_rfl) rfl rfl (fun H hH => ?_)
      simp only [List.getElem_toArray, List.getElem_cons_succ, List.getElem_cons_zero]
      go_simp
      refine (rput11 w _ A11 (M + 16) c11 (M + 20) _ 4 y5 _ _ (by omega) (by omega) (by omega) B11B.out B11R.out (by omega) (by omega) (by omega) (by omega)).mono ?_
      rintro e9 w12 ⟨A12, c12, rfl, hbo, hb⟩
      have B12 := Lib.hid hbo
      have B12B := Lib.hid hbo.2
      have B12R := Lib.hid hbo.rd
      have TS12 := Lib.hid (TS11.out.on hb)
      clear hbo hb
      refine hH _ _ TS12.out ?_
      clear hH H
      refine anyH_one (i := 16) (by kernel_rfl) rfl rfl (fun H hH => ?_)
      simp only [List.getElem_toArray, List.getElem_cons_succ, List.getElem_cons_zero]
      go_simp
      refine (rput11 w _ A12 (M + 20) c12 (M + 24) _ 4 y6 _ _ (by omega) (by omega) (by omega) B12B.out B12R.out (by omega) (by omega) (by omega) (by omega)).mono ?_
      rintro e9 w13 ⟨A13, c13, rfl, hbo, hb⟩
      have B13 := Lib.hid hbo
      have B13B := Lib.hid hbo.2
      have B13R := Lib.hid hbo.rd
      have TS13 := Lib.hid (TS12.out.on hb)
      clear hbo hb
      refine hH _ _ TS13.out ?_
      clear hH H
      refine wpAnyH_take (i := 17) (v := ?_) rfl (by kernel_rfl) (by kernel_rfl) (by kernel_rfl) (fun _ _ _ h => h) (Or.inl ⟨by rfl, ?_⟩) TS13.out ?_
      case refine_2 => (intro wz hz; go_simp; with_reducible rfl)
      simp only [Act.put, List.getElem_toArray, List.getElem_cons_succ, List.getElem_cons_zero, List.setIfInBounds_toArray, List.set_cons_succ, List.set_cons_zero]
      refine wpAnyH_done (by kernel_rfl) ?_ _
      refine NoPanic.normal ?_
      go_wp2
      have SE : Hid (OneS w [.int .i64 200, .int .u32 (so : Int), .int .u32 0, .int .u64 (ti : Int), .int .u32 (st : Int), .int .u32 (pa : Int), .int .u32 (oc : Int), .slice (some ⟨gb, go, none⟩) n a, .slice B 0 b', .slice C 0 c', .slice D 0 d, .slice E 0 e, .int .u64 0] w13) := Lib.hid TS13.out.1
      rw [HLO.out] at B13
      go_roundw
      case rel => exact ⟨k + 1, M + 24, A13, c13, by omega, by omega, by go_num, rfl, Lib.hid (by rw [HV2.out]; have := B13.out; simp only [repB, ← List.append_assoc] at this ⊢; exact this), SE⟩
      case measure => simp [intOf]; omega
    · obtain rfl : n = k := by omega
      rw [show L.take n = L by rw [← HN.out, List.take_length]] at HL
      clear hk hkn
      go_wp2
      obtain ⟨T3, hT3⟩ : ∃ T3, T3 = (T0 ++ L.flatMap repB) := ⟨_, rfl⟩
      have HT3 := Lib.hid hT3
      have HLN : Hid (BO w wr A20 M c20 T3) := Lib.hid (by rw [HT3.out]; exact HL.out)
      clear hT3
      go_loopw [7, 14] (fun v i wx => v = .slice A20 M c20 ∧ i = .int .i64 0 ∧ wx = wr) (fun _ _ _ => 0)
      case atStart => exact ⟨rfl, rfl, rfl⟩
      case round =>
        obtain ⟨rfl, rfl, rfl⟩ := hrel
        have qwr_0 : wr.cell? ⟨w.heap.size, 0, none⟩ = some (.int .i64 200) := (HS.out.2.cell 0).trans rfl; have qwr_1 : wr.cell? ⟨w.heap.size, 1, none⟩ = some (.int .u32 (so : Int)) := (HS.out.2.cell 1).trans rfl; have qwr_3 : wr.cell? ⟨w.heap.size, 3, none⟩ = some (.int .u64 (ti : Int)) := (HS.out.2.cell 3).trans rfl; have qwr_4 : wr.cell? ⟨w.heap.size, 4, none⟩ = some (.int .u32 (st : Int)) := (HS.out.2.cell 4).trans rfl; have qwr_5 : wr.cell? ⟨w.heap.size, 5, none⟩ = some (.int .u32 (pa : Int)) := (HS.out.2.cell 5).trans rfl; have qwr_6 : wr.cell? ⟨w.heap.size, 6, none⟩ = some (.int .u32 (oc : Int)) := (HS.out.2.cell 6).trans rfl; have qwr_7 : wr.cell? ⟨w.heap.size, 7, none⟩ = some (.slice A n a) := (HS.out.2.cell 7).trans rfl; have qwr_8 : wr.cell? ⟨w.heap.size, 8, none⟩ = some (.slice B 0 b') := (HS.out.2.cell 8).trans rfl; have qwr_9 : wr.cell? ⟨w.heap.size, 9, none⟩ = some (.slice C 0 c') := (HS.out.2.cell 9).trans rfl
        go_wp2
        go_loopw [7, 15] (fun v i wx => v = .slice A20 M c20 ∧ i = .int .i64 0 ∧ wx = wr) (fun _ _ _ => 0)
        case atStart => exact ⟨rfl, rfl, rfl⟩
        case round =>
          obtain ⟨rfl, rfl, rfl⟩ := hrel
          have qwr_0 : wr.cell? ⟨w.heap.size, 0, none⟩ = some (.int .i64 200) := (HS.out.2.cell 0).trans rfl; have qwr_1 : wr.cell? ⟨w.heap.size, 1, none⟩ = some (.int .u32 (so : Int)) := (HS.out.2.cell 1).trans rfl; have qwr_3 : wr.cell? ⟨w.heap.size, 3, none⟩ = some (.int .u64 (ti : Int)) := (HS.out.2.cell 3).trans rfl; have qwr_4 : wr.cell? ⟨w.heap.size, 4, none⟩ = some (.int .u32 (st : Int)) := (HS.out.2.cell 4).trans rfl; have qwr_5 : wr.cell? ⟨w.heap.size, 5, none⟩ = some (.int .u32 (pa : Int)) := (HS.out.2.cell 5).trans rfl; have qwr_6 : wr.cell? ⟨w.heap.size, 6, none⟩ = some (.int .u32 (oc : Int)) := (HS.out.2.cell 6).trans rfl; have qwr_7 : wr.cell? ⟨w.heap.size, 7, none⟩ = some (.slice A n a) := (HS.out.2.cell 7).trans rfl; have qwr_8 : wr.cell? ⟨w.heap.size, 8, none⟩ = some (.slice B 0 b') := (HS.out.2.cell 8).trans rfl; have qwr_9 : wr.cell? ⟨w.heap.size, 9, none⟩ = some (.slice C 0 c') := (HS.out.2.cell 9).trans rfl
          obtain ⟨MM, hMM⟩ : ∃ MM, MM = M := ⟨_, rfl⟩
          have hMl : MM ≤ 5000 := by omega
          have HB9 : Hid (BO w wr A20 MM c20 T3) := Lib.hid (by rw [hMM]; exact HLN.out)
          obtain ⟨Y, hY⟩ : ∃ Y, Y = 128 + n := ⟨_, rfl⟩
          have HTB : Hid (T3 = bSR so ti st pa oc L) := Lib.hid (by have h1 := HT0.out; have h3 := HT3.out; rw [h3, h1]; simp [bSR])
          have HY := Lib.hid hY
          have lY : Y < 256 := by omega
          have et1 : IntKind.i64.wrap (128 + (n : Int)) = (Y : Int) := by rw [IntKind.wrap_i64]; omega
          have et2 : IntKind.u8.wrap (Y : Int) = (Y : Int) := by rw [IntKind.wrap_u8]; omega
          obtain ⟨Z9, hZ9⟩ : ∃ Z9, Z9 = MM / 4 := ⟨_, rfl⟩
          have et3 : IntKind.i64.wrap ((MM : Int) / 4) = (Z9 : Int) := by rw [IntKind.wrap_i64]; omega
          have et4 : IntKind.u64.wrap (Z9 : Int) = (Z9 : Int) := by rw [IntKind.wrap_u64]; omega
          have et5 : (MM : Int) / 4 = (Z9 : Int) := by omega
          have et6 : IntKind.i64.wrap (Z9 : Int) = (Z9 : Int) := by rw [IntKind.wrap_i64]; omega
          have HZ9 := Lib.hid hZ9
          have HMM := Lib.hid hMM
          have lZ9 : Z9 < 5000 := by omega
          rw [← hMM] at ⊢
          clear hY hZ9 hMM
          have HB9R := Lib.hid HB9.out.rd
          have HB9B := Lib.hid HB9.out.2
          go_wp2_with (first
            | (go_at_call 35; ((with_reducible refine (rput11 w _ (some ⟨wr.heap.size, 0, none⟩) 2 2 4 _ 2 Z9 _ _ (by omega) (by omega) (by omega) (Below.alloc HB9B.out HB9B.out.size _) (rd_tq wr Y 200 (Y : Int) 200 (by omega) (by omega) (by omega) (by omega)) (by omega) (by omega) (by omega) (by omega)).mono ?_); rintro e9 w40 ⟨A40, c40, rfl, hbo, hb⟩; have B40 := Lib.hid hbo; have R40 := Lib.hid (HB9R.out.below (((Below.refl wr.heap.size wr).alloc (Nat.le_refl _) (.cells #[.int .u8 (Y : Int), .int .u8 200] 5)).trans (hb.mono ((Below.refl wr.heap.size wr).alloc (Nat.le_refl _) (.cells #[.int .u8 (Y : Int), .int .u8 200] 5)).size))); clear hbo hb))
            | (at_builtin; refine wpList_append_rd _ rfl (.tmp 262) (.tmp 263) rfl Tryd.underlying25 u8_info w.heap.size (.slice A40 4 c40) 4 _ rfl B40.out.1 A20 MM c20 T3 rfl R40.out (by omega) B40.out.2.size ?_; intro v41 w41 hown hg _; obtain ⟨A41, c41, hv⟩ := own_formN hown; subst hv; have B41 := Lib.hid (B40.out.more hown hg); clear hown hg))
          go_ret
          have hfin : wr1 (mkSR 200 so ti st pa oc L) = beb 1 Y ++ beb 1 200 ++ beb 2 Z9 ++ T3 := by unfold wr1; rw [HQ.out, HTY.out, HBD.out, ← HTB.out, HB9.out.len, ← HY.out, ← HZ9.out]; simp only [List.append_assoc]
          have hl : 4 + MM = (wr1 (mkSR 200 so ti st pa oc L)).length := by rw [hfin]; exact B41.out.len.symm
          exact ⟨A41, c41, 4 + MM, hl, rfl, by rw [hfin]; exact B41.out.rd, B41.out.2⟩
end Go.Proofs.YtacaempcbdekaaaDoor
