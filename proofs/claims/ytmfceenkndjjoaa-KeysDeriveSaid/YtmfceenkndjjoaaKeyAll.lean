/- KeysAll's walk: the keys of any master are the document's. -/
import Derived.Test.YtmfceenkndjjoaaKeyLaw
import Derived.Laws.StructEq
namespace Go.Proofs.Ytmfceenkndjjoaa
open Go.RowKit
set_option linter.unusedVariables false

/-- A struct is equal to itself if each of its parts is. -/
theorem eqFields_same {P : Program} (d : Nat) (xs : Array Value) (w : World) : ∀ fs : List Field, (∀ f ∈ fs, ∃ v, (part f.type xs f.offset).run P w = .ok v w ∧ (Op.equalIn d f.type v v).run P w = .ok true w) → (Op.eqFields d xs xs fs).run P w = .ok true w
  | [], _ => by simp [Op.eqFields]
  | f :: fs, h => by
    have ih := eqFields_same d xs w fs (fun g hg => h g (List.mem_cons_of_mem _ hg))
    obtain ⟨v, h1, h2⟩ := h f List.mem_cons_self
    unfold Op.eqFields
    by_cases hn : f.name ≠ "_"
    · rw [if_pos hn]
      simp only [Sem.run_bind, h1, Result.andThen_ok, h2, Sem.run_ite]
      simpa using ih
    · rw [if_neg hn]
      exact ih
theorem part_cells {P : Program} (t e : TypeId) (n : Nat) (w : World) (ht : P.underlying t = some (.array n e)) (hs : (sizeOf t).run P w = .ok n w) (xs : List UInt8) (o : Nat) :
    (part t (cells xs).toArray o).run P w = .ok (.agg (cells ((xs.drop o).take n)).toArray) w := by
  have e1 : (cells xs).toArray.extract o (o + n) = (cells ((xs.drop o).take n)).toArray := by
    rw [← Array.toList_inj]
    simp [cells, List.extract_eq_take_drop, List.map_take, List.map_drop]
  simp only [part, isAgg, Sem.run_bind, run_underlying ht, Result.andThen_ok, Sem.run_pure, if_true, hs, e1]
theorem fields_k : ∀ f ∈ (Try.prog.fieldsOf 32).toList, (f.type = 22 ∧ f.offset = 0) ∨ (f.type = 30 ∧ f.offset = 16) ∨ (f.type = 23 ∧ f.offset = 36) := by decide +kernel
theorem bytes_same (t : TypeId) (n : Nat) (xs : List UInt8) (w : World) (ht : Try.prog.underlying t = some (.array n 5)) (hx : xs.length = n) :
    (Op.equalIn 9999 t (.agg (cells xs).toArray) (.agg (cells xs).toArray)).run Try.prog w = .ok true w := by
  refine (run_equalIn_bytes w 9997 t 5 n ht Try.underlying5 (fun w => ?_) xs xs hx hx).trans ?_
  · kernel_rfl
  · simp
theorem keys_same (K : List UInt8) (hK : K.length = 50) (w : World) : (Op.equalIn 10000 32 (.agg (cells K).toArray) (.agg (cells K).toArray)).run Try.prog w = .ok true w := by
  rw [run_equalIn_struct w 9999 32 _ _ (by kernel_rfl) (by kernel_rfl)]
  refine eqFields_same 9999 _ w _ fun f hf => ?_
  rcases fields_k f hf with ⟨h1, h2⟩ | ⟨h1, h2⟩ | ⟨h1, h2⟩
  · rw [h1, h2]
    exact ⟨_, part_cells _ 5 16 w Try.underlying22 (by kernel_rfl) K 0, bytes_same _ 16 _ w Try.underlying22 (by rw [List.length_take, List.length_drop]; omega)⟩
  · rw [h1, h2]
    exact ⟨_, part_cells _ 5 20 w Try.underlying30 (by kernel_rfl) K 16, bytes_same _ 20 _ w Try.underlying30 (by rw [List.length_take, List.length_drop]; omega)⟩
  · rw [h1, h2]
    exact ⟨_, part_cells _ 5 14 w Try.underlying23 (by kernel_rfl) K 36, bytes_same _ 14 _ w Try.underlying23 (by rw [List.length_take, List.length_drop]; omega)⟩

/-- What is there all along: the master. -/
structure MEnv (w : World) (M : List UInt8) (wr : World) : Prop where
  m : Blk wr w.heap.size 25 M
  b : Below w.heap.size w wr
theorem MEnv.below {w : World} {M : List UInt8} {wr w' : World} (h : MEnv w M wr) (hb : Below wr.heap.size wr w') : MEnv w M w' := ⟨h.m.below hb h.m.lt, h.b.trans (hb.mono h.b.size)⟩
theorem menv_start (w : World) (M : List UInt8) : MEnv w M (w.alloc (.cells (cells M).toArray 25)) := ⟨Blk.new _ _ _, (Below.refl _ _).alloc (Nat.le_refl _) _⟩

set_option maxRecDepth 100000 in
set_option maxHeartbeats 2000000 in
theorem keysAll_walk (key salt : List UInt8) (w : World) (hk : key.length = 16) (hs : salt.length = 14) :
    Calls Try.prog 4 #[.agg (cells (mst key salt)).toArray] w fun e w' => e = .returned (.bool true) ∧ Below w.heap.size w w' := by
  have hE0 := menv_start w (mst key salt)
  have hml := mst_len key salt hk hs
  have h1 := fun wx => rtp_any key salt wx hk hs
  have h2 := fun wx => rtcp_any key salt wx hk hs
  have r1 : ∀ wx : World, Calls Try.prog 9 #[.agg (cells (mst key salt)).toArray, .int .u8 0] wx fun e w' => e = .returned (.agg (cells (kys key salt 0)).toArray) ∧ Below wx.heap.size wx w' := fun wx => rkeys_any key salt 0 0 wx hk hs (by omega) rfl
  have r2 : ∀ wx : World, Calls Try.prog 9 #[.agg (cells (mst key salt)).toArray, .int .u8 3] wx fun e w' => e = .returned (.agg (cells (kys key salt 3)).toArray) ∧ Below wx.heap.size wx w' := fun wx => rkeys_any key salt 3 3 wx hk hs (by omega) rfl
  have q1 := keys_same (kys key salt 0) (kys_len _ _ _)
  have q2 := keys_same (kys key salt 3) (kys_len _ _ _)
  obtain ⟨K, hK⟩ : ∃ K, K = kys key salt 0 := ⟨_, rfl⟩
  obtain ⟨T, hT⟩ : ∃ T, T = kys key salt 3 := ⟨_, rfl⟩
  simp only [← hK] at h1 r1 q1
  simp only [← hT] at h2 r2 q2
  obtain ⟨M, hM⟩ : ∃ M, M = mst key salt := ⟨_, rfl⟩
  simp only [← hM] at h1 h2 r1 r2 hE0 hml ⊢
  have hML : (cells M).length = 30 := by rw [length_cells, hml]
  have HML := Lib.hid hML
  have H1 := Lib.hid h1
  have H2 := Lib.hid h2
  have R1 := Lib.hid r1
  have R2 := Lib.hid r2
  clear h1 h2 r1 r2 hK hT hM hml hML hk hs
  go_enter Try.func4, Try.ntmps4
  go_wp2
  refine wp_region_noPanic ?_
  refine wp_region_held (S := MEnv w M) (by kernel_rfl) ?_
  change wpAnyH _ _ _ _ _ _ _ _ (World.drew _)
  have hS : MEnv w M (w.alloc (.cells (cells M).toArray 25)).drew := hE0.below ((Below.refl _ _).drew)
  clear hE0
  generalize (w.alloc (.cells (cells M).toArray 25)).drew = x0 at *
  refine anyH_one (i := 0) (by kernel_rfl) rfl rfl (fun H hH => ?_)
  simp only [List.getElem_toArray, List.getElem_cons_zero]
  go_simp
  refine (aliveK_any x0).mono ?_
  rintro e x1 ⟨rfl, hb⟩
  have hS1 := hS.below hb
  refine hH _ _ hS1 ?_
  clear hH H hb hS
  refine wpAnyH_take (i := 1) (v := ?_) rfl (by kernel_rfl) (by kernel_rfl) (by kernel_rfl) (fun _ _ _ h => h) (Or.inl ⟨by rfl, ?_⟩) hS1 ?_
  case refine_2 => (intro wz hz; go_simp; with_reducible rfl)
  simp only [Act.put, List.getElem_toArray, List.getElem_cons_succ, List.getElem_cons_zero, List.setIfInBounds_toArray, List.set_cons_succ, List.set_cons_zero]
  refine wpAnyH_take (i := 2) (v := .agg (cells M).toArray) rfl (by kernel_rfl) (by kernel_rfl) (by kernel_rfl) (fun _ _ _ h => h) (Or.inl ⟨by rfl, fun wz hz => ?_⟩) hS1 ?_
  · exact run_ld 25 _ rfl w.heap.size 0 (by rfl) (cells M) (hz.m.v.range 0 _ (by simp)) (row30 HML.out)
  simp only [Act.put, List.getElem_toArray, List.getElem_cons_succ, List.getElem_cons_zero, List.setIfInBounds_toArray, List.set_cons_succ, List.set_cons_zero]
  refine wpAnyH_take (i := 4) (v := .agg (cells M).toArray) rfl (by kernel_rfl) (by kernel_rfl) (by kernel_rfl) (fun _ _ _ h => h) (Or.inl ⟨by rfl, fun wz hz => ?_⟩) hS1 ?_
  · exact run_ld 25 _ rfl w.heap.size 0 (by rfl) (cells M) (hz.m.v.range 0 _ (by simp)) (row30 HML.out)
  simp only [Act.put, List.getElem_toArray, List.getElem_cons_succ, List.getElem_cons_zero, List.setIfInBounds_toArray, List.set_cons_succ, List.set_cons_zero]
  refine anyH_oneG (i := 3) (by kernel_rfl) rfl (by rfl) (fun H hH => ?_)
  simp only [List.getElem_toArray, List.getElem_cons_succ, List.getElem_cons_zero]
  go_simp
  refine (H1.out x1).mono ?_
  rintro e x2 ⟨rfl, hb⟩
  have hS2 := hS1.below hb
  refine hH _ _ hS2 ?_
  clear hH H hb hS1
  refine anyH_oneG (i := 5) (by kernel_rfl) rfl (by rfl) (fun H hH => ?_)
  simp only [List.getElem_toArray, List.getElem_cons_succ, List.getElem_cons_zero]
  go_simp
  refine (R1.out x2).mono ?_
  rintro e x3 ⟨rfl, hb⟩
  have hS3 := hS2.below hb
  refine hH _ _ hS3 ?_
  clear hH H hb hS2
  refine wpAnyH_take (i := 6) (v := ?_) rfl (by kernel_rfl) (by kernel_rfl) (by kernel_rfl) (fun _ _ _ h => h) (Or.inl ⟨by rfl, ?_⟩) hS3 ?_
  case refine_2 => (intro wz hz; go_simp; with_reducible rfl)
  simp only [Act.put, List.getElem_toArray, List.getElem_cons_succ, List.getElem_cons_zero, List.setIfInBounds_toArray, List.set_cons_succ, List.set_cons_zero]
  refine wpAnyH_take (i := 7) (v := ?_) rfl (by kernel_rfl) (by kernel_rfl) (by kernel_rfl) (fun _ _ _ h => h) (Or.inl ⟨by rfl, ?_⟩) hS3 ?_
  case refine_2 => (intro wz hz; go_simp; with_reducible rfl)
  simp only [Act.put, List.getElem_toArray, List.getElem_cons_succ, List.getElem_cons_zero, List.setIfInBounds_toArray, List.set_cons_succ, List.set_cons_zero]
  refine wpAnyH_take (i := 8) (v := ?_) rfl (by kernel_rfl) (by kernel_rfl) (by kernel_rfl) (fun _ _ _ h => h) (Or.inl ⟨by rfl, ?_⟩) hS3 ?_
  case refine_2 => (intro wz hz; go_simp; with_reducible rfl)
  simp only [Act.put, List.getElem_toArray, List.getElem_cons_succ, List.getElem_cons_zero, List.setIfInBounds_toArray, List.set_cons_succ, List.set_cons_zero]
  refine wpAnyH_take (i := 9) (v := .agg (cells M).toArray) rfl (by kernel_rfl) (by kernel_rfl) (by kernel_rfl) (fun _ _ _ h => h) (Or.inl ⟨by rfl, fun wz hz => ?_⟩) hS3 ?_
  · exact run_ld 25 _ rfl w.heap.size 0 (by rfl) (cells M) (hz.m.v.range 0 _ (by simp)) (row30 HML.out)
  simp only [Act.put, List.getElem_toArray, List.getElem_cons_succ, List.getElem_cons_zero, List.setIfInBounds_toArray, List.set_cons_succ, List.set_cons_zero]
  refine wpAnyH_take (i := 11) (v := .agg (cells M).toArray) rfl (by kernel_rfl) (by kernel_rfl) (by kernel_rfl) (fun _ _ _ h => h) (Or.inl ⟨by rfl, fun wz hz => ?_⟩) hS3 ?_
  · exact run_ld 25 _ rfl w.heap.size 0 (by rfl) (cells M) (hz.m.v.range 0 _ (by simp)) (row30 HML.out)
  simp only [Act.put, List.getElem_toArray, List.getElem_cons_succ, List.getElem_cons_zero, List.setIfInBounds_toArray, List.set_cons_succ, List.set_cons_zero]
  refine anyH_oneG (i := 10) (by kernel_rfl) rfl (by rfl) (fun H hH => ?_)
  simp only [List.getElem_toArray, List.getElem_cons_succ, List.getElem_cons_zero]
  go_simp
  refine (H2.out x3).mono ?_
  rintro e x4 ⟨rfl, hb⟩
  have hS4 := hS3.below hb
  refine hH _ _ hS4 ?_
  clear hH H hb hS3
  refine anyH_oneG (i := 12) (by kernel_rfl) rfl (by rfl) (fun H hH => ?_)
  simp only [List.getElem_toArray, List.getElem_cons_succ, List.getElem_cons_zero]
  go_simp
  refine (R2.out x4).mono ?_
  rintro e x5 ⟨rfl, hb⟩
  have hS5 := hS4.below hb
  refine hH _ _ hS5 ?_
  clear hH H hb hS4
  refine wpAnyH_take (i := 13) (v := ?_) rfl (by kernel_rfl) (by kernel_rfl) (by kernel_rfl) (fun _ _ _ h => h) (Or.inl ⟨by rfl, ?_⟩) hS5 ?_
  case refine_2 => (intro wz hz; go_simp; with_reducible rfl)
  simp only [Act.put, List.getElem_toArray, List.getElem_cons_succ, List.getElem_cons_zero, List.setIfInBounds_toArray, List.set_cons_succ, List.set_cons_zero]
  refine wpAnyH_take (i := 14) (v := ?_) rfl (by kernel_rfl) (by kernel_rfl) (by kernel_rfl) (fun _ _ _ h => h) (Or.inl ⟨by rfl, ?_⟩) hS5 ?_
  case refine_2 => (intro wz hz; go_simp; with_reducible rfl)
  simp only [Act.put, List.getElem_toArray, List.getElem_cons_succ, List.getElem_cons_zero, List.setIfInBounds_toArray, List.set_cons_succ, List.set_cons_zero]
  refine wpAnyH_take (i := 15) (v := ?_) rfl (by kernel_rfl) (by kernel_rfl) (by kernel_rfl) (fun _ _ _ h => h) (Or.inl ⟨by rfl, ?_⟩) hS5 ?_
  case refine_2 => (intro wz hz; go_simp; with_reducible rfl)
  simp only [Act.put, List.getElem_toArray, List.getElem_cons_succ, List.getElem_cons_zero, List.setIfInBounds_toArray, List.set_cons_succ, List.set_cons_zero]
  refine wpAnyH_done (by kernel_rfl) ?_ _
  refine NoPanic.normal ?_
  go_wp2
  go_ret
  exact ⟨rfl, hS5.b⟩
end Go.Proofs.Ytmfceenkndjjoaa
