/- StreamFirst's walk: the first counter of any salt, source and index, and the next one of any, are the document's. -/
import Derived.Test.YtbimpejeoidafaaStrLaw
import Derived.Test.YtbimpejeoidafaaReg
namespace Go.Proofs.Ytbimpejeoidafaa
open Go.RowKit
set_option linter.unusedVariables false

/-- What is there all along: the salt, and a counter. -/
structure FEnv (w : World) (salt c : List UInt8) (wr : World) : Prop where
  s : Blk wr w.heap.size 22 salt
  c : Blk wr (w.heap.size + 1) 25 c
  b : Below w.heap.size w wr
theorem FEnv.below {w : World} {salt c : List UInt8} {wr w' : World} (h : FEnv w salt c wr) (hb : Below wr.heap.size wr w') : FEnv w salt c w' := ⟨h.s.below hb h.s.lt, h.c.below hb h.c.lt, h.b.trans (hb.mono h.b.size)⟩
theorem fenv_start (w : World) (salt c : List UInt8) : FEnv w salt c ((w.alloc (.cells (cells salt).toArray 22)).alloc (.cells (cells c).toArray 25)) :=
  ⟨(Blk.new _ _ _).alloc _, Blk.new_at _ _ _ _ _ (by simp) rfl, ((Below.refl _ _).alloc (Nat.le_refl _) _).alloc (by simp) _⟩

set_option maxRecDepth 100000 in
set_option maxHeartbeats 2000000 in
theorem streamFirst_n (salt c : List UInt8) (s x : Nat) (w : World) (hs : salt.length = 14) (hc : c.length = 16) (hsl : s < 4294967296) (hx : x < 18446744073709551616) :
    Calls Try.prog 3 #[.agg (cells salt).toArray, .int .u32 (s : Int), .int .u64 (x : Int), .agg (cells c).toArray] w fun e w' => e = .returned (.bool true) ∧ Below w.heap.size w w' := by
  have hE0 := fenv_start w salt c
  have HSL : Hid ((cells salt).length = 14) := Lib.hid (by rw [length_cells, hs])
  have HCL : Hid ((cells c).length = 16) := Lib.hid (by rw [length_cells, hc])
  have hf := fun wx => first_any salt s x wx hs hsl hx
  have hrf := fun wx => rfirst_any salt s x wx hs hsl hx
  have hn := fun wx => next_any c wx hc
  have hrn : ∀ wx : World, Calls Try.prog 10 #[.agg (cells c).toArray, .int .i64 1] wx fun e w' => e = .returned (.agg (cells (plusC c 1)).toArray) ∧ Below wx.heap.size wx w' := fun wx => rplus_any c 1 wx hc (by omega)
  have hFl := firstC_len salt s x hs
  have hPl := plusC_len c 1
  obtain ⟨F, hF⟩ : ∃ F, F = firstC salt s x := ⟨_, rfl⟩
  obtain ⟨D, hD⟩ : ∃ D, D = plusC c 1 := ⟨_, rfl⟩
  simp only [← hF] at hf hrf hFl
  simp only [← hD] at hn hrn hPl
  have qF : ∀ w, (Op.equalIn 10000 25 (.agg (cells F).toArray) (.agg (cells F).toArray)).run Try.prog w = .ok true w := fun w => by rw [eq16S F F hFl hFl]; simp
  have qD : ∀ w, (Op.equalIn 10000 25 (.agg (cells D).toArray) (.agg (cells D).toArray)).run Try.prog w = .ok true w := fun w => by rw [eq16S D D hPl hPl]; simp
  have HF := Lib.hid hf
  have HRF := Lib.hid hrf
  have HN := Lib.hid hn
  have HRN := Lib.hid hrn
  clear hf hrf hn hrn hFl hPl hF hD hs hc
  go_enter Try.func3, Try.ntmps3
  go_wp2
  refine wp_region_noPanic ?_
  refine wp_region_held (S := FEnv w salt c) (by kernel_rfl) ?_
  change wpAnyH _ _ _ _ _ _ _ _ (World.drew _)
  have hS : FEnv w salt c ((w.alloc (.cells (cells salt).toArray 22)).alloc (.cells (cells c).toArray 25)).drew := hE0.below ((Below.refl _ _).drew)
  clear hE0
  generalize ((w.alloc (.cells (cells salt).toArray 22)).alloc (.cells (cells c).toArray 25)).drew = w0 at *
  refine anyH_one (i := 0) (by kernel_rfl) rfl rfl (fun H hH => ?_)
  simp only [List.getElem_toArray, List.getElem_cons_zero]
  go_simp
  refine (aliveS_any w0).mono ?_
  rintro e w1 ⟨rfl, hb1⟩
  have hS1 := hS.below hb1
  refine hH _ _ hS1 ?_
  clear hH H hb1 hS
  refine wpAnyH_take (i := 1) (v := ?_) rfl (by kernel_rfl) (by kernel_rfl) (by kernel_rfl) (fun _ _ _ h => h) (Or.inl ⟨by rfl, ?_⟩) hS1 ?_
  case refine_2 => (intro wz hz; go_simp; with_reducible rfl)
  simp only [Act.put, List.getElem_toArray, List.getElem_cons_succ, List.getElem_cons_zero, List.setIfInBounds_toArray, List.set_cons_succ, List.set_cons_zero]
  refine wpAnyH_take (i := 2) (v := .agg (cells salt).toArray) rfl (by kernel_rfl) (by kernel_rfl) (by kernel_rfl) (fun _ _ _ h => h) (Or.inl ⟨by rfl, fun wz hz => ?_⟩) hS1 ?_
  · exact run_ld 22 _ rfl w.heap.size 0 (by rfl) (cells salt) (hz.s.v.range 0 _ (by simp)) (row14 HSL.out)
  simp only [Act.put, List.getElem_toArray, List.getElem_cons_succ, List.getElem_cons_zero, List.setIfInBounds_toArray, List.set_cons_succ, List.set_cons_zero]
  refine wpAnyH_take (i := 3) (v := ?_) rfl (by kernel_rfl) (by kernel_rfl) (by kernel_rfl) (fun _ _ _ h => h) (Or.inl ⟨by rfl, ?_⟩) hS1 ?_
  case refine_2 => (intro wz hz; go_simp; with_reducible rfl)
  simp only [Act.put, List.getElem_toArray, List.getElem_cons_succ, List.getElem_cons_zero, List.setIfInBounds_toArray, List.set_cons_succ, List.set_cons_zero]
  refine wpAnyH_take (i := 4) (v := ?_) rfl (by kernel_rfl) (by kernel_rfl) (by kernel_rfl) (fun _ _ _ h => h) (Or.inl ⟨by rfl, ?_⟩) hS1 ?_
  case refine_2 => (intro wz hz; go_simp; with_reducible rfl)
  simp only [Act.put, List.getElem_toArray, List.getElem_cons_succ, List.getElem_cons_zero, List.setIfInBounds_toArray, List.set_cons_succ, List.set_cons_zero]
  refine wpAnyH_take (i := 6) (v := .agg (cells salt).toArray) rfl (by kernel_rfl) (by kernel_rfl) (by kernel_rfl) (fun _ _ _ h => h) (Or.inl ⟨by rfl, fun wz hz => ?_⟩) hS1 ?_
  · exact run_ld 22 _ rfl w.heap.size 0 (by rfl) (cells salt) (hz.s.v.range 0 _ (by simp)) (row14 HSL.out)
  simp only [Act.put, List.getElem_toArray, List.getElem_cons_succ, List.getElem_cons_zero, List.setIfInBounds_toArray, List.set_cons_succ, List.set_cons_zero]
  refine wpAnyH_take (i := 7) (v := ?_) rfl (by kernel_rfl) (by kernel_rfl) (by kernel_rfl) (fun _ _ _ h => h) (Or.inl ⟨by rfl, ?_⟩) hS1 ?_
  case refine_2 => (intro wz hz; go_simp; with_reducible rfl)
  simp only [Act.put, List.getElem_toArray, List.getElem_cons_succ, List.getElem_cons_zero, List.setIfInBounds_toArray, List.set_cons_succ, List.set_cons_zero]
  refine wpAnyH_take (i := 8) (v := ?_) rfl (by kernel_rfl) (by kernel_rfl) (by kernel_rfl) (fun _ _ _ h => h) (Or.inl ⟨by rfl, ?_⟩) hS1 ?_
  case refine_2 => (intro wz hz; go_simp; with_reducible rfl)
  simp only [Act.put, List.getElem_toArray, List.getElem_cons_succ, List.getElem_cons_zero, List.setIfInBounds_toArray, List.set_cons_succ, List.set_cons_zero]
  refine anyH_oneG (i := 5) (by kernel_rfl) rfl (by rfl) (fun H hH => ?_)
  simp only [List.getElem_toArray, List.getElem_cons_succ, List.getElem_cons_zero]
  go_simp
  refine (HF.out w1).mono ?_
  rintro e w2 ⟨rfl, hb2⟩
  have hS2 := hS1.below hb2
  refine hH _ _ hS2 ?_
  clear hH H hb2
  refine anyH_oneG (i := 9) (by kernel_rfl) rfl (by rfl) (fun H hH => ?_)
  simp only [List.getElem_toArray, List.getElem_cons_succ, List.getElem_cons_zero]
  go_simp
  refine (HRF.out w2).mono ?_
  rintro e w3 ⟨rfl, hb3⟩
  have hS3 := hS2.below hb3
  refine hH _ _ hS3 ?_
  clear hH H hb3
  refine wpAnyH_take (i := 10) (v := ?_) rfl (by kernel_rfl) (by kernel_rfl) (by kernel_rfl) (fun _ _ _ h => h) (Or.inl ⟨by rfl, ?_⟩) hS3 ?_
  case refine_2 => (intro wz hz; go_simp; with_reducible rfl)
  simp only [Act.put, List.getElem_toArray, List.getElem_cons_succ, List.getElem_cons_zero, List.setIfInBounds_toArray, List.set_cons_succ, List.set_cons_zero]
  refine wpAnyH_take (i := 11) (v := ?_) rfl (by kernel_rfl) (by kernel_rfl) (by kernel_rfl) (fun _ _ _ h => h) (Or.inl ⟨by rfl, ?_⟩) hS3 ?_
  case refine_2 => (intro wz hz; go_simp; with_reducible rfl)
  simp only [Act.put, List.getElem_toArray, List.getElem_cons_succ, List.getElem_cons_zero, List.setIfInBounds_toArray, List.set_cons_succ, List.set_cons_zero]
  refine wpAnyH_take (i := 12) (v := ?_) rfl (by kernel_rfl) (by kernel_rfl) (by kernel_rfl) (fun _ _ _ h => h) (Or.inl ⟨by rfl, ?_⟩) hS3 ?_
  case refine_2 => (intro wz hz; go_simp; with_reducible rfl)
  simp only [Act.put, List.getElem_toArray, List.getElem_cons_succ, List.getElem_cons_zero, List.setIfInBounds_toArray, List.set_cons_succ, List.set_cons_zero]
  refine wpAnyH_take (i := 13) (v := .agg (cells c).toArray) rfl (by kernel_rfl) (by kernel_rfl) (by kernel_rfl) (fun _ _ _ h => h) (Or.inl ⟨by rfl, fun wz hz => ?_⟩) hS3 ?_
  · exact run_ld 25 _ rfl (w.heap.size + 1) 0 (by rfl) (cells c) (hz.c.v.range 0 _ (by simp)) (row16 HCL.out)
  simp only [Act.put, List.getElem_toArray, List.getElem_cons_succ, List.getElem_cons_zero, List.setIfInBounds_toArray, List.set_cons_succ, List.set_cons_zero]
  refine wpAnyH_take (i := 15) (v := .agg (cells c).toArray) rfl (by kernel_rfl) (by kernel_rfl) (by kernel_rfl) (fun _ _ _ h => h) (Or.inl ⟨by rfl, fun wz hz => ?_⟩) hS3 ?_
  · exact run_ld 25 _ rfl (w.heap.size + 1) 0 (by rfl) (cells c) (hz.c.v.range 0 _ (by simp)) (row16 HCL.out)
  simp only [Act.put, List.getElem_toArray, List.getElem_cons_succ, List.getElem_cons_zero, List.setIfInBounds_toArray, List.set_cons_succ, List.set_cons_zero]
  refine anyH_oneG (i := 14) (by kernel_rfl) rfl (by rfl) (fun H hH => ?_)
  simp only [List.getElem_toArray, List.getElem_cons_succ, List.getElem_cons_zero]
  go_simp
  refine (HN.out w3).mono ?_
  rintro e w4 ⟨rfl, hb4⟩
  have hS4 := hS3.below hb4
  refine hH _ _ hS4 ?_
  clear hH H hb4
  refine anyH_oneG (i := 16) (by kernel_rfl) rfl (by rfl) (fun H hH => ?_)
  simp only [List.getElem_toArray, List.getElem_cons_succ, List.getElem_cons_zero]
  go_simp
  refine (HRN.out w4).mono ?_
  rintro e w5 ⟨rfl, hb5⟩
  have hS5 := hS4.below hb5
  refine hH _ _ hS5 ?_
  clear hH H hb5
  refine wpAnyH_take (i := 17) (v := ?_) rfl (by kernel_rfl) (by kernel_rfl) (by kernel_rfl) (fun _ _ _ h => h) (Or.inl ⟨by rfl, ?_⟩) hS5 ?_
  case refine_2 => (intro wz hz; go_simp; with_reducible rfl)
  simp only [Act.put, List.getElem_toArray, List.getElem_cons_succ, List.getElem_cons_zero, List.setIfInBounds_toArray, List.set_cons_succ, List.set_cons_zero]
  refine wpAnyH_take (i := 18) (v := ?_) rfl (by kernel_rfl) (by kernel_rfl) (by kernel_rfl) (fun _ _ _ h => h) (Or.inl ⟨by rfl, ?_⟩) hS5 ?_
  case refine_2 => (intro wz hz; go_simp; with_reducible rfl)
  simp only [Act.put, List.getElem_toArray, List.getElem_cons_succ, List.getElem_cons_zero, List.setIfInBounds_toArray, List.set_cons_succ, List.set_cons_zero]
  refine wpAnyH_take (i := 19) (v := ?_) rfl (by kernel_rfl) (by kernel_rfl) (by kernel_rfl) (fun _ _ _ h => h) (Or.inl ⟨by rfl, ?_⟩) hS5 ?_
  case refine_2 => (intro wz hz; go_simp; with_reducible rfl)
  simp only [Act.put, List.getElem_toArray, List.getElem_cons_succ, List.getElem_cons_zero, List.setIfInBounds_toArray, List.set_cons_succ, List.set_cons_zero]
  refine wpAnyH_done (by kernel_rfl) ?_ _
  refine NoPanic.normal ?_
  go_wp2
  go_ret
  exact ⟨rfl, hS5.b⟩
theorem streamFirst_walk (salt c : List UInt8) (s x : Int) (w : World) (hs : salt.length = 14) (hc : c.length = 16) (w1 : (Lit.int .u32 s).wf = true) (w2 : (Lit.int .u64 x).wf = true) :
    Calls Try.prog 3 #[.agg (cells salt).toArray, .int .u32 s, .int .u64 x, .agg (cells c).toArray] w fun e w' => e = .returned (.bool true) ∧ Below w.heap.size w w' := by
  have h1 := bounds_u32 w1
  have h2 := bounds_u64 w2
  obtain ⟨n, rfl⟩ : ∃ n : Nat, s = (n : Int) := ⟨s.toNat, by omega⟩
  obtain ⟨m, rfl⟩ : ∃ m : Nat, x = (m : Int) := ⟨x.toNat, by omega⟩
  exact streamFirst_n salt c n m w hs hc (by omega) (by omega)
end Go.Proofs.Ytbimpejeoidafaa
