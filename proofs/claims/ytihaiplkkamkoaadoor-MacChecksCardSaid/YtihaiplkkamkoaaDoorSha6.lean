/- Contracts of package sha: New, Size, Done, Sum. No statement is proved here. -/
import Derived.Test.YtihaiplkkamkoaaDoorSha5
namespace Go.Proofs.YtihaiplkkamkoaaDoor
open Go.RowKit
set_option linter.unusedVariables false

/-- A State that is all zeros. -/
def zeroS : List Value := stC ⟨0, 0, 0, 0, 0⟩ (List.replicate 64 0) 0
theorem zeroSt (w : World) : (zeroValue 53).run Tryd.prog w = .ok (.agg zeroS.toArray) w := by kernel_rfl
theorem zeroS_is {w : World} {p : Nat} (h : BlkV w p 53 zeroS) : StIs w p [] := ⟨⟨0, 0, 0, 0, 0⟩, List.replicate 64 0, by simp, h, fun h => absurd rfl h⟩
theorem built45 (w : World) : (Instr.build 53 #[]).run Tryd.prog w = .ok (.agg zeroS.toArray) w := by kernel_rfl

theorem new_any (w : World) : Calls Tryd.prog 20 #[] w fun e w' => e = .returned (.pointer (some ⟨w.heap.size, 0, none⟩)) ∧ StIs w' w.heap.size [] ∧ Below w.heap.size w w' ∧ w'.heap.size = w.heap.size + 1 := by
  have hb := built45
  have hz := zeroSt
  have hS : StIs (w.alloc (.cells zeroS.toArray 53)) w.heap.size [] := zeroS_is (BlkV.new _ _ _)
  go_enter Tryd.func20, Tryd.ntmps20
  go_wp2
  go_ret
  exact ⟨rfl, hS, (Below.refl _ _).alloc (Nat.le_refl _) _, by simp⟩

theorem write_none (A : Option Addr) (nb c : Nat) (w : World) : Calls Tryd.prog 21 #[.pointer none, .slice A nb c] w fun e w' => e = .returned (.tuple #[]) ∧ w = w' := by
  go_enter Tryd.func21, Tryd.ntmps21
  go_wp2
  exact bodyPost_ret (results_none rfl _ _ _) rfl ⟨rfl, rfl⟩

theorem off_ne {g o p : Nat} (h : g ≠ p) : Off (some ⟨g, o, none⟩) p := fun ad hA => by injection hA with hA; subst hA; exact h
theorem pad_ne (m : List UInt8) : m ++ padB m.length ≠ [] := by simp [padB]
theorem sha_of {s : S5} {r m : List UInt8} (h : Inv s r (m ++ padB m.length)) : toldN s 20 = shaSum m := by unfold shaSum; rw [h.2.1]
/-- What Done does from where its copy lies in block w.heap.size + 1. -/
theorem done_base (w w2 : World) (ht : Tab w) (hw : 0 < w.heap.size) (C : Array Value) (hC : C = (cells (List.replicate 20 0)).toArray) (ho : Only (w.heap.size + 1) ((w.alloc (.cells C 31)).alloc (.cells zeroS.toArray 53)) w2) :
    Tab w2 ∧ Below w.heap.size w w2 ∧ BlkV w2 w.heap.size 31 (cells (List.replicate 20 0)) ∧ w2.heap.size = w.heap.size + 2 := by
  subst hC
  have hb := ((((Below.refl w.heap.size w).alloc (Nat.le_refl _) (.cells (cells (List.replicate 20 0)).toArray 31)).alloc (by simp) (.cells zeroS.toArray 53))).trans (ho.below (by omega))
  refine ⟨fun j v hv => ?_, hb, ((BlkV.new w _ _).alloc _).only ho (by omega), by rw [ho.size]; simp⟩
  exact (hb.cell (p := ⟨_, _, none⟩) (block_lt_of_cell (ht j v hv))).trans (ht j v hv)
theorem tab_below {w w' : World} (h : Tab w) (hb : Below w.heap.size w w') : Tab w' := h.grown (grown_of_below hb none) (by simp)

set_option maxRecDepth 100000 in
set_option maxHeartbeats 1000000 in
theorem done_some (p : Nat) (m : List UInt8) (w : World) (ht : Tab w) (hw : 0 < w.heap.size) (hst : StIs w p m) (hle : m.length ≤ 500000) :
    Calls Tryd.prog 22 #[.pointer (some ⟨p, 0, none⟩)] w fun e w' => e = .returned (.agg (cells (shaSum m)).toArray) ∧ Below w.heap.size w w' := by
  obtain ⟨s, r, hl, hB, hm⟩ := hst
  have hz := zeroSt
  have hlen : (stC s r m.length).length = 70 := stC_len _ _ _ hl
  have HL := Lib.hid hlen
  have HM := Lib.hid hm
  have HR := Lib.hid hl
  clear hlen hm hl
  have hzl : zeroS.length = 70 := by simp [zeroS, stC, c32, cells, S5.l]
  have HZ := Lib.hid hzl
  have HLE := Lib.hid hle
  clear hzl
  go_enter Tryd.func22, Tryd.ntmps22
  go_wp2_with (first
    | (with_reducible refine wpList_ld rfl 53 (.tmp 7) rfl p 0 rfl (stC s r m.length) (((hB.alloc _).alloc _).range 0 _ (by simp)) (row70 HL.out) ?_)
    | ((with_reducible refine wpList_st rfl 53 (.tmp 3) (.tmp 8) rfl (w.heap.size + 1) 0 (stC s r m.length) rfl rfl 53 zeroS (BlkV.new_at _ _ _ _ _ (by simp) rfl) (by rw [HL.out, HZ.out]; simp) (row70 HL.out) (stC_one _ _ _) ?_); intro w2 hB2 ho2; rw [splice_all _ _ (by rw [HZ.out, HL.out])] at hB2; obtain ⟨ht2, hb2, hT2, hz2⟩ := done_base w w2 ht hw _ rfl ho2; have hsz2 := (hB2.cell 69).trans (stC_atSize s r m.length HR.out); have HZ2 := Lib.hid hz2; clear hz2; have hst2 : StIs w2 (w.heap.size + 1) m := ⟨s, r, HR.out, hB2, HM.out⟩)
    | (go_at_call 24; ((with_reducible refine (closing_any m.length w2 (by have := HLE.out; omega)).mono ?_); rintro e w3 ⟨g, rfl, hg3, hB3, hb3⟩; have ht3 := tab_below ht2 hb3; have hst3 := hst2.grown (grown_of_below hb3 none) (by simp); have hT3 := hT2.below hb3 (by have := HZ2.out; omega); have hb3' := hb2.trans (hb3.mono (by have := HZ2.out; omega)); have hpl : (padB m.length).length ≤ 72 := (by rw [padB_len]; unfold zeros; omega); have hr3 := hB3.rd rfl (Nat.le_refl (padB m.length).length) (by simp [maxLen]; omega); have hoff : OffN (some ⟨g, 0, none⟩) (padB m.length).length (w.heap.size + 1) := (fun _ => off_ne (by have := HZ2.out; omega)); have hlm : m.length + (padB m.length).length ≤ 1000000 := (by have := HLE.out; omega); have hp0 : 0 < w.heap.size + 1 := (by omega)))
    | (go_at_call 21; ((with_reducible refine (write_any (w.heap.size + 1) m (padB m.length) (some ⟨g, 0, none⟩) _ _ w3 ht3 hp0 hst3 hr3 hoff hlm).mono ?_); rintro e w4 ⟨rfl, hst4, hg4⟩; obtain ⟨s4, r4, hl4, hB4, hm4⟩ := hst4; have hi4 := hm4 (pad_ne m); have hT4 := hT3.grown hg4 (by simp); have hb4 := hb3'.grown hg4 (by have := hb3'.size; omega) (fun q hq => by injection hq with hq; omega)))
    | (with_reducible refine wpList_ld rfl 51 (.tmp 13) rfl (w.heap.size + 1) 0 rfl (c32 s4.l) (hB4.range 0 _ (fun i hi => stC_atWords s4 r4 _ i hi)) (row5 (by simp [c32_len, S5.l])) ?_)
    | (go_at_call 25; ((with_reducible refine (told_arr s4 w4 hi4.ok).mono ?_); rintro e w5 ⟨rfl, hb5⟩; have hT5 := hT4.below hb5 (by have := hb4.size; have := hT4.lt; omega); have hb5' := hb4.trans (hb5.mono hb4.size)))
    | (with_reducible refine wpList_st rfl 31 (.tmp 2) (.tmp 15) rfl w.heap.size 0 (cells (toldN s4 20)) rfl rfl 31 _ hT5 (by simp [length_cells, toldN_len]) (row20 (by rw [length_cells, toldN_len])) (cells_one _) ?_; intro w6 hB6 ho6))
  rw [splice_all _ _ (by simp [length_cells, toldN_len])] at hB6
  have he := sha_of hi4
  rw [he] at hB6
  exact ret_row (by rfl) (by rfl) hB6 (row20 (by rw [length_cells, shaSum_len])) (by rfl) ⟨rfl, hb5'.trans (ho6.below (Nat.le_refl _))⟩

set_option maxRecDepth 100000 in
set_option maxHeartbeats 1000000 in
theorem done_none (w : World) (ht : Tab w) (hw : 0 < w.heap.size) :
    Calls Tryd.prog 22 #[.pointer none] w fun e w' => e = .returned (.agg (cells (shaSum [])).toArray) ∧ Below w.heap.size w w' := by
  have hz := zeroSt
  obtain ⟨C, hC⟩ : ∃ C, C = (cells (List.replicate 20 0)).toArray := ⟨_, rfl⟩
  have hbase := done_base w _ ht hw C hC (Only.refl _ _)
  have hS := zeroS_is (BlkV.new_at (w.alloc (.cells C 31)) (w.heap.size + 1) 53 zeroS zeroS.toArray (by simp) rfl)
  obtain ⟨w2, hw2⟩ : ∃ w2, w2 = (w.alloc (.cells C 31)).alloc (.cells zeroS.toArray 53) := ⟨_, rfl⟩
  rw [← hw2] at hbase hS
  have hC' : C = #[.int .u8 0, .int .u8 0, .int .u8 0, .int .u8 0, .int .u8 0, .int .u8 0, .int .u8 0, .int .u8 0, .int .u8 0, .int .u8 0, .int .u8 0, .int .u8 0, .int .u8 0, .int .u8 0, .int .u8 0, .int .u8 0, .int .u8 0, .int .u8 0, .int .u8 0, .int .u8 0] := hC
  rw [hC'] at hw2
  clear hC hC'
  obtain ⟨ht2, hb2, hT2, hz2⟩ := hbase
  have hsz2 : ((w.alloc (.cells #[.int .u8 0, .int .u8 0, .int .u8 0, .int .u8 0, .int .u8 0, .int .u8 0, .int .u8 0, .int .u8 0, .int .u8 0, .int .u8 0, .int .u8 0, .int .u8 0, .int .u8 0, .int .u8 0, .int .u8 0, .int .u8 0, .int .u8 0, .int .u8 0, .int .u8 0, .int .u8 0] 31)).alloc (.cells zeroS.toArray 53)).cell? ⟨w.heap.size + 1, 69, none⟩ = some (.int .i64 0) := by
    rw [← hw2]
    obtain ⟨s, r, hl, hB, _⟩ := hS
    exact (hB.cell 69).trans (stC_atSize s r 0 hl)
  have hcl : Calls Tryd.prog 24 #[.int .i64 0] ((w.alloc (.cells #[.int .u8 0, .int .u8 0, .int .u8 0, .int .u8 0, .int .u8 0, .int .u8 0, .int .u8 0, .int .u8 0, .int .u8 0, .int .u8 0, .int .u8 0, .int .u8 0, .int .u8 0, .int .u8 0, .int .u8 0, .int .u8 0, .int .u8 0, .int .u8 0, .int .u8 0, .int .u8 0] 31)).alloc (.cells zeroS.toArray 53)) fun e w' => ∃ g, e = .returned (.slice (some ⟨g, 0, none⟩) (padB 0).length (padB 0).length) ∧ w2.heap.size ≤ g ∧ Blk w' g 5 (padB 0) ∧ Below w2.heap.size w2 w' := by
    rw [← hw2]
    exact closing_any 0 w2 (by omega)
  have HZ2 := Lib.hid hz2
  have HCL := Lib.hid hcl
  clear hz2 hw2 hcl
  go_enter Tryd.func22, Tryd.ntmps22
  go_wp2_with (first
    | (go_at_call 24; ((with_reducible refine (Hid.out HCL).mono ?_); rintro e w3 ⟨g, rfl, hg3, hB3, hb3⟩; have ht3 := tab_below ht2 hb3; have hst3 := hS.grown (grown_of_below hb3 none) (by simp); have hT3 := hT2.below hb3 (by have := HZ2.out; omega); have hb3' := hb2.trans (hb3.mono (by have := HZ2.out; omega)); have hpl : (padB 0).length ≤ 72 := (by rw [padB_len]; unfold zeros; omega); have hr3 := hB3.rd rfl (Nat.le_refl (padB 0).length) (by simp [maxLen]; omega); have hoff : OffN (some ⟨g, 0, none⟩) (padB 0).length (w.heap.size + 1) := (fun _ => off_ne (by have := HZ2.out; omega)); have hlm : ([] : List UInt8).length + (padB 0).length ≤ 1000000 := (by rw [List.length_nil]; omega); have hp0 : 0 < w.heap.size + 1 := (by omega)))
    | (go_at_call 21; ((with_reducible refine (write_any (w.heap.size + 1) [] (padB 0) (some ⟨g, 0, none⟩) _ _ w3 ht3 hp0 hst3 hr3 hoff hlm).mono ?_); rintro e w4 ⟨rfl, hst4, hg4⟩; obtain ⟨s4, r4, hl4, hB4, hm4⟩ := hst4; have hi4 : Inv s4 r4 ([] ++ padB ([] : List UInt8).length) := hm4 (pad_ne []); have hT4 := hT3.grown hg4 (by simp); have hb4 := hb3'.grown hg4 (by have := hb3'.size; omega) (fun q hq => by injection hq with hq; omega)))
    | (with_reducible refine wpList_ld rfl 51 (.tmp 13) rfl (w.heap.size + 1) 0 rfl (c32 s4.l) (hB4.range 0 _ (fun i hi => stC_atWords s4 r4 _ i hi)) (row5 (by simp [c32_len, S5.l])) ?_)
    | (go_at_call 25; ((with_reducible refine (told_arr s4 w4 hi4.ok).mono ?_); rintro e w5 ⟨rfl, hb5⟩; have hT5 := hT4.below hb5 (by have := hb4.size; have := hT4.lt; omega); have hb5' := hb4.trans (hb5.mono hb4.size)))
    | (with_reducible refine wpList_st rfl 31 (.tmp 2) (.tmp 15) rfl w.heap.size 0 (cells (toldN s4 20)) rfl rfl 31 _ hT5 (by simp [length_cells, toldN_len]) (row20 (by rw [length_cells, toldN_len])) (cells_one _) ?_; intro w6 hB6 ho6))
  rw [splice_all _ _ (by simp [length_cells, toldN_len])] at hB6
  have he := sha_of hi4
  rw [he] at hB6
  exact ret_row (by rfl) (by rfl) hB6 (row20 (by rw [length_cells, shaSum_len])) (by rfl) ⟨rfl, hb5'.trans (ho6.below (Nat.le_refl _))⟩

/-- The slice '.slice A k c' reads as the slices of bytes ps. -/
def PartsRd (w : World) (A : Option Addr) (k : Nat) (ps : List (List UInt8)) : Prop :=
  ps.length = k ∧ (0 < k → ∃ b off, A = some ⟨b, off, none⟩ ∧ b < w.heap.size ∧ ∀ j, j < k → ∃ Aj nj cj, w.cell? ⟨b, off + j, none⟩ = some (.slice Aj nj cj) ∧ RdS w Aj nj cj (ps.getD j []))
theorem PartsRd.below {w w' : World} {A : Option Addr} {k : Nat} {ps : List (List UInt8)} (h : PartsRd w A k ps) (hb : Below w.heap.size w w') : PartsRd w' A k ps := by
  refine ⟨h.1, fun hk => ?_⟩
  obtain ⟨b, off, hA, hlt, hc⟩ := h.2 hk
  refine ⟨b, off, hA, Nat.lt_of_lt_of_le hlt hb.size, fun j hj => ?_⟩
  obtain ⟨Aj, nj, cj, h1, h2⟩ := hc j hj
  exact ⟨Aj, nj, cj, (hb.cell (p := ⟨b, off + j, none⟩) hlt).trans h1, h2.below hb⟩
theorem flat_take (ps : List (List UInt8)) (j : Nat) (hj : j < ps.length) : (ps.take (j + 1)).flatten = (ps.take j).flatten ++ ps.getD j [] := by
  rw [List.take_succ_eq_append_getElem hj, List.flatten_append]
  simp [List.getD, hj]
theorem flat_le (ps : List (List UInt8)) (j : Nat) : (ps.take j).flatten.length ≤ ps.flatten.length := by
  have h : ps.flatten = (ps.take j).flatten ++ (ps.drop j).flatten := by rw [← List.flatten_append, List.take_append_drop]
  rw [h, List.length_append]
  omega

set_option maxRecDepth 100000 in
set_option maxHeartbeats 1000000 in
theorem sum_any (A : Option Addr) (k c : Nat) (ps : List (List UInt8)) (w : World) (ht : Tab w) (hw : 0 < w.heap.size) (hp : PartsRd w A k ps) (hk : k ≤ 9223372036854775807) (hle : ps.flatten.length ≤ 500000) :
    Calls Tryd.prog 14 #[.slice A k c] w fun e w' => e = .returned (.agg (cells (shaSum ps.flatten)).toArray) ∧ Below w.heap.size w w' := by
  have hpl := hp.1
  have HPL := Lib.hid hpl
  have HLE := Lib.hid hle
  clear hpl hle
  obtain ⟨C, hC⟩ : ∃ C, C = (cells (List.replicate 20 0)).toArray := ⟨_, rfl⟩
  have hT := BlkV.new_at w w.heap.size 31 (cells (List.replicate 20 0)) C rfl hC
  have hb1 : Below w.heap.size w (w.alloc (.cells C 31)) := (Below.refl _ _).alloc (Nat.le_refl _) _
  have hC' : C = #[.int .u8 0, .int .u8 0, .int .u8 0, .int .u8 0, .int .u8 0, .int .u8 0, .int .u8 0, .int .u8 0, .int .u8 0, .int .u8 0, .int .u8 0, .int .u8 0, .int .u8 0, .int .u8 0, .int .u8 0, .int .u8 0, .int .u8 0, .int .u8 0, .int .u8 0, .int .u8 0] := hC
  rw [hC'] at hT hb1
  clear hC hC'
  go_enter Tryd.func14, Tryd.ntmps14
  go_wp2_with (go_at_call 20; ((with_reducible refine (new_any _).mono ?_); rintro e w2 ⟨rfl, hst2, hb2, hz2⟩))
  simp only [World.size_alloc] at hst2 hb2 hz2
  have hT2 := hT.below hb2 (by omega)
  have hbw2 := hb1.trans (hb2.mono (by omega))
  have ht2 := tab_below ht hbw2
  clear hT hb1 hb2 hz2
  go_loopw [9] (fun i wr => ∃ j : Nat, j ≤ k ∧ i = .int .i64 j ∧ StIs wr (w.heap.size + 1) (ps.take j).flatten ∧ BlkV wr w.heap.size 31 (cells (List.replicate 20 0)) ∧ Tab wr ∧ Below w.heap.size w wr) (fun i _ => k - (intOf i).toNat)
  case atStart => exact ⟨0, by omega, rfl, hst2, hT2, ht2, hbw2⟩
  case round =>
    clear hst2 hT2 ht2 hbw2
    obtain ⟨j, hj, rfl, hst, hT, htr, hb⟩ := hrel
    by_cases hlt : j < k
    · obtain ⟨b, off, rfl, hblt, hc⟩ := hp.2 (by omega)
      obtain ⟨Aj, nj, cj, hcj, hrj⟩ := hc j hlt
      have hcell := (hb.cell (p := ⟨b, off + j, none⟩) hblt).trans hcj
      have hrr := hrj.below hb
      have hof := hrj.off_lt (p := w.heap.size + 1) (by omega)
      have hfl := flat_take ps j (by rw [HPL.out]; exact hlt)
      have hln := flat_le ps (j + 1)
      have hle : (ps.take j).flatten.length + nj ≤ 1000000 := by
        rw [hfl, List.length_append, hrj.len] at hln
        have := HLE.out
        omega
      have hwr := write_any (w.heap.size + 1) (ps.take j).flatten (ps.getD j []) Aj nj cj wr htr (by omega) hst hrr hof hle
      rw [← hfl] at hwr
      have HWR := Lib.hid hwr
      clear hwr hfl hln hle hcj hc
      go_wp2_with (go_at_call 21; ((with_reducible refine (Hid.out HWR).mono ?_); rintro e w4 ⟨rfl, hst4, hg4⟩))
      have hT4 := hT.grown hg4 (by simp)
      have hb4 := hb.grown hg4 hb.size (fun q hq => by injection hq with hq; omega)
      have ht4 := tab_below ht hb4
      go_roundw
      case rel => exact ⟨j + 1, by omega, by go_num, hst4, hT4, ht4, hb4⟩
      case measure => simp [intOf]; omega
    · obtain rfl : j = k := by omega
      have hall : ps.take j = ps := List.take_of_length_le (by rw [HPL.out]; exact Nat.le_refl _)
      rw [hall] at hst
      have hlt0 : 0 < wr.heap.size := by have := hb.size; omega
      have hdn := done_some (w.heap.size + 1) ps.flatten wr htr hlt0 hst HLE.out
      have HD := Lib.hid hdn
      have hTl := hT.lt
      clear hdn hall
      go_wp2_with (first
        | (go_at_call 22; ((with_reducible refine (Hid.out HD).mono ?_); rintro e w5 ⟨rfl, hb5⟩; have hT5 := hT.below hb5 hTl; have hb5' := hb.trans (hb5.mono hb.size)))
        | (with_reducible refine wpList_st rfl 31 (.tmp 2) (.tmp 18) rfl w.heap.size 0 (cells (shaSum ps.flatten)) rfl rfl 31 _ hT5 (by simp [length_cells, shaSum_len]) (row20 (by rw [length_cells, shaSum_len])) (cells_one _) ?_; intro w6 hB6 ho6))
      rw [splice_all _ _ (by simp [length_cells, shaSum_len])] at hB6
      exact ret_row (by rfl) (by rfl) hB6 (row20 (by rw [length_cells, shaSum_len])) (by rfl) ⟨rfl, hb5'.trans (ho6.below (Nat.le_refl _))⟩
end Go.Proofs.YtihaiplkkamkoaaDoor
