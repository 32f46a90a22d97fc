/- Several texts in one: Contracts of package sha: New, Size, Done, Sum. Contracts of package mac: a key's block, and its bytes turned. Plain words, for any program: bytes copied over the head of a block of bytes, whatever its type is called; slices of slices of bytes, and one put ahead of others. No statement is proved here. -/
import Derived.Test.YtmkeioeodlidgaaDoorZSha5
import Derived.Test.YtmkeioeodlidgaaDoorZM1
import Derived.Test.YtmkeioeodlidgaaDoorZM4
namespace Go.Proofs.YtmkeioeodlidgaaDoor
open Go.RowKit
set_option linter.unusedVariables false

/-- A State that is all zeros. -/
def zeroS : List Value := stC ⟨0, 0, 0, 0, 0⟩ (List.replicate 64 0) 0
theorem zeroSt (w : World) : (zeroValue 136).run Tryd.prog w = .ok (.agg zeroS.toArray) w := by kernel_rfl
theorem zeroS_is {w : World} {p : Nat} (h : BlkV w p 136 zeroS) : StIs w p [] := ⟨⟨0, 0, 0, 0, 0⟩, List.replicate 64 0, by simp, h, fun h => absurd rfl h⟩
theorem built45 (w : World) : (Instr.build 136 #[]).run Tryd.prog w = .ok (.agg zeroS.toArray) w := by kernel_rfl

theorem new_anyH (w : World) : Calls Tryd.prog 65 #[] w fun e w' => e = .returned (.pointer (some ⟨w.heap.size, 0, none⟩)) ∧ StIs w' w.heap.size [] ∧ Below w.heap.size w w' ∧ w'.heap.size = w.heap.size + 1 := by
  have hb := built45
  have hz := zeroSt
  have hS : StIs (w.alloc (.cells zeroS.toArray 136)) w.heap.size [] := zeroS_is (BlkV.new _ _ _)
  go_enter Tryd.func65, Tryd.ntmps65
  go_wp2
  go_ret
  exact ⟨rfl, hS, (Below.refl _ _).alloc (Nat.le_refl _) _, by simp⟩

theorem write_none (A : Option Addr) (nb c : Nat) (w : World) : Calls Tryd.prog 66 #[.pointer none, .slice A nb c] w fun e w' => e = .returned (.tuple #[]) ∧ w = w' := by
  go_enter Tryd.func66, Tryd.ntmps66
  go_wp2
  exact bodyPost_ret (results_none rfl _ _ _) rfl ⟨rfl, rfl⟩

theorem off_ne {g o p : Nat} (h : g ≠ p) : Off (some ⟨g, o, none⟩) p := fun ad hA => by injection hA with hA; subst hA; exact h
theorem pad_ne (m : List UInt8) : m ++ padBH m.length ≠ [] := by simp [padBH]
theorem sha_of {s : S5} {r m : List UInt8} (h : Inv s r (m ++ padBH m.length)) : toldN s 20 = shaSum m := by unfold shaSum; rw [h.2.1]
/-- What Done does from where its copy lies in block w.heap.size + 1. -/
theorem done_base (w w2 : World) (ht : TabH w) (hw : 0 < w.heap.size) (C : Array Value) (hC : C = (cells (List.replicate 20 0)).toArray) (ho : Only (w.heap.size + 1) ((w.alloc (.cells C 56)).alloc (.cells zeroS.toArray 136)) w2) :
    TabH w2 ∧ Below w.heap.size w w2 ∧ BlkV w2 w.heap.size 56 (cells (List.replicate 20 0)) ∧ w2.heap.size = w.heap.size + 2 := by
  subst hC
  have hb := ((((Below.refl w.heap.size w).alloc (Nat.le_refl _) (.cells (cells (List.replicate 20 0)).toArray 56)).alloc (by simp) (.cells zeroS.toArray 136))).trans (ho.below (by omega))
  refine ⟨fun j v hv => ?_, hb, ((BlkV.new w _ _).alloc _).only ho (by omega), by rw [ho.size]; simp⟩
  exact (hb.cell (p := ⟨_, _, none⟩) (block_lt_of_cell (ht j v hv))).trans (ht j v hv)
theorem tab_below {w w' : World} (h : TabH w) (hb : Below w.heap.size w w') : TabH w' := h.grown (grown_of_below hb none) (by simp)

set_option maxRecDepth 100000 in
set_option maxHeartbeats 1000000 in
theorem done_some (p : Nat) (m : List UInt8) (w : World) (ht : TabH w) (hw : 0 < w.heap.size) (hst : StIs w p m) (hle : m.length ≤ 500000) :
    Calls Tryd.prog 67 #[.pointer (some ⟨p, 0, none⟩)] w fun e w' => e = .returned (.agg (cells (shaSum m)).toArray) ∧ Below w.heap.size w w' := by
  obtain ⟨s, r, hl, hB, hm⟩ := hst
  have hz := zeroSt
  have hlen : (stC s r m.length).length = 70 := stC_len _ _ _ hl
  have HL := Lib.hid hlen
  have HM := Lib.hid hm
  have HR := Lib.hid hl
  clear hlen hm hl
  have hzl : zeroS.length = 70 := by simp [zeroS, stC, c32, cells, S5.l]
  have HZ := Lib.hid hzl
  have HLE := Lib.hid hle
  clear hzl
  go_enter Tryd.func67, Tryd.ntmps67
  go_wp2_with (first
    | (with_reducible refine wpList_ld rfl 136 (.tmp 7) rfl p 0 rfl (stC s r m.length) (((hB.alloc _).alloc _).range 0 _ (by simp)) (row70 HL.out) ?_)
    | ((with_reducible refine wpList_st rfl 136 (.tmp 3) (.tmp 8) rfl (w.heap.size + 1) 0 (stC s r m.length) rfl rfl 136 zeroS (BlkV.new_at _ _ _ _ _ (by simp) rfl) (by rw [HL.out, HZ.out]; simp) (row70 HL.out) (stC_one _ _ _) ?_); intro w2 hB2 ho2; rw [splice_all _ _ (by rw [HZ.out, HL.out])] at hB2; obtain ⟨ht2, hb2, hT2, hz2⟩ := done_base w w2 ht hw _ rfl ho2; have hsz2 := (hB2.cell 69).trans (stC_atSize s r m.length HR.out); have HZ2 := Lib.hid hz2; clear hz2; have hst2 : StIs w2 (w.heap.size + 1) m := ⟨s, r, HR.out, hB2, HM.out⟩)
    | (go_at_call 75; ((with_reducible refine (closing_any m.length w2 (by have := HLE.out; omega)).mono ?_); rintro e w3 ⟨g, rfl, hg3, hB3, hb3⟩; have ht3 := tab_below ht2 hb3; have hst3 := hst2.grown (grown_of_below hb3 none) (by simp); have hT3 := hT2.below hb3 (by have := HZ2.out; omega); have hb3' := hb2.trans (hb3.mono (by have := HZ2.out; omega)); have hpl : (padBH m.length).length ≤ 72 := (by rw [padB_lenH]; unfold zeros; omega); have hr3 := hB3.rd rfl (Nat.le_refl (padBH m.length).length) (by simp [maxLen]; omega); have hoff : OffN (some ⟨g, 0, none⟩) (padBH m.length).length (w.heap.size + 1) := (fun _ => off_ne (by have := HZ2.out; omega)); have hlm : m.length + (padBH m.length).length ≤ 1000000 := (by have := HLE.out; omega); have hp0 : 0 < w.heap.size + 1 := (by omega)))
    | (go_at_call 66; ((with_reducible refine (write_anyH (w.heap.size + 1) m (padBH m.length) (some ⟨g, 0, none⟩) _ _ w3 ht3 hp0 hst3 hr3 hoff hlm).mono ?_); rintro e w4 ⟨rfl, hst4, hg4⟩; obtain ⟨s4, r4, hl4, hB4, hm4⟩ := hst4; have hi4 := hm4 (pad_ne m); have hT4 := hT3.grown hg4 (by simp); have hb4 := hb3'.grown hg4 (by have := hb3'.size; omega) (fun q hq => by injection hq with hq; omega)))
    | (with_reducible refine wpList_ld rfl 134 (.tmp 13) rfl (w.heap.size + 1) 0 rfl (c32 s4.l) (hB4.range 0 _ (fun i hi => stC_atWords s4 r4 _ i hi)) (row5 (by simp [c32_len, S5.l])) ?_)
    | (go_at_call 76; ((with_reducible refine (told_arr s4 w4 hi4.ok).mono ?_); rintro e w5 ⟨rfl, hb5⟩; have hT5 := hT4.below hb5 (by have := hb4.size; have := hT4.lt; omega); have hb5' := hb4.trans (hb5.mono hb4.size)))
    | (with_reducible refine wpList_st rfl 56 (.tmp 2) (.tmp 15) rfl w.heap.size 0 (cells (toldN s4 20)) rfl rfl 56 _ hT5 (by simp [length_cells, toldN_len]) (row20 (by rw [length_cells, toldN_len])) (cells_one _) ?_; intro w6 hB6 ho6))
  rw [splice_all _ _ (by simp [length_cells, toldN_len])] at hB6
  have he := sha_of hi4
  rw [he] at hB6
  exact ret_row (by rfl) (by rfl) hB6 (row20 (by rw [length_cells, shaSum_len])) (by rfl) ⟨rfl, hb5'.trans (ho6.below (Nat.le_refl _))⟩

set_option maxRecDepth 100000 in
set_option maxHeartbeats 1000000 in
theorem done_none (w : World) (ht : TabH w) (hw : 0 < w.heap.size) :
    Calls Tryd.prog 67 #[.pointer none] w fun e w' => e = .returned (.agg (cells (shaSum [])).toArray) ∧ Below w.heap.size w w' := by
  have hz := zeroSt
  obtain ⟨C, hC⟩ : ∃ C, C = (cells (List.replicate 20 0)).toArray := ⟨_, rfl⟩
  have hbase := done_base w _ ht hw C hC (Only.refl _ _)
  have hS := zeroS_is (BlkV.new_at (w.alloc (.cells C 56)) (w.heap.size + 1) 136 zeroS zeroS.toArray (by simp) rfl)
  obtain ⟨w2, hw2⟩ : ∃ w2, w2 = (w.alloc (.cells C 56)).alloc (.cells zeroS.toArray 136) := ⟨_, rfl⟩
  rw [← hw2] at hbase hS
  have hC' : C = #[.int .u8 0, .int .u8 0, .int .u8 0, .int .u8 0, .int .u8 0, .int .u8 0, .int .u8 0, .int .u8 0, .int .u8 0, .int .u8 0, .int .u8 0, .int .u8 0, .int .u8 0, .int .u8 0, .int .u8 0, .int .u8 0, .int .u8 0, .int .u8 0, .int .u8 0, .int .u8 0] := hC
  rw [hC'] at hw2
  clear hC hC'
  obtain ⟨ht2, hb2, hT2, hz2⟩ := hbase
  have hsz2 : ((w.alloc (.cells #[.int .u8 0, .int .u8 0, .int .u8 0, .int .u8 0, .int .u8 0, .int .u8 0, .int .u8 0, .int .u8 0, .int .u8 0, .int .u8 0, .int .u8 0, .int .u8 0, .int .u8 0, .int .u8 0, .int .u8 0, .int .u8 0, .int .u8 0, .int .u8 0, .int .u8 0, .int .u8 0] 56)).alloc (.cells zeroS.toArray 136)).cell? ⟨w.heap.size + 1, 69, none⟩ = some (.int .i64 0) := by
    rw [← hw2]
    obtain ⟨s, r, hl, hB, _⟩ := hS
    exact (hB.cell 69).trans (stC_atSize s r 0 hl)
  have hcl : Calls Tryd.prog 75 #[.int .i64 0] ((w.alloc (.cells #[.int .u8 0, .int .u8 0, .int .u8 0, .int .u8 0, .int .u8 0, .int .u8 0, .int .u8 0, .int .u8 0, .int .u8 0, .int .u8 0, .int .u8 0, .int .u8 0, .int .u8 0, .int .u8 0, .int .u8 0, .int .u8 0, .int .u8 0, .int .u8 0, .int .u8 0, .int .u8 0] 56)).alloc (.cells zeroS.toArray 136)) fun e w' => ∃ g, e = .returned (.slice (some ⟨g, 0, none⟩) (padBH 0).length (padBH 0).length) ∧ w2.heap.size ≤ g ∧ Blk w' g 5 (padBH 0) ∧ Below w2.heap.size w2 w' := by
    rw [← hw2]
    exact closing_any 0 w2 (by omega)
  have HZ2 := Lib.hid hz2
  have HCL := Lib.hid hcl
  clear hz2 hw2 hcl
  go_enter Tryd.func67, Tryd.ntmps67
  go_wp2_with (first
    | (go_at_call 75; ((with_reducible refine (Hid.out HCL).mono ?_); rintro e w3 ⟨g, rfl, hg3, hB3, hb3⟩; have ht3 := tab_below ht2 hb3; have hst3 := hS.grown (grown_of_below hb3 none) (by simp); have hT3 := hT2.below hb3 (by have := HZ2.out; omega); have hb3' := hb2.trans (hb3.mono (by have := HZ2.out; omega)); have hpl : (padBH 0).length ≤ 72 := (by rw [padB_lenH]; unfold zeros; omega); have hr3 := hB3.rd rfl (Nat.le_refl (padBH 0).length) (by simp [maxLen]; omega); have hoff : OffN (some ⟨g, 0, none⟩) (padBH 0).length (w.heap.size + 1) := (fun _ => off_ne (by have := HZ2.out; omega)); have hlm : ([] : List UInt8).length + (padBH 0).length ≤ 1000000 := (by rw [List.length_nil]; omega); have hp0 : 0 < w.heap.size + 1 := (by omega)))
    | (go_at_call 66; ((with_reducible refine (write_anyH (w.heap.size + 1) [] (padBH 0) (some ⟨g, 0, none⟩) _ _ w3 ht3 hp0 hst3 hr3 hoff hlm).mono ?_); rintro e w4 ⟨rfl, hst4, hg4⟩; obtain ⟨s4, r4, hl4, hB4, hm4⟩ := hst4; have hi4 : Inv s4 r4 ([] ++ padBH ([] : List UInt8).length) := hm4 (pad_ne []); have hT4 := hT3.grown hg4 (by simp); have hb4 := hb3'.grown hg4 (by have := hb3'.size; omega) (fun q hq => by injection hq with hq; omega)))
    | (with_reducible refine wpList_ld rfl 134 (.tmp 13) rfl (w.heap.size + 1) 0 rfl (c32 s4.l) (hB4.range 0 _ (fun i hi => stC_atWords s4 r4 _ i hi)) (row5 (by simp [c32_len, S5.l])) ?_)
    | (go_at_call 76; ((with_reducible refine (told_arr s4 w4 hi4.ok).mono ?_); rintro e w5 ⟨rfl, hb5⟩; have hT5 := hT4.below hb5 (by have := hb4.size; have := hT4.lt; omega); have hb5' := hb4.trans (hb5.mono hb4.size)))
    | (with_reducible refine wpList_st rfl 56 (.tmp 2) (.tmp 15) rfl w.heap.size 0 (cells (toldN s4 20)) rfl rfl 56 _ hT5 (by simp [length_cells, toldN_len]) (row20 (by rw [length_cells, toldN_len])) (cells_one _) ?_; intro w6 hB6 ho6))
  rw [splice_all _ _ (by simp [length_cells, toldN_len])] at hB6
  have he := sha_of hi4
  rw [he] at hB6
  exact ret_row (by rfl) (by rfl) hB6 (row20 (by rw [length_cells, shaSum_len])) (by rfl) ⟨rfl, hb5'.trans (ho6.below (Nat.le_refl _))⟩

theorem flat_takeH (ps : List (List UInt8)) (j : Nat) (hj : j < ps.length) : (ps.take (j + 1)).flatten = (ps.take j).flatten ++ ps.getD j [] := by
  rw [List.take_succ_eq_append_getElem hj, List.flatten_append]
  simp [List.getD, hj]
theorem flat_leH (ps : List (List UInt8)) (j : Nat) : (ps.take j).flatten.length ≤ ps.flatten.length := by
  have h : ps.flatten = (ps.take j).flatten ++ (ps.drop j).flatten := by rw [← List.flatten_append, List.take_append_drop]
  rw [h, List.length_append]
  omega

set_option maxRecDepth 100000 in
set_option maxHeartbeats 1000000 in
theorem sum_any (A : Option Addr) (k c : Nat) (ps : List (List UInt8)) (w : World) (ht : TabH w) (hw : 0 < w.heap.size) (hp : PartsRd w A k ps) (hk : k ≤ 9223372036854775807) (hle : ps.flatten.length ≤ 500000) :
    Calls Tryd.prog 53 #[.slice A k c] w fun e w' => e = .returned (.agg (cells (shaSum ps.flatten)).toArray) ∧ Below w.heap.size w w' := by
  have hpl := hp.1
  have HPL := Lib.hid hpl
  have HLE := Lib.hid hle
  clear hpl hle
  obtain ⟨C, hC⟩ : ∃ C, C = (cells (List.replicate 20 0)).toArray := ⟨_, rfl⟩
  have hT := BlkV.new_at w w.heap.size 56 (cells (List.replicate 20 0)) C rfl hC
  have hb1 : Below w.heap.size w (w.alloc (.cells C 56)) := (Below.refl _ _).alloc (Nat.le_refl _) _
  have hC' : C = #[.int .u8 0, .int .u8 0, .int .u8 0, .int .u8 0, .int .u8 0, .int .u8 0, .int .u8 0, .int .u8 0, .int .u8 0, .int .u8 0, .int .u8 0, .int .u8 0, .int .u8 0, .int .u8 0, .int .u8 0, .int .u8 0, .int .u8 0, .int .u8 0, .int .u8 0, .int .u8 0] := hC
  rw [hC'] at hT hb1
  clear hC hC'
  go_enter Tryd.func53, Tryd.ntmps53
  go_wp2_with (go_at_call 65; ((with_reducible refine (new_anyH _).mono ?_); rintro e w2 ⟨rfl, hst2, hb2, hz2⟩))
  simp only [World.size_alloc] at hst2 hb2 hz2
  have hT2 := hT.below hb2 (by omega)
  have hbw2 := hb1.trans (hb2.mono (by omega))
  have ht2 := tab_below ht hbw2
  clear hT hb1 hb2 hz2
  go_loopw [9] (fun i wr => ∃ j : Nat, j ≤ k ∧ i = .int .i64 j ∧ StIs wr (w.heap.size + 1) (ps.take j).flatten ∧ BlkV wr w.heap.size 56 (cells (List.replicate 20 0)) ∧ TabH wr ∧ Below w.heap.size w wr) (fun i _ => k - (intOf i).toNat)
  case atStart => exact ⟨0, by omega, rfl, hst2, hT2, ht2, hbw2⟩
  case round =>
    clear hst2 hT2 ht2 hbw2
    obtain ⟨j, hj, rfl, hst, hT, htr, hb⟩ := hrel
    by_cases hlt : j < k
    · obtain ⟨b, off, rfl, hblt, hc⟩ := hp.2 (by omega)
      obtain ⟨Aj, nj, cj, hcj, hrj⟩ := hc j hlt
      have hcell := (hb.cell (p := ⟨b, off + j, none⟩) hblt).trans hcj
      have hrr := hrj.below hb
      have hof := hrj.off_lt (p := w.heap.size + 1) (by omega)
      have hfl := flat_takeH ps j (by rw [HPL.out]; exact hlt)
      have hln := flat_leH ps (j + 1)
      have hle : (ps.take j).flatten.length + nj ≤ 1000000 := by
        rw [hfl, List.length_append, hrj.len] at hln
        have := HLE.out
        omega
      have hwr := write_anyH (w.heap.size + 1) (ps.take j).flatten (ps.getD j []) Aj nj cj wr htr (by omega) hst hrr hof hle
      rw [← hfl] at hwr
      have HWR := Lib.hid hwr
      clear hwr hfl hln hle hcj hc
      go_wp2_with (go_at_call 66; ((with_reducible refine (Hid.out HWR).mono ?_); rintro e w4 ⟨rfl, hst4, hg4⟩))
      have hT4 := hT.grown hg4 (by simp)
      have hb4 := hb.grown hg4 hb.size (fun q hq => by injection hq with hq; omega)
      have ht4 := tab_below ht hb4
      go_roundw
      case rel => exact ⟨j + 1, by omega, by go_num, hst4, hT4, ht4, hb4⟩
      case measure => simp [intOf]; omega
    · obtain rfl : j = k := by omega
      have hall : ps.take j = ps := List.take_of_length_le (by rw [HPL.out]; exact Nat.le_refl _)
      rw [hall] at hst
      have hlt0 : 0 < wr.heap.size := by have := hb.size; omega
      have hdn := done_some (w.heap.size + 1) ps.flatten wr htr hlt0 hst HLE.out
      have HD := Lib.hid hdn
      have hTl := hT.lt
      clear hdn hall
      go_wp2_with (first
        | (go_at_call 67; ((with_reducible refine (Hid.out HD).mono ?_); rintro e w5 ⟨rfl, hb5⟩; have hT5 := hT.below hb5 hTl; have hb5' := hb.trans (hb5.mono hb.size)))
        | (with_reducible refine wpList_st rfl 56 (.tmp 2) (.tmp 18) rfl w.heap.size 0 (cells (shaSum ps.flatten)) rfl rfl 56 _ hT5 (by simp [length_cells, shaSum_len]) (row20 (by rw [length_cells, shaSum_len])) (cells_one _) ?_; intro w6 hB6 ho6))
      rw [splice_all _ _ (by simp [length_cells, shaSum_len])] at hB6
      exact ret_row (by rfl) (by rfl) hB6 (row20 (by rw [length_cells, shaSum_len])) (by rfl) ⟨rfl, hb5'.trans (ho6.below (Nat.le_refl _))⟩
end Go.Proofs.YtmkeioeodlidgaaDoor

namespace Go.Proofs.YtmkeioeodlidgaaDoor
open Go.RowKit
set_option linter.unusedVariables false

theorem xr_byte (a x : UInt8) : bits BinOp.xor IntKind.u8 (a.toNat : Int) (x.toNat : Int) = ((a ^^^ x).toNat : Int) := by
  rw [u8_xor_nat _ _ a.toNat_lt x.toNat_lt, UInt8.toNat_xor]

set_option maxHeartbeats 1000000 in
theorem turned_anyM (B : List UInt8) (x : UInt8) (xi : Int) (w : World) (hl : B.length = 64) (hx : xi = (x.toNat : Int)) :
    Calls Tryd.prog 54 #[.agg (cells B).toArray, .int .u8 xi] w fun e w' => e = .returned (.slice (some ⟨w.heap.size, 0, none⟩) 64 64) ∧ Blk w' w.heap.size 107 (xorB x B) ∧ Below w.heap.size w w' := by
  have HL := Lib.hid hl
  have HX := Lib.hid hx
  have hb0 : Below w.heap.size w (w.alloc (Obj.cells (cells B).toArray 107)) := (Below.refl _ _).alloc (Nat.le_refl _) _
  have h0 : Blk (w.alloc (Obj.cells (cells B).toArray 107)) w.heap.size 107 (turnAt x B 0) := by rw [turnAt_zero]; exact Blk.new _ _ B
  clear hl hx
  go_enter Tryd.func54, Tryd.ntmps54
  go_wp2
  go_loopw [6] (fun i wr => ∃ k : Nat, k ≤ 64 ∧ i = .int .i64 k ∧ Blk wr w.heap.size 107 (turnAt x B k) ∧ Below w.heap.size w wr) (fun i _ => 64 - (intOf i).toNat)
  case atStart => exact ⟨0, by omega, rfl, h0, hb0⟩
  case round =>
    clear h0 hb0
    obtain ⟨k, hk, rfl, h1, hb⟩ := hrel
    by_cases hlt : k < 64
    · have hcell := h1.cell (j := k) (by rw [turnAt_len _ _ _ (by rw [HL.out]; omega), HL.out]; exact hlt)
      rw [turnAt_get x B k (by rw [HL.out]; exact hlt)] at hcell
      have hfr := h1.frozen k
      have hs := h1.set_ k (B.getD k 0 ^^^ x)
      rw [turnAt_step x B k (by rw [HL.out]; exact hlt)] at hs
      have hbs := hb.setCell (p := ⟨w.heap.size, k, none⟩) (by simp) (.int .u8 ((B.getD k 0 ^^^ x).toNat : Int))
      have hxr := xr_byte (B.getD k 0) x
      rw [← HX.out] at hxr
      rw [← hxr] at hs hbs
      clear hxr
      obtain ⟨y, hy⟩ : ∃ y : Int, y = ((B.getD k 0).toNat : Int) := ⟨_, rfl⟩
      rw [← hy] at hcell hs hbs
      clear hy
      go_wp2
      go_roundw
      case rel => exact ⟨k + 1, by omega, by go_num, hs, hbs⟩
      case measure => simp [intOf]; omega
    · obtain rfl : k = 64 := by omega
      rw [turnAt_all x B 64 (by rw [HL.out]; exact Nat.le_refl _)] at h1
      go_wp2
      go_ret
      exact ⟨rfl, h1, hb⟩
end Go.Proofs.YtmkeioeodlidgaaDoor

namespace Go.Proofs.YtmkeioeodlidgaaDoor
open Go.RowKit

theorem wpList_copy_hd {P : Program} {w : World} {ops : Array Oper} {rest : List Oper} {o : Oper} {a : Act} {Q : Exit → Act → World → Prop} (hgd : o.guard = none) (d s : Operand) {t e : TypeId}
    (ho : o.op = .call { callee := .builtin .copy, args := #[d, s], argTypes := #[t, t] }) (ht : P.underlying t = some (.slice e)) (hi : (P.info? e).map (fun i => (i.zero, i.size, i.bytes)) = some (some (.int .u8 0), 1, 1))
    (g n c : Nat) (tb : TypeId) (old : List UInt8) (hd : a.eval d = .slice (some ⟨g, 0, none⟩) n c) (hg : Blk w g tb old) (A : Option Addr) (m cm : Nat) (news : List UInt8) (hs : a.eval s = .slice A m cm) (hr : RdS w A m cm news)
    (hm : m ≤ n) (hn : n ≤ old.length)
    (hK : ∀ w', Blk w' g tb (news ++ old.drop m) → Below g w w' → wpList P ops Q rest (a.put o.dst (goInt m)) w') : wpList P ops Q (o :: rest) a w := by
  obtain ⟨i, hi, _, hs1, _⟩ := info_parts hi
  have hl := hr.len
  have := wpList_copy_splice (P := P) (w := w) (ops := ops) (rest := rest) (o := o) (a := a) (Q := Q) hgd d s t t ho e ht (by rw [hi]; simp [hs1]) (some ⟨g, 0, none⟩) A n c m cm hd hs g 0 (cells old) tb hg (cells news)
    (by rw [length_cells, hl]; exact (Nat.min_eq_left hm).symm) (fun h0 => ⟨rfl, by
      rw [length_cells] at h0
      obtain ⟨b, off, hA, _, hc⟩ := hr.2.2.2.2 (by omega)
      refine ⟨_, hA, fun j u hu => ?_⟩
      have hj : j < news.length := by
        rcases Nat.lt_or_ge j news.length with h | h
        · exact h
        · rw [List.getElem?_eq_none (by rw [length_cells]; exact h)] at hu; cases hu
      rw [Addr.add_lit, hc j (by omega)]
      rw [cells_at hj] at hu
      exact hu⟩) (by simp only [length_cells]; omega) (cells_one news) g w (Below.refl _ _) (Nat.le_refl _)
  rw [length_cells, hl] at this
  refine this fun w' hg' hb' => hK w' ?_ hb'
  have h2 := hg'.out
  unfold Blk
  rw [h2]
  simp [splice, cells, hl]

theorem parts_lit1 {w : World} {A : Option Addr} {n c : Nat} {bs : List UInt8} (h : RdS w A n c bs) (e : TypeId) : PartsRd (w.alloc (.cells #[.slice A n c] e)) (some ⟨w.heap.size, 0, none⟩) 1 [bs] := by
  refine ⟨rfl, fun _ => ⟨w.heap.size, 0, rfl, by simp, fun j hj => ?_⟩⟩
  obtain rfl : j = 0 := by omega
  exact ⟨A, n, c, (BlkV.new w e [.slice A n c]).cell 0, h.below ((Below.refl _ _).alloc (Nat.le_refl _) _)⟩
theorem parts_lit2 {w : World} {A B : Option Addr} {n c m d : Nat} {xs bs : List UInt8} (h : RdS w A n c xs) (k : RdS w B m d bs) (e : TypeId) : PartsRd (w.alloc (.cells #[.slice A n c, .slice B m d] e)) (some ⟨w.heap.size, 0, none⟩) 2 [xs, bs] := by
  refine ⟨rfl, fun _ => ⟨w.heap.size, 0, rfl, by simp, fun j hj => ?_⟩⟩
  have hb : Below w.heap.size w (w.alloc (.cells #[.slice A n c, .slice B m d] e)) := (Below.refl _ _).alloc (Nat.le_refl _) _
  rcases (show j = 0 ∨ j = 1 by omega) with rfl | rfl
  · exact ⟨A, n, c, (BlkV.new w e [.slice A n c, .slice B m d]).cell 0, h.below hb⟩
  · exact ⟨B, m, d, (BlkV.new w e [.slice A n c, .slice B m d]).cell 1, k.below hb⟩
/-- The values that lie there. -/
theorem PartsRd.vals {w : World} {A : Option Addr} {k : Nat} {ps : List (List UInt8)} (h : PartsRd w A k ps) : ∃ vs : List Value, vs.length = k ∧ (∀ v ∈ vs, v.oneCell' = true) ∧
    (∀ j, j < k → ∃ Aj nj cj, vs[j]? = some (.slice Aj nj cj) ∧ RdS w Aj nj cj (ps.getD j [])) ∧ (0 < k → ∃ b off, A = some ⟨b, off, none⟩ ∧ b < w.heap.size ∧ ∀ j, j < k → w.cell? ⟨b, off + j, none⟩ = vs[j]?) := by
  rcases Nat.eq_zero_or_pos k with rfl | hk
  · exact ⟨[], rfl, by simp, fun j hj => absurd hj (by omega), fun hj => absurd hj (by omega)⟩
  obtain ⟨b, off, rfl, hlt, hc⟩ := h.2 hk
  have hv : ∀ j, j < k → ((List.range k).map fun j => ((w.cell? ⟨b, off + j, none⟩).getD undef))[j]? = w.cell? ⟨b, off + j, none⟩ := fun j hj => by
    obtain ⟨_, _, _, h1, _⟩ := hc j hj
    simp [hj, h1]
  refine ⟨(List.range k).map fun j => ((w.cell? ⟨b, off + j, none⟩).getD undef), by simp, fun v hm => ?_, fun j hj => ?_, fun _ => ⟨b, off, rfl, hlt, fun j hj => (hv j hj).symm⟩⟩
  · obtain ⟨j, hj, rfl⟩ := List.mem_map.1 hm
    obtain ⟨_, _, _, h1, _⟩ := hc j (List.mem_range.1 hj)
    rw [h1]; rfl
  · obtain ⟨Aj, nj, cj, h1, h2⟩ := hc j hj
    exact ⟨Aj, nj, cj, by rw [hv j hj, h1], h2⟩
theorem PartsRd.of_own {w : World} {base : Nat} {e : TypeId} {A : Option Addr} {n c : Nat} {vs : List Value} {ps : List (List UInt8)} (h : w.ownsRow base e 1 (.slice A n c) n vs) (hl : ps.length = n)
    (hv : ∀ j, j < n → ∃ Aj nj cj, vs[j]? = some (.slice Aj nj cj) ∧ RdS w Aj nj cj (ps.getD j [])) : PartsRd w A n ps := by
  refine ⟨hl, fun hn => ?_⟩
  obtain ⟨g, cap, he, _, hg⟩ := h.form hn
  simp only [Value.slice.injEq] at he
  obtain ⟨rfl, _, rfl⟩ := he
  refine ⟨g, 0, rfl, hg, fun j hj => ?_⟩
  obtain ⟨Aj, nj, cj, h1, h2⟩ := hv j hj
  exact ⟨Aj, nj, cj, by rw [Nat.zero_add, h.cellAt j (by omega), h1], h2⟩

/-- One slice of bytes, and others behind it, as a law of the walk. -/
theorem wpList_append_parts {P : Program} {w : World} {ops : Array Oper} {rest : List Oper} {o : Oper} {a : Act} {Q : Exit → Act → World → Prop} (hgd : o.guard = none) (s x : Operand) {t e : TypeId}
    (ho : o.op = .call { callee := .builtin .append, args := #[s, x], argTypes := #[t, t] }) (ht : P.underlying t = some (.slice e)) (hi : (P.info? e).map (fun i => (i.zero, i.size, i.bytes)) = some (some (.slice none 0 0), 1, 24))
    (h : Nat) (A1 : Option Addr) (n1 c1 : Nat) (b1 : List UInt8) (hs : a.eval s = .slice (some ⟨h, 0, none⟩) 1 1) (hB : BlkV w h e [.slice A1 n1 c1]) (hr : RdS w A1 n1 c1 b1) (hoff : OffN A1 n1 h)
    (ad : Addr) (k c : Nat) (ps : List (List UInt8)) (hx : a.eval x = .slice (some ad) k c) (w0 : World) (hp : PartsRd w0 (some ad) k ps) (hb : Below w0.heap.size w0 w) (hh : w0.heap.size ≤ h) (hk : k ≤ 1000)
    (hK : ∀ A' c' w', PartsRd w' A' (1 + k) (b1 :: ps) → Below w0.heap.size w0 w' → w.grownBy w' (some h) → wpList P ops Q rest (a.put o.dst (.slice A' (1 + k) c')) w') : wpList P ops Q (o :: rest) a w := by
  obtain ⟨i, hi, hz, hs1, hby⟩ := info_parts hi
  obtain ⟨vs, hvl, hv1, hvr, hvc⟩ := (hp.below hb).vals
  have hown : w.ownsRow h e 1 (.slice (some ⟨h, 0, none⟩) 1 1) 1 [.slice A1 n1 c1] := ⟨rfl, .inr ⟨h, 1, _, rfl, Nat.le_refl _, hB, Nat.le_refl _, by simp [maxLen], by simp, by simp⟩⟩
  have hnews : ∀ j u, vs[j]? = some u → w.cell? (ad.add j) = some u := by
    intro j u hu
    have hj : j < k := by rw [← hvl]; exact (List.getElem?_eq_some_iff.1 hu).1
    obtain ⟨b, off, hA, _, hc⟩ := hvc (by omega)
    injection hA with hA
    subst hA
    rw [add_lit, hc j hj, hu]
  obtain ⟨v', w', hrun, hown', hg, _, hat⟩ := run_append_own_at (P := P) w h t o.type e i _ 1 24 ht hi hz hs1 hby rfl (by omega) _ 1 _ hown ad k c vs (by omega) hnews hv1 (by simp [maxLen]; omega) (by omega) (Nat.le_of_lt hB.lt)
  have hg' : w.grownBy w' (some h) := by simpa [Value.ownBlock] using hg
  obtain ⟨A', c', rfl⟩ := own_form hown'
  have hb' := hb.grown hg' hb.size (fun q hq => by injection hq with hq; omega)
  have hp' := hp.below hb'
  obtain ⟨ws, hwl, _, hwr, hwc⟩ := hp'.vals
  refine wpList_plain hgd fun _ hK2 => ?_
  unfold Oper.wp execOp
  simp only [ho, resolve, invoke, builtin, Sem.run_bind, Sem.run_pure, Result.andThen_ok, List.map_toArray, List.map_cons, List.map_nil, hs, hx, hrun]
  refine hK2 _ _ (hK A' c' w' (PartsRd.of_own hown' (by simp [hp.1]; omega) fun j hj => ?_) hb' hg')
  rcases Nat.eq_zero_or_pos j with rfl | hj0
  · exact ⟨A1, n1, c1, rfl, hr.keep hg' (fun q hq => by injection hq with hq; exact hq ▸ hoff)⟩
  · obtain ⟨j, rfl⟩ : ∃ i, j = i + 1 := ⟨j - 1, by omega⟩
    obtain ⟨Aj, nj, cj, h1, h2⟩ := hvr j (by omega)
    refine ⟨Aj, nj, cj, by simpa using h1, ?_⟩
    obtain ⟨b, off, hA, hlt, hc⟩ := hp.2 (by omega)
    obtain ⟨Bj, mj, dj, h3, h4⟩ := hc j (by omega)
    have e1 := (hb.cell (p := ⟨b, off + j, none⟩) hlt).trans h3
    obtain ⟨b', off', hA', _, hc'⟩ := hvc (by omega)
    rw [hA] at hA'
    simp only [Option.some.injEq, Addr.mk.injEq, and_true] at hA'
    obtain ⟨rfl, rfl⟩ := hA'
    rw [hc' j (by omega), h1] at e1
    simp only [Option.some.injEq, Value.slice.injEq] at e1
    obtain ⟨rfl, rfl, rfl⟩ := e1
    exact h4.below hb'
end Go.Proofs.YtmkeioeodlidgaaDoor
