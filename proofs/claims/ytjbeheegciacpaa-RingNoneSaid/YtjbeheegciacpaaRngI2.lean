/- Contracts: slices.Insert of one packet into a slice of packets, where there is room. No statement is proved here. -/
import Derived.Test.YtjbeheegciacpaaRngI1
namespace Go.Proofs.Ytjbeheegciacpaa
open Go.RowKit Go.Sort
set_option linter.unusedVariables false

set_option maxHeartbeats 4000000 in
set_option maxRecDepth 100000 in
/-- Behind the last one. -/
theorem ins_end_room (b off n c vb : Nat) (x : List Value) (w : World) (C : List Value) (hB : BlkV w b 54 C) (hl : off + c * 2 ≤ C.length) (hroom : n + 1 ≤ c) (hc63 : c ≤ 9223372036854775807)
    (hx : x.length = 2) (hx1 : ∀ v ∈ x, v.oneCell' = true) (hV : BlkV w vb 54 x) :
    Calls Try.prog 24 #[.slice (some ⟨b, off, none⟩) n c, .int .i64 n, .slice (some ⟨vb, 0, none⟩) 1 1] w fun e w' =>
      e = .returned (.slice (some ⟨b, off, none⟩) (n + 1) c) ∧ w' = w.setCells b (off + n * 2) x := by
  obtain ⟨i0, hi0, hz0, hzs, hzb⟩ := info_parts pk_info
  have hsrc : Src Try.prog i0.size 46 (.slice (some ⟨vb, 0, none⟩) 1 1) 1 x w := by
    rw [hzs]
    exact Src.ofSlice w Try.underlying46 ⟨vb, 0, none⟩ 1 1 x (by omega) (fun j u hj => by rw [Addr.add_lit, Nat.zero_add, hV.cell]; exact hj) hx1
  have hsp : ∀ j, j < x.length → (w.cell? ⟨b, off + n * i0.size + j, none⟩).isSome = true := fun j hj => by
    rw [hzs, hB.cell, List.getElem?_eq_getElem (by omega)]; rfl
  have hfz : ∀ j, j < x.length → w.frozen? ⟨b, off + n * i0.size + j, none⟩ = false := fun j hj => hB.frozen _
  go_enter Try.func24, Try.ntmps24
  go_wp2_with (at_builtin; refine wpList_append_room_src _ rfl _ _ 46 46 rfl 54 i0 Try.underlying46 hi0 b off n c rfl _ rfl 1 x hsrc hroom hsp hfz ?_)
  go_ret
  exact ⟨rfl, rfl⟩
theorem szPk : ∀ w, (Go.sizeOf 54).run Try.prog w = .ok 2 w := fun w => by kernel_rfl
set_option maxHeartbeats 4000000 in
set_option maxRecDepth 100000 in
/-- Ahead of others. -/
theorem ins_shift (b off n c m vb : Nat) (x cs : List Value) (w : World) (C : List Value) (hB : BlkV w b 54 C) (hl : off + c * 2 ≤ C.length) (hroom : n + 1 ≤ c) (hc63 : c ≤ 9223372036854775807) (hm : m < n)
    (hx : x.length = 2) (hx1 : ∀ v ∈ x, v.oneCell' = true) (hV : BlkV w vb 54 x) (hvb : vb ≠ b)
    (hcl : cs.length = n * 2) (h1c : ∀ v ∈ cs, v.oneCell' = true) (hcs : ∀ j v, cs[j]? = some v → C[off + j]? = some v) :
    Calls Try.prog 24 #[.slice (some ⟨b, off, none⟩) n c, .int .i64 m, .slice (some ⟨vb, 0, none⟩) 1 1] w fun e w' =>
      e = .returned (.slice (some ⟨b, off, none⟩) (n + 1) c) ∧ w' = (w.drew.setCells b (off + (m + 1) * 2) (cs.drop (m * 2))).setCells b (off + m * 2) x := by
  have hz2 : ¬ ((m : Int) = (n : Int)) := by omega
  have hov : ∀ lb cb, (callFunc 28 #[.slice (some ⟨vb, 0, none⟩) 1 1, .slice (some ⟨b, off + (m + 1) * 2, none⟩) lb cb]).run Try.prog w = .ok (.value (.bool false)) w := fun lb cb => by
    rw [run_callFunc_extern Try.func28 (by kernel_rfl) (by kernel_rfl) (by kernel_rfl) (e := Extern.SlicesOverlaps.overlaps #[46, 46] #[4]) (by kernel_rfl),
      Lib.run_overlaps_apart w 46 4 54 Try.underlying46 2 szPk ⟨vb, 0, none⟩ ⟨b, off + (m + 1) * 2, none⟩ 1 1 lb cb hvb 54 54 x.length C.length ?_ ?_ (by omega) (hV.frozen _) (hV.frozen _)]
    · rfl
    · unfold World.shape?; rw [hV]; rfl
    · unfold World.shape?; rw [hB]; rfl
  have hw1 : IntKind.i64.wrap ((m : Int) + 1) = (m : Int) + 1 := by rw [IntKind.wrap_i64]; omega
  have hw2 : IntKind.i64.wrap ((n : Int) + 1) = (n : Int) + 1 := by rw [IntKind.wrap_i64]; omega
  have hdl : (cs.drop (m * 2)).length = (n - m) * 2 := by rw [List.length_drop, hcl]; omega
  have hcp1 : ∀ ty dc sc, (Builtin.copy_ #[46, 46] ty #[.slice (some ⟨b, off + (m + 1) * 2, none⟩) (n - m) dc, .slice (some ⟨b, off + m * 2, none⟩) (n + 1 - m) sc]).run Try.prog w.drew = .ok (goInt (Nat.min (n + 1 - m) (n - m))) (w.drew.setCells b (off + (m + 1) * 2) (cs.drop (m * 2))) := fun ty dc sc =>
    run_copy_cells2 w.drew _ _ ty 54 2 b (off + (m + 1) * 2) (n - m) dc ⟨b, off + m * 2, none⟩ (n + 1 - m) sc (cs.drop (m * 2)) Try.underlying46 pk_size (by rw [hdl]; simp only [Nat.min_def]; split <;> omega)
      (fun j v hj => by rw [Addr.add_lit, Nat.add_assoc]; rw [List.getElem?_drop] at hj; exact (hB.drew.cell _).trans (hcs _ v hj))
      (fun j hj => by rw [hB.drew.cell, List.getElem?_eq_getElem (by omega)]; rfl) (fun j hj => hB.drew.frozen _) (fun v hv => h1c v (List.mem_of_mem_drop hv))
  have hB1 := (set_cells b (cs.drop (m * 2)) (off + (m + 1) * 2) w.drew C hB.drew (by omega)).1
  have hV1 : BlkV (w.drew.setCells b (off + (m + 1) * 2) (cs.drop (m * 2))) vb 54 x := hV.drew.only (set_cells b (cs.drop (m * 2)) (off + (m + 1) * 2) w.drew C hB.drew (by omega)).2 hvb
  have hl1 := splice_len C (off + (m + 1) * 2) (cs.drop (m * 2)) (by omega)
  obtain ⟨W1, hW1⟩ : ∃ W1, W1 = w.drew.setCells b (off + (m + 1) * 2) (cs.drop (m * 2)) := ⟨_, rfl⟩
  rw [← hW1] at hcp1 hB1 hV1 ⊢
  have hcp2 : ∀ ty dc, (Builtin.copy_ #[46, 46] ty #[.slice (some ⟨b, off + m * 2, none⟩) (n + 1 - m) dc, .slice (some ⟨vb, 0, none⟩) 1 1]).run Try.prog W1 = .ok (goInt (Nat.min 1 (n + 1 - m))) (W1.setCells b (off + m * 2) x) := fun ty dc =>
    run_copy_cells2 W1 _ _ ty 54 2 b (off + m * 2) (n + 1 - m) dc ⟨vb, 0, none⟩ 1 1 x Try.underlying46 pk_size (by rw [hx]; simp only [Nat.min_def]; split <;> omega)
      (fun j v hj => by rw [Addr.add_lit, Nat.zero_add, hV1.cell]; exact hj)
      (fun j hj => by rw [hB1.cell, List.getElem?_eq_getElem (by omega)]; rfl) (fun j hj => hB1.frozen _) hx1
  have hb1 : (0 : Int) ≤ (m : Int) + 1 := by omega
  have hin : m ≤ n := by omega
  have htn : ((m : Int) + 1).toNat = m + 1 := by omega
  have hb2 : ¬ (c = m + 1) := by omega
  have hb3 : (m : Int) ≤ (n : Int) + 1 := by omega
  have hb4 : ¬ (c = m) := by omega
  have HB := Lib.hid hB
  have HB1 := Lib.hid hB1
  have HV := Lib.hid hV
  have HV1 := Lib.hid hV1
  clear hB hB1 hV hV1 hdl hl1 hcs
  subst hW1
  go_enter Try.func24, Try.ntmps24
  go_wp2_with (simp only [hov])
  go_region_law (refine step_copy_runI rfl _ _ 46 46 rfl _ _ (by simp [Act.eval, Act.put]) (by simp [Act.eval, Act.put]) (hcp1 _ _ _) ?_)
  all_goals (go_wp2_with (at_builtin; refine wpList_copy_runI _ rfl _ _ 46 46 rfl _ _ rfl rfl (hcp2 _ _) ?_))
  all_goals go_ret
  all_goals exact ⟨rfl, rfl⟩

end Go.Proofs.Ytjbeheegciacpaa
