/- Contracts: slices.Insert of one packet into a slice of packets, where there is no room: a new row. No statement is proved here. -/
import Derived.Test.YtjbeheegciacpaaRngI2
namespace Go.Proofs.Ytjbeheegciacpaa
open Go.RowKit Go.Sort
set_option linter.unusedVariables false

/-- What a slice of packets yields: its cells. -/
def Yld (w : World) (A : Option Addr) (n : Nat) (cs : List Value) : Prop := cs.length = n * 2 ∧ (A = none → n = 0) ∧ ∀ a, A = some a → ∃ b off C, a = ⟨b, off, none⟩ ∧ BlkV w b 54 C ∧ ∀ j v, cs[j]? = some v → C[off + j]? = some v
theorem RowP.yld {w : World} {A : Option Addr} {c : Nat} {X : List Pks} (h : RowP w A c X) : Yld w A X.length (rowC X) := by
  refine ⟨rowC_len X, fun hA => ?_, fun a ha => ?_⟩
  · have := h.nil_ hA; have := h.le; omega
  · obtain ⟨b, off, C, h1, h2, _, h3⟩ := h.some_ a ha
    exact ⟨b, off, C, h1, h2, h3⟩
set_option maxHeartbeats 4000000 in
set_option maxRecDepth 100000 in
/-- Behind the last one. -/
theorem ins_end_grow (A : Option Addr) (n c vb : Nat) (x cs : List Value) (w : World) (hY : Yld w A n cs) (hnc : n ≤ c) (hroom : c < n + 1) (hn : n ≤ 1000)
    (hx : x.length = 2) (hx1 : ∀ v ∈ x, v.oneCell' = true) (hV : BlkV w vb 54 x) :
    Calls Try.prog 24 #[.slice A n c, .int .i64 n, .slice (some ⟨vb, 0, none⟩) 1 1] w fun e w' =>
      e = .returned (.slice (some ⟨w.heap.size, 0, none⟩) (n + 1) (grownCap w (n + 1) c 54)) ∧
      w' = w.drew.alloc (.cells ((cs ++ x).toArray ++ Builtin.zeroCells zPk.cells (grownCap w (n + 1) c 54 - (n + 1))) 54) := by
  obtain ⟨i0, hi0, hz0, hzs, hzb⟩ := info_parts pk_info
  have hsrc : Src Try.prog i0.size 46 (.slice (some ⟨vb, 0, none⟩) 1 1) 1 x w := by
    rw [hzs]
    exact Src.ofSlice w Try.underlying46 ⟨vb, 0, none⟩ 1 1 x (by omega) (fun j u hj => by rw [Addr.add_lit, Nat.zero_add, hV.cell]; exact hj) hx1
  have hold : (Builtin.firstCells i0.size n (.slice A n c)).run Try.prog w.drew = .ok cs.toArray w.drew := by
    rw [hzs]
    cases A with
    | none =>
      have h0 := hY.2.1 rfl
      subst h0
      obtain rfl : cs = [] := List.length_eq_zero_iff.1 (by have := hY.1; omega)
      exact run_firstCells_none w.drew 2 0 0 c
    | some a =>
      obtain ⟨b, off, C, rfl, h1, h2⟩ := hY.2.2 a rfl
      exact run_firstCells_some w.drew 2 n ⟨b, off, none⟩ n c cs hY.1 (fun j v hj => by rw [Addr.add_lit]; exact (h1.drew.cell _).trans (h2 j v hj))
  have hrun : ∀ ty, (Builtin.append_ #[46, 46] ty #[.slice A n c, .slice (some ⟨vb, 0, none⟩) 1 1]).run Try.prog w = .ok (.slice (some ⟨w.heap.size, 0, none⟩) (n + 1) (grownCap w (n + 1) c 54)) (w.drew.alloc (.cells ((cs ++ x).toArray ++ Builtin.zeroCells zPk.cells (grownCap w (n + 1) c 54 - (n + 1))) 54)) := fun ty =>
    run_append_grow_src w 46 46 ty 54 i0 _ Try.underlying46 hi0 hz0 A n c cs hold _ 1 x hsrc hroom (by omega) (by rw [hzb]; exact growslice_fits hroom (by omega))
  obtain ⟨ROW, hROW⟩ : ∃ ROW : Array Value, ROW = (cs ++ x).toArray ++ Builtin.zeroCells zPk.cells (grownCap w (n + 1) c 54 - (n + 1)) := ⟨_, rfl⟩
  rw [← hROW] at hrun ⊢
  clear hY hV hold hsrc hROW
  go_enter Try.func24, Try.ntmps24
  cases A with
  | none =>
    go_wp2_with (at_builtin; refine Lib.wpList_append_run _ rfl _ _ _ _ rfl _ _ rfl rfl _ _ (hrun _) ?_)
    all_goals (go_ret; exact ⟨rfl, rfl⟩)
  | some a =>
    obtain ⟨ab, ao, asp⟩ := a
    go_wp2_with (at_builtin; refine Lib.wpList_append_run _ rfl _ _ _ _ rfl _ _ rfl rfl _ _ (hrun _) ?_)
    all_goals (go_ret; exact ⟨rfl, rfl⟩)

theorem zero_len (k : Nat) : (Builtin.zeroCells zPk.cells k).toList.length = k * 2 := by
  simp [Builtin.zeroCells, zPk, Value.cells]
set_option maxHeartbeats 4000000 in
set_option maxRecDepth 100000 in
/-- Ahead of others. -/
theorem ins_grow (b off n c m vb : Nat) (x cs : List Value) (w : World) (C : List Value) (hB : BlkV w b 54 C) (hnc : n ≤ c) (hroom : c < n + 1) (hn : n ≤ 1000) (hm : m < n)
    (hx : x.length = 2) (hx1 : ∀ v ∈ x, v.oneCell' = true) (hV : BlkV w vb 54 x)
    (hcl : cs.length = n * 2) (h1c : ∀ v ∈ cs, v.oneCell' = true) (hcs : ∀ j v, cs[j]? = some v → C[off + j]? = some v) :
    Calls Try.prog 24 #[.slice (some ⟨b, off, none⟩) n c, .int .i64 m, .slice (some ⟨vb, 0, none⟩) 1 1] w fun e w' =>
      e = .returned (.slice (some ⟨w.heap.size, 0, none⟩) (n + 1) (grownCap w (n + 1) c 54)) ∧
      w' = (((w.alloc (.cells ((cs.take (m * 2)).toArray ++ Builtin.zeroCells zPk.cells (n + 1 - m) ++ Builtin.zeroCells zPk.cells (grownCap w (n + 1) c 54 - (n + 1))) 54)).drew.setCells w.heap.size (m * 2) x).drew).setCells w.heap.size ((m + 1) * 2) (cs.drop (m * 2)) := by
  obtain ⟨i0, hi0, hz0, hzs, hzb⟩ := info_parts pk_info
  have hz2 : ¬ ((m : Int) = (n : Int)) := by omega
  have hz3 : (c : Int) < (n : Int) + 1 := by omega
  have hbw := hB.lt
  have hvw := hV.lt
  have hkk : (n : Int) + 1 - (m : Int) = ((n + 1 - m : Nat) : Int) := by omega
  have hik : m + (n + 1 - m) = n + 1 := by omega
  have hold : (Builtin.firstCells i0.size m (.slice (some ⟨b, off, none⟩) m c)).run Try.prog w.drew = .ok (cs.take (m * 2)).toArray w.drew := by
    rw [hzs]
    exact run_firstCells_some w.drew 2 m ⟨b, off, none⟩ m c (cs.take (m * 2)) (by rw [List.length_take]; omega) (fun j v hj => by
      rw [Addr.add_lit]
      rw [List.getElem?_take] at hj
      split at hj
      · exact (hB.drew.cell _).trans (hcs j v hj)
      · cases hj)
  have hrz : ∀ ty, (Builtin.append_ #[46, 3] ty #[.slice (some ⟨b, off, none⟩) m c, .int .i64 ((n : Int) + 1 - (m : Int))]).run Try.prog w =
      .ok (.slice (some ⟨w.heap.size, 0, none⟩) (n + 1) (grownCap w (n + 1) c 54)) (w.drew.alloc (.cells ((cs.take (m * 2)).toArray ++ Builtin.zeroCells zPk.cells (n + 1 - m) ++ Builtin.zeroCells zPk.cells (grownCap w (n + 1) c 54 - (n + 1))) 54)) := fun ty => by
    have h := Lib.run_append_grow_zeros w 46 3 ty 54 i0 _ .i64 .i64 Try.underlying46 Try.underlying3 hi0 hz0 (some ⟨b, off, none⟩) m c (cs.take (m * 2)) hold (n + 1 - m) (by omega) (by omega) (by omega) (by omega) (by rw [hzb]; omega) (by rw [hzb, hik]; exact growslice_fits hroom (by omega))
    rw [hik] at h
    rw [hkk]
    exact h
  obtain ⟨G, hG⟩ : ∃ G, G = grownCap w (n + 1) c 54 := ⟨_, rfl⟩
  have hGn : n + 1 ≤ G := by rw [hG]; exact grownCap_ge w _ _ _
  have hG63 : G ≤ 9223372036854775807 := by
    have := grownCap_le_maxLen w (n + 1) c 54 (by unfold maxLen; omega)
    rw [← hG] at this
    unfold maxLen at this
    omega
  rw [← hG] at hrz ⊢
  obtain ⟨ROW, hROW⟩ : ∃ ROW : List Value, ROW = cs.take (m * 2) ++ (Builtin.zeroCells zPk.cells (n + 1 - m)).toList ++ (Builtin.zeroCells zPk.cells (G - (n + 1))).toList := ⟨_, rfl⟩
  have hRA : (cs.take (m * 2)).toArray ++ Builtin.zeroCells zPk.cells (n + 1 - m) ++ Builtin.zeroCells zPk.cells (G - (n + 1)) = ROW.toArray := by
    rw [hROW]; apply Array.ext'; simp
  have hRl : ROW.length = G * 2 := by
    rw [hROW, List.length_append, List.length_append, zero_len, zero_len, List.length_take]
    omega
  rw [hRA] at hrz ⊢
  have hN : BlkV (w.drew.alloc (.cells ROW.toArray 54)) w.heap.size 54 ROW := BlkV.new w.drew _ _
  have hb0 : Below w.heap.size w (w.drew.alloc (.cells ROW.toArray 54)) := (show Below w.heap.size w w.drew from ⟨rfl, rfl, rfl, Nat.le_refl _, fun _ _ => rfl⟩).alloc (Nat.le_refl _) _
  have hO := hB.below hb0 hbw
  have hVV := hV.below hb0 hvw
  have hmin1 : Nat.min 1 (n + 1 - m) = 1 := by simp only [Nat.min_def]; split <;> omega
  have hcpA : ∀ ty dc, (Builtin.copy_ #[46, 46] ty #[.slice (some ⟨w.heap.size, m * 2, none⟩) (n + 1 - m) dc, .slice (some ⟨vb, 0, none⟩) 1 1]).run Try.prog ((w.alloc (.cells ROW.toArray 54)).drew) = .ok (goInt (Nat.min 1 (n + 1 - m))) (((w.alloc (.cells ROW.toArray 54)).drew).setCells w.heap.size (m * 2) x) := fun ty dc =>
    run_copy_cells2 _ _ _ ty 54 2 w.heap.size (m * 2) (n + 1 - m) dc ⟨vb, 0, none⟩ 1 1 x Try.underlying46 pk_size (by rw [hx, hmin1])
      (fun j v hj => by rw [Addr.add_lit, Nat.zero_add]; exact (hVV.cell j).trans hj)
      (fun j hj => by rw [show ((w.alloc (.cells ROW.toArray 54)).drew).cell? ⟨w.heap.size, m * 2 + j, none⟩ = ROW[m * 2 + j]? from hN.cell _, List.getElem?_eq_getElem (by omega)]; rfl) (fun j hj => hN.frozen _) hx1
  have hN2 := set_cells w.heap.size x (m * 2) ((w.alloc (.cells ROW.toArray 54)).drew) ROW hN (by omega)
  have hl1 := splice_len ROW (m * 2) x (by omega)
  have hO2 : BlkV (((w.alloc (.cells ROW.toArray 54)).drew).setCells w.heap.size (m * 2) x) b 54 C := BlkV.only (w := ((w.alloc (.cells ROW.toArray 54)).drew)) hO hN2.2 (by omega)
  have hdl : (cs.drop (m * 2)).length = (n - m) * 2 := by rw [List.length_drop, hcl]; omega
  have hmin2 : Nat.min (n - m) (n - m) = n - m := by simp only [Nat.min_def]; split <;> omega
  have hcpB : ∀ ty dc sc, (Builtin.copy_ #[46, 46] ty #[.slice (some ⟨w.heap.size, (m + 1) * 2, none⟩) (n - m) dc, .slice (some ⟨b, off + m * 2, none⟩) (n - m) sc]).run Try.prog (((w.alloc (.cells ROW.toArray 54)).drew.setCells w.heap.size (m * 2) x).drew) = .ok (goInt (Nat.min (n - m) (n - m))) ((((w.alloc (.cells ROW.toArray 54)).drew.setCells w.heap.size (m * 2) x).drew).setCells w.heap.size ((m + 1) * 2) (cs.drop (m * 2))) := fun ty dc sc =>
    run_copy_cells2 _ _ _ ty 54 2 w.heap.size ((m + 1) * 2) (n - m) dc ⟨b, off + m * 2, none⟩ (n - m) sc (cs.drop (m * 2)) Try.underlying46 pk_size (by rw [hdl, hmin2])
      (fun j v hj => by
        rw [Addr.add_lit, Nat.add_assoc]
        rw [List.getElem?_drop] at hj
        exact (hO2.drew.cell _).trans (hcs _ v hj))
      (fun j hj => by rw [hN2.1.drew.cell, List.getElem?_eq_getElem (by omega)]; rfl) (fun j hj => hN2.1.drew.frozen _) (fun v hv => h1c v (List.mem_of_mem_drop hv))
  have hGi : ¬ (G = m) := by omega
  have hGim : ¬ (G = m + 1) := by omega
  have hci : ¬ (c = m) := by omega
  have hw1 : IntKind.i64.wrap ((m : Int) + 1) = (m : Int) + 1 := by rw [IntKind.wrap_i64]; omega
  have hw2 : IntKind.i64.wrap ((n : Int) + 1) = (n : Int) + 1 := by rw [IntKind.wrap_i64]; omega
  have hw3 : IntKind.i64.wrap ((n : Int) + 1 - (m : Int)) = (n : Int) + 1 - (m : Int) := by rw [IntKind.wrap_i64]; omega
  have hb1 : (0 : Int) ≤ (m : Int) + 1 := by omega
  have hin : m ≤ n := by omega
  have htn : ((m : Int) + 1).toNat = m + 1 := by omega
  have hb3 : (m : Int) ≤ (n : Int) := by omega
  clear hkk hik hold hROW hG hRl hRA hB hV hN hO hVV hN2 hl1 hO2 hdl hmin1 hmin2 hcs hb0
  go_enter Try.func24, Try.ntmps24
  go_wp2_with (first
    | (at_builtin; refine Lib.wpList_append_run _ rfl _ _ _ _ rfl _ _ rfl rfl _ _ (hrz _) ?_)
    | (at_builtin; refine wpList_copy_runI _ rfl _ _ 46 46 rfl _ _ rfl rfl (hcpA _ _) ?_))
  go_region_law (refine step_copy_runI rfl _ _ 46 46 rfl _ _ (by simp [Act.eval, Act.put]) (by simp [Act.eval, Act.put]) (hcpB _ _ _) ?_)
  all_goals go_wp2
  all_goals go_ret
  all_goals exact ⟨rfl, rfl⟩
end Go.Proofs.Ytjbeheegciacpaa
