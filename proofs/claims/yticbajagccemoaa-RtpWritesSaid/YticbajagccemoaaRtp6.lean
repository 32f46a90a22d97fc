/- Contracts of package rtp: what gives up is caught, and told as an error's number. No statement is proved here. -/
import Derived.Test.YticbajagccemoaaRtp4
import Derived.Recover
import Derived.Tactics2
namespace Go.Proofs.Yticbajagccemoaa
open Go.RowKit
set_option linter.unusedVariables false

theorem assert_ref (c : Int) (w : World) : (Instr.typeAssert (.iface 44 (.agg #[.int .i64 c])) 20 44 true).run Try.prog w = .ok (.tuple #[.agg #[.int .i64 c], .bool true]) w := by
  first | kernel_rfl | rfl

/-- The rest of a deferred body, where nothing recovers any more. -/
theorem wpS_tail {P : Program} {fn : Func} {c₀ c₁ : Frame} {cs : List Frame} {u : FrameMode} {R : Ending → FrameMode → World → Prop} {R0 : Ending → World → Prop} {c : Code} {a : Act} {w : World}
    (h : c.wp P (bodyPost P fn R0) a w) (hc : c₁ = { c₀ with mode := u }) (hr : ∀ e w', R0 e w' → R e u w') : c.wpS P (bodyPostS P fn c₀ cs R) a (c₁ :: cs) w := by
  subst hc
  refine wpS_of_wp (Code.wp_mono ?_ h)
  intro e a' w' hq
  cases e with
  | normal => obtain ⟨hd, v, h1, h2⟩ := hq; exact ⟨hd, u, rfl, v, h1, hr _ _ h2⟩
  | ret => obtain ⟨hd, v, h1, h2⟩ := hq; exact ⟨hd, u, rfl, v, h1, hr _ _ h2⟩
  | panic chain => obtain ⟨hd, h2⟩ := hq; exact ⟨hd, u, rfl, hr _ _ h2⟩
  | outgrown => exact ⟨u, hr _ _ hq⟩
  | exit id => exact hq.elim
  | goto l => exact hq.elim

set_option maxRecDepth 100000 in
theorem catch_idle (g h : Nat) (w : World) :
    CallsD Try.prog 14 #[.pointer (some ⟨g, 0, none⟩), .pointer (some ⟨h, 0, none⟩)] .returning w fun e u' w' => e = .returned (.tuple #[]) ∧ u' = .returning ∧ w' = w := by
  refine callsD_of_wpS Try.func14 rfl fun c₀ cs hu => ?_
  simp only [Try.ntmps14, List.size_toArray, List.length_cons, List.length_nil, Nat.reduceAdd, Nat.reduceSub, Array.replicate_succ, Array.replicate_zero, List.push_toArray, List.append_toArray, List.nil_append, List.cons_append]
  apply wpS_seq
  apply wpS_region
  simp [wpOpsS, go_sem, recoverD, hu, Exit.thenS]
  refine wpS_tail (R0 := fun e w' => e = .returned (.tuple #[]) ∧ w = w') (u := .returning) ?_ (by rw [← hu]) (fun e w' hh => ⟨hh.1, rfl, hh.2.symm⟩)
  go_wp2
  exact bodyPost_ret (results_none rfl _ _ _) rfl ⟨rfl, rfl⟩

/-- A whole row is laid into a block that is known whole, as one step of a region that draws. -/
theorem step_st {P : Program} {ops : Array Oper} {op : Oper} {a : Act} {w : World} {K : Act → World → Prop} {Q : Exit → Act → World → Prop} {E : Prop} (hgd : op.guard = none) (ty : TypeId) (x y : Operand) (ho : op.op = .store ty x y) (g o : Nat) (ds : List Value) (hx : a.eval x = .pointer (some ⟨g, o, none⟩)) (hy : a.eval y = .agg ds.toArray)
    (e : TypeId) (cs : List Value) (hg : BlkV w g e cs) (hfit : o + ds.length ≤ cs.length) (hT : RowTy P ty ds.length) (h1 : ∀ v ∈ ds, v.oneCell' = true)
    (h : ∀ w', BlkV w' g e (splice cs o ds) → Only g w w' → K (a.put op.dst undef) w') : if Region.wanted op (yielded ops a.tmps) = true then Oper.wp P op a w K Q else E := by
  rw [if_pos (by simp [Region.wanted, hgd])]
  exact wp_st ty x y ho g o ds hx hy e cs hg hfit hT h1 h

set_option maxRecDepth 100000 in
set_option maxHeartbeats 1000000 in
theorem catch_panicking (c : Int) (g h : Nat) (cs1 : List Value) (y : Int) (older : List PanicEntry) (w : World) (hg : BlkV w g 28 cs1) (hl : cs1.length = 11) (hh : BlkV w h 29 [.int .i64 y]) (hne : g ≠ h) :
    CallsD Try.prog 14 #[.pointer (some ⟨g, 0, none⟩), .pointer (some ⟨h, 0, none⟩)] (.panicking ({ v := .iface 44 (.agg #[.int .i64 c]), recovered := false } :: older)) w fun e u' w' =>
      e = .returned (.tuple #[]) ∧ u' = .panicking ({ v := .iface 44 (.agg #[.int .i64 c]), recovered := true } :: older) ∧ BlkV w' g 28 zeroC ∧ BlkV w' h 29 [.int .i64 c] ∧ Below (min g h) w w' := by
  refine callsD_of_wpS Try.func14 rfl fun c₀ cs hu => ?_
  have hz := zero28
  have ha := assert_ref c
  simp only [Try.ntmps14, List.size_toArray, List.length_cons, List.length_nil, Nat.reduceAdd, Nat.reduceSub, Array.replicate_succ, Array.replicate_zero, List.push_toArray, List.append_toArray, List.nil_append, List.cons_append]
  apply wpS_seq
  apply wpS_region
  simp [wpOpsS, go_sem, recoverD, hu, Exit.thenS]
  refine wpS_tail (R0 := fun e w' => e = .returned (.tuple #[]) ∧ BlkV w' g 28 zeroC ∧ BlkV w' h 29 [.int .i64 c] ∧ Below (min g h) w w') (u := .panicking ({ v := .iface 44 (.agg #[.int .i64 c]), recovered := true } :: older)) ?_ rfl (fun e w' hh => ⟨hh.1, rfl, hh.2.1, hh.2.2.1, hh.2.2.2⟩)
  go_wp2
  have b1 : Below w.heap.size w (w.alloc (.cells #[.int .i64 c] 44)) := (Below.refl _ _).alloc (Nat.le_refl _) _
  have b2 : Below (min g h) w (w.alloc (.cells #[.int .i64 c] 44)).drew := (b1.mono (by have := hg.lt; omega)).drew
  have hg1 := hg.below b1 hg.lt
  have hh1 := hh.below b1 hh.lt
  have hc1 : (w.alloc (.cells #[.int .i64 c] 44)).cell? ⟨w.heap.size, 0, none⟩ = some (.int .i64 c) := ((BlkV.new w 44 [.int .i64 c]).cell 0).trans rfl
  have hne2 := hg.lt
  have hne3 := hh.lt
  have hr1 := BlkV.new w 44 [.int .i64 c]
  change BlkV (w.alloc (.cells #[.int .i64 c] 44)) w.heap.size _ _ at hr1
  obtain ⟨r, hr⟩ : ∃ r, r = w.heap.size := ⟨_, rfl⟩
  rw [← hr] at hc1 hr1 hne2 hne3
  simp only [← hr]
  generalize (w.alloc (.cells #[.int .i64 c] 44)) = w1 at hg1 hh1 hc1 hr1 b2
  clear hr b1 hg hh hu
  refine wp_region_any (by kernel_rfl) ?_
  change wpAny _ _ _ _ _ _ _ (World.drew _)
  have hg2 : BlkV w1.drew g 28 cs1 := hg1
  have hh2 : BlkV w1.drew h 29 [.int .i64 y] := hh1
  have hc2 : w1.drew.cell? ⟨r, 0, none⟩ = some (.int .i64 c) := hc1
  have hcr : BlkV w1.drew r 44 [.int .i64 c] := hr1
  refine wpAny_take (i := 0) (v := ?_) rfl (by kernel_rfl) (by kernel_rfl) (by kernel_rfl) (fun _ _ _ h => h) (Or.inl ⟨by rfl, ?_⟩) ?_
  case refine_2 => (intro wz; go_simp; with_reducible rfl)
  simp only [Act.put, List.getElem_toArray, List.getElem_cons_zero, List.setIfInBounds_toArray, List.set_cons_succ, List.set_cons_zero]
  refine wpAny_take (i := 1) (v := ?_) rfl (by kernel_rfl) (by kernel_rfl) (by kernel_rfl) (fun _ _ _ h => h) (Or.inl ⟨by rfl, ?_⟩) ?_
  case refine_2 => (intro wz; go_simp; with_reducible rfl)
  simp only [Act.put, List.getElem_toArray, List.getElem_cons_succ, List.getElem_cons_zero, List.setIfInBounds_toArray, List.set_cons_succ, List.set_cons_zero]
  refine any_two (i := 2) (j := 3) (by kernel_rfl) rfl rfl rfl rfl (fun K hK => ?_) (fun K hK => ?_)
  · simp only [List.getElem_toArray, List.getElem_cons_succ, List.getElem_cons_zero]
    go_simp
    refine hK _ _ ?_
    clear hK K
    refine any_one (i := 3) (by kernel_rfl) rfl rfl (fun K hK => ?_)
    simp only [List.getElem_toArray, List.getElem_cons_succ, List.getElem_cons_zero]
    refine wp_st 28 (.tmp 0) (.tmp 16) rfl g 0 zeroC (by rfl) (by rfl) 28 cs1 hg2 (by rw [hl]; exact Nat.le_refl 11) (row11 rfl) (rtpC_one _ _ _ _ _ _ _ _ _ _ _ _ _ _ _ _ _) ?_
    intro w2 hB2 ho2
    rw [splice_all _ _ (by rw [hl]; rfl)] at hB2
    have hh3 : BlkV w2 h 29 [.int .i64 y] := hh2.only ho2 (fun e => hne e.symm)
    have hc3 : w2.cell? ⟨r, 0, none⟩ = some (.int .i64 c) := ((hcr.only ho2 (fun e => by omega)).cell 0).trans rfl
    refine hK _ _ ?_
    clear hK K
    refine any_one (i := 4) (by kernel_rfl) rfl rfl (fun K hK => ?_)
    simp only [List.getElem_toArray, List.getElem_cons_succ, List.getElem_cons_zero]
    have hcy : w2.cell? ⟨h, 0, none⟩ = some (.int .i64 y) := (hh3.cell 0).trans rfl
    have hcf := hh3.frozen 0
    go_simp
    refine hK _ _ ?_
    clear hK K
    refine wpAny_done (by kernel_rfl) ?_ _
    have e1 : BlkV (w2.setCell ⟨h, 0, none⟩ (.int .i64 c)) g 28 zeroC := hB2.far hne _
    have e2 : BlkV (w2.setCell ⟨h, 0, none⟩ (.int .i64 c)) h 29 [.int .i64 c] := hh3.set_ 0 _
    exact bodyPost_end (results_none rfl _ _ _) rfl ⟨rfl, e1, e2, (b2.trans (ho2.below (Nat.min_le_left g h))).setCell (Nat.min_le_right g h) _⟩
  · simp only [List.getElem_toArray, List.getElem_cons_succ, List.getElem_cons_zero]
    refine wp_st 28 (.tmp 0) (.tmp 16) rfl g 0 zeroC (by rfl) (by rfl) 28 cs1 hg2 (by rw [hl]; exact Nat.le_refl 11) (row11 rfl) (rtpC_one _ _ _ _ _ _ _ _ _ _ _ _ _ _ _ _ _) ?_
    intro w2 hB2 ho2
    rw [splice_all _ _ (by rw [hl]; rfl)] at hB2
    have hh3 : BlkV w2 h 29 [.int .i64 y] := hh2.only ho2 (fun e => hne e.symm)
    have hc3 : w2.cell? ⟨r, 0, none⟩ = some (.int .i64 c) := ((hcr.only ho2 (fun e => by omega)).cell 0).trans rfl
    refine hK _ _ ?_
    clear hK K
    refine any_one (i := 2) (by kernel_rfl) rfl rfl (fun K hK => ?_)
    simp only [List.getElem_toArray, List.getElem_cons_succ, List.getElem_cons_zero]
    go_simp
    refine hK _ _ ?_
    clear hK K
    refine any_one (i := 4) (by kernel_rfl) rfl rfl (fun K hK => ?_)
    simp only [List.getElem_toArray, List.getElem_cons_succ, List.getElem_cons_zero]
    have hcy : w2.cell? ⟨h, 0, none⟩ = some (.int .i64 y) := (hh3.cell 0).trans rfl
    have hcf := hh3.frozen 0
    go_simp
    refine hK _ _ ?_
    clear hK K
    refine wpAny_done (by kernel_rfl) ?_ _
    have e1 : BlkV (w2.setCell ⟨h, 0, none⟩ (.int .i64 c)) g 28 zeroC := hB2.far hne _
    have e2 : BlkV (w2.setCell ⟨h, 0, none⟩ (.int .i64 c)) h 29 [.int .i64 c] := hh3.set_ 0 _
    exact bodyPost_end (results_none rfl _ _ _) rfl ⟨rfl, e1, e2, (b2.trans (ho2.below (Nat.min_le_left g h))).setCell (Nat.min_le_right g h) _⟩
end Go.Proofs.Yticbajagccemoaa
