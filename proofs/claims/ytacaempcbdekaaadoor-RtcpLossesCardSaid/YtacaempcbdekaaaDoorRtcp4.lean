/- Contracts of package rtcp: what the bodies of packets are. No statement is proved here. -/
import Derived.Test.YtacaempcbdekaaaDoorRtcp3
import Derived.Test.YtacaempcbdekaaaDoorRtcpNum3
import Derived.Test.YtacaempcbdekaaaDoorReg
import Derived.Deep.RegionHeld3
namespace Go.Proofs.YtacaempcbdekaaaDoor
open Go.RowKit
set_option linter.unusedVariables false

section
variable {P : Program} {md : Region.Mode} {ops : Array Oper} {Q : Exit → Act → World → Prop} {S : World → Prop}
theorem anyH_one {i : Nat} {op : Oper} {fuel : Nat} {listed : Array Bool} {a : Act} {w : World} (hr : Region.ready md ops listed = [i]) (ho : ops[i]? = some op) (hgd : op.guard = none)
    (h : ∀ K : Act → World → Prop, (∀ a w, S w → wpAnyH P md ops Q S fuel (listed.setIfInBounds i true) a w → K a w) → op.wp P a w K Q) : wpAnyH P md ops Q S (fuel + 1) listed a w := by
  refine wpAnyH_all hr (by simp) fun j hj => ?_
  simp only [List.mem_singleton] at hj
  subst hj
  unfold wpOp
  simp only [ho]
  rw [if_pos (by simp [Region.wanted, hgd])]
  exact Or.inl (h _ fun a w h1 h2 => ⟨h1, h2⟩)
end
/-- A packet's cells. -/
def ctlC (k : Int) (so me ti st pa oc : Nat) (vR vN vS vL vF : Value) (ra : Nat) : List Value := [.int .i64 k, .int .u32 (so : Int), .int .u32 (me : Int), .int .u64 (ti : Int), .int .u32 (st : Int), .int .u32 (pa : Int), .int .u32 (oc : Int), vR, vN, vS, vL, vF, .int .u64 (ra : Int)]
abbrev zCtl : List Value := [.int .i64 0, .int .u32 0, .int .u32 0, .int .u64 0, .int .u32 0, .int .u32 0, .int .u32 0, .slice none 0 0, .slice none 0 0, .slice none 0 0, .slice none 0 0, .slice none 0 0, .int .u64 0]
theorem ctlC_one (k : Int) (so me ti st pa oc : Nat) (A : Option Addr) (n a : Nat) (B : Option Addr) (m b : Nat) (C : Option Addr) (l c : Nat) (D : Option Addr) (p d : Nat) (E : Option Addr) (q e ra : Nat) : ∀ v ∈ ctlC k so me ti st pa oc (.slice A n a) (.slice B m b) (.slice C l c) (.slice D p d) (.slice E q e) ra, v.oneCell' = true := by
  intro v hv
  simp [ctlC] at hv
  rcases hv with rfl | rfl | rfl | rfl | rfl | rfl | rfl | rfl | rfl | rfl | rfl | rfl | rfl <;> rfl
theorem zeroCtl (w : World) : (zeroValue 50).run Tryd.prog w = .ok (.agg #[.int .i64 0, .int .u32 0, .int .u32 0, .int .u64 0, .int .u32 0, .int .u32 0, .int .u32 0, .slice none 0 0, .slice none 0 0, .slice none 0 0, .slice none 0 0, .slice none 0 0, .int .u64 0]) w := by kernel_rfl
theorem rowCtl {cs : List Value} (h : cs.length = 13) : RowTy Tryd.prog 50 cs.length := by
  rw [h]; exact ⟨_, Tryd.underlying50, rfl, by kernel_rfl⟩
/-- The cells are this packet's; its lists are the call's own. -/
def OwnC (w : World) (b : Nat) (cs : List Value) (c : Ctl) : Prop := ∃ (A : Option Addr) (a : Nat) (B : Option Addr) (b' : Nat) (C : Option Addr) (c' : Nat) (D : Option Addr) (d : Nat) (E : Option Addr) (e : Nat),
  cs = ctlC c.k c.so c.me c.ti c.st c.pa c.oc (.slice A c.reps.length a) (.slice B c.nams.length b') (.slice C c.srcs.length c') (.slice D c.loss.length d) (.slice E c.firs.length e) c.ra ∧
  w.ownsRow b 74 7 (.slice A c.reps.length a) c.reps.length (c.reps.flatMap cRep) ∧
  w.ownsRow b 52 2 (.slice B c.nams.length b') c.nams.length (c.nams.flatMap cNam) ∧
  w.ownsRow b 43 1 (.slice C c.srcs.length c') c.srcs.length (c.srcs.flatMap cSrc) ∧
  w.ownsRow b 41 2 (.slice D c.loss.length d) c.loss.length (c.loss.flatMap cLos) ∧
  w.ownsRow b 76 2 (.slice E c.firs.length e) c.firs.length (c.firs.flatMap cFir)
theorem own_moN {w : World} {base base' n s : Nat} {e : TypeId} {v : Value} {xs : List Value} (h : w.ownsRow base e s v n xs) (hb : base' ≤ base) : w.ownsRow base' e s v n xs := by
  refine ⟨h.1, ?_⟩
  rcases h.2 with h2 | ⟨g, cap, cur, hv, hb2, h3⟩
  · exact .inl h2
  · exact .inr ⟨g, cap, cur, hv, Nat.le_trans hb hb2, h3⟩
theorem own_thN {w w' : World} {base n s : Nat} {e : TypeId} {v : Value} {xs : List Value} (h : w.ownsRow base e s v n xs) {row : Option Nat} (hg : w.grownBy w' row) (hr : ∀ p, row = some p → p < base ∨ ∃ (cur : Array Value) (e' : TypeId) (fz : Nat × Nat), w.heap[p]? = some (.cells cur e' fz) ∧ e ≠ e') : w'.ownsRow base e s v n xs := by
  refine h.kept hg ?_
  rcases hq : v.ownBlock with _ | p
  · exact .inl rfl
  · refine .inr fun hp => ?_
    rcases hr p hp.symm with h1 | ⟨cur, e', fz, h2, h3⟩
    · have := (h.lt p hq).1; omega
    · rcases h.2 with ⟨rfl, _⟩ | ⟨g, cap, cu2, rfl, _, hg2, _⟩
      · simp [Value.ownBlock] at hq
      · simp [Value.ownBlock] at hq
        subst hq
        rw [h2] at hg2
        simp at hg2
        exact h3 hg2.2.1.symm
theorem OwnC.mono {w : World} {b b2 : Nat} {cs : List Value} {c : Ctl} (h : OwnC w b cs c) (hb : b2 ≤ b) : OwnC w b2 cs c := by
  obtain ⟨A, a, B, b', C, c', D, d, E, e, h0, h1, h2, h3, h4, h5⟩ := h
  exact ⟨A, a, B, b', C, c', D, d, E, e, h0, own_moN h1 hb, own_moN h2 hb, own_moN h3 hb, own_moN h4 hb, own_moN h5 hb⟩
/-- It stays so where other blocks are written: those ahead of it, or of another type. -/
theorem OwnC.th {w w' : World} {b : Nat} {cs : List Value} {c : Ctl} (h : OwnC w b cs c) {row : Option Nat} (hg : w.grownBy w' row) (hr : ∀ p, row = some p → p < b ∨ ∃ (cur : Array Value) (fz : Nat × Nat), w.heap[p]? = some (.cells cur 50 fz)) : OwnC w' b cs c := by
  obtain ⟨A, a, B, b', C, c', D, d, E, e, h0, h1, h2, h3, h4, h5⟩ := h
  have key : ∀ e' : TypeId, e' ≠ 50 → ∀ p, row = some p → p < b ∨ ∃ (cur : Array Value) (e2 : TypeId) (fz : Nat × Nat), w.heap[p]? = some (.cells cur e2 fz) ∧ e' ≠ e2 := by
    intro e' he p hp
    rcases hr p hp with h | ⟨cur, fz, h⟩
    · exact .inl h
    · exact .inr ⟨cur, _, fz, h, he⟩
  exact ⟨A, a, B, b', C, c', D, d, E, e, h0, own_thN h1 hg (key _ (by decide)), own_thN h2 hg (key _ (by decide)), own_thN h3 hg (key _ (by decide)), own_thN h4 hg (key _ (by decide)), own_thN h5 hg (key _ (by decide))⟩
theorem OwnC.below {w w' : World} {b : Nat} {cs : List Value} {c : Ctl} (h : OwnC w b cs c) (hb : Below w.heap.size w w') : OwnC w' b cs c := h.th (grown_of_below hb none) (fun p hp => by cases hp)
theorem OwnC.one {w : World} {b : Nat} {cs : List Value} {c : Ctl} (h : OwnC w b cs c) : ∀ v ∈ cs, v.oneCell' = true := by
  obtain ⟨A, a, B, b', C, c', D, d, E, e, h0, _⟩ := h
  subst h0
  exact ctlC_one _ _ _ _ _ _ _ _ _ _ _ _ _ _ _ _ _ _ _ _ _ _ _
theorem OwnC.len {w : World} {b : Nat} {cs : List Value} {c : Ctl} (h : OwnC w b cs c) : cs.length = 13 := by
  obtain ⟨A, a, B, b', C, c', D, d, E, e, h0, _⟩ := h
  subst h0; rfl
theorem nilN (w : World) (b : Nat) (e : TypeId) (s : Nat) : w.ownsRow b e s (.slice none 0 0) 0 [] := World.ownsRow_nil w _ _ _

theorem Rdr.cnt {w : World} {g q : Nat} {bs : List UInt8} (h : Rdr w g q bs) : w.cell? ⟨g, 0, none⟩ = some (.int .i64 (q : Int)) := by
  obtain ⟨A, n, c, h1, _⟩ := h
  exact (h1.cell 0).trans rfl
theorem StG.cnt {w0 w : World} {g q : Nat} {e : TypeId} {z : List Value} {bs : List UInt8} (h : StG w0 g q e z bs w) : w.cell? ⟨g, 0, none⟩ = some (.int .i64 (q : Int)) := h.2.1.cnt
theorem StG.drew {w0 w : World} {g q : Nat} {e : TypeId} {z : List Value} {bs : List UInt8} (h : StG w0 g q e z bs w) : StG w0 g q e z bs w.drew :=
  ⟨h.1, h.2.1, ⟨h.2.2.1.os, h.2.2.1.tape, h.2.2.1.output, h.2.2.1.size, h.2.2.1.block⟩, h.2.2.2⟩
theorem StG.cell {w0 w : World} {g q : Nat} {e : TypeId} {z : List Value} {bs : List UInt8} (h : StG w0 g q e z bs w) : BlkV w w0.heap.size e z := h.2.2.2
theorem StG.rdr {w0 w : World} {g q : Nat} {e : TypeId} {z : List Value} {bs : List UInt8} (h : StG w0 g q e z bs w) : Rdr w g q bs := h.2.1
theorem StG.sz {w0 w : World} {g q : Nat} {e : TypeId} {z : List Value} {bs : List UInt8} (h : StG w0 g q e z bs w) : w0.heap.size ≤ w.heap.size := h.2.2.1.size
abbrev zA : Array Value := #[.int .i64 0, .int .u32 0, .int .u32 0, .int .u64 0, .int .u32 0, .int .u32 0, .int .u32 0, .slice none 0 0, .slice none 0 0, .slice none 0 0, .slice none 0 0, .slice none 0 0, .int .u64 0]

set_option maxRecDepth 100000 in
set_option maxHeartbeats 1000000 in
theorem received_any (g q : Nat) (so : Nat) (L : List Rep) (w : World) (hso : so < 4294967296) (hL : ∀ x ∈ L, x.fit ∧ x.ok) (hq : L.length = q) (h16 : q ≤ 16) (h : Rdr w g q (bRR so L)) :
    Calls Tryd.prog 57 #[.pointer (some ⟨g, 0, none⟩)] w fun r w' => ∃ cs, r = .returned (.agg cs.toArray) ∧ OwnC w' w.heap.size cs (mkRR 0 so L) ∧ Rdr w' g q [] ∧ w.grownBy w' (some g) := by
  have hz := zeroCtl
  have S0 := Lib.hid (StG.start h 50 zCtl #[.int .i64 0, .int .u32 0, .int .u32 0, .int .u64 0, .int .u32 0, .int .u32 0, .int .u32 0, .slice none 0 0, .slice none 0 0, .slice none 0 0, .slice none 0 0, .slice none 0 0, .int .u64 0] rfl)
  simp only [bRR] at S0
  rw [← List.append_nil (L.flatMap repB)] at S0
  clear h
  go_enter Tryd.func57, Tryd.ntmps57
  go_wp2
  have SD := Lib.hid S0.out.drew
  have c0 := SD.out.cnt
  refine wp_region_noPanic ?_
  refine wp_region_held (S := fun wz => wz.cell? ⟨g, 0, none⟩ = some (.int .i64 (q : Int))) (by kernel_rfl) ?_
  change wpAnyH _ _ _ _ _ _ _ _ (World.drew _)
  generalize (w.alloc (.cells #[.int .i64 0, .int .u32 0, .int .u32 0, .int .u64 0, .int .u32 0, .int .u32 0, .int .u32 0, .slice none 0 0, .slice none 0 0, .slice none 0 0, .slice none 0 0, .slice none 0 0, .int .u64 0] 50)).drew = w0 at SD c0 ⊢
  refine wpAnyH_take (i := 0) (v := ?_) rfl (by kernel_rfl) (by kernel_rfl) (by kernel_rfl) (fun _ _ _ h => h) (Or.inl ⟨by rfl, ?_⟩) c0 ?_
  case refine_2 => (intro wz hz; go_simp; with_reducible rfl)
  simp only [Act.put, List.getElem_toArray, List.getElem_cons_zero, List.setIfInBounds_toArray, List.set_cons_succ, List.set_cons_zero]
  refine wpAnyH_take (i := 2) (v := ?_) rfl (by kernel_rfl) (by kernel_rfl) (by kernel_rfl) (fun _ _ _ h => h) (Or.inl ⟨by rfl, ?_⟩) c0 ?_
  case refine_2 => (intro wz hz; go_simp; with_reducible rfl)
  simp only [Act.put, List.getElem_toArray, List.getElem_cons_succ, List.getElem_cons_zero, List.setIfInBounds_toArray, List.set_cons_succ, List.set_cons_zero]
  refine wpAnyH_take (i := 3) (v := ?_) rfl (by kernel_rfl) (by kernel_rfl) (by kernel_rfl) (fun _ _ _ h => h) (Or.inl ⟨by rfl, ?_⟩) c0 ?_
  case refine_2 => (intro wz hz; go_simp; with_reducible rfl)
  simp only [Act.put, List.getElem_toArray, List.getElem_cons_succ, List.getElem_cons_zero, List.setIfInBounds_toArray, List.set_cons_succ, List.set_cons_zero]
  refine wpAnyH_take (i := 4) (v := ?_) rfl (by kernel_rfl) (by kernel_rfl) (by kernel_rfl) (fun _ _ _ h => h) (Or.inl ⟨by rfl, ?_⟩) c0 ?_
  case refine_2 => (intro wz hz; go_simp; with_reducible rfl)
  simp only [Act.put, List.getElem_toArray, List.getElem_cons_succ, List.getElem_cons_zero, List.setIfInBounds_toArray, List.set_cons_succ, List.set_cons_zero]
  refine wpAnyH_take (i := 5) (v := ?_) rfl (by kernel_rfl) (by kernel_rfl) (by kernel_rfl) (fun _ _ _ h => h) (Or.inl ⟨by rfl, ?_⟩) c0 ?_
  case refine_2 => (intro wz hz; go_simp; with_reducible rfl)
  simp only [Act.put, List.getElem_toArray, List.getElem_cons_succ, List.getElem_cons_zero, List.setIfInBounds_toArray, List.set_cons_succ, List.set_cons_zero]
  refine wpAnyH_take (i := 6) (v := ?_) rfl (by kernel_rfl) (by kernel_rfl) (by kernel_rfl) (fun _ _ _ h => h) (Or.inl ⟨by rfl, ?_⟩) c0 ?_
  case refine_2 => (intro wz hz; go_simp; with_reducible rfl)
  simp only [Act.put, List.getElem_toArray, List.getElem_cons_succ, List.getElem_cons_zero, List.setIfInBounds_toArray, List.set_cons_succ, List.set_cons_zero]
  refine wpAnyH_take (i := 7) (v := ?_) rfl (by kernel_rfl) (by kernel_rfl) (by kernel_rfl) (fun _ _ _ h => h) (Or.inl ⟨by rfl, ?_⟩) c0 ?_
  case refine_2 => (intro wz hz; go_simp; with_reducible rfl)
  simp only [Act.put, List.getElem_toArray, List.getElem_cons_succ, List.getElem_cons_zero, List.setIfInBounds_toArray, List.set_cons_succ, List.set_cons_zero]
  refine anyH_one (i := 1) (by kernel_rfl) rfl rfl (fun H hH => ?_)
  simp only [List.getElem_toArray, List.getElem_cons_succ, List.getElem_cons_zero]
  go_simp
  refine (wordS hso SD.out).mono ?_
  rintro e w1 ⟨rfl, hs⟩
  have S1 := Lib.hid hs
  clear hs
  have c1 := S1.out.cnt
  refine hH _ _ c1 ?_
  clear hH H
  refine anyH_one (i := 8) (by kernel_rfl) rfl rfl (fun H hH => ?_)
  simp only [List.getElem_toArray, List.getElem_cons_succ, List.getElem_cons_zero]
  go_simp
  refine (rep_list g q q L [] w1 hq h16 hL S1.out.rdr).mono ?_
  rintro e w2 ⟨AL, cL, rfl, hown, hr, hg⟩
  have S2 := Lib.hid (S1.out.grow hr hg)
  have HO := Lib.hid (own_moN hown S1.out.sz)
  clear hown hr hg
  have c2 := S2.out.cnt
  refine hH _ _ c2 ?_
  clear hH H
  refine wpAnyH_take (i := 9) (v := ?_) rfl (by kernel_rfl) (by kernel_rfl) (by kernel_rfl) (fun _ _ _ h => h) (Or.inl ⟨by rfl, ?_⟩) c2 ?_
  case refine_2 => (intro wz hz; go_simp; with_reducible rfl)
  simp only [Act.put, List.getElem_toArray, List.getElem_cons_succ, List.getElem_cons_zero, List.setIfInBounds_toArray, List.set_cons_succ, List.set_cons_zero]
  refine anyH_one (i := 10) (by kernel_rfl) rfl rfl (fun H hH => ?_)
  simp only [List.getElem_toArray, List.getElem_cons_succ, List.getElem_cons_zero]
  refine wp_st 50 (.tmp 2) (.tmp 12) rfl w.heap.size 0 (ctlC 0 so 0 0 0 0 0 (.slice AL q cL) (.slice none 0 0) (.slice none 0 0) (.slice none 0 0) (.slice none 0 0) 0) (by rfl) (by with_unfolding_all rfl) 50 zCtl S2.out.cell (Nat.le_refl 13) (rowCtl rfl) (ctlC_one _ _ _ _ _ _ _ _ _ _ _ _ _ _ _ _ _ _ _ _ _ _ _) ?_
  intro w9 hB9 ho9
  rw [splice_all _ _ (by rfl)] at hB9
  have hov := S2.out.over ho9
  have c9 := hov.1.cnt
  refine hH _ _ c9 ?_
  clear hH H
  refine wpAnyH_done (by kernel_rfl) ?_ _
  refine NoPanic.normal ?_
  go_wp2
  refine ret_row rfl rfl hB9 (rowCtl rfl) rfl ?_
  exact ⟨_, rfl, ⟨AL, cL, none, 0, none, 0, none, 0, none, 0, by rw [show (mkRR 0 so L).reps.length = q from hq]; rfl, by
      show w9.ownsRow _ _ _ (.slice AL L.length cL) L.length _
      rw [hq]
      exact own_thN HO.out ho9.grown (fun p hp => .inr ⟨_, _, _, by injection hp with hp; subst hp; exact S2.out.cell, by decide⟩), nilN _ _ _ _, nilN _ _ _ _, nilN _ _ _ _, nilN _ _ _ _⟩, hov.1, hov.2⟩
set_option maxRecDepth 100000 in
set_option maxHeartbeats 1000000 in
theorem sent_any (g q : Nat) (so ti st pa oc : Nat) (L : List Rep) (w : World) (hso : so < 4294967296) (hti : ti < 18446744073709551616) (hst : st < 4294967296) (hpa : pa < 4294967296) (hoc : oc < 4294967296) (hL : ∀ x ∈ L, x.fit ∧ x.ok) (hq : L.length = q) (h16 : q ≤ 16) (h : Rdr w g q (bSR so ti st pa oc L)) :
    Calls Tryd.prog 56 #[.pointer (some ⟨g, 0, none⟩)] w fun r w' => ∃ cs, r = .returned (.agg cs.toArray) ∧ OwnC w' w.heap.size cs (mkSR 0 so ti st pa oc L) ∧ Rdr w' g q [] ∧ w.grownBy w' (some g) := by
  have hz := zeroCtl
  have S0 := Lib.hid (StG.start h 50 zCtl #[.int .i64 0, .int .u32 0, .int .u32 0, .int .u64 0, .int .u32 0, .int .u32 0, .int .u32 0, .slice none 0 0, .slice none 0 0, .slice none 0 0, .slice none 0 0, .slice none 0 0, .int .u64 0] rfl)
  simp only [bSR] at S0
  rw [← List.append_nil (L.flatMap repB)] at S0
  clear h
  go_enter Tryd.func56, Tryd.ntmps56
  go_wp2
  have SD := Lib.hid S0.out.drew
  have c0 := SD.out.cnt
  refine wp_region_noPanic ?_
  refine wp_region_held (S := fun wz => wz.cell? ⟨g, 0, none⟩ = some (.int .i64 (q : Int))) (by kernel_rfl) ?_
  change wpAnyH _ _ _ _ _ _ _ _ (World.drew _)
  generalize (w.alloc (.cells #[.int .i64 0, .int .u32 0, .int .u32 0, .int .u64 0, .int .u32 0, .int .u32 0, .int .u32 0, .slice none 0 0, .slice none 0 0, .slice none 0 0, .slice none 0 0, .slice none 0 0, .int .u64 0] 50)).drew = w0 at SD c0 ⊢
  refine wpAnyH_take (i := 0) (v := ?_) rfl (by kernel_rfl) (by kernel_rfl) (by kernel_rfl) (fun _ _ _ h => h) (Or.inl ⟨by rfl, ?_⟩) c0 ?_
  case refine_2 => (intro wz hz; go_simp; with_reducible rfl)
  simp only [Act.put, List.getElem_toArray, List.getElem_cons_zero, List.setIfInBounds_toArray, List.set_cons_succ, List.set_cons_zero]
  refine wpAnyH_take (i := 2) (v := ?_) rfl (by kernel_rfl) (by kernel_rfl) (by kernel_rfl) (fun _ _ _ h => h) (Or.inl ⟨by rfl, ?_⟩) c0 ?_
  case refine_2 => (intro wz hz; go_simp; with_reducible rfl)
  simp only [Act.put, List.getElem_toArray, List.getElem_cons_succ, List.getElem_cons_zero, List.setIfInBounds_toArray, List.set_cons_succ, List.set_cons_zero]
  refine wpAnyH_take (i := 4) (v := ?_) rfl (by kernel_rfl) (by kernel_rfl) (by kernel_rfl) (fun _ _ _ h => h) (Or.inl ⟨by rfl, ?_⟩) c0 ?_
  case refine_2 => (intro wz hz; go_simp; with_reducible rfl)
  simp only [Act.put, List.getElem_toArray, List.getElem_cons_succ, List.getElem_cons_zero, List.setIfInBounds_toArray, List.set_cons_succ, List.set_cons_zero]
  refine wpAnyH_take (i := 6) (v := ?_) rfl (by kernel_rfl) (by kernel_rfl) (by kernel_rfl) (fun _ _ _ h => h) (Or.inl ⟨by rfl, ?_⟩) c0 ?_
  case refine_2 => (intro wz hz; go_simp; with_reducible rfl)
  simp only [Act.put, List.getElem_toArray, List.getElem_cons_succ, List.getElem_cons_zero, List.setIfInBounds_toArray, List.set_cons_succ, List.set_cons_zero]
  refine wpAnyH_take (i := 8) (v := ?_) rfl (by kernel_rfl) (by kernel_rfl) (by kernel_rfl) (fun _ _ _ h => h) (Or.inl ⟨by rfl, ?_⟩) c0 ?_
  case refine_2 => (intro wz hz; go_simp; with_reducible rfl)
  simp only [Act.put, List.getElem_toArray, List.getElem_cons_succ, List.getElem_cons_zero, List.setIfInBounds_toArray, List.set_cons_succ, List.set_cons_zero]
  refine wpAnyH_take (i := 10) (v := ?_) rfl (by kernel_rfl) (by kernel_rfl) (by kernel_rfl) (fun _ _ _ h => h) (Or.inl ⟨by rfl, ?_⟩) c0 ?_
  case refine_2 => (intro wz hz; go_simp; with_reducible rfl)
  simp only [Act.put, List.getElem_toArray, List.getElem_cons_succ, List.getElem_cons_zero, List.setIfInBounds_toArray, List.set_cons_succ, List.set_cons_zero]
  refine wpAnyH_take (i := 11) (v := ?_) rfl (by kernel_rfl) (by kernel_rfl) (by kernel_rfl) (fun _ _ _ h => h) (Or.inl ⟨by rfl, ?_⟩) c0 ?_
  case refine_2 => (intro wz hz; go_simp; with_reducible rfl)
  simp only [Act.put, List.getElem_toArray, List.getElem_cons_succ, List.getElem_cons_zero, List.setIfInBounds_toArray, List.set_cons_succ, List.set_cons_zero]
  refine wpAnyH_take (i := 12) (v := ?_) rfl (by kernel_rfl) (by kernel_rfl) (by kernel_rfl) (fun _ _ _ h => h) (Or.inl ⟨by rfl, ?_⟩) c0 ?_
  case refine_2 => (intro wz hz; go_simp; with_reducible rfl)
  simp only [Act.put, List.getElem_toArray, List.getElem_cons_succ, List.getElem_cons_zero, List.setIfInBounds_toArray, List.set_cons_succ, List.set_cons_zero]
  refine wpAnyH_take (i := 13) (v := ?_) rfl (by kernel_rfl) (by kernel_rfl) (by kernel_rfl) (fun _ _ _ h => h) (Or.inl ⟨by rfl, ?_⟩) c0 ?_
  case refine_2 => (intro wz hz; go_simp; with_reducible rfl)
  simp only [Act.put, List.getElem_toArray, List.getElem_cons_succ, List.getElem_cons_zero, List.setIfInBounds_toArray, List.set_cons_succ, List.set_cons_zero]
  refine wpAnyH_take (i := 14) (v := ?_) rfl (by kernel_rfl) (by kernel_rfl) (by kernel_rfl) (fun _ _ _ h => h) (Or.inl ⟨by rfl, ?_⟩) c0 ?_
  case refine_2 => (intro wz hz; go_simp; with_reducible rfl)
  simp only [Act.put, List.getElem_toArray, List.getElem_cons_succ, List.getElem_cons_zero, List.setIfInBounds_toArray, List.set_cons_succ, List.set_cons_zero]
  refine wpAnyH_take (i := 15) (v := ?_) rfl (by kernel_rfl) (by kernel_rfl) (by kernel_rfl) (fun _ _ _ h => h) (Or.inl ⟨by rfl, ?_⟩) c0 ?_
  case refine_2 => (intro wz hz; go_simp; with_reducible rfl)
  simp only [Act.put, List.getElem_toArray, List.getElem_cons_succ, List.getElem_cons_zero, List.setIfInBounds_toArray, List.set_cons_succ, List.set_cons_zero]
  refine anyH_one (i := 1) (by kernel_rfl) rfl rfl (fun H hH => ?_)
  simp only [List.getElem_toArray, List.getElem_cons_succ, List.getElem_cons_zero]
  go_simp
  refine (wordS hso SD.out).mono ?_
  rintro e w1 ⟨rfl, hs⟩
  have S1 := Lib.hid hs
  clear hs
  have c1 := S1.out.cnt
  refine hH _ _ c1 ?_
  clear hH H
  refine anyH_one (i := 3) (by kernel_rfl) rfl rfl (fun H hH => ?_)
  simp only [List.getElem_toArray, List.getElem_cons_succ, List.getElem_cons_zero]
  go_simp
  refine (numberS 8 _ (by omega) (by omega) (by omega) hti S1.out).mono ?_
  rintro e w2 ⟨rfl, hs⟩
  have S2 := Lib.hid hs
  clear hs
  have c2 := S2.out.cnt
  refine hH _ _ c2 ?_
  clear hH H
  refine anyH_one (i := 5) (by kernel_rfl) rfl rfl (fun H hH => ?_)
  simp only [List.getElem_toArray, List.getElem_cons_succ, List.getElem_cons_zero]
  go_simp
  refine (wordS hst S2.out).mono ?_
  rintro e w3 ⟨rfl, hs⟩
  have S3 := Lib.hid hs
  clear hs
  have c3 := S3.out.cnt
  refine hH _ _ c3 ?_
  clear hH H
  refine anyH_one (i := 7) (by kernel_rfl) rfl rfl (fun H hH => ?_)
  simp only [List.getElem_toArray, List.getElem_cons_succ, List.getElem_cons_zero]
  go_simp
  refine (wordS hpa S3.out).mono ?_
  rintro e w4 ⟨rfl, hs⟩
  have S4 := Lib.hid hs
  clear hs
  have c4 := S4.out.cnt
  refine hH _ _ c4 ?_
  clear hH H
  refine anyH_one (i := 9) (by kernel_rfl) rfl rfl (fun H hH => ?_)
  simp only [List.getElem_toArray, List.getElem_cons_succ, List.getElem_cons_zero]
  go_simp
  refine (wordS hoc S4.out).mono ?_
  rintro e w5 ⟨rfl, hs⟩
  have S5 := Lib.hid hs
  clear hs
  have c5 := S5.out.cnt
  refine hH _ _ c5 ?_
  clear hH H
  refine anyH_one (i := 16) (by kernel_rfl) rfl rfl (fun H hH => ?_)
  simp only [List.getElem_toArray, List.getElem_cons_succ, List.getElem_cons_zero]
  go_simp
  refine (rep_list g q q L [] w5 hq h16 hL S5.out.rdr).mono ?_
  rintro e w6 ⟨AL, cL, rfl, hown, hr, hg⟩
  have S6 := Lib.hid (S5.out.grow hr hg)
  have HO := Lib.hid (own_moN hown S5.out.sz)
  clear hown hr hg
  have c6 := S6.out.cnt
  refine hH _ _ c6 ?_
  clear hH H
  refine wpAnyH_take (i := 17) (v := ?_) rfl (by kernel_rfl) (by kernel_rfl) (by kernel_rfl) (fun _ _ _ h => h) (Or.inl ⟨by rfl, ?_⟩) c6 ?_
  case refine_2 => (intro wz hz; go_simp; with_reducible rfl)
  simp only [Act.put, List.getElem_toArray, List.getElem_cons_succ, List.getElem_cons_zero, List.setIfInBounds_toArray, List.set_cons_succ, List.set_cons_zero]
  refine anyH_one (i := 18) (by kernel_rfl) rfl rfl (fun H hH => ?_)
  simp only [List.getElem_toArray, List.getElem_cons_succ, List.getElem_cons_zero]
  refine wp_st 50 (.tmp 2) (.tmp 20) rfl w.heap.size 0 (ctlC 0 so 0 ti st pa oc (.slice AL q cL) (.slice none 0 0) (.slice none 0 0) (.slice none 0 0) (.slice none 0 0) 0) (by rfl) (by with_unfolding_all rfl) 50 zCtl S6.out.cell (Nat.le_refl 13) (rowCtl rfl) (ctlC_one _ _ _ _ _ _ _ _ _ _ _ _ _ _ _ _ _ _ _ _ _ _ _) ?_
  intro w9 hB9 ho9
  rw [splice_all _ _ (by rfl)] at hB9
  have hov := S6.out.over ho9
  have c9 := hov.1.cnt
  refine hH _ _ c9 ?_
  clear hH H
  refine wpAnyH_done (by kernel_rfl) ?_ _
  refine NoPanic.normal ?_
  go_wp2
  refine ret_row rfl rfl hB9 (rowCtl rfl) rfl ?_
  exact ⟨_, rfl, ⟨AL, cL, none, 0, none, 0, none, 0, none, 0, by rw [show (mkSR 0 so ti st pa oc L).reps.length = q from hq]; rfl, by
      show w9.ownsRow _ _ _ (.slice AL L.length cL) L.length _
      rw [hq]
      exact own_thN HO.out ho9.grown (fun p hp => .inr ⟨_, _, _, by injection hp with hp; subst hp; exact S6.out.cell, by decide⟩), nilN _ _ _ _, nilN _ _ _ _, nilN _ _ _ _, nilN _ _ _ _⟩, hov.1, hov.2⟩
end Go.Proofs.YtacaempcbdekaaaDoor
