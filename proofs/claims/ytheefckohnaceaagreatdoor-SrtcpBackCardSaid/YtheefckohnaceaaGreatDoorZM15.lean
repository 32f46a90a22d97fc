/- Several texts in one: plain words and walks. No statement is proved here. -/
import Derived.Test.YtheefckohnaceaaGreatDoorZM14
import Derived.Test.YtheefckohnaceaaGreatDoorZReg
import Derived.Deep.RegionHeld3
import Derived.Test.YtheefckohnaceaaGreatDoorZM11
import Derived.Test.YtheefckohnaceaaGreatDoorZM13
namespace Go.Proofs.YtheefckohnaceaaGreatDoor
open List renaming getElem_toArray → xgT, getElem_cons_succ → xgS, getElem_cons_zero → xgZ, setIfInBounds_toArray → xsT, set_cons_succ → xsS, set_cons_zero → xsZ
open Go.RowKit
set_option linter.unusedVariables false

def ctlC (k : Int) (so me ti st pa oc : Nat) (vR vN vS vL vF : Value) (ra : Nat) : List Value := [.int .i64 k, .int .u32 (so : Int), .int .u32 (me : Int), .int .u64 (ti : Int), .int .u32 (st : Int), .int .u32 (pa : Int), .int .u32 (oc : Int), vR, vN, vS, vL, vF, .int .u64 (ra : Int)]
abbrev zCtl : List Value := [.int .i64 0, .int .u32 0, .int .u32 0, .int .u64 0, .int .u32 0, .int .u32 0, .int .u32 0, .slice none 0 0, .slice none 0 0, .slice none 0 0, .slice none 0 0, .slice none 0 0, .int .u64 0]
theorem ctlC_one (k : Int) (so me ti st pa oc : Nat) (A : Option Addr) (n a : Nat) (B : Option Addr) (m b : Nat) (C : Option Addr) (l c : Nat) (D : Option Addr) (p d : Nat) (E : Option Addr) (q e ra : Nat) : ∀ v ∈ ctlC k so me ti st pa oc (.slice A n a) (.slice B m b) (.slice C l c) (.slice D p d) (.slice E q e) ra, v.oneCell' = true := by
 intro v hv
 simp [ctlC] at hv
 rcases hv with rfl | rfl | rfl | rfl | rfl | rfl | rfl | rfl | rfl | rfl | rfl | rfl | rfl <;> rfl
theorem zeroCtl (w : World) : (zeroValue 58).run Tryz.prog w = .ok (.agg #[.int .i64 0, .int .u32 0, .int .u32 0, .int .u64 0, .int .u32 0, .int .u32 0, .int .u32 0, .slice none 0 0, .slice none 0 0, .slice none 0 0, .slice none 0 0, .slice none 0 0, .int .u64 0]) w := by kernel_rfl
theorem rowCtl {cs : List Value} (h : cs.length = 13) : RowTy Tryz.prog 58 cs.length := by
 rw [h]; exact ⟨_, Tryz.underlying58, rfl, by kernel_rfl⟩
def OwnC (w : World) (b : Nat) (cs : List Value) (c : Ctl) : Prop := ∃ (A : Option Addr) (a : Nat) (B : Option Addr) (b' : Nat) (C : Option Addr) (c' : Nat) (D : Option Addr) (d : Nat) (E : Option Addr) (e : Nat),
 cs = ctlC c.k c.so c.me c.ti c.st c.pa c.oc (.slice A c.reps.length a) (.slice B c.nams.length b') (.slice C c.srcs.length c') (.slice D c.loss.length d) (.slice E c.firs.length e) c.ra ∧
 w.ownsRow b 102 7 (.slice A c.reps.length a) c.reps.length (c.reps.flatMap cRep) ∧
 w.ownsRow b 62 2 (.slice B c.nams.length b') c.nams.length (c.nams.flatMap cNam) ∧
 w.ownsRow b 36 1 (.slice C c.srcs.length c') c.srcs.length (c.srcs.flatMap cSrc) ∧
 w.ownsRow b 104 2 (.slice D c.loss.length d) c.loss.length (c.loss.flatMap cLos) ∧
 w.ownsRow b 106 2 (.slice E c.firs.length e) c.firs.length (c.firs.flatMap cFir)
theorem OwnC.mono {w : World} {b b2 : Nat} {cs : List Value} {c : Ctl} (h : OwnC w b cs c) (hb : b2 ≤ b) : OwnC w b2 cs c := by
 obtain ⟨A, a, B, b', C, c', D, d, E, e, h0, h1, h2, h3, h4, h5⟩ := h
 exact ⟨A, a, B, b', C, c', D, d, E, e, h0, own_moN h1 hb, own_moN h2 hb, own_moN h3 hb, own_moN h4 hb, own_moN h5 hb⟩
theorem OwnC.th {w w' : World} {b : Nat} {cs : List Value} {c : Ctl} (h : OwnC w b cs c) {row : Option Nat} (hg : w.grownBy w' row) (hr : ∀ p, row = some p → p < b ∨ ∃ (cur : Array Value) (fz : Nat × Nat), w.heap[p]? = some (.cells cur 58 fz)) : OwnC w' b cs c := by
 obtain ⟨A, a, B, b', C, c', D, d, E, e, h0, h1, h2, h3, h4, h5⟩ := h
 have key : ∀ e' : TypeId, e' ≠ 58 → ∀ p, row = some p → p < b ∨ ∃ (cur : Array Value) (e2 : TypeId) (fz : Nat × Nat), w.heap[p]? = some (.cells cur e2 fz) ∧ e' ≠ e2 := by
  intro e' he p hp
  rcases hr p hp with h | ⟨cur, fz, h⟩
  · exact .inl h
  · exact .inr ⟨cur, _, fz, h, he⟩
 exact ⟨A, a, B, b', C, c', D, d, E, e, h0, own_thN h1 hg (key _ (by decide)), own_thN h2 hg (key _ (by decide)), own_thN h3 hg (key _ (by decide)), own_thN h4 hg (key _ (by decide)), own_thN h5 hg (key _ (by decide))⟩
theorem OwnC.below {w w' : World} {b : Nat} {cs : List Value} {c : Ctl} (h : OwnC w b cs c) (hb : Below w.heap.size w w') : OwnC w' b cs c := h.th (grown_of_below hb none) (fun p hp => by cases hp)
theorem OwnC.one {w : World} {b : Nat} {cs : List Value} {c : Ctl} (h : OwnC w b cs c) : ∀ v ∈ cs, v.oneCell' = true := by
 obtain ⟨A, a, B, b', C, c', D, d, E, e, h0, _⟩ := h
 subst h0
 exact ctlC_one _ _ _ _ _ _ _ _ _ _ _ _ _ _ _ _ _ _ _ _ _ _ _
theorem OwnC.len {w : World} {b : Nat} {cs : List Value} {c : Ctl} (h : OwnC w b cs c) : cs.length = 13 := by
 obtain ⟨A, a, B, b', C, c', D, d, E, e, h0, _⟩ := h
 subst h0; rfl
theorem nilN (w : World) (b : Nat) (e : TypeId) (s : Nat) : w.ownsRow b e s (.slice none 0 0) 0 [] := World.ownsRow_nil w _ _ _

theorem Rdr.cnt {w : World} {g q : Nat} {bs : List UInt8} (h : Rdr w g q bs) : w.cell? ⟨g, 0, none⟩ = some (.int .i64 (q : Int)) := by
 obtain ⟨A, n, c, h1, _⟩ := h
 exact (h1.cell 0).trans rfl
theorem StG.cnt {w0 w : World} {g q : Nat} {e : TypeId} {z : List Value} {bs : List UInt8} (h : StG w0 g q e z bs w) : w.cell? ⟨g, 0, none⟩ = some (.int .i64 (q : Int)) := h.2.1.cnt
theorem StG.drew {w0 w : World} {g q : Nat} {e : TypeId} {z : List Value} {bs : List UInt8} (h : StG w0 g q e z bs w) : StG w0 g q e z bs w.drew :=
 ⟨h.1, h.2.1, ⟨h.2.2.1.os, h.2.2.1.tape, h.2.2.1.output, h.2.2.1.size, h.2.2.1.block⟩, h.2.2.2⟩
theorem StG.cell {w0 w : World} {g q : Nat} {e : TypeId} {z : List Value} {bs : List UInt8} (h : StG w0 g q e z bs w) : BlkV w w0.heap.size e z := h.2.2.2
theorem StG.rdr {w0 w : World} {g q : Nat} {e : TypeId} {z : List Value} {bs : List UInt8} (h : StG w0 g q e z bs w) : Rdr w g q bs := h.2.1
theorem StG.sz {w0 w : World} {g q : Nat} {e : TypeId} {z : List Value} {bs : List UInt8} (h : StG w0 g q e z bs w) : w0.heap.size ≤ w.heap.size := h.2.2.1.size
abbrev zA : Array Value := #[.int .i64 0, .int .u32 0, .int .u32 0, .int .u64 0, .int .u32 0, .int .u32 0, .int .u32 0, .slice none 0 0, .slice none 0 0, .slice none 0 0, .slice none 0 0, .slice none 0 0, .int .u64 0]

set_option maxRecDepth 100000 in
set_option maxHeartbeats 1000000 in
theorem received_any (g q : Nat) (so : Nat) (L : List Rep) (w : World) (hso : so < 4294967296) (hL : ∀ x ∈ L, x.fit ∧ x.ok) (hq : L.length = q) (h16 : q ≤ 16) (h : Rdr w g q (bRR so L)) :
 Calls Tryz.prog 99 #[.pointer (some ⟨g, 0, none⟩)] w fun r w' => ∃ cs, r = .returned (.agg cs.toArray) ∧ OwnC w' w.heap.size cs (mkRR 0 so L) ∧ Rdr w' g q [] ∧ w.grownBy w' (some g) := by
 have hz := zeroCtl
 have S0 := Lib.hid (StG.start h 58 zCtl #[.int .i64 0, .int .u32 0, .int .u32 0, .int .u64 0, .int .u32 0, .int .u32 0, .int .u32 0, .slice none 0 0, .slice none 0 0, .slice none 0 0, .slice none 0 0, .slice none 0 0, .int .u64 0] rfl)
 simp only [bRR] at S0
 rw [← List.append_nil (L.flatMap repB)] at S0
 clear h
 go_enter Tryz.func99, Tryz.ntmps99
 go_wp2
 have SD := Lib.hid S0.out.drew
 have c0 := SD.out.cnt
 refine wp_region_noPanic ?_
 refine wp_region_held (S := fun wz => wz.cell? ⟨g, 0, none⟩ = some (.int .i64 (q : Int))) (by kernel_rfl) ?_
 change wpAnyH _ _ _ _ _ _ _ _ (World.drew _)
 generalize (w.alloc (.cells #[.int .i64 0, .int .u32 0, .int .u32 0, .int .u64 0, .int .u32 0, .int .u32 0, .int .u32 0, .slice none 0 0, .slice none 0 0, .slice none 0 0, .slice none 0 0, .slice none 0 0, .int .u64 0] 58)).drew = w0 at SD c0 ⊢
 refine wpAnyH_take (i := 0) (v := ?_) rfl (by kernel_rfl) (by kernel_rfl) (by kernel_rfl) (fun _ _ _ h => h) (Or.inl ⟨by rfl, ?_⟩) c0 ?_
 case refine_2 => (intro wz hz; go_simp; with_reducible rfl)
 simp only [Act.put, xgT, xgZ, xsT, xsS, xsZ]
 refine wpAnyH_take (i := 2) (v := ?_) rfl (by kernel_rfl) (by kernel_rfl) (by kernel_rfl) (fun _ _ _ h => h) (Or.inl ⟨by rfl, ?_⟩) c0 ?_
 case refine_2 => (intro wz hz; go_simp; with_reducible rfl)
 simp only [Act.put, xgT, xgS, xgZ, xsT, xsS, xsZ]
 refine wpAnyH_take (i := 3) (v := ?_) rfl (by kernel_rfl) (by kernel_rfl) (by kernel_rfl) (fun _ _ _ h => h) (Or.inl ⟨by rfl, ?_⟩) c0 ?_
 case refine_2 => (intro wz hz; go_simp; with_reducible rfl)
 simp only [Act.put, xgT, xgS, xgZ, xsT, xsS, xsZ]
 refine wpAnyH_take (i := 4) (v := ?_) rfl (by kernel_rfl) (by kernel_rfl) (by kernel_rfl) (fun _ _ _ h => h) (Or.inl ⟨by rfl, ?_⟩) c0 ?_
 case refine_2 => (intro wz hz; go_simp; with_reducible rfl)
 simp only [Act.put, xgT, xgS, xgZ, xsT, xsS, xsZ]
 refine wpAnyH_take (i := 5) (v := ?_) rfl (by kernel_rfl) (by kernel_rfl) (by kernel_rfl) (fun _ _ _ h => h) (Or.inl ⟨by rfl, ?_⟩) c0 ?_
 case refine_2 => (intro wz hz; go_simp; with_reducible rfl)
 simp only [Act.put, xgT, xgS, xgZ, xsT, xsS, xsZ]
 refine wpAnyH_take (i := 6) (v := ?_) rfl (by kernel_rfl) (by kernel_rfl) (by kernel_rfl) (fun _ _ _ h => h) (Or.inl ⟨by rfl, ?_⟩) c0 ?_
 case refine_2 => (intro wz hz; go_simp; with_reducible rfl)
 simp only [Act.put, xgT, xgS, xgZ, xsT, xsS, xsZ]
 refine wpAnyH_take (i := 7) (v := ?_) rfl (by kernel_rfl) (by kernel_rfl) (by kernel_rfl) (fun _ _ _ h => h) (Or.inl ⟨by rfl, ?_⟩) c0 ?_
 case refine_2 => (intro wz hz; go_simp; with_reducible rfl)
 simp only [Act.put, xgT, xgS, xgZ, xsT, xsS, xsZ]
 refine anyH_one (i := 1) (by kernel_rfl) rfl rfl (fun H hH => ?_)
 simp only [xgT, xgS, xgZ]
 go_simp
 refine (wordS hso SD.out).mono ?_
 rintro e w1 ⟨rfl, hs⟩
 have S1 := Lib.hid hs
 clear hs
 have c1 := S1.out.cnt
 refine hH _ _ c1 ?_
 clear hH H
 refine anyH_one (i := 8) (by kernel_rfl) rfl rfl (fun H hH => ?_)
 simp only [xgT, xgS, xgZ]
 go_simp
 refine (rep_list g q q L [] w1 hq h16 hL S1.out.rdr).mono ?_
 rintro e w2 ⟨AL, cL, rfl, hown, hr, hg⟩
 have S2 := Lib.hid (S1.out.grow hr hg)
 have HO := Lib.hid (own_moN hown S1.out.sz)
 clear hown hr hg
 have c2 := S2.out.cnt
 refine hH _ _ c2 ?_
 clear hH H
 refine wpAnyH_take (i := 9) (v := ?_) rfl (by kernel_rfl) (by kernel_rfl) (by kernel_rfl) (fun _ _ _ h => h) (Or.inl ⟨by rfl, ?_⟩) c2 ?_
 case refine_2 => (intro wz hz; go_simp; with_reducible rfl)
 simp only [Act.put, xgT, xgS, xgZ, xsT, xsS, xsZ]
 refine anyH_one (i := 10) (by kernel_rfl) rfl rfl (fun H hH => ?_)
 simp only [xgT, xgS, xgZ]
 refine wp_st 58 (.tmp 2) (.tmp 12) rfl w.heap.size 0 (ctlC 0 so 0 0 0 0 0 (.slice AL q cL) (.slice none 0 0) (.slice none 0 0) (.slice none 0 0) (.slice none 0 0) 0) (by rfl) (by with_unfolding_all rfl) 58 zCtl S2.out.cell (Nat.le_refl 13) (rowCtl rfl) (ctlC_one _ _ _ _ _ _ _ _ _ _ _ _ _ _ _ _ _ _ _ _ _ _ _) ?_
 intro w9 hB9 ho9
 rw [splice_all _ _ (by rfl)] at hB9
 have hov := S2.out.over ho9
 have c9 := hov.1.cnt
 refine hH _ _ c9 ?_
 clear hH H
 refine wpAnyH_done (by kernel_rfl) ?_ _
 refine NoPanic.normal ?_
 go_wp2
 refine ret_row rfl rfl hB9 (rowCtl rfl) rfl ?_
 exact ⟨_, rfl, ⟨AL, cL, none, 0, none, 0, none, 0, none, 0, by rw [show (mkRR 0 so L).reps.length = q from hq]; rfl, by
  show w9.ownsRow _ _ _ (.slice AL L.length cL) L.length _
  rw [hq]
  exact own_thN HO.out ho9.grown (fun p hp => .inr ⟨_, _, _, by injection hp with hp; subst hp; exact S2.out.cell, by decide⟩), nilN _ _ _ _, nilN _ _ _ _, nilN _ _ _ _, nilN _ _ _ _⟩, hov.1, hov.2⟩
set_option maxRecDepth 100000 in
set_option maxHeartbeats 1000000 in
theorem sent_any (g q : Nat) (so ti st pa oc : Nat) (L : List Rep) (w : World) (hso : so < 4294967296) (hti : ti < 18446744073709551616) (hst : st < 4294967296) (hpa : pa < 4294967296) (hoc : oc < 4294967296) (hL : ∀ x ∈ L, x.fit ∧ x.ok) (hq : L.length = q) (h16 : q ≤ 16) (h : Rdr w g q (bSR so ti st pa oc L)) :
 Calls Tryz.prog 98 #[.pointer (some ⟨g, 0, none⟩)] w fun r w' => ∃ cs, r = .returned (.agg cs.toArray) ∧ OwnC w' w.heap.size cs (mkSR 0 so ti st pa oc L) ∧ Rdr w' g q [] ∧ w.grownBy w' (some g) := by
 have hz := zeroCtl
 have S0 := Lib.hid (StG.start h 58 zCtl #[.int .i64 0, .int .u32 0, .int .u32 0, .int .u64 0, .int .u32 0, .int .u32 0, .int .u32 0, .slice none 0 0, .slice none 0 0, .slice none 0 0, .slice none 0 0, .slice none 0 0, .int .u64 0] rfl)
 simp only [bSR] at S0
 rw [← List.append_nil (L.flatMap repB)] at S0
 clear h
 go_enter Tryz.func98, Tryz.ntmps98
 go_wp2
 have SD := Lib.hid S0.out.drew
 have c0 := SD.out.cnt
 refine wp_region_noPanic ?_
 refine wp_region_held (S := fun wz => wz.cell? ⟨g, 0, none⟩ = some (.int .i64 (q : Int))) (by kernel_rfl) ?_
 change wpAnyH _ _ _ _ _ _ _ _ (World.drew _)
 generalize (w.alloc (.cells #[.int .i64 0, .int .u32 0, .int .u32 0, .int .u64 0, .int .u32 0, .int .u32 0, .int .u32 0, .slice none 0 0, .slice none 0 0, .slice none 0 0, .slice none 0 0, .slice none 0 0, .int .u64 0] 58)).drew = w0 at SD c0 ⊢
 refine wpAnyH_take (i := 0) (v := ?_) rfl (by kernel_rfl) (by kernel_rfl) (by kernel_rfl) (fun _ _ _ h => h) (Or.inl ⟨by rfl, ?_⟩) c0 ?_
 case refine_2 => (intro wz hz; go_simp; with_reducible rfl)
 simp only [Act.put, xgT, xgZ, xsT, xsS, xsZ]
 refine wpAnyH_take (i := 2) (v := ?_) rfl (by kernel_rfl) (by kernel_rfl) (by kernel_rfl) (fun _ _ _ h => h) (Or.inl ⟨by rfl, ?_⟩) c0 ?_
 case refine_2 => (intro wz hz; go_simp; with_reducible rfl)
 simp only [Act.put, xgT, xgS, xgZ, xsT, xsS, xsZ]
 refine wpAnyH_take (i := 4) (v := ?_) rfl (by kernel_rfl) (by kernel_rfl) (by kernel_rfl) (fun _ _ _ h => h) (Or.inl ⟨by rfl, ?_⟩) c0 ?_
 case refine_2 => (intro wz hz; go_simp; with_reducible rfl)
 simp only [Act.put, xgT, xgS, xgZ, xsT, xsS, xsZ]
 refine wpAnyH_take (i := 6) (v := ?_) rfl (by kernel_rfl) (by kernel_rfl) (by kernel_rfl) (fun _ _ _ h => h) (Or.inl ⟨by rfl, ?_⟩) c0 ?_
 case refine_2 => (intro wz hz; go_simp; with_reducible rfl)
 simp only [Act.put, xgT, xgS, xgZ, xsT, xsS, xsZ]
 refine wpAnyH_take (i := 8) (v := ?_) rfl (by kernel_rfl) (by kernel_rfl) (by kernel_rfl) (fun _ _ _ h => h) (Or.inl ⟨by rfl, ?_⟩) c0 ?_
 case refine_2 => (intro wz hz; go_simp; with_reducible rfl)
 simp only [Act.put, xgT, xgS, xgZ, xsT, xsS, xsZ]
 refine wpAnyH_take (i := 10) (v := ?_) rfl (by kernel_rfl) (by kernel_rfl) (by kernel_rfl) (fun _ _ _ h => h) (Or.inl ⟨by rfl, ?_⟩) c0 ?_
 case refine_2 => (intro wz hz; go_simp; with_reducible rfl)
 simp only [Act.put, xgT, xgS, xgZ, xsT, xsS, xsZ]
 refine wpAnyH_take (i := 11) (v := ?_) rfl (by kernel_rfl) (by kernel_rfl) (by kernel_rfl) (fun _ _ _ h => h) (Or.inl ⟨by rfl, ?_⟩) c0 ?_
 case refine_2 => (intro wz hz; go_simp; with_reducible rfl)
 simp only [Act.put, xgT, xgS, xgZ, xsT, xsS, xsZ]
 refine wpAnyH_take (i := 12) (v := ?_) rfl (by kernel_rfl) (by kernel_rfl) (by kernel_rfl) (fun _ _ _ h => h) (Or.inl ⟨by rfl, ?_⟩) c0 ?_
 case refine_2 => (intro wz hz; go_simp; with_reducible rfl)
 simp only [Act.put, xgT, xgS, xgZ, xsT, xsS, xsZ]
 refine wpAnyH_take (i := 13) (v := ?_) rfl (by kernel_rfl) (by kernel_rfl) (by kernel_rfl) (fun _ _ _ h => h) (Or.inl ⟨by rfl, ?_⟩) c0 ?_
 case refine_2 => (intro wz hz; go_simp; with_reducible rfl)
 simp only [Act.put, xgT, xgS, xgZ, xsT, xsS, xsZ]
 refine wpAnyH_take (i := 14) (v := ?_) rfl (by kernel_rfl) (by kernel_rfl) (by kernel_rfl) (fun _ _ _ h => h) (Or.inl ⟨by rfl, ?_⟩) c0 ?_
 case refine_2 => (intro wz hz; go_simp; with_reducible rfl)
 simp only [Act.put, xgT, xgS, xgZ, xsT, xsS, xsZ]
 refine wpAnyH_take (i := 15) (v := ?_) rfl (by kernel_rfl) (by kernel_rfl) (by kernel_rfl) (fun _ _ _ h => h) (Or.inl ⟨by rfl, ?_⟩) c0 ?_
 case refine_2 => (intro wz hz; go_simp; with_reducible rfl)
 simp only [Act.put, xgT, xgS, xgZ, xsT, xsS, xsZ]
 refine anyH_one (i := 1) (by kernel_rfl) rfl rfl (fun H hH => ?_)
 simp only [xgT, xgS, xgZ]
 go_simp
 refine (wordS hso SD.out).mono ?_
 rintro e w1 ⟨rfl, hs⟩
 have S1 := Lib.hid hs
 clear hs
 have c1 := S1.out.cnt
 refine hH _ _ c1 ?_
 clear hH H
 refine anyH_one (i := 3) (by kernel_rfl) rfl rfl (fun H hH => ?_)
 simp only [xgT, xgS, xgZ]
 go_simp
 refine (numberS 8 _ (by omega) (by omega) (by omega) hti S1.out).mono ?_
 rintro e w2 ⟨rfl, hs⟩
 have S2 := Lib.hid hs
 clear hs
 have c2 := S2.out.cnt
 refine hH _ _ c2 ?_
 clear hH H
 refine anyH_one (i := 5) (by kernel_rfl) rfl rfl (fun H hH => ?_)
 simp only [xgT, xgS, xgZ]
 go_simp
 refine (wordS hst S2.out).mono ?_
 rintro e w3 ⟨rfl, hs⟩
 have S3 := Lib.hid hs
 clear hs
 have c3 := S3.out.cnt
 refine hH _ _ c3 ?_
 clear hH H
 refine anyH_one (i := 7) (by kernel_rfl) rfl rfl (fun H hH => ?_)
 simp only [xgT, xgS, xgZ]
 go_simp
 refine (wordS hpa S3.out).mono ?_
 rintro e w4 ⟨rfl, hs⟩
 have S4 := Lib.hid hs
 clear hs
 have c4 := S4.out.cnt
 refine hH _ _ c4 ?_
 clear hH H
 refine anyH_one (i := 9) (by kernel_rfl) rfl rfl (fun H hH => ?_)
 simp only [xgT, xgS, xgZ]
 go_simp
 refine (wordS hoc S4.out).mono ?_
 rintro e w5 ⟨rfl, hs⟩
 have S5 := Lib.hid hs
 clear hs
 have c5 := S5.out.cnt
 refine hH _ _ c5 ?_
 clear hH H
 refine anyH_one (i := 16) (by kernel_rfl) rfl rfl (fun H hH => ?_)
 simp only [xgT, xgS, xgZ]
 go_simp
 refine (rep_list g q q L [] w5 hq h16 hL S5.out.rdr).mono ?_
 rintro e w6 ⟨AL, cL, rfl, hown, hr, hg⟩
 have S6 := Lib.hid (S5.out.grow hr hg)
 have HO := Lib.hid (own_moN hown S5.out.sz)
 clear hown hr hg
 have c6 := S6.out.cnt
 refine hH _ _ c6 ?_
 clear hH H
 refine wpAnyH_take (i := 17) (v := ?_) rfl (by kernel_rfl) (by kernel_rfl) (by kernel_rfl) (fun _ _ _ h => h) (Or.inl ⟨by rfl, ?_⟩) c6 ?_
 case refine_2 => (intro wz hz; go_simp; with_reducible rfl)
 simp only [Act.put, xgT, xgS, xgZ, xsT, xsS, xsZ]
 refine anyH_one (i := 18) (by kernel_rfl) rfl rfl (fun H hH => ?_)
 simp only [xgT, xgS, xgZ]
 refine wp_st 58 (.tmp 2) (.tmp 20) rfl w.heap.size 0 (ctlC 0 so 0 ti st pa oc (.slice AL q cL) (.slice none 0 0) (.slice none 0 0) (.slice none 0 0) (.slice none 0 0) 0) (by rfl) (by with_unfolding_all rfl) 58 zCtl S6.out.cell (Nat.le_refl 13) (rowCtl rfl) (ctlC_one _ _ _ _ _ _ _ _ _ _ _ _ _ _ _ _ _ _ _ _ _ _ _) ?_
 intro w9 hB9 ho9
 rw [splice_all _ _ (by rfl)] at hB9
 have hov := S6.out.over ho9
 have c9 := hov.1.cnt
 refine hH _ _ c9 ?_
 clear hH H
 refine wpAnyH_done (by kernel_rfl) ?_ _
 refine NoPanic.normal ?_
 go_wp2
 refine ret_row rfl rfl hB9 (rowCtl rfl) rfl ?_
 exact ⟨_, rfl, ⟨AL, cL, none, 0, none, 0, none, 0, none, 0, by rw [show (mkSR 0 so ti st pa oc L).reps.length = q from hq]; rfl, by
  show w9.ownsRow _ _ _ (.slice AL L.length cL) L.length _
  rw [hq]
  exact own_thN HO.out ho9.grown (fun p hp => .inr ⟨_, _, _, by injection hp with hp; subst hp; exact S6.out.cell, by decide⟩), nilN _ _ _ _, nilN _ _ _ _, nilN _ _ _ _, nilN _ _ _ _⟩, hov.1, hov.2⟩
def tabC : List Value := [.int .i64 1, .int .i64 205, .int .i64 1, .int .i64 2, .int .i64 206, .int .i64 1, .int .i64 3, .int .i64 206, .int .i64 4, .int .i64 4, .int .i64 206, .int .i64 15]
def Tab (w : World) : Prop := w.rangeAt 0 0 tabC
theorem Tab.below {w w' : World} {B : Nat} (h : Tab w) (hb : Below B w w') (h0 : 0 < B) : Tab w' := fun j v hv => (hb.cell (p := ⟨_, _, none⟩) h0).trans (h j v hv)
theorem rowTab : RowTy Tryz.prog 135 tabC.length := ⟨_, Tryz.underlying135, rfl, by kernel_rfl⟩
theorem zeroFb (w : World) : (zeroValue 134).run Tryz.prog w = .ok (.agg #[.int .i64 0, .int .i64 0, .int .i64 0]) w := by kernel_rfl
theorem idxFb0 (w : World) : (Instr.index 135 (.agg #[.int .i64 1, .int .i64 205, .int .i64 1, .int .i64 2, .int .i64 206, .int .i64 1, .int .i64 3, .int .i64 206, .int .i64 4, .int .i64 4, .int .i64 206, .int .i64 15]) (.int .i64 0)).run Tryz.prog w = .ok (.agg #[.int .i64 1, .int .i64 205, .int .i64 1]) w := by kernel_rfl
theorem idxFb1 (w : World) : (Instr.index 135 (.agg #[.int .i64 1, .int .i64 205, .int .i64 1, .int .i64 2, .int .i64 206, .int .i64 1, .int .i64 3, .int .i64 206, .int .i64 4, .int .i64 4, .int .i64 206, .int .i64 15]) (.int .i64 1)).run Tryz.prog w = .ok (.agg #[.int .i64 2, .int .i64 206, .int .i64 1]) w := by kernel_rfl
theorem idxFb2 (w : World) : (Instr.index 135 (.agg #[.int .i64 1, .int .i64 205, .int .i64 1, .int .i64 2, .int .i64 206, .int .i64 1, .int .i64 3, .int .i64 206, .int .i64 4, .int .i64 4, .int .i64 206, .int .i64 15]) (.int .i64 2)).run Tryz.prog w = .ok (.agg #[.int .i64 3, .int .i64 206, .int .i64 4]) w := by kernel_rfl
theorem idxFb3 (w : World) : (Instr.index 135 (.agg #[.int .i64 1, .int .i64 205, .int .i64 1, .int .i64 2, .int .i64 206, .int .i64 1, .int .i64 3, .int .i64 206, .int .i64 4, .int .i64 4, .int .i64 206, .int .i64 15]) (.int .i64 3)).run Tryz.prog w = .ok (.agg #[.int .i64 4, .int .i64 206, .int .i64 15]) w := by kernel_rfl
def fbAt : Nat → Nat × Nat × Nat
 | 0 => (1, 205, 1)
 | 1 => (2, 206, 1)
 | 2 => (3, 206, 4)
 | _ => (4, 206, 15)
def kindN (s q : Nat) : Nat := if s = 205 ∧ q = 1 then 1 else if s = 206 ∧ q = 1 then 2 else if s = 206 ∧ q = 4 then 3 else if s = 206 ∧ q = 15 then 4 else if s < 200 ∨ 203 < s then 0 else s
def noneFb (s q k : Nat) : Prop := ∀ j, j < k → ¬ (s = (fbAt j).2.1 ∧ q = (fbAt j).2.2)
theorem kind_hit (s q k : Nat) (hk : k < 4) (h : noneFb s q k) (h1 : s = (fbAt k).2.1) (h2 : q = (fbAt k).2.2) : kindN s q = (fbAt k).1 := by
 subst h1; subst h2
 match k, hk with
 | 0, _ => rfl
 | 1, _ => rfl
 | 2, _ => rfl
 | 3, _ => rfl
theorem kind_miss (s q : Nat) (h : noneFb s q 4) : kindN s q = if s < 200 ∨ 203 < s then 0 else s := by
 have h0 := h 0 (by omega)
 have h1 := h 1 (by omega)
 have h2 := h 2 (by omega)
 have h3 := h 3 (by omega)
 simp only [fbAt] at h0 h1 h2 h3
 unfold kindN
 rw [if_neg h0, if_neg h1, if_neg h2, if_neg h3]

set_option maxRecDepth 100000 in
set_option maxHeartbeats 1000000 in
theorem kindOf_any (s q : Nat) (sI qI : Int) (hsI : sI = s) (hqI : qI = q) (w : World) (ht : Tab w) (hw : 0 < w.heap.size) (hs : s < 256) (hq : q < 32) :
 Calls Tryz.prog 84 #[.int .i64 sI, .int .i64 qI] w fun e w' => e = .returned (.int .i64 (kindN s q : Int)) ∧ Below w.heap.size w w' := by
 have hz := zeroFb
 have HSI := Lib.hid hsI
 have HQI := Lib.hid hqI
 clear hsI hqI
 have HT : Hid (w.rangeAt 0 0 tabC) := Lib.hid ht
 clear ht
 go_enter Tryz.func84, Tryz.ntmps84
 go_wp2_with (with_reducible refine wpList_ld rfl 135 (.global 0) rfl 0 0 rfl tabC HT.out rowTab ?_)
 unfold tabC
 go_loopw [8] (fun i wx => ∃ (k : Nat) (z : Int), k ≤ 4 ∧ z = k ∧ i = .int .i64 z ∧ Hid (noneFb s q k) ∧ Hid (Below w.heap.size w wx)) (fun i _ => 4 - (intOf i).toNat)
 case atStart => exact ⟨0, 0, by omega, rfl, rfl, Lib.hid (fun j hj => absurd hj (by omega)), Lib.hid (Below.refl _ _)⟩
 case round =>
  obtain ⟨k, z, hk, hzk, rfl, HN, HB⟩ := hrel
  have hsz := HB.out.size
  by_cases hk4 : k < 4
  · match k, hk4 with
    | 0, _ =>
      obtain rfl : z = 0 := by omega
      by_cases h1 : s = 205
      · by_cases h2 : q = 1
        · have HR : Hid (kindN s q = 1) := Lib.hid (kind_hit s q 0 (by omega) HN.out h1 h2)
          obtain rfl : sI = 205 := by have := HSI.out; omega
          obtain rfl : qI = 1 := by have := HQI.out; omega
          clear hzk h1 h2 hs hq
          have hix := idxFb0
          go_wp2
          go_ret
          exact ⟨by rw [HR.out]; rfl, HB.out.alloc HB.out.size _⟩
        · have HN2 : Hid (noneFb s q 1) := Lib.hid (fun j hj => by
           rcases Nat.lt_or_ge j 0 with h3 | h3
           · exact HN.out j h3
           · obtain rfl : j = 0 := by omega
             exact fun h => h2 h.2)
          obtain rfl : sI = 205 := by have := HSI.out; omega
          have g2 : ¬ qI = 1 := by have := HQI.out; omega
          clear hzk h1 h2 hs hq
          have hix := idxFb0
          go_wp2
          go_roundw
          case rel => exact ⟨1, 1, by omega, rfl, by go_num, HN2, Lib.hid (HB.out.alloc HB.out.size _)⟩
          case measure => simp [intOf]
      · have HN2 : Hid (noneFb s q 1) := Lib.hid (fun j hj => by
         rcases Nat.lt_or_ge j 0 with h3 | h3
         · exact HN.out j h3
         · obtain rfl : j = 0 := by omega
           exact fun h => h1 h.1)
        have g1 : ¬ sI = 205 := by have := HSI.out; omega
        clear hzk h1 hs hq
        have hix := idxFb0
        go_wp2
        go_roundw
        case rel => exact ⟨1, 1, by omega, rfl, by go_num, HN2, Lib.hid (HB.out.alloc HB.out.size _)⟩
        case measure => simp [intOf]
    | 1, _ =>
      obtain rfl : z = 1 := by omega
      by_cases h1 : s = 206
      · by_cases h2 : q = 1
        · have HR : Hid (kindN s q = 2) := Lib.hid (kind_hit s q 1 (by omega) HN.out h1 h2)
          obtain rfl : sI = 206 := by have := HSI.out; omega
          obtain rfl : qI = 1 := by have := HQI.out; omega
          clear hzk h1 h2 hs hq
          have hix := idxFb1
          go_wp2
          go_ret
          exact ⟨by rw [HR.out]; rfl, HB.out.alloc HB.out.size _⟩
        · have HN2 : Hid (noneFb s q 2) := Lib.hid (fun j hj => by
           rcases Nat.lt_or_ge j 1 with h3 | h3
           · exact HN.out j h3
           · obtain rfl : j = 1 := by omega
             exact fun h => h2 h.2)
          obtain rfl : sI = 206 := by have := HSI.out; omega
          have g2 : ¬ qI = 1 := by have := HQI.out; omega
          clear hzk h1 h2 hs hq
          have hix := idxFb1
          go_wp2
          go_roundw
          case rel => exact ⟨2, 2, by omega, rfl, by go_num, HN2, Lib.hid (HB.out.alloc HB.out.size _)⟩
          case measure => simp [intOf]
      · have HN2 : Hid (noneFb s q 2) := Lib.hid (fun j hj => by
         rcases Nat.lt_or_ge j 1 with h3 | h3
         · exact HN.out j h3
         · obtain rfl : j = 1 := by omega
           exact fun h => h1 h.1)
        have g1 : ¬ sI = 206 := by have := HSI.out; omega
        clear hzk h1 hs hq
        have hix := idxFb1
        go_wp2
        go_roundw
        case rel => exact ⟨2, 2, by omega, rfl, by go_num, HN2, Lib.hid (HB.out.alloc HB.out.size _)⟩
        case measure => simp [intOf]
    | 2, _ =>
      obtain rfl : z = 2 := by omega
      by_cases h1 : s = 206
      · by_cases h2 : q = 4
        · have HR : Hid (kindN s q = 3) := Lib.hid (kind_hit s q 2 (by omega) HN.out h1 h2)
          obtain rfl : sI = 206 := by have := HSI.out; omega
          obtain rfl : qI = 4 := by have := HQI.out; omega
          clear hzk h1 h2 hs hq
          have hix := idxFb2
          go_wp2
          go_ret
          exact ⟨by rw [HR.out]; rfl, HB.out.alloc HB.out.size _⟩
        · have HN2 : Hid (noneFb s q 3) := Lib.hid (fun j hj => by
           rcases Nat.lt_or_ge j 2 with h3 | h3
           · exact HN.out j h3
           · obtain rfl : j = 2 := by omega
             exact fun h => h2 h.2)
          obtain rfl : sI = 206 := by have := HSI.out; omega
          have g2 : ¬ qI = 4 := by have := HQI.out; omega
          clear hzk h1 h2 hs hq
          have hix := idxFb2
          go_wp2
          go_roundw
          case rel => exact ⟨3, 3, by omega, rfl, by go_num, HN2, Lib.hid (HB.out.alloc HB.out.size _)⟩
          case measure => simp [intOf]
      · have HN2 : Hid (noneFb s q 3) := Lib.hid (fun j hj => by
         rcases Nat.lt_or_ge j 2 with h3 | h3
         · exact HN.out j h3
         · obtain rfl : j = 2 := by omega
           exact fun h => h1 h.1)
        have g1 : ¬ sI = 206 := by have := HSI.out; omega
        clear hzk h1 hs hq
        have hix := idxFb2
        go_wp2
        go_roundw
        case rel => exact ⟨3, 3, by omega, rfl, by go_num, HN2, Lib.hid (HB.out.alloc HB.out.size _)⟩
        case measure => simp [intOf]
    | 3, _ =>
      obtain rfl : z = 3 := by omega
      by_cases h1 : s = 206
      · by_cases h2 : q = 15
        · have HR : Hid (kindN s q = 4) := Lib.hid (kind_hit s q 3 (by omega) HN.out h1 h2)
          obtain rfl : sI = 206 := by have := HSI.out; omega
          obtain rfl : qI = 15 := by have := HQI.out; omega
          clear hzk h1 h2 hs hq
          have hix := idxFb3
          go_wp2
          go_ret
          exact ⟨by rw [HR.out]; rfl, HB.out.alloc HB.out.size _⟩
        · have HN2 : Hid (noneFb s q 4) := Lib.hid (fun j hj => by
           rcases Nat.lt_or_ge j 3 with h3 | h3
           · exact HN.out j h3
           · obtain rfl : j = 3 := by omega
             exact fun h => h2 h.2)
          obtain rfl : sI = 206 := by have := HSI.out; omega
          have g2 : ¬ qI = 15 := by have := HQI.out; omega
          clear hzk h1 h2 hs hq
          have hix := idxFb3
          go_wp2
          go_roundw
          case rel => exact ⟨4, 4, by omega, rfl, by go_num, HN2, Lib.hid (HB.out.alloc HB.out.size _)⟩
          case measure => simp [intOf]
      · have HN2 : Hid (noneFb s q 4) := Lib.hid (fun j hj => by
         rcases Nat.lt_or_ge j 3 with h3 | h3
         · exact HN.out j h3
         · obtain rfl : j = 3 := by omega
           exact fun h => h1 h.1)
        have g1 : ¬ sI = 206 := by have := HSI.out; omega
        clear hzk h1 hs hq
        have hix := idxFb3
        go_wp2
        go_roundw
        case rel => exact ⟨4, 4, by omega, rfl, by go_num, HN2, Lib.hid (HB.out.alloc HB.out.size _)⟩
        case measure => simp [intOf]
  · obtain rfl : k = 4 := by omega
    obtain rfl : z = 4 := by omega
    have HM := Lib.hid (kind_miss s q HN.out)
    by_cases h1 : s < 200
    · have HM2 : Hid (kindN s q = 0) := Lib.hid (HM.out.trans (if_pos (.inl h1)))
      have g1 : sI < 200 := by have := HSI.out; omega
      clear hzk h1 hs hq
      go_wp2
      go_ret
      exact ⟨by rw [HM2.out]; rfl, HB.out⟩
    · by_cases h2 : 203 < s
      · have HM2 : Hid (kindN s q = 0) := Lib.hid (HM.out.trans (if_pos (.inr h2)))
        have g1 : ¬ sI < 200 := by have := HSI.out; omega
        have g2 : 203 < sI := by have := HSI.out; omega
        clear hzk h1 h2 hs hq
        go_wp2
        go_ret
        exact ⟨by rw [HM2.out]; rfl, HB.out⟩
      · have HM2 : Hid (kindN s q = s) := Lib.hid (HM.out.trans (if_neg (by omega)))
        have g1 : ¬ sI < 200 := by have := HSI.out; omega
        have g2 : ¬ 203 < sI := by have := HSI.out; omega
        clear hzk h1 h2 hs hq
        go_wp2
        go_ret
        exact ⟨by rw [HM2.out, ← HSI.out]; rfl, HB.out⟩
structure PCtl (w : World) (g b : Nat) (s : Wc) : Prop where
 bk : BlkV w g 66 (cells s.y.ks ++ [.int .i64 s.y.limit, .int .i64 s.y.used, .int .i64 s.nx, .map (some b)])
 m : MapW w b s.y.ws
def RC (w : World) (p : Value) (s : Wc) (F : Nat → Prop) : Prop := ∃ g b, p = .pointer (some ⟨g, 0, none⟩) ∧ PCtl w g b s ∧ F = fun k => k = g ∨ k = b
section
variable {w w2 : World} {g b : Nat} {s : Wc}
theorem PCtl.ne (h : PCtl w g b s) : b ≠ g := map_blk h.m h.bk
theorem PCtl.stay (h : PCtl w g b s) (hg : w2.heap[g]? = w.heap[g]?) (hb : w2.heap[b]? = w.heap[b]?) : PCtl w2 g b s := ⟨hg.trans h.bk, h.m.stay hb⟩
theorem PCtl.below (h : PCtl w g b s) (hb : Below w.heap.size w w2) : PCtl w2 g b s := h.stay (hb.block g h.bk.lt) (hb.block b h.m.lt)
theorem rc_lone : Lone RC where
 low := by
  rintro w p s F ⟨g, b, rfl, h, rfl⟩ k hk
  rcases hk with rfl | rfl
  · exact h.bk.lt
  · exact h.m.lt
 stay := by
  rintro w w2 p s F ⟨g, b, rfl, h, rfl⟩ _ hs
  exact ⟨g, b, rfl, h.stay (hs g (.inl rfl)) (hs b (.inr rfl)), rfl⟩
theorem rc_ptr {p : Value} {F : Nat → Prop} (h : RC w p s F) : ∃ g b, p = .pointer (some ⟨g, 0, none⟩) ∧ PCtl w g b s ∧ F = fun k => k = g ∨ k = b := h
theorem PCtl.cells_ (h : PCtl w g b s) (hf : s.y.fit) : w.cell? ⟨g, 50, none⟩ = some (.int .i64 s.y.limit) ∧ w.cell? ⟨g, 51, none⟩ = some (.int .i64 s.y.used) ∧ w.cell? ⟨g, 52, none⟩ = some (.int .i64 s.nx) ∧ w.cell? ⟨g, 53, none⟩ = some (.map (some b)) := by
 have hl : (cells s.y.ks).length = 50 := by rw [length_cells, Wy.ks_len hf]
 refine ⟨(h.bk.cell 50).trans ?_, (h.bk.cell 51).trans ?_, (h.bk.cell 52).trans ?_, (h.bk.cell 53).trans ?_⟩ <;>
  (rw [List.getElem?_append_right (by omega), hl]; rfl)
theorem PCtl.cell_ks (h : PCtl w g b s) (hf : s.y.fit) (i : Nat) (hi : i < 50) : w.cell? ⟨g, i, none⟩ = (cells s.y.ks)[i]? := by
 rw [h.bk.cell, List.getElem?_append_left (by rw [length_cells, Wy.ks_len hf]; exact hi)]
theorem PCtl.used (h : PCtl w g b s) (hf : s.y.fit) (u : Int) : PCtl (w.setCell ⟨g, 51, none⟩ (.int .i64 u)) g b ⟨{ s.y with used := u }, s.nx⟩ := by
 have hl : (cells s.y.ks).length = 50 := by rw [length_cells, Wy.ks_len hf]
 have hB := h.bk.set_ 51 (.int .i64 u)
 rw [List.set_append_right _ _ (by omega), hl] at hB
 exact ⟨hB, h.m.stay ((Only.set w g 51 (.int .i64 u)).block b h.ne)⟩
theorem PCtl.next (h : PCtl w g b s) (hf : s.y.fit) (u : Int) : PCtl (w.setCell ⟨g, 52, none⟩ (.int .i64 u)) g b ⟨s.y, u⟩ := by
 have hl : (cells s.y.ks).length = 50 := by rw [length_cells, Wy.ks_len hf]
 have hB := h.bk.set_ 52 (.int .i64 u)
 rw [List.set_append_right _ _ (by omega), hl] at hB
 exact ⟨hB, h.m.stay ((Only.set w g 52 (.int .i64 u)).block b h.ne)⟩
theorem PCtl.marked (h : PCtl w g b s) {ws2 : List (Nat × List Int)} (hm : MapW w2 b ws2) (ho : Only b w w2) : PCtl w2 g b ⟨{ s.y with ws := ws2 }, s.nx⟩ :=
 ⟨h.bk.only ho h.ne.symm, hm⟩
theorem PCtl.auth (h : PCtl w g b s) (hf : s.y.fit) : RdS w (some ⟨g, 16, none⟩) 20 20 s.y.auth := by
 have := rd_auth hf (o := 0) h.bk (fun i hi => by rw [Nat.zero_add, List.getElem?_append_left (by rw [length_cells, Wy.ks_len hf]; exact hi)])
 simpa using this
theorem PCtl.key (h : PCtl w g b s) (hf : s.y.fit) : w.rangeAt g 0 (cells s.y.key) :=
 h.bk.range 0 _ (fun i hi => by
  have hk := (ks_at s.y hf).1 i hi
  rw [length_cells, hf.1] at hi
  rw [List.getElem?_append_left (by rw [length_cells, Wy.ks_len hf]; omega)]
  exact hk)
theorem PCtl.salt (h : PCtl w g b s) (hf : s.y.fit) : w.rangeAt g 36 (cells s.y.salt) :=
 h.bk.range 36 _ (fun i hi => by
  have hk := (ks_at s.y hf).2 i hi
  rw [length_cells, hf.2.2.1] at hi
  rw [List.getElem?_append_left (by rw [length_cells, Wy.ks_len hf]; omega)]
  exact hk)
end
structure Tabs (w : World) : Prop where
 h : TabH w
 r : Tab w
 lt : 0 < w.heap.size
theorem Tabs.below {w w2 : World} (t : Tabs w) (hb : Below w.heap.size w w2) : Tabs w2 := ⟨tab_below t.h hb, t.r.below hb t.lt, Nat.lt_of_lt_of_le t.lt hb.size⟩
theorem tabR_cell {w : World} (h : Tab w) : w.cell? ⟨0, 0, none⟩ = some (.int .i64 1) := h 0 _ rfl
theorem tabR_fr {w w2 : World} {F : Nat → Prop} (ht : Tab w) (hf : Fr F w w2) (hn : ¬ F 0) : Tab w2 := fun j v hv => by
 have hc := ht j v hv
 have hlt := World.block_lt_of_cell? w _ hc
 exact (hf.cell (a := ⟨0, 0 + j, none⟩) hlt hn).trans hc
def OffT (F : Nat → Prop) : Prop := ¬ F 1 ∧ ¬ F 0
theorem Tabs.fr {w w2 : World} {F : Nat → Prop} (t : Tabs w) (hf : Fr F w w2) (hn : OffT F) : Tabs w2 := ⟨tab_fr t.h hf hn.1, tabR_fr t.r hf hn.2, Nat.lt_of_lt_of_le t.lt hf.size⟩
theorem PCtl.off {w : World} {g b : Nat} {s : Wc} (h : PCtl w g b s) (hf : s.y.fit) (t : Tabs w) : OffT (fun k => k = g ∨ k = b) := by
 have hk := h.cell_ks hf 0 (by omega)
 rw [cells_at (by rw [Wy.ks_len hf]; omega)] at hk
 obtain ⟨x, hx⟩ := tab_cell t.h
 have hr := tabR_cell t.r
 obtain ⟨es, clock, hb, _⟩ := h.m
 refine ⟨?_, ?_⟩ <;> rintro (e | e) <;> subst e
 · rw [hk] at hx
   injection hx with hx
   injection hx with hx _
   exact nomatch hx
 · simp [World.cell?, hb] at hx
 · rw [hk] at hr
   injection hr with hr
   injection hr with hr _
   exact nomatch hr
 · simp [World.cell?, hb] at hr
section
variable (g b : Nat) (s : Wc) (w : World) (h : PCtl w g b s) (hf : s.y.fit)
include h hf
theorem used16_any : Calls Tryz.prog 13 #[.pointer (some ⟨g, 0, none⟩)] w fun e w' => e = .returned (.int .i64 s.y.used) ∧ w = w' := by
 have c51 := (h.cells_ hf).2.1
 clear h
 go_enter Tryz.func13, Tryz.ntmps13
 go_wp2
 go_ret
 exact ⟨rfl, rfl⟩
theorem next16_any : Calls Tryz.prog 14 #[.pointer (some ⟨g, 0, none⟩)] w fun e w' => e = .returned (.int .i64 s.nx) ∧ w = w' := by
 have c52 := (h.cells_ hf).2.2.1
 clear h
 go_enter Tryz.func14, Tryz.ntmps14
 go_wp2
 go_ret
 exact ⟨rfl, rfl⟩
theorem spent16_any (t : Bool) (ht : t = decide (s.y.limit ≤ s.y.used)) : Calls Tryz.prog 16 #[.pointer (some ⟨g, 0, none⟩)] w fun e w' => e = .returned (.bool t) ∧ Below w.heap.size w w' := by
 have c50 := (h.cells_ hf).1
 have c51 := (h.cells_ hf).2.1
 have HT := Lib.hid ht
 have HB := Lib.hid ((Below.refl w.heap.size w).drew)
 generalize s.y.limit = L at *
 generalize s.y.used = U at *
 clear h ht
 go_enter Tryz.func16, Tryz.ntmps16
 go_upto_region 1 with (fail)
 go_region
 go_wp2
 go_ret
 exact ⟨ret_b HT.out.symm, HB.out⟩
end
theorem source16_any (A : Option Addr) (n c : Nat) (bs : List UInt8) (w : World) (hr : RdS w A n c bs) (h8 : 8 ≤ n) : Calls Tryz.prog 33 #[.slice A n c] w fun e w' => e = .returned (.int .u32 (soC bs : Int)) ∧ w = w' := by
 have hso := soC_lt bs
 have HN : Hid (Calls Tryz.prog 56 #[.slice A n c, .int .i64 4, .int .i64 4] w fun e w' => e = .returned (.tuple #[.int .u64 (soC bs : Int), .bool true]) ∧ w = w') := Lib.hid (num_yes A n c bs 4 4 w hr (by omega) (by omega) (by omega))
 obtain ⟨SO, hSO⟩ : ∃ SO, SO = soC bs := ⟨_, rfl⟩
 rw [← hSO] at hso HN ⊢
 have e1 : IntKind.u32.wrap (SO : Int) = (SO : Int) := by rw [IntKind.wrap_u32]; omega
 clear hr hSO
 go_enter Tryz.func33, Tryz.ntmps33
 go_wp2_with (go_at_call 56; ((with_reducible refine (HN.out).mono ?_); rintro e w' ⟨rfl, rfl⟩))
 go_ret
 exact ⟨rfl, rfl⟩
theorem index16_any (A : Option Addr) (n c : Nat) (bs : List UInt8) (w : World) (hr : RdS w A n c bs) (h14 : 14 ≤ n) (t : Bool) (ht : t = decide (¬ inC bs < 2147483648)) : Calls Tryz.prog 36 #[.slice A n c] w fun e w' => e = .returned (.tuple #[.int .i64 (idC bs : Int), .bool t]) ∧ w = w' := by
 have hl := hr.len
 have hln := hr.small.1
 have hin := inC_lt bs
 obtain ⟨N, hN⟩ : ∃ N, n = N + 14 := ⟨n - 14, by omega⟩
 have eN : (n : Int) - 14 = (N : Int) := by omega
 have ewN : IntKind.i64.wrap (N : Int) = (N : Int) := IntWalk.i64_in _ (by omega)
 have HN : Hid (Calls Tryz.prog 56 #[.slice A n c, .int .i64 (N : Int), .int .i64 4] w fun e w' => e = .returned (.tuple #[.int .u64 (inC bs : Int), .bool true]) ∧ w = w') := Lib.hid (by
  have := num_yes A n c bs N 4 w hr (by omega) (by omega) (by omega)
  unfold inC
  rw [hl, show n - 14 = N by omega]
  exact this)
 have hid : idC bs = inC bs % 2147483648 := rfl
 obtain ⟨X, hX⟩ : ∃ X, X = inC bs := ⟨_, rfl⟩
 rw [← hX] at hin HN ht hid
 rw [hid]
 obtain ⟨Y, hY⟩ : ∃ Y, Y = X % 2147483648 := ⟨_, rfl⟩
 rw [← hY]
 have htm : Int.tmod (X : Int) 2147483648 = (Y : Int) := by rw [Int.tmod_eq_emod_of_nonneg (by omega)]; omega
 have hY2 : Y < 2147483648 := by omega
 have ew1 : IntKind.u64.wrap (Y : Int) = (Y : Int) := by rw [IntKind.wrap_u64]; omega
 have ew2 : IntKind.i64.wrap (Y : Int) = (Y : Int) := IntWalk.i64_in _ (by omega)
 have HT := Lib.hid ht
 clear hr hX hid hY hN hl ht h14
 go_enter Tryz.func36, Tryz.ntmps36
 go_wp2_with (go_at_call 56; ((with_reducible refine (HN.out).mono ?_); rintro e w' ⟨rfl, rfl⟩))
 go_ret2
 refine ⟨?_, rfl⟩
 rw [HT.out]
 exact congrArg (fun z => Ending.returned (.tuple #[.int .i64 (Y : Int), .bool z])) (decide_eq_decide.2 (by omega))
theorem or_bit31 (i : Nat) (hi : i < 2147483648) : bits BinOp.or IntKind.u64 2147483648 (i : Int) = ((2147483648 + i : Nat) : Int) := by
 rw [show (2147483648 : Int) = ((2147483648 : Nat) : Int) from rfl, u64_or_nat _ _ (by omega) (by omega)]
 have h := Nat.two_pow_add_eq_or_of_lt (i := 31) (b := i) (by omega) 1
 rw [show 2 ^ 31 * 1 = 2147483648 from rfl] at h
 rw [h]
theorem marked16_any (i : Nat) (w : World) (hi : i < 2147483648) : Calls Tryz.prog 20 #[.int .i64 (i : Int)] w fun e w' => ∃ A c, e = .returned (.slice A 4 c) ∧ RdS w' A 4 c (beb 4 (2147483648 + i)) ∧ Below w.heap.size w w' := by
 have ew : IntKind.u64.wrap (i : Int) = (i : Int) := by rw [IntKind.wrap_u64]; omega
 have hor := or_bit31 i hi
 obtain ⟨Z, hZ⟩ : ∃ Z, Z = 2147483648 + i := ⟨_, rfl⟩
 rw [← hZ] at hor ⊢
 have HP := Lib.hid (putW w w none 0 0 [] 4 Z 4 4 rfl rfl (Below.refl _ _) (RdS.nil w) (by omega) (by omega) (by omega) (by omega))
 clear hZ
 go_enter Tryz.func20, Tryz.ntmps20
 go_wp2_with (go_at_call 35; ((with_reducible refine (Hid.out HP).mono ?_); rintro e w' ⟨q, rfl, hB, hq, hb⟩; have HB := Lib.hid hB; have HBB := Lib.hid hb; clear hB hb))
 go_ret
 exact ⟨_, 4, rfl, by simpa using HB.out.rdN (by simp [length_beb]) (by omega), HBB.out⟩
end Go.Proofs.YtheefckohnaceaaGreatDoor
