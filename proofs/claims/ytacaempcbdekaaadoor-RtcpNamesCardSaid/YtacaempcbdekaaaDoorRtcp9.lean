/- Contracts of package rtcp: Read, where the bytes are a compound. No statement is proved here. -/
import Derived.Test.YtacaempcbdekaaaDoorRtcp8
namespace Go.Proofs.YtacaempcbdekaaaDoor
open Go.RowKit
set_option linter.unusedVariables false

/-- The rest of a deferred body, where nothing recovers any more. -/
theorem wpS_tail {P : Program} {fn : Func} {c₀ c₁ : Frame} {cs : List Frame} {u : FrameMode} {R : Ending → FrameMode → World → Prop} {R0 : Ending → World → Prop} {c : Code} {a : Act} {w : World}
    (h : c.wp P (bodyPost P fn R0) a w) (hc : c₁ = { c₀ with mode := u }) (hr : ∀ e w', R0 e w' → R e u w') : c.wpS P (bodyPostS P fn c₀ cs R) a (c₁ :: cs) w := by
  subst hc
  refine wpS_of_wp (Code.wp_mono ?_ h)
  intro e a' w' hq
  cases e with
  | normal => obtain ⟨hd, v, h1, h2⟩ := hq; exact ⟨hd, u, rfl, v, h1, hr _ _ h2⟩
  | ret => obtain ⟨hd, v, h1, h2⟩ := hq; exact ⟨hd, u, rfl, v, h1, hr _ _ h2⟩
  | panic chain => obtain ⟨hd, h2⟩ := hq; exact ⟨hd, u, rfl, hr _ _ h2⟩
  | outgrown => exact ⟨u, hr _ _ hq⟩
  | exit id => exact hq.elim
  | goto l => exact hq.elim

set_option maxRecDepth 100000 in
theorem catch_idle (g h : Nat) (w : World) :
    CallsD Tryd.prog 23 #[.pointer (some ⟨g, 0, none⟩), .pointer (some ⟨h, 0, none⟩)] .returning w fun e u' w' => e = .returned (.tuple #[]) ∧ u' = .returning ∧ w' = w := by
  refine callsD_of_wpS Tryd.func23 rfl fun c₀ cs hu => ?_
  simp only [Tryd.ntmps23, List.size_toArray, List.length_cons, List.length_nil, Nat.reduceAdd, Nat.reduceSub, Array.replicate_succ, Array.replicate_zero, List.push_toArray, List.append_toArray, List.nil_append, List.cons_append]
  apply wpS_seq
  apply wpS_region
  simp [wpOpsS, go_sem, recoverD, hu, Exit.thenS]
  refine wpS_tail (R0 := fun e w' => e = .returned (.tuple #[]) ∧ w = w') (u := .returning) ?_ (by rw [← hu]) (fun e w' hh => ⟨hh.1, rfl, hh.2.symm⟩)
  go_wp2
  exact bodyPost_ret (results_none rfl _ _ _) rfl ⟨rfl, rfl⟩
theorem read_results (tmps : Array Value) (w : World) (g h : Nat) (v : Value) (y : Int) (hp : tmps.getD 2 undef = .pointer (some ⟨g, 0, none⟩)) (hq : tmps.getD 3 undef = .pointer (some ⟨h, 0, none⟩)) (hg : w.cell? ⟨g, 0, none⟩ = some v) (hh : w.cell? ⟨h, 0, none⟩ = some (.int .i64 y)) :
    (results Tryd.f10 tmps).run Tryd.prog w = .ok (.tuple #[v, .int .i64 y]) w := by
  have hp' : tmps[2]?.getD undef = .pointer (some ⟨g, 0, none⟩) := by simpa using hp
  have hq' : tmps[3]?.getD undef = .pointer (some ⟨h, 0, none⟩) := by simpa using hq
  have hld : (loadVar 22 ⟨g, 0, none⟩).run Tryd.prog w = .ok v w := by simp [go_sem, hg]
  have hle : (loadVar 26 ⟨h, 0, none⟩).run Tryd.prog w = .ok (.int .i64 y) w := by simp [go_sem, hh]
  simp [results, Tryd.results10, hp', hq', asAddr, hld, hle]
/-- The door behind a body that has gone through. -/
theorem read_through (v : Value) (y : Int) (tmps : Array Value) (g h : Nat) (W : World) (R : Ending → World → Prop) (hp : tmps.getD 2 undef = .pointer (some ⟨g, 0, none⟩)) (hq : tmps.getD 3 undef = .pointer (some ⟨h, 0, none⟩))
    (hg : W.cell? ⟨g, 0, none⟩ = some v) (hh : W.cell? ⟨h, 0, none⟩ = some (.int .i64 y))
    (hR : R (.returned (.tuple #[v, .int .i64 y])) W) :
    bodyPostD Tryd.prog Tryd.f10 R .ret { tmps := tmps, defers := [{ target := .fn (.func 23) #[.pointer (some ⟨g, 0, none⟩), .pointer (some ⟨h, 0, none⟩)], args := #[] }] } W := by
  refine leaves_cons (f := 23) (args := #[.pointer (some ⟨g, 0, none⟩), .pointer (some ⟨h, 0, none⟩)]) (by simp) (by simp [go_sem]) ?_
  refine (catch_idle g h W).mono ?_
  rintro e u' w'' ⟨rfl, rfl, rfl⟩
  exact ⟨_, read_results tmps w'' g h v y hp hq hg hh, hR⟩
abbrev rw0 (w : World) : World := (w.alloc (.cells #[.slice none 0 0] 22)).alloc (.cells #[.int .i64 0] 26)
theorem read_boxes (w : World) : Below w.heap.size w (rw0 w) ∧ BlkV (rw0 w) w.heap.size 22 [.slice none 0 0] ∧ BlkV (rw0 w) (w.heap.size + 1) 26 [.int .i64 0] :=
  ⟨((Below.refl _ _).alloc (Nat.le_refl _) _).alloc (by simp) _, (BlkV.new _ _ _).alloc _, BlkV.new_at _ _ _ _ _ (by simp) rfl⟩
theorem OwnCs.th {w w' : World} {b : Nat} {v : Value} {l : List Ctl} (h : OwnCs w b v l) {row : Option Nat} (hg : w.grownBy w' row) (hr : ∀ p, row = some p → p < b) : OwnCs w' b v l := by
  obtain ⟨css, h1, h2, h3⟩ := h
  exact ⟨css, own_thN h1 hg (fun p hp => .inl (hr p hp)), h2, fun i cs c hi hj => (h3 i cs c hi hj).th hg (fun p hp => .inl (hr p hp))⟩

set_option maxRecDepth 100000 in
theorem read_ok (ps : List (List UInt8 × Ctl)) (A : Option Addr) (n c N : Nat) (w : World) (ht : Tab w) (hw : 0 < w.heap.size) (hN : N = ps.length) (h1 : 1 ≤ N) (h8 : N ≤ 8) (hps : ∀ p ∈ ps, PacketIs p.1 p.2) (hm : ¬ 1200 < n) (hr : RdS w A n c (ps.flatMap (·.1))) :
    Calls Tryd.prog 10 #[.slice A n c] w fun r w' => ∃ A' c', r = .returned (.tuple #[.slice A' N c', .int .i64 0]) ∧ OwnCs w' w.heap.size (.slice A' N c') (ps.map (·.2)) ∧ Below w.heap.size w w' := by
  have hmf : ∀ (fn : Fn) (first cap : Array Value) (w : World), (Instr.makeFunc fn first cap).run Tryd.prog w = .ok (.func fn first cap) w := fun _ _ _ _ => rfl
  obtain ⟨b0, k1, k2⟩ := read_boxes w
  have HP := Lib.hid (compound_ok ps A n c N (rw0 w) (ht.below b0 hw) (Nat.lt_of_lt_of_le hw b0.size) hN h1 h8 hps (hr.below b0))
  have B0 := Lib.hid b0
  have K1 := Lib.hid k1
  have K2 := Lib.hid k2
  have HSZ : Hid ((rw0 w).heap.size = w.heap.size + 2) := Lib.hid (by simp [rw0])
  clear hr hps b0 k1 k2 ht hN
  go_enter_defers Tryd.func10, Tryd.ntmps10
  go_wp2_with (first
    | (go_at_call 24; ((with_reducible refine (refuse_no _ _ _ ?_).mono ?_); (first | rfl | assumption | (simp; omega)); rintro e w' ⟨rfl, rfl⟩))
    | (go_at_call 25; ((with_reducible refine (Hid.out HP).mono ?_); rintro e w4 ⟨A4, c4, rfl, ho4, hb4⟩; have O4 := Lib.hid ho4; have B4 := Lib.hid hb4; have k1 := K1.out.below hb4 (by have := HSZ.out; omega); have k2 := K2.out.below hb4 (by have := HSZ.out; omega); have hf1 := k1.frozen 0; have hf2 := k2.frozen 0; have hc1 : w4.cell? ⟨w.heap.size, 0, none⟩ = some (.slice none 0 0) := (k1.cell 0).trans rfl; have hc2 : w4.cell? ⟨w.heap.size + 1, 0, none⟩ = some (.int .i64 0) := (k2.cell 0).trans rfl; clear ho4 hb4)))
  have hsz := HSZ.out
  have j1 := k1.set_ 0 (.slice A4 N c4)
  have j2 := k2.far (p := ⟨w.heap.size, 0, none⟩) (show w.heap.size + 1 ≠ w.heap.size by omega) (.slice A4 N c4)
  have m1 := j1.far (p := ⟨w.heap.size + 1, 0, none⟩) (show w.heap.size ≠ w.heap.size + 1 by omega) (.int .i64 0)
  have m2 := j2.set_ 0 (.int .i64 0)
  have o5 := Only.set w4 w.heap.size 0 (.slice A4 N c4)
  have o6 := Only.set (w4.setCell ⟨w.heap.size, 0, none⟩ (.slice A4 N c4)) (w.heap.size + 1) 0 (.int .i64 0)
  exact read_through (.slice A4 N c4) 0 _ _ _ _ _ rfl rfl ((m1.cell 0).trans rfl) ((m2.cell 0).trans rfl) ⟨A4, c4, rfl, ((O4.out.th o5.grown (fun p hp => by injection hp with hp; omega)).th o6.grown (fun p hp => by injection hp with hp; omega)).mono (by omega),
    ((B0.out.trans (B4.out.mono (by omega))).trans (o5.below (Nat.le_refl _))).trans (o6.below (by omega))⟩
end Go.Proofs.YtacaempcbdekaaaDoor
