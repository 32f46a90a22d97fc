/- Contracts of package ladder: a ladder's block, its state, its strikes, what each state lets be done. No statement is proved here. -/
import Derived.Test.YtbghpgflfaheiaaProg
import Derived.Test.YtbghpgflfaheiaaLadNum
import Derived.Test.YtbghpgflfaheiaaOnK
import Derived.WalkKit
import Derived.KernelRfl
import Derived.IntWalk
import Derived.LoopTactic
import Derived.Lib.Hide
import Derived.OpenShut
import Derived.BigQuiet
import Derived.Maps.Own
namespace Go.Proofs.Ytbghpgflfaheiaa
open Go.RowKit Go.Maps Go.ChangeMaps Go.MapKept
set_option linter.unusedVariables false

def Ldr.cellsP (s : Ldr) : List Value := [.int .i64 s.S, .int .i64 s.H, .int .i64 s.D, .int .i64 s.k, .int .i64 s.l]
/-- Block g is the ladder. -/
structure PLad (w : World) (g : Nat) (s : Ldr) : Prop where
  blk : BlkV w g 43 s.cellsP
  sh : s.sh = decide (s.H ≤ s.k)
section
variable {w w' : World} {g : Nat} {s : Ldr}
theorem PLad.lt (h : PLad w g s) : g < w.heap.size := BlkV.lt h.blk
theorem PLad.c0 (h : PLad w g s) : w.cell? ⟨g, 0, none⟩ = some (.int .i64 s.S) := (BlkV.cell h.blk 0).trans rfl
theorem PLad.c1 (h : PLad w g s) : w.cell? ⟨g, 1, none⟩ = some (.int .i64 s.H) := (BlkV.cell h.blk 1).trans rfl
theorem PLad.c2 (h : PLad w g s) : w.cell? ⟨g, 2, none⟩ = some (.int .i64 s.D) := (BlkV.cell h.blk 2).trans rfl
theorem PLad.c3 (h : PLad w g s) : w.cell? ⟨g, 3, none⟩ = some (.int .i64 s.k) := (BlkV.cell h.blk 3).trans rfl
theorem PLad.c4 (h : PLad w g s) : w.cell? ⟨g, 4, none⟩ = some (.int .i64 s.l) := (BlkV.cell h.blk 4).trans rfl
theorem PLad.fr (h : PLad w g s) (j : Nat) : w.frozen? ⟨g, j, none⟩ = false := BlkV.frozen h.blk j
end
/-- What is said of a ladder: it lies in one block of its own. -/
def T21 (w : World) (v : Value) (s : Ldr) (F : Nat → Prop) : Prop := ∃ g, v = .pointer (some ⟨g, 0, none⟩) ∧ PLad w g s ∧ ∀ k, F k ↔ k = g
theorem lone21 : Lone T21 where
  low := fun w p s F ⟨g, _, h, hF⟩ k hk => by rw [(hF k).1 hk]; exact h.lt
  stay := fun w w2 p s F ⟨g, h0, h, hF⟩ hz hk => ⟨g, h0, ⟨(hk g ((hF g).2 rfl)).trans h.blk, h.sh⟩, hF⟩

theorem drewN_add21 (w : World) (a b : Nat) : (w.drewN a).drewN b = w.drewN (a + b) := by
  simp [World.drewN, Nat.add_assoc]
theorem stands_nil21 (w : World) :
    Calls Try.prog 22 #[.pointer none] w fun e w' => e = .returned (.int .i64 2) ∧ ∃ m, w' = w.drewN m := by
  go_enter Try.func22, Try.ntmps22
  go_wp2
  go_quiet (fail)
  go_wp2
  go_ret
  exact ⟨rfl, _, rfl⟩
theorem stands_any21 (g : Nat) (s : Ldr) (w : World) (h : PLad w g s) :
    Calls Try.prog 22 #[.pointer (some ⟨g, 0, none⟩)] w fun e w' => e = .returned (.int .i64 (staR s)) ∧ ∃ m, w' = w.drewN m := by
  have c0 := h.c0
  have c1 := h.c1
  have c3 := h.c3
  have hsh := h.sh
  clear h
  obtain ⟨S, H, D, k, l, sh⟩ := s
  simp only at c0 c1 c3
  have hsh2 : sh = decide (H ≤ k) := hsh
  clear hsh
  subst hsh2
  unfold staR
  by_cases hH : H ≤ k
  · simp only [hH, decide_true, if_true]
    have hd : decide (H ≤ k) = true := by simpa using hH
    go_enter Try.func22, Try.ntmps22
    go_wp2
    go_quiet (fail)
    go_wp2
    go_ret
    exact ⟨rfl, _, rfl⟩
  · simp only [hH, decide_false, Bool.false_eq_true, if_false]
    have hd : decide (H ≤ k) = false := by simpa using hH
    by_cases hS : S ≤ k
    · rw [if_pos hS]
      have hd2 : decide (S ≤ k) = true := by simpa using hS
      go_enter Try.func22, Try.ntmps22
      go_wp2
      go_quiet (fail)
      go_wp2
      go_quiet (fail)
      go_wp2
      go_ret
      exact ⟨rfl, _, drewN_add21 _ _ _⟩
    · rw [if_neg hS]
      have hd2 : decide (S ≤ k) = false := by simpa using hS
      go_enter Try.func22, Try.ntmps22
      go_wp2
      go_quiet (fail)
      go_wp2
      go_quiet (fail)
      go_wp2
      go_ret
      exact ⟨rfl, _, drewN_add21 _ _ _⟩

theorem state_nil21 (w : World) :
    Calls Try.prog 18 #[.pointer none] w fun e w' => e = .returned (.int .i64 2) ∧ ∃ m, w' = w.drewN m := by
  go_enter Try.func18, Try.ntmps18
  go_wp2_with (go_at_call 22; ((with_reducible refine (stands_nil21 _).mono ?_); rintro e w1 ⟨rfl, m, rfl⟩))
  go_ret
  exact ⟨rfl, _, rfl⟩
theorem state_any21 (g : Nat) (s : Ldr) (w : World) (h : PLad w g s) :
    Calls Try.prog 18 #[.pointer (some ⟨g, 0, none⟩)] w fun e w' => e = .returned (.int .i64 (staR s)) ∧ ∃ m, w' = w.drewN m := by
  have HC := Lib.hid (stands_any21 g s w h)
  clear h
  go_enter Try.func18, Try.ntmps18
  go_wp2_with (go_at_call 22; ((with_reducible refine (Hid.out HC).mono ?_); rintro e w1 ⟨rfl, m, rfl⟩))
  go_ret
  exact ⟨rfl, _, rfl⟩
theorem strikes_nil21 (w : World) :
    Calls Try.prog 12 #[.pointer none] w fun e w' => e = .returned (.int .i64 0) ∧ ∃ m, w' = w.drewN m := by
  go_enter Try.func12, Try.ntmps12
  go_wp2
  go_ret
  exact ⟨rfl, 0, rfl⟩
theorem strikes_any21 (g : Nat) (s : Ldr) (w : World) (h : PLad w g s) :
    Calls Try.prog 12 #[.pointer (some ⟨g, 0, none⟩)] w fun e w' => e = .returned (.int .i64 s.k) ∧ ∃ m, w' = w.drewN m := by
  have c3 := h.c3
  clear h
  go_enter Try.func12, Try.ntmps12
  go_wp2
  go_ret
  exact ⟨rfl, 0, rfl⟩

-- what each state lets be done: a map
theorem kSt21 : Keyed Try.prog 49 := int_keyed Try.underlying49
theorem mapTy21 : Try.prog.underlying 47 = some (.map 49 46) := Try.underlying47
theorem run_ins21 (w : World) (b : Nat) (es : Array MapEntry) (clock : Nat) (kk : Int) (v : Value) (hb : w.heap[b]? = some (.map es clock)) (hk : (Lit.int .i64 kk).wf = true) (hf : Instr.findNow (.int .i64) (.int .i64 kk) es.toList 0 = some none) :
    (Instr.mapUpdate 47 (.map (some b)) (.int .i64 kk) v).run Try.prog w = .ok () (setBlock w b (.map (es.push ⟨.int .i64 kk, v, clock⟩) (clock + 1))) := by
  simp [Instr.mapUpdate, run_underlying mapTy21, MapKept.run_getObj_map hb, kSt21.check w false (keyOf_int_mk Try.underlying49 hk), Instr.findKey, run_underlying Try.underlying49, hf, MapKept.run_setObj_map _ hb, Result.andThen, setBlock]
theorem run_lkp21 (w : World) (b : Nat) (es : Array MapEntry) (clock : Nat) (kk : Int) (i : Nat) (v : Value) (hb : w.heap[b]? = some (.map es clock)) (hk : (Lit.int .i64 kk).wf = true) (hf : Instr.findNow (.int .i64) (.int .i64 kk) es.toList 0 = some (some (i, v))) :
    (Instr.lookup 47 (.map (some b)) (.int .i64 kk) false).run Try.prog w = .ok v w := by
  simp [Instr.lookup, run_underlying mapTy21, MapKept.run_getObj_map hb, kSt21.check w _ (keyOf_int_mk Try.underlying49 hk), Instr.findKey, run_underlying Try.underlying49, hf, Result.andThen]
theorem wpList_ins21 {w : World} {ops : Array Oper} {rest : List Oper} {o : Oper} {a : Act} {Q : Exit → Act → World → Prop} (hgd : o.guard = none) (m x v : Operand) (ho : o.op = .insert 47 m x v)
    (b : Nat) (es : Array MapEntry) (clock : Nat) (hm : a.eval m = .map (some b)) (kk : Int) (hx : a.eval x = .int .i64 kk) (u : Value) (hu : a.eval v = u) (hb : w.heap[b]? = some (.map es clock)) (hk : (Lit.int .i64 kk).wf = true) (hf : Instr.findNow (.int .i64) (.int .i64 kk) es.toList 0 = some none)
    (h : ∀ w', w'.heap[b]? = some (.map (es.push ⟨.int .i64 kk, u, clock⟩) (clock + 1)) → w.grownBy w' (some b) → wpList Try.prog ops Q rest (a.put o.dst undef) w') : wpList Try.prog ops Q (o :: rest) a w := by
  refine wpList_plain hgd fun K' hK' => ?_
  unfold Oper.wp
  simp [execOp, ho, hm, hx, hu, run_ins21 w b es clock kk u hb hk hf, Result.andThen]
  exact hK' _ _ (h _ (heap_setBlock_same hb _) ⟨rfl, rfl, rfl, by simp [setBlock], fun i _ hi => heap_setBlock_other hb _ (fun e => hi (by rw [e]))⟩)
def ents0 : Array MapEntry := #[]
def ents1 : Array MapEntry := #[⟨.int .i64 0, .agg #[.bool true], 0⟩]
def ents2 : Array MapEntry := #[⟨.int .i64 0, .agg #[.bool true], 0⟩, ⟨.int .i64 1, .agg #[.bool true], 1⟩]
def ents3 : Array MapEntry := #[⟨.int .i64 0, .agg #[.bool true], 0⟩, ⟨.int .i64 1, .agg #[.bool true], 1⟩, ⟨.int .i64 2, .agg #[.bool false], 2⟩]
set_option maxRecDepth 100000 in
theorem lets_any21 (w : World) : Calls Try.prog 21 #[] w fun e w' => e = .returned (.map (some w.heap.size)) ∧ Hid (w'.heap[w.heap.size]? = some (.map ents3 3) ∧ Below w.heap.size w w') := by
  have hmm := @run_makeMap Try.prog
  have hm0 : (w.alloc (.map #[] 0)).heap[w.heap.size]? = some (.map ents0 0) := heap_alloc_new _ _
  have b0 : Hid (Below w.heap.size w (w.alloc (.map #[] 0))) := Lib.hid ((Below.refl _ _).alloc (Nat.le_refl _) _)
  go_enter Try.func21, Try.ntmps21
  go_wp2_with (first
    | ((with_reducible refine wpList_ins21 rfl (.tmp 1) (.const (.int .i64 0)) (.tmp 2) rfl w.heap.size ents0 0 rfl 0 rfl (.agg #[.bool true]) rfl ?_ rfl rfl ?_); exact hm0; intro w1 h1 g1; have b1 : Hid (Below w.heap.size w w1) := Lib.hid (b0.out.grown g1 (by simp) (fun q hq => by injection hq with hq; omega)); clear g1)
    | ((with_reducible refine wpList_ins21 rfl (.tmp 1) (.const (.int .i64 1)) (.tmp 3) rfl w.heap.size ents1 1 rfl 1 rfl (.agg #[.bool true]) rfl ?_ rfl rfl ?_); exact h1; intro w2 h2 g2; have b2 : Hid (Below w.heap.size w w2) := Lib.hid (b1.out.grown g2 b1.out.size (fun q hq => by injection hq with hq; omega)); clear g2)
    | ((with_reducible refine wpList_ins21 rfl (.tmp 1) (.const (.int .i64 2)) (.tmp 4) rfl w.heap.size ents2 2 rfl 2 rfl (.agg #[.bool false]) rfl ?_ rfl rfl ?_); exact h2; intro w3 h3 g3; have b3 : Hid (Below w.heap.size w w3) := Lib.hid (b2.out.grown g3 b2.out.size (fun q hq => by injection hq with hq; omega)); clear g3))
  go_ret
  exact ⟨rfl, Lib.hid ⟨h3, b3.out⟩⟩
end Go.Proofs.Ytbghpgflfaheiaa
