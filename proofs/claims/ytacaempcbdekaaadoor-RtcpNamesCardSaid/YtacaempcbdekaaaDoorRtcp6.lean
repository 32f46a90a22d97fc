/- Contracts of package rtcp: how a body is read, by its kind: the map of the readers. No statement is proved here. -/
import Derived.Test.YtacaempcbdekaaaDoorRtcp5
import Derived.Maps.Own
namespace Go.Proofs.YtacaempcbdekaaaDoor
open Go.RowKit Go.Maps Go.ChangeMaps Go.MapKept
set_option linter.unusedVariables false

theorem kInt : Keyed Tryd.prog 3 := int_keyed Tryd.underlying3
theorem mapTy : Tryd.prog.underlying 96 = some (.map 3 94) := Tryd.underlying96
theorem run_ins (w : World) (b : Nat) (es : Array MapEntry) (clock : Nat) (kk : Int) (v : Value) (hb : w.heap[b]? = some (.map es clock)) (hk : (Lit.int .i64 kk).wf = true) (hf : Instr.findNow (.int .i64) (.int .i64 kk) es.toList 0 = some none) :
    (Instr.mapUpdate 96 (.map (some b)) (.int .i64 kk) v).run Tryd.prog w = .ok () (setBlock w b (.map (es.push ⟨.int .i64 kk, v, clock⟩) (clock + 1))) := by
  simp [Instr.mapUpdate, run_underlying mapTy, MapKept.run_getObj_map hb, kInt.check w false (keyOf_int_mk Tryd.underlying3 hk), Instr.findKey, run_underlying Tryd.underlying3, hf, MapKept.run_setObj_map _ hb, Result.andThen, setBlock]
theorem run_lkp (w : World) (b : Nat) (es : Array MapEntry) (clock : Nat) (kk : Int) (i : Nat) (v : Value) (hb : w.heap[b]? = some (.map es clock)) (hk : (Lit.int .i64 kk).wf = true) (hf : Instr.findNow (.int .i64) (.int .i64 kk) es.toList 0 = some (some (i, v))) :
    (Instr.lookup 96 (.map (some b)) (.int .i64 kk) true).run Tryd.prog w = .ok (.tuple #[v, .bool true]) w := by
  simp [Instr.lookup, run_underlying mapTy, MapKept.run_getObj_map hb, kInt.check w _ (keyOf_int_mk Tryd.underlying3 hk), Instr.findKey, run_underlying Tryd.underlying3, hf, Result.andThen]
/-- An entry is put into a map of the call's own, at a key that it lacks. -/
theorem wpList_ins {w : World} {ops : Array Oper} {rest : List Oper} {o : Oper} {a : Act} {Q : Exit → Act → World → Prop} (hgd : o.guard = none) (m x v : Operand) (ho : o.op = .insert 96 m x v)
    (b : Nat) (es : Array MapEntry) (clock : Nat) (hm : a.eval m = .map (some b)) (kk : Int) (hx : a.eval x = .int .i64 kk) (u : Value) (hu : a.eval v = u) (hb : w.heap[b]? = some (.map es clock)) (hk : (Lit.int .i64 kk).wf = true) (hf : Instr.findNow (.int .i64) (.int .i64 kk) es.toList 0 = some none)
    (h : ∀ w', w'.heap[b]? = some (.map (es.push ⟨.int .i64 kk, u, clock⟩) (clock + 1)) → w.grownBy w' (some b) → wpList Tryd.prog ops Q rest (a.put o.dst undef) w') : wpList Tryd.prog ops Q (o :: rest) a w := by
  refine wpList_plain hgd fun K' hK' => ?_
  unfold Oper.wp
  simp [execOp, ho, hm, hx, hu, run_ins w b es clock kk u hb hk hf, Result.andThen]
  exact hK' _ _ (h _ (heap_setBlock_same hb _) ⟨rfl, rfl, rfl, by simp [setBlock], fun i _ hi => heap_setBlock_other hb _ (fun e => hi (by rw [e]))⟩)
def entS : Array MapEntry := #[⟨.int .i64 200, .func (.func 56) #[] #[], 0⟩, ⟨.int .i64 201, .func (.func 57) #[] #[], 1⟩, ⟨.int .i64 202, .func (.func 58) #[] #[], 2⟩, ⟨.int .i64 203, .func (.func 59) #[] #[], 3⟩, ⟨.int .i64 1, .func (.func 60) #[] #[], 4⟩, ⟨.int .i64 2, .func (.func 61) #[] #[], 5⟩, ⟨.int .i64 3, .func (.func 62) #[] #[], 6⟩, ⟨.int .i64 4, .func (.func 63) #[] #[], 7⟩]
def ent0 : Array MapEntry := #[]
def ent1 : Array MapEntry := #[⟨.int .i64 200, .func (.func 56) #[] #[], 0⟩]
def ent2 : Array MapEntry := #[⟨.int .i64 200, .func (.func 56) #[] #[], 0⟩, ⟨.int .i64 201, .func (.func 57) #[] #[], 1⟩]
def ent3 : Array MapEntry := #[⟨.int .i64 200, .func (.func 56) #[] #[], 0⟩, ⟨.int .i64 201, .func (.func 57) #[] #[], 1⟩, ⟨.int .i64 202, .func (.func 58) #[] #[], 2⟩]
def ent4 : Array MapEntry := #[⟨.int .i64 200, .func (.func 56) #[] #[], 0⟩, ⟨.int .i64 201, .func (.func 57) #[] #[], 1⟩, ⟨.int .i64 202, .func (.func 58) #[] #[], 2⟩, ⟨.int .i64 203, .func (.func 59) #[] #[], 3⟩]
def ent5 : Array MapEntry := #[⟨.int .i64 200, .func (.func 56) #[] #[], 0⟩, ⟨.int .i64 201, .func (.func 57) #[] #[], 1⟩, ⟨.int .i64 202, .func (.func 58) #[] #[], 2⟩, ⟨.int .i64 203, .func (.func 59) #[] #[], 3⟩, ⟨.int .i64 1, .func (.func 60) #[] #[], 4⟩]
def ent6 : Array MapEntry := #[⟨.int .i64 200, .func (.func 56) #[] #[], 0⟩, ⟨.int .i64 201, .func (.func 57) #[] #[], 1⟩, ⟨.int .i64 202, .func (.func 58) #[] #[], 2⟩, ⟨.int .i64 203, .func (.func 59) #[] #[], 3⟩, ⟨.int .i64 1, .func (.func 60) #[] #[], 4⟩, ⟨.int .i64 2, .func (.func 61) #[] #[], 5⟩]
def ent7 : Array MapEntry := #[⟨.int .i64 200, .func (.func 56) #[] #[], 0⟩, ⟨.int .i64 201, .func (.func 57) #[] #[], 1⟩, ⟨.int .i64 202, .func (.func 58) #[] #[], 2⟩, ⟨.int .i64 203, .func (.func 59) #[] #[], 3⟩, ⟨.int .i64 1, .func (.func 60) #[] #[], 4⟩, ⟨.int .i64 2, .func (.func 61) #[] #[], 5⟩, ⟨.int .i64 3, .func (.func 62) #[] #[], 6⟩]
def ent8 : Array MapEntry := #[⟨.int .i64 200, .func (.func 56) #[] #[], 0⟩, ⟨.int .i64 201, .func (.func 57) #[] #[], 1⟩, ⟨.int .i64 202, .func (.func 58) #[] #[], 2⟩, ⟨.int .i64 203, .func (.func 59) #[] #[], 3⟩, ⟨.int .i64 1, .func (.func 60) #[] #[], 4⟩, ⟨.int .i64 2, .func (.func 61) #[] #[], 5⟩, ⟨.int .i64 3, .func (.func 62) #[] #[], 6⟩, ⟨.int .i64 4, .func (.func 63) #[] #[], 7⟩]

set_option maxRecDepth 100000 in
set_option maxHeartbeats 1000000 in
theorem bodies_any (w : World) : Calls Tryd.prog 52 #[] w fun e w' => e = .returned (.map (some w.heap.size)) ∧ w'.heap[w.heap.size]? = some (.map ent8 8) ∧ Below w.heap.size w w' := by
  have hmm := @run_makeMap Tryd.prog
  have hm0 : (w.alloc (.map #[] 0)).heap[w.heap.size]? = some (.map ent0 0) := heap_alloc_new _ _
  have b0 : Hid (Below w.heap.size w (w.alloc (.map #[] 0))) := Lib.hid ((Below.refl _ _).alloc (Nat.le_refl _) _)
  go_enter Tryd.func52, Tryd.ntmps52
  go_wp2_with (first
    | ((with_reducible refine wpList_ins rfl (.tmp 1) (.const (.int .i64 200)) (.func 56) rfl w.heap.size ent0 0 rfl 200 rfl (.func (.func 56) #[] #[]) rfl ?_ rfl rfl ?_); exact hm0; intro w1 h1 g1; have b1 : Hid (Below w.heap.size w w1) := Lib.hid (b0.out.grown g1 (by simp) (fun q hq => by injection hq with hq; omega)); clear g1)
    | ((with_reducible refine wpList_ins rfl (.tmp 1) (.const (.int .i64 201)) (.func 57) rfl w.heap.size ent1 1 rfl 201 rfl (.func (.func 57) #[] #[]) rfl ?_ rfl rfl ?_); exact h1; intro w2 h2 g2; have b2 : Hid (Below w.heap.size w w2) := Lib.hid (b1.out.grown g2 b1.out.size (fun q hq => by injection hq with hq; omega)); clear g2)
    | ((with_reducible refine wpList_ins rfl (.tmp 1) (.const (.int .i64 202)) (.func 58) rfl w.heap.size ent2 2 rfl 202 rfl (.func (.func 58) #[] #[]) rfl ?_ rfl rfl ?_); exact h2; intro w3 h3 g3; have b3 : Hid (Below w.heap.size w w3) := Lib.hid (b2.out.grown g3 b2.out.size (fun q hq => by injection hq with hq; omega)); clear g3)
    | ((with_reducible refine wpList_ins rfl (.tmp 1) (.const (.int .i64 203)) (.func 59) rfl w.heap.size ent3 3 rfl 203 rfl (.func (.func 59) #[] #[]) rfl ?_ rfl rfl ?_); exact h3; intro w4 h4 g4; have b4 : Hid (Below w.heap.size w w4) := Lib.hid (b3.out.grown g4 b3.out.size (fun q hq => by injection hq with hq; omega)); clear g4)
    | ((with_reducible refine wpList_ins rfl (.tmp 1) (.const (.int .i64 1)) (.func 60) rfl w.heap.size ent4 4 rfl 1 rfl (.func (.func 60) #[] #[]) rfl ?_ rfl rfl ?_); exact h4; intro w5 h5 g5; have b5 : Hid (Below w.heap.size w w5) := Lib.hid (b4.out.grown g5 b4.out.size (fun q hq => by injection hq with hq; omega)); clear g5)
    | ((with_reducible refine wpList_ins rfl (.tmp 1) (.const (.int .i64 2)) (.func 61) rfl w.heap.size ent5 5 rfl 2 rfl (.func (.func 61) #[] #[]) rfl ?_ rfl rfl ?_); exact h5; intro w6 h6 g6; have b6 : Hid (Below w.heap.size w w6) := Lib.hid (b5.out.grown g6 b5.out.size (fun q hq => by injection hq with hq; omega)); clear g6)
    | ((with_reducible refine wpList_ins rfl (.tmp 1) (.const (.int .i64 3)) (.func 62) rfl w.heap.size ent6 6 rfl 3 rfl (.func (.func 62) #[] #[]) rfl ?_ rfl rfl ?_); exact h6; intro w7 h7 g7; have b7 : Hid (Below w.heap.size w w7) := Lib.hid (b6.out.grown g7 b6.out.size (fun q hq => by injection hq with hq; omega)); clear g7)
    | ((with_reducible refine wpList_ins rfl (.tmp 1) (.const (.int .i64 4)) (.func 63) rfl w.heap.size ent7 7 rfl 4 rfl (.func (.func 63) #[] #[]) rfl ?_ rfl rfl ?_); exact h7; intro w8 h8 g8; have b8 : Hid (Below w.heap.size w w8) := Lib.hid (b7.out.grown g8 b7.out.size (fun q hq => by injection hq with hq; omega)); clear g8))
  go_ret
  exact ⟨rfl, h8, b8.out⟩
end Go.Proofs.YtacaempcbdekaaaDoor
