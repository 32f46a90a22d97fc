/- Contracts of package rtcp: what a packet has that its kind hasn't. No statement is proved here. -/
import Derived.Test.YtacaempcbdekaaaDoorZRtcp19
import Derived.Laws.ResultCell
namespace Go.Proofs.YtacaempcbdekaaaDoor
open Go.RowKit
set_option linter.unusedVariables false

/-- A struct and a number are handed back. -/
theorem ret_row2 {P : Program} {fn : Func} {R : Ending → World → Prop} {a : Act} {w : World} {p u : Tmp} {ty e : TypeId} {g : Nat} {cs : List Value} (h : fn.results = #[.cell p ty, .tmp u]) (hp : a.tmps.getD p undef = .pointer (some ⟨g, 0, none⟩))
    (hB : BlkV w g e cs) (hT : RowTy P ty cs.length) (hd : a.defers = []) (hR : R (.returned (.tuple #[.agg cs.toArray, a.tmps.getD u undef])) w) : bodyPost P fn R .ret a w := by
  obtain ⟨d, h1, h2, h3⟩ := hT
  refine bodyPost_ret (v := .tuple #[.agg cs.toArray, a.tmps.getD u undef]) ?_ hd hR
  rw [results_cell_tmp h, hp]
  simp only [asAddr, Sem.run_pure, Result.andThen]
  rw [run_loadVar_row w g e ty cs.toArray (0, 0) d hB h1 (by cases d <;> simp_all) (by simpa using h3)]
theorem twoB (w : World) (o : Obj) (cs : List Value) (e : TypeId) : BlkV ((w.alloc o).alloc (.cells cs.toArray e)) (w.heap.size + 1) e cs := by
  have h := BlkV.new (w.alloc o) e cs
  have : (w.alloc o).heap.size = w.heap.size + 1 := by show (w.heap.push o).size = _; simp
  rw [this] at h
  exact h
theorem twoBelow (w : World) (o o2 : Obj) : Below w.heap.size w ((w.alloc o).alloc o2) := ((Below.refl _ _).alloc (Nat.le_refl _) _).alloc (by show _ ≤ (w.heap.push o).size; simp) _
set_option maxRecDepth 100000 in
set_option maxHeartbeats 1000000 in
theorem besides_200 (so me ti st pa oc ra : Int) (A B C D E : Option Addr) (n1 n2 n3 n4 n5 a b c d e : Nat) (w : World) :
    Calls Tryd.prog 28 #[.agg #[.int .i64 200, .int .u32 so, .int .u32 me, .int .u64 ti, .int .u32 st, .int .u32 pa, .int .u32 oc, .slice A n1 a, .slice B n2 b, .slice C n3 c, .slice D n4 d, .slice E n5 e, .int .u64 ra]] w fun r w' =>
      r = .returned (.tuple #[.agg #[.int .i64 200, .int .u32 0, .int .u32 me, .int .u64 0, .int .u32 0, .int .u32 0, .int .u32 0, .slice none 0 0, .slice B n2 b, .slice C n3 c, .slice D n4 d, .slice E n5 e, .int .u64 ra], .bool true]) ∧ Below w.heap.size w w' := by
  go_enter Tryd.func28, Tryd.ntmps28
  go_wp2
  exact ret_row2 rfl rfl (twoB w _ [.int .i64 200, .int .u32 0, .int .u32 me, .int .u64 0, .int .u32 0, .int .u32 0, .int .u32 0, .slice none 0 0, .slice B n2 b, .slice C n3 c, .slice D n4 d, .slice E n5 e, .int .u64 ra] _) (rowCtl rfl) rfl ⟨rfl, twoBelow _ _ _⟩
set_option maxRecDepth 100000 in
set_option maxHeartbeats 1000000 in
theorem besides_201 (so me ti st pa oc ra : Int) (A B C D E : Option Addr) (n1 n2 n3 n4 n5 a b c d e : Nat) (w : World) :
    Calls Tryd.prog 28 #[.agg #[.int .i64 201, .int .u32 so, .int .u32 me, .int .u64 ti, .int .u32 st, .int .u32 pa, .int .u32 oc, .slice A n1 a, .slice B n2 b, .slice C n3 c, .slice D n4 d, .slice E n5 e, .int .u64 ra]] w fun r w' =>
      r = .returned (.tuple #[.agg #[.int .i64 201, .int .u32 0, .int .u32 me, .int .u64 ti, .int .u32 st, .int .u32 pa, .int .u32 oc, .slice none 0 0, .slice B n2 b, .slice C n3 c, .slice D n4 d, .slice E n5 e, .int .u64 ra], .bool true]) ∧ Below w.heap.size w w' := by
  go_enter Tryd.func28, Tryd.ntmps28
  go_wp2
  exact ret_row2 rfl rfl (twoB w _ [.int .i64 201, .int .u32 0, .int .u32 me, .int .u64 ti, .int .u32 st, .int .u32 pa, .int .u32 oc, .slice none 0 0, .slice B n2 b, .slice C n3 c, .slice D n4 d, .slice E n5 e, .int .u64 ra] _) (rowCtl rfl) rfl ⟨rfl, twoBelow _ _ _⟩
set_option maxRecDepth 100000 in
set_option maxHeartbeats 1000000 in
theorem besides_202 (so me ti st pa oc ra : Int) (A B C D E : Option Addr) (n1 n2 n3 n4 n5 a b c d e : Nat) (w : World) :
    Calls Tryd.prog 28 #[.agg #[.int .i64 202, .int .u32 so, .int .u32 me, .int .u64 ti, .int .u32 st, .int .u32 pa, .int .u32 oc, .slice A n1 a, .slice B n2 b, .slice C n3 c, .slice D n4 d, .slice E n5 e, .int .u64 ra]] w fun r w' =>
      r = .returned (.tuple #[.agg #[.int .i64 202, .int .u32 so, .int .u32 me, .int .u64 ti, .int .u32 st, .int .u32 pa, .int .u32 oc, .slice A n1 a, .slice none 0 0, .slice C n3 c, .slice D n4 d, .slice E n5 e, .int .u64 ra], .bool true]) ∧ Below w.heap.size w w' := by
  go_enter Tryd.func28, Tryd.ntmps28
  go_wp2
  exact ret_row2 rfl rfl (twoB w _ [.int .i64 202, .int .u32 so, .int .u32 me, .int .u64 ti, .int .u32 st, .int .u32 pa, .int .u32 oc, .slice A n1 a, .slice none 0 0, .slice C n3 c, .slice D n4 d, .slice E n5 e, .int .u64 ra] _) (rowCtl rfl) rfl ⟨rfl, twoBelow _ _ _⟩
set_option maxRecDepth 100000 in
set_option maxHeartbeats 1000000 in
theorem besides_203 (so me ti st pa oc ra : Int) (A B C D E : Option Addr) (n1 n2 n3 n4 n5 a b c d e : Nat) (w : World) :
    Calls Tryd.prog 28 #[.agg #[.int .i64 203, .int .u32 so, .int .u32 me, .int .u64 ti, .int .u32 st, .int .u32 pa, .int .u32 oc, .slice A n1 a, .slice B n2 b, .slice C n3 c, .slice D n4 d, .slice E n5 e, .int .u64 ra]] w fun r w' =>
      r = .returned (.tuple #[.agg #[.int .i64 203, .int .u32 so, .int .u32 me, .int .u64 ti, .int .u32 st, .int .u32 pa, .int .u32 oc, .slice A n1 a, .slice B n2 b, .slice none 0 0, .slice D n4 d, .slice E n5 e, .int .u64 ra], .bool true]) ∧ Below w.heap.size w w' := by
  go_enter Tryd.func28, Tryd.ntmps28
  go_wp2
  exact ret_row2 rfl rfl (twoB w _ [.int .i64 203, .int .u32 so, .int .u32 me, .int .u64 ti, .int .u32 st, .int .u32 pa, .int .u32 oc, .slice A n1 a, .slice B n2 b, .slice none 0 0, .slice D n4 d, .slice E n5 e, .int .u64 ra] _) (rowCtl rfl) rfl ⟨rfl, twoBelow _ _ _⟩
set_option maxRecDepth 100000 in
set_option maxHeartbeats 1000000 in
theorem besides_1 (so me ti st pa oc ra : Int) (A B C D E : Option Addr) (n1 n2 n3 n4 n5 a b c d e : Nat) (w : World) :
    Calls Tryd.prog 28 #[.agg #[.int .i64 1, .int .u32 so, .int .u32 me, .int .u64 ti, .int .u32 st, .int .u32 pa, .int .u32 oc, .slice A n1 a, .slice B n2 b, .slice C n3 c, .slice D n4 d, .slice E n5 e, .int .u64 ra]] w fun r w' =>
      r = .returned (.tuple #[.agg #[.int .i64 1, .int .u32 0, .int .u32 0, .int .u64 ti, .int .u32 st, .int .u32 pa, .int .u32 oc, .slice A n1 a, .slice B n2 b, .slice C n3 c, .slice none 0 0, .slice E n5 e, .int .u64 ra], .bool true]) ∧ Below w.heap.size w w' := by
  go_enter Tryd.func28, Tryd.ntmps28
  go_wp2
  exact ret_row2 rfl rfl (twoB w _ [.int .i64 1, .int .u32 0, .int .u32 0, .int .u64 ti, .int .u32 st, .int .u32 pa, .int .u32 oc, .slice A n1 a, .slice B n2 b, .slice C n3 c, .slice none 0 0, .slice E n5 e, .int .u64 ra] _) (rowCtl rfl) rfl ⟨rfl, twoBelow _ _ _⟩
set_option maxRecDepth 100000 in
set_option maxHeartbeats 1000000 in
theorem besides_2 (so me ti st pa oc ra : Int) (A B C D E : Option Addr) (n1 n2 n3 n4 n5 a b c d e : Nat) (w : World) :
    Calls Tryd.prog 28 #[.agg #[.int .i64 2, .int .u32 so, .int .u32 me, .int .u64 ti, .int .u32 st, .int .u32 pa, .int .u32 oc, .slice A n1 a, .slice B n2 b, .slice C n3 c, .slice D n4 d, .slice E n5 e, .int .u64 ra]] w fun r w' =>
      r = .returned (.tuple #[.agg #[.int .i64 2, .int .u32 0, .int .u32 0, .int .u64 ti, .int .u32 st, .int .u32 pa, .int .u32 oc, .slice A n1 a, .slice B n2 b, .slice C n3 c, .slice D n4 d, .slice E n5 e, .int .u64 ra], .bool true]) ∧ Below w.heap.size w w' := by
  go_enter Tryd.func28, Tryd.ntmps28
  go_wp2
  exact ret_row2 rfl rfl (twoB w _ [.int .i64 2, .int .u32 0, .int .u32 0, .int .u64 ti, .int .u32 st, .int .u32 pa, .int .u32 oc, .slice A n1 a, .slice B n2 b, .slice C n3 c, .slice D n4 d, .slice E n5 e, .int .u64 ra] _) (rowCtl rfl) rfl ⟨rfl, twoBelow _ _ _⟩
set_option maxRecDepth 100000 in
set_option maxHeartbeats 1000000 in
theorem besides_3 (so me ti st pa oc ra : Int) (A B C D E : Option Addr) (n1 n2 n3 n4 n5 a b c d e : Nat) (w : World) :
    Calls Tryd.prog 28 #[.agg #[.int .i64 3, .int .u32 so, .int .u32 me, .int .u64 ti, .int .u32 st, .int .u32 pa, .int .u32 oc, .slice A n1 a, .slice B n2 b, .slice C n3 c, .slice D n4 d, .slice E n5 e, .int .u64 ra]] w fun r w' =>
      r = .returned (.tuple #[.agg #[.int .i64 3, .int .u32 0, .int .u32 me, .int .u64 ti, .int .u32 st, .int .u32 pa, .int .u32 oc, .slice A n1 a, .slice B n2 b, .slice C n3 c, .slice D n4 d, .slice none 0 0, .int .u64 ra], .bool true]) ∧ Below w.heap.size w w' := by
  go_enter Tryd.func28, Tryd.ntmps28
  go_wp2
  exact ret_row2 rfl rfl (twoB w _ [.int .i64 3, .int .u32 0, .int .u32 me, .int .u64 ti, .int .u32 st, .int .u32 pa, .int .u32 oc, .slice A n1 a, .slice B n2 b, .slice C n3 c, .slice D n4 d, .slice none 0 0, .int .u64 ra] _) (rowCtl rfl) rfl ⟨rfl, twoBelow _ _ _⟩
set_option maxRecDepth 100000 in
set_option maxHeartbeats 1000000 in
theorem besides_4 (so me ti st pa oc ra : Int) (A B C D E : Option Addr) (n1 n2 n3 n4 n5 a b c d e : Nat) (w : World) :
    Calls Tryd.prog 28 #[.agg #[.int .i64 4, .int .u32 so, .int .u32 me, .int .u64 ti, .int .u32 st, .int .u32 pa, .int .u32 oc, .slice A n1 a, .slice B n2 b, .slice C n3 c, .slice D n4 d, .slice E n5 e, .int .u64 ra]] w fun r w' =>
      r = .returned (.tuple #[.agg #[.int .i64 4, .int .u32 0, .int .u32 me, .int .u64 ti, .int .u32 st, .int .u32 pa, .int .u32 oc, .slice A n1 a, .slice B n2 b, .slice none 0 0, .slice D n4 d, .slice E n5 e, .int .u64 0], .bool true]) ∧ Below w.heap.size w w' := by
  go_enter Tryd.func28, Tryd.ntmps28
  go_wp2
  exact ret_row2 rfl rfl (twoB w _ [.int .i64 4, .int .u32 0, .int .u32 me, .int .u64 ti, .int .u32 st, .int .u32 pa, .int .u32 oc, .slice A n1 a, .slice B n2 b, .slice none 0 0, .slice D n4 d, .slice E n5 e, .int .u64 0] _) (rowCtl rfl) rfl ⟨rfl, twoBelow _ _ _⟩
set_option maxRecDepth 100000 in
set_option maxHeartbeats 1000000 in
theorem besides_none (k : Int) (h200 : ¬ k = 200) (h201 : ¬ k = 201) (h202 : ¬ k = 202) (h203 : ¬ k = 203) (h1 : ¬ k = 1) (h2 : ¬ k = 2) (h3 : ¬ k = 3) (h4 : ¬ k = 4) (so me ti st pa oc ra : Int) (A B C D E : Option Addr) (n1 n2 n3 n4 n5 a b c d e : Nat) (w : World) :
    Calls Tryd.prog 28 #[.agg #[.int .i64 k, .int .u32 so, .int .u32 me, .int .u64 ti, .int .u32 st, .int .u32 pa, .int .u32 oc, .slice A n1 a, .slice B n2 b, .slice C n3 c, .slice D n4 d, .slice E n5 e, .int .u64 ra]] w fun r w' =>
      r = .returned (.tuple #[.agg #[.int .i64 0, .int .u32 0, .int .u32 0, .int .u64 0, .int .u32 0, .int .u32 0, .int .u32 0, .slice none 0 0, .slice none 0 0, .slice none 0 0, .slice none 0 0, .slice none 0 0, .int .u64 0], .bool false]) ∧ Below w.heap.size w w' := by
  go_enter Tryd.func28, Tryd.ntmps28
  go_wp2
  exact ret_row2 rfl rfl (twoB w _ [.int .i64 0, .int .u32 0, .int .u32 0, .int .u64 0, .int .u32 0, .int .u32 0, .int .u32 0, .slice none 0 0, .slice none 0 0, .slice none 0 0, .slice none 0 0, .slice none 0 0, .int .u64 0] _) (rowCtl rfl) rfl ⟨rfl, twoBelow _ _ _⟩
end Go.Proofs.YtacaempcbdekaaaDoor
