/- Plain words, for any program: a byte of an array that a slot holds; slices of slices of bytes that read. No statement is proved here. -/
import Derived.Test.YtmfceenkndjjoaaMem2
import Derived.Laws.Cover3
namespace Go.Proofs.Ytmfceenkndjjoaa
open Go.RowKit

theorem run_index_cells {P : Program} (t e : TypeId) (n : Nat) (h : P.underlying t = some (.array n e)) (he : P.underlying e = some (.int .u8)) (hs : ∀ w, (sizeOf e).run P w = .ok 1 w) (bs : List UInt8) (hl : bs.length = n) (k : Nat) (hk : k < n) (w : World) :
    (Instr.index t (.agg (cells bs).toArray) (.int .i64 (k : Int))).run P w = .ok (.int .u8 ((bs.getD k 0).toNat : Int)) w := by
  have hc : (cells bs).toArray[k]? = some (.int .u8 ((bs.getD k 0).toNat : Int)) := by
    rw [List.getElem?_toArray]; exact cells_at (by omega)
  have h1 : 0 ≤ (k : Int) ∧ (k : Int) < (n : Int) := by omega
  simp only [Instr.index, asIntOf, Sem.run_bind, Sem.run_pure, Result.andThen_ok, run_underlying h, h1, and_self, if_true, hs, part, isAgg, run_underlying he, Int.toNat_natCast, Nat.mul_one, hc]
  simp
section
variable {P : Program} {w : World} {ops : Array Oper} {rest : List Oper} {op : Oper} {a : Act} {Q : Exit → Act → World → Prop}
/-- 'arr[l:h]' of an array that lies at o of block g. -/
theorem wpList_acut2 (hgd : op.guard = none) (t : TypeId) (x lo hi : Operand) (ho : op.op = .slice t x (some lo) (some hi) none) (ht : P.underlying t = some (.array (P.arrayLen t) (P.elem t))) (hs : ∀ w, (sizeOf (P.elem t)).run P w = .ok 1 w)
    (N : Nat) (hN : P.arrayLen t = N) (g o : Nat) (hx : a.eval x = .pointer (some ⟨g, o, none⟩)) (l h : Nat) (i j : Int) (hlo : a.eval lo = .int .i64 i) (hhi : a.eval hi = .int .i64 j) (hi1 : i = (l : Int)) (hj1 : j = (h : Int)) (hlh : l ≤ h) (hl : l < N) (hh : h ≤ N)
    (hK : wpList P ops Q rest (a.put op.dst (.slice (some ⟨g, o + l, none⟩) (h - l) (N - l))) w) : wpList P ops Q (op :: rest) a w := by
  subst hi1; subst hj1
  refine wpList_plain hgd fun K hK2 => ?_
  unfold Oper.wp execOp
  simp only [ho, hx, Option.map_some, Option.map_none, hlo, hhi, Sem.run_bind, run_sliceAt_array_lh w t ⟨g, o, none⟩ ht .i64 .i64 (l : Int) (h : Int) (by omega) (by omega) (by omega), hs, Result.andThen_ok, Sem.run_pure, slicedAt, Int.toNat_natCast, hN, add_lit, Nat.mul_one]
  rw [if_neg (by omega)]
  exact hK2 _ _ hK
/-- A slice as an array's address. -/
theorem wpList_toarr (hgd : op.guard = none) (arr e : TypeId) (n : Nat) (x : Operand) (ho : op.op = .sliceToArrayPointer arr x) (ht : P.underlying arr = some (.array n e)) (A : Option Addr) (len cap : Nat) (hx : a.eval x = .slice A len cap) (hn : n ≤ len)
    (hK : wpList P ops Q rest (a.put op.dst (.pointer A)) w) : wpList P ops Q (op :: rest) a w := by
  refine wpList_plain hgd fun K hK2 => ?_
  unfold Oper.wp execOp
  simp only [ho, hx, Sem.run_bind, run_arrayAt _ arr e n A len cap ht hn, Result.andThen_ok, Sem.run_pure]
  exact hK2 _ _ hK
/-- A struct or an array made of one part. -/
theorem wpList_built1 (hgd : op.guard = none) (t : TypeId) (i : Nat) (x : Operand) (ho : op.op = .build t #[(i, x)]) (u v : Value) (hx : a.eval x = u) (hr : (Instr.build t #[(i, u)]).run P w = .ok v w)
    (hK : wpList P ops Q rest (a.put op.dst v) w) : wpList P ops Q (op :: rest) a w := by
  refine wpList_plain hgd fun K hK2 => ?_
  unfold Oper.wp execOp
  simp only [ho, List.map_toArray, List.map_cons, List.map_nil, hx, Sem.run_bind, hr, Result.andThen_ok, Sem.run_pure]
  exact hK2 _ _ hK
end
end Go.Proofs.Ytmfceenkndjjoaa
