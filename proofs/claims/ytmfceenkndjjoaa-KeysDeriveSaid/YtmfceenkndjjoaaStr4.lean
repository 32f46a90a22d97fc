/- Contracts of package stream: bytes ciphered, a way's first counter. No statement is proved here. -/
import Derived.Test.YtmfceenkndjjoaaStr3
import Derived.Test.YtmfceenkndjjoaaOct
namespace Go.Proofs.Ytmfceenkndjjoaa
open Go.RowKit
set_option linter.unusedVariables false

theorem boxes2 (w : World) (key c : List UInt8) : Below w.heap.size w ((w.alloc (Obj.cells (cells key).toArray 22)).alloc (Obj.cells (cells c).toArray 22)) ∧
    Blk ((w.alloc (Obj.cells (cells key).toArray 22)).alloc (Obj.cells (cells c).toArray 22)) w.heap.size 22 key ∧
    Blk ((w.alloc (Obj.cells (cells key).toArray 22)).alloc (Obj.cells (cells c).toArray 22)) (w.heap.size + 1) 22 c :=
  ⟨((Below.refl _ _).alloc (Nat.le_refl _) _).alloc (by simp) _, (Blk.new _ _ _).alloc _, Blk.new_at _ _ _ _ _ (by simp) rfl⟩

/-- Fourteen zeros, and their type. -/
theorem row14_ : RowTy Try.prog 23 14 := ⟨_, Try.underlying23, rfl, by kernel_rfl⟩
theorem row14 {n : Nat} (h : n = 14) : RowTy Try.prog 23 n := h ▸ row14_
theorem first_boxes (w : World) (salt : List UInt8) : Below w.heap.size w (((w.alloc (Obj.cells (cells salt).toArray 23)).alloc (Obj.cells (cells Z16).toArray 22)).alloc (Obj.cells (cells Z16).toArray 22)) ∧
    Blk (((w.alloc (Obj.cells (cells salt).toArray 23)).alloc (Obj.cells (cells Z16).toArray 22)).alloc (Obj.cells (cells Z16).toArray 22)) w.heap.size 23 salt ∧
    Blk (((w.alloc (Obj.cells (cells salt).toArray 23)).alloc (Obj.cells (cells Z16).toArray 22)).alloc (Obj.cells (cells Z16).toArray 22)) (w.heap.size + 1) 22 Z16 ∧
    Blk (((w.alloc (Obj.cells (cells salt).toArray 23)).alloc (Obj.cells (cells Z16).toArray 22)).alloc (Obj.cells (cells Z16).toArray 22)) (w.heap.size + 1 + 1) 22 Z16 :=
  ⟨(((Below.refl _ _).alloc (Nat.le_refl _) _).alloc (by simp) _).alloc (by simp; omega) _, ((Blk.new _ _ _).alloc _).alloc _, (Blk.new_at _ _ _ _ _ (by simp) rfl).alloc _, Blk.new_at _ _ _ _ _ (by simp) rfl⟩
theorem salt_splice (salt : List UInt8) (h : salt.length = 14) : splice (cells Z16) 0 (cells (salt.take 14)) = cells (saltZ salt) := by
  rw [List.take_of_length_le (by omega), splice, saltZ, cells_append]
  simp [cells, h, Z16]

end Go.Proofs.Ytmfceenkndjjoaa
