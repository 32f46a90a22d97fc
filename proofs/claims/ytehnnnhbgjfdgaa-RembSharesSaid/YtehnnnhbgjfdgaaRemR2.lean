/- The document's sharing. No statement is proved here. -/
import Derived.Test.YtehnnnhbgjfdgaaRemR1
import Derived.Laws.MakeOwn
namespace Go.Proofs.Ytehnnnhbgjfdgaa
open Go.RowKit
set_option linter.unusedVariables false

theorem made_ints (n : Nat) : madeCells #[.int .i64 0] n = (icells (List.replicate n 0)).toArray := by
  have e : icells (List.replicate n 0) = List.replicate n (.int .i64 0) := by simp [icells]
  rw [e, ← Array.toList_inj, toList_madeCells_one]
/-- 'make([]int, n)'. -/
theorem run_makeI {P : Program} {t e : TypeId} (ht : P.underlying t = some (.slice e)) (hi : (P.info? e).map (fun i => (i.zero, i.size, i.bytes)) = some (some (.int .i64 0), 1, 8))
    (kl kc : IntKind) (l c : Int) (n : Nat) (hl : l = n) (hc : c = n) (hb : n ≤ 1000000000) (w : World) :
    (Instr.makeSlice t (.int kl l) (.int kc c)).run P w = .ok (.slice (some ⟨w.heap.size, 0, none⟩) n n) (w.alloc (.cells (icells (List.replicate n 0)).toArray e)) := by
  subst hl; subst hc
  obtain ⟨i, hi, hz, hs, hby⟩ := info_parts hi
  have := run_make (P := P) w t e i _ ht hi hz kl kc n n (by omega) (Int.le_refl _) (by rw [hby]; omega) (by omega)
  rw [this, hs]
  simp [Value.cells, made_ints]
/-- A row of int64 of the call's own, in block p. -/
structure OutR (w : World) (p : Nat) (e : TypeId) (O : List Int) (wx : World) : Prop where
  blk : BlkV wx p e (icells O)
  below : Below w.heap.size w wx
  own : w.heap.size ≤ p
/-- What lies there, as numbers. -/
def rowOf (w : World) (p : Nat) : List Int := match w.heap[p]? with | some (.cells cs _ _) => cs.toList.map intOf | _ => []
section
variable {w wx : World} {p k : Nat} {e : TypeId} {O : List Int}
theorem OutR.set_ (h : OutR w p e O wx) (x : Int) : OutR w p e (O.set k x) (wx.setCell ⟨p, k, none⟩ (.int .i64 x)) := by
  have h1 := h.blk.set_ k (.int .i64 x)
  have e1 : (icells O).set k (.int .i64 x) = icells (O.set k x) := by simp [icells, List.map_set]
  rw [e1] at h1
  exact ⟨h1, h.below.setCell (p := ⟨p, k, none⟩) h.own _, h.own⟩
theorem OutR.at_ (h : OutR w p e O wx) (hk : k < O.length) : wx.cell? ⟨p, k, none⟩ = some (.int .i64 (O.getD k 0)) := by rw [h.blk.cell, icells_at hk]
theorem OutR.free (h : OutR w p e O wx) : wx.frozen? ⟨p, k, none⟩ = false := h.blk.frozen k
theorem OutR.drewN (h : OutR w p e O wx) (q : Nat) : OutR w p e O (wx.drewN q) := ⟨h.blk, ⟨h.below.os, h.below.tape, h.below.output, h.below.size, h.below.block⟩, h.own⟩
theorem OutR.row (h : OutR w p e O wx) : rowOf wx p = O := by
  have h1 := h.blk
  unfold BlkV at h1
  unfold rowOf
  rw [h1]
  simp [icells, Function.comp_def, intOf]
theorem OutR.rd (h : OutR w p e O wx) : RdJ wx (some ⟨p, 0, none⟩) O.length O := ⟨rfl, fun _ => ⟨p, 0, rfl, h.blk.lt, fun j hj => by rw [Nat.zero_add]; exact h.at_ hj⟩⟩
end
end Go.Proofs.Ytehnnnhbgjfdgaa
