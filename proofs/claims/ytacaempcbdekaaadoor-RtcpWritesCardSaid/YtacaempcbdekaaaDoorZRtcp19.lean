/- Contracts of package rtcp: how long a packet's lists are, whether it is blank, a rate's bytes. No statement is proved here. -/
import Derived.Test.YtacaempcbdekaaaDoorZD
namespace Go.Proofs.YtacaempcbdekaaaDoor
open Go.RowKit
set_option linter.unusedVariables false

/-- A packet by value, boxed: its cells. -/
theorem box_facts (w : World) (cs : List Value) (c : Ctl) (h : CtRd w cs c) : BlkV (w.alloc (.cells cs.toArray 50)) w.heap.size 50 cs ∧ CtRd (w.alloc (.cells cs.toArray 50)) cs c ∧ Below w.heap.size w (w.alloc (.cells cs.toArray 50)) :=
  ⟨BlkV.new _ _ _, h.below ((Below.refl _ _).alloc (Nat.le_refl _) _), (Below.refl _ _).alloc (Nat.le_refl _) _⟩

theorem ite_max (a b : Int) : (if b > a then b else a) = max a b := by split <;> omega

theorem run_max5 (P : Program) (a1 : Array TypeId) (t : TypeId) (a b c d e : Int) (w : World) : Sem.run P (Builtin.max_ a1 t #[.int .i64 a, .int .i64 b, .int .i64 c, .int .i64 d, .int .i64 e]) w = .ok (.int .i64 (max (max (max (max a b) c) d) e)) w := by
  simp only [Builtin.max_, List.foldlM, Builtin.max2, Sem.run_pure, pure_bind, ite_max]

set_option maxRecDepth 100000 in
set_option maxHeartbeats 1000000 in
theorem longest_any (cs : List Value) (c : Ctl) (w : World) (h : CtRd w cs c) :
    Calls Tryd.prog 38 #[.agg cs.toArray] w fun r w' => r = .returned (.int .i64 (longN c : Int)) ∧ Below w.heap.size w w' := by
  obtain ⟨B0, _, b0⟩ := box_facts w cs c h
  obtain ⟨A, a, B, b', C, c', D, d, E, e, h0, _⟩ := h
  have k7 : (w.alloc (.cells cs.toArray 50)).cell? ⟨w.heap.size, 7, none⟩ = some (.slice A c.reps.length a) := by rw [B0.cell, h0]; rfl
  have k8 : (w.alloc (.cells cs.toArray 50)).cell? ⟨w.heap.size, 8, none⟩ = some (.slice B c.nams.length b') := by rw [B0.cell, h0]; rfl
  have k9 : (w.alloc (.cells cs.toArray 50)).cell? ⟨w.heap.size, 9, none⟩ = some (.slice C c.srcs.length c') := by rw [B0.cell, h0]; rfl
  have ka : (w.alloc (.cells cs.toArray 50)).cell? ⟨w.heap.size, 10, none⟩ = some (.slice D c.loss.length d) := by rw [B0.cell, h0]; rfl
  have kb : (w.alloc (.cells cs.toArray 50)).cell? ⟨w.heap.size, 11, none⟩ = some (.slice E c.firs.length e) := by rw [B0.cell, h0]; rfl
  have hL : longN c = max (max (max (max c.reps.length c.nams.length) c.srcs.length) c.loss.length) c.firs.length := rfl
  obtain ⟨n1, h1⟩ : ∃ n, n = c.reps.length := ⟨_, rfl⟩
  obtain ⟨n2, h2⟩ : ∃ n, n = c.nams.length := ⟨_, rfl⟩
  obtain ⟨n3, h3⟩ : ∃ n, n = c.srcs.length := ⟨_, rfl⟩
  obtain ⟨n4, h4⟩ : ∃ n, n = c.loss.length := ⟨_, rfl⟩
  obtain ⟨n5, h5⟩ : ∃ n, n = c.firs.length := ⟨_, rfl⟩
  rw [← h1] at k7 hL
  rw [← h2] at k8 hL
  rw [← h3] at k9 hL
  rw [← h4] at ka hL
  rw [← h5] at kb hL
  obtain ⟨N, hN⟩ : ∃ N, N = longN c := ⟨_, rfl⟩
  rw [← hN] at hL ⊢
  have e5 : max (max (max (max (n1 : Int) n2) n3) n4) n5 = (N : Int) := by omega
  clear h0 h1 h2 h3 h4 h5 hN hL B0
  go_enter Tryd.func38, Tryd.ntmps38
  go_wp2
  rw [run_max5, e5]
  go_wp2
  go_ret
  exact ⟨rfl, b0⟩
end Go.Proofs.YtacaempcbdekaaaDoor
