/- What the document's answers for layer 20 (tenailleref20) answer: a tick's asking, its walk. No statement is proved here. -/
import Derived.Test.YtkmacpmdgbhhkaaLosR8
import Derived.Test.YtkmacpmdgbhhkaaApp
import Derived.Deep.RegionLaw
namespace Go.Proofs.Ytkmacpmdgbhhkaa
open Go.RowKit
set_option linter.unusedVariables false

theorem e16K : ElT 33 43 1 := elT (by8 := 2) (z := .int .u16 0) Try.underlying43 (by kernel_rfl) (by omega) rfl (by omega)
theorem hcells_one (L : List Nat) : ∀ u ∈ hcells L, u.oneCell' = true := by
  intro u hu
  unfold hcells at hu
  obtain ⟨x, _, rfl⟩ := List.mem_map.1 hu
  rfl
/-- The cells of a keeper under way, k being a place. -/
theorem Way20.cells {w : World} {g : Nat} {F : Nat → Prop} {p hh : Int} {M : List Mis} {vI vT vN : Value} {wr : World} (h : Way20 w g F ⟨p, hh, M⟩ vI vT vN wr) (k : Nat) (hk : k < M.length) :
    ∃ bI bT bN cI cT cN, vI = .slice (some ⟨bI, 0, none⟩) M.length cI ∧ vT = .slice (some ⟨bT, 0, none⟩) M.length cT ∧ vN = .slice (some ⟨bN, 0, none⟩) M.length cN ∧
      ∀ wx, Below wr.heap.size wr wx → wx.cell? ⟨g, 0, none⟩ = some (.int .i64 p) ∧ wx.cell? ⟨g, 2, none⟩ = some (.slice (some ⟨bI, 0, none⟩) M.length cI) ∧ wx.cell? ⟨g, 3, none⟩ = some (.slice (some ⟨bT, 0, none⟩) M.length cT) ∧ wx.cell? ⟨g, 4, none⟩ = some (.slice (some ⟨bN, 0, none⟩) M.length cN) ∧ wx.cell? ⟨bI, k, none⟩ = some (.int .i64 M[k].i) ∧ wx.cell? ⟨bT, k, none⟩ = some (.int .i64 M[k].t) ∧ wx.cell? ⟨bN, k, none⟩ = some (.int .i64 M[k].n) := by
  have hn : 0 < M.length := by omega
  obtain ⟨bI, cI, rfl, _, _, _⟩ := own_ints h.kp.oi hn
  obtain ⟨bT, cT, rfl, _, _, _⟩ := own_ints h.kp.ot hn
  obtain ⟨bN, cN, rfl, _, _, _⟩ := own_ints h.kp.on hn
  refine ⟨bI, bT, bN, cI, cT, cN, rfl, rfl, rfl, fun wx hb => ?_⟩
  have K := h.kp.below hb
  obtain ⟨bI2, cI2, e1, _, _, h1⟩ := own_ints K.oi hn
  obtain ⟨bT2, cT2, e2, _, _, h2⟩ := own_ints K.ot hn
  obtain ⟨bN2, cN2, e3, _, _, h3⟩ := own_ints K.on hn
  cases e1; cases e2; cases e3
  refine ⟨K.c0, K.c2, K.c3, K.c4, ?_, ?_, ?_⟩
  · rw [h1 k hk]; simp [List.getD, hk]
  · rw [h2 k hk]; simp [List.getD, hk]
  · rw [h3 k hk]; simp [List.getD, hk]
end Go.Proofs.Ytkmacpmdgbhhkaa
