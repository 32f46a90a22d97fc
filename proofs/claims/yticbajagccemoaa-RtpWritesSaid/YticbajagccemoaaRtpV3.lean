/- What the document's answer for layer 10 (tenailleref10) writes, or that it may not be. No statement is proved here. -/
import Derived.Test.YticbajagccemoaaRtpV2
namespace Go.Proofs.Yticbajagccemoaa
open Go.RowKit
set_option linter.unusedVariables false

set_option maxRecDepth 100000 in
set_option maxHeartbeats 2000000 in
theorem rwrite_bad (cs : List Value) (p : Pkt) (w : World) (h : PkRd w cs p) (c6 : ¬ (p.ty ≤ 127 ∧ p.ot.length ≤ 15 ∧ (p.x = true ∨ (p.xt.length = 0 ∧ p.pf = 0)) ∧ p.xt.length % 4 = 0 ∧ p.xt.length ≤ 1020)) (ho : p.ot.length ≤ 1000000) (hxt : p.xt.length ≤ 1000000) :
    Calls Try.prog 13 #[.agg cs.toArray] w fun e w' => e = .returned (.tuple #[.slice none 0 0, .bool false]) ∧ Below w.heap.size w w' := by
  obtain ⟨A1, a1, B1, b1, D1, d1, e1, u1, x1, y1⟩ := h
  obtain ⟨m, ty, sq, st, so, U, x, pf, X, Y, pd⟩ := p
  simp only at c6 ho hxt e1
  have HW : Hid (Below w.heap.size w (w.alloc (.cells cs.toArray 28))) := Lib.hid ((Below.refl _ _).alloc (Nat.le_refl _) _)
  have hB := BlkV.new w 28 cs
  have k1 : (w.alloc (.cells cs.toArray 28)).cell? ⟨w.heap.size, 1, none⟩ = some (.int .u8 (ty : Int)) := by rw [hB.cell, e1]; rfl
  have k5 : (w.alloc (.cells cs.toArray 28)).cell? ⟨w.heap.size, 5, none⟩ = some (.slice A1 U.length a1) := by rw [hB.cell, e1]; rfl
  have k6 : (w.alloc (.cells cs.toArray 28)).cell? ⟨w.heap.size, 6, none⟩ = some (.bool x) := by rw [hB.cell, e1]; rfl
  have k7 : (w.alloc (.cells cs.toArray 28)).cell? ⟨w.heap.size, 7, none⟩ = some (.int .u16 (pf : Int)) := by rw [hB.cell, e1]; rfl
  have k8 : (w.alloc (.cells cs.toArray 28)).cell? ⟨w.heap.size, 8, none⟩ = some (.slice B1 X.length b1) := by rw [hB.cell, e1]; rfl
  obtain ⟨K, hK⟩ : ∃ K, K = U.length := ⟨_, rfl⟩
  obtain ⟨M, hM⟩ : ∃ M, M = X.length := ⟨_, rfl⟩
  rw [← hK] at ho k5 c6
  simp only [← hM] at hxt k8 c6
  clear e1 hB u1 x1 y1 hK hM
  have hway : 127 < ty ∨ (ty ≤ 127 ∧ 15 < K) ∨ (ty ≤ 127 ∧ K ≤ 15 ∧ ((M : Int) % 4 != 0) = true) ∨ (ty ≤ 127 ∧ K ≤ 15 ∧ ((M : Int) % 4 != 0) = false ∧ 1020 < M) ∨
      (ty ≤ 127 ∧ K ≤ 15 ∧ ((M : Int) % 4 != 0) = false ∧ M ≤ 1020 ∧ x = false ∧ 0 < M) ∨ (ty ≤ 127 ∧ K ≤ 15 ∧ x = false ∧ M = 0 ∧ 0 < pf) := by
    by_cases h1 : 127 < ty
    · exact .inl h1
    by_cases h2 : 15 < K
    · exact .inr (.inl ⟨by omega, h2⟩)
    by_cases h4 : M % 4 = 0
    · by_cases h5 : 1020 < M
      · exact .inr (.inr (.inr (.inl ⟨by omega, by omega, by simp; omega, h5⟩)))
      · have hx : x = false := by
          cases hx : x
          · rfl
          · exact absurd ⟨by omega, by omega, .inl hx, h4, by omega⟩ c6
        by_cases h3 : 0 < M
        · exact .inr (.inr (.inr (.inr (.inl ⟨by omega, by omega, by simp; omega, by omega, hx, h3⟩))))
        · refine .inr (.inr (.inr (.inr (.inr ⟨by omega, by omega, hx, by omega, ?_⟩))))
          have hM0 : M = 0 := by omega
          have : pf ≠ 0 := fun h => c6 ⟨by omega, by omega, .inr ⟨hM0, h⟩, by omega, by omega⟩
          omega
    · exact .inr (.inr (.inl ⟨by omega, by omega, by simp; omega⟩))
  clear c6
  rcases hway with g1 | ⟨g1, g2⟩ | ⟨g1, g2, g3⟩ | ⟨g1, g2, g3, g4⟩ | ⟨g1, g2, g3, g4, rfl, g5⟩ | ⟨g1, g2, rfl, rfl, g3⟩
  · go_enter Try.func13, Try.ntmps13
    go_wp2
    go_ret2
    exact ⟨rfl, HW.out⟩
  · go_enter Try.func13, Try.ntmps13
    go_wp2
    go_ret2
    exact ⟨rfl, HW.out⟩
  · go_enter Try.func13, Try.ntmps13
    go_wp2
    go_ret2
    exact ⟨rfl, HW.out⟩
  · go_enter Try.func13, Try.ntmps13
    go_wp2
    go_ret2
    exact ⟨rfl, HW.out⟩
  · go_enter Try.func13, Try.ntmps13
    go_wp2
    go_ret2
    exact ⟨rfl, HW.out⟩
  · go_enter Try.func13, Try.ntmps13
    go_wp2
    go_ret2
    exact ⟨rfl, HW.out⟩

theorem rwrite_any (cs : List Value) (p : Pkt) (w : World) (h : PkRd w cs p) (m1 : p.ty ≤ 127) (m2 : p.ot.length ≤ 15) (m3 : p.x = true ∨ (p.xt.length = 0 ∧ p.pf = 0)) (m4 : p.xt.length % 4 = 0) (m5 : p.xt.length ≤ 1020) (hf : fits p) (mp : p.pl.length ≤ 10000) :
    Calls Try.prog 13 #[.agg cs.toArray] w fun e w' => (((wrB p).length ≤ 1200 ∧ ∃ A c, e = .returned (.tuple #[.slice A (wrB p).length c, .bool true]) ∧ RdS w' A (wrB p).length c (wrB p)) ∨ (1200 < (wrB p).length ∧ e = .returned (.tuple #[.slice none 0 0, .bool false]))) ∧ Below w.heap.size w w' := by
  cases hx : p.x
  · rcases m3 with h3 | ⟨h3, h4⟩
    · rw [hx] at h3; exact absurd h3 (by decide)
    · exact rwrite_n cs p w h hx m1 m2 h3 h4 hf mp
  · exact rwrite_x cs p w h hx m1 m2 m4 m5 hf mp

theorem rwrite_ok (cs : List Value) (p : Pkt) (w : World) (h : PkRd w cs p) (hm : mayB p) (hf : fits p) :
    Calls Try.prog 13 #[.agg cs.toArray] w fun e w' => ∃ A c, e = .returned (.tuple #[.slice A (wrB p).length c, .bool true]) ∧ RdS w' A (wrB p).length c (wrB p) ∧ Below w.heap.size w w' := by
  obtain ⟨m1, m2, m3, m4, m5, m6⟩ := hm
  have hl := wrB_len p
  refine (rwrite_any cs p w h m1 m2 m3 m4 m5 hf (by omega)).mono fun e w' k => ?_
  obtain ⟨k | k, hb⟩ := k
  · obtain ⟨_, A, c, he, hr⟩ := k
    exact ⟨A, c, he, hr, hb⟩
  · exact absurd k.1 (by omega)
theorem rwrite_no (cs : List Value) (p : Pkt) (w : World) (h : PkRd w cs p) (hm : ¬ mayB p) (hf : fits p) (ho : p.ot.length ≤ 1000000) (hxt : p.xt.length ≤ 1000000) (mp : p.pl.length ≤ 10000) :
    Calls Try.prog 13 #[.agg cs.toArray] w fun e w' => e = .returned (.tuple #[.slice none 0 0, .bool false]) ∧ Below w.heap.size w w' := by
  by_cases c6 : p.ty ≤ 127 ∧ p.ot.length ≤ 15 ∧ (p.x = true ∨ (p.xt.length = 0 ∧ p.pf = 0)) ∧ p.xt.length % 4 = 0 ∧ p.xt.length ≤ 1020
  · obtain ⟨m1, m2, m3, m4, m5⟩ := c6
    have hl := wrB_len p
    refine (rwrite_any cs p w h m1 m2 m3 m4 m5 hf mp).mono fun e w' k => ?_
    obtain ⟨k | k, hb⟩ := k
    · exact absurd ⟨m1, m2, m3, m4, m5, by omega⟩ hm
    · exact ⟨k.2, hb⟩
  · exact rwrite_bad cs p w h c6 ho hxt
end Go.Proofs.Yticbajagccemoaa
