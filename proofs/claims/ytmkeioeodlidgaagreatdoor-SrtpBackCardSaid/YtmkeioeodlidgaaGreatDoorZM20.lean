/- Several texts in one: What the document's answer for layer 10 (tenailleref10) reads: a packet, way by way. What the document's answer for layer 10 (tenailleref10) reads, all ways together. Contracts of package rtp: Head. No statement is proved here. -/
import Derived.Test.YtmkeioeodlidgaaGreatDoorZM17
import Derived.Test.YtmkeioeodlidgaaGreatDoorZM18
import Derived.Test.YtmkeioeodlidgaaGreatDoorZM19
import Derived.Test.YtmkeioeodlidgaaGreatDoorZM16
namespace Go.Proofs.YtmkeioeodlidgaaGreatDoor
open Go.RowKit
set_option linter.unusedVariables false

end Go.Proofs.YtmkeioeodlidgaaGreatDoor

namespace Go.Proofs.YtmkeioeodlidgaaGreatDoor
open Go.RowKit
set_option linter.unusedVariables false

/-- What Read of package rtp answers, all ways together. -/
theorem read_any_no (A : Option Addr) (n c : Nat) (bs : List UInt8) (w : World) (hr : RdS w A n c bs) (hy : whyR bs ≠ 0) :
    Calls Tryz.prog 33 #[.slice A n c] w fun e w' => e = .returned (.tuple #[.agg zeroC.toArray, .int .i64 (whyR bs)]) ∧ Below w.heap.size w w' := by
  by_cases hm : 1200 < n
  · have e : whyR bs = 3 := by unfold whyR; rw [if_pos (by rw [hr.len]; exact hm)]
    rw [e]
    exact read_long A n c w hr.small.1 hm
  · exact read_no A n c bs w hr hm hy
theorem why_le (bs : List UInt8) (h : whyR bs = 0) : bs.length ≤ 1200 := by
  refine Nat.le_of_not_lt fun hc => ?_
  unfold whyR at h
  rw [if_pos hc] at h
  cases h
theorem read_any_ok (A : Option Addr) (n c : Nat) (bs : List UInt8) (w : World) (hr : RdS w A n c bs) (hy : whyR bs = 0) :
    Calls Tryz.prog 33 #[.slice A n c] w fun e w' => ∃ cs, e = .returned (.tuple #[.agg cs.toArray, .int .i64 0]) ∧ PkOwn w' w.heap.size cs (pktR bs) ∧ Below w.heap.size w w' :=
  read_okR A n c bs w hr (by have := why_le bs hy; rw [hr.len] at this; omega) hy
end Go.Proofs.YtmkeioeodlidgaaGreatDoor

namespace Go.Proofs.YtmkeioeodlidgaaGreatDoor
open Go.RowKit
set_option linter.unusedVariables false

/-- How many bytes of a packet are ahead of its payload. -/
def hdN (p : Pkt) : Nat := 12 + 4 * p.ot.length + (if p.x then 4 + p.xt.length else 0)

set_option maxRecDepth 100000 in
theorem size_any (cs : List Value) (p : Pkt) (w : World) (h : PkRd w cs p) (h1 : p.ot.length ≤ 1000000) (h2 : p.xt.length ≤ 1000000) :
    Calls Tryz.prog 71 #[.agg cs.toArray] w fun e w' => e = .returned (.int .i64 (hdN p : Nat)) ∧ Below w.heap.size w w' := by
  obtain ⟨A1, a1, B1, b1, D1, d1, e1, u1, x1, y1⟩ := h
  obtain ⟨m, ty, sq, st, so, U, x, pf, X, Y, pd⟩ := p
  simp only at h1 h2 e1 ⊢
  have HW : Hid (Below w.heap.size w (w.alloc (.cells cs.toArray 37))) := Lib.hid ((Below.refl _ _).alloc (Nat.le_refl _) _)
  have hB := BlkV.new w 37 cs
  have k5 : (w.alloc (.cells cs.toArray 37)).cell? ⟨w.heap.size, 5, none⟩ = some (.slice A1 U.length a1) := by rw [hB.cell, e1]; rfl
  have k6 : (w.alloc (.cells cs.toArray 37)).cell? ⟨w.heap.size, 6, none⟩ = some (.bool x) := by rw [hB.cell, e1]; rfl
  have k8 : (w.alloc (.cells cs.toArray 37)).cell? ⟨w.heap.size, 8, none⟩ = some (.slice B1 X.length b1) := by rw [hB.cell, e1]; rfl
  obtain ⟨K, hK⟩ : ∃ K, K = U.length := ⟨_, rfl⟩
  obtain ⟨M, hM⟩ : ∃ M, M = X.length := ⟨_, rfl⟩
  rw [← hK] at h1 k5
  rw [← hM] at h2 k8
  cases x
  · have e : hdN ⟨m, ty, sq, st, so, U, false, pf, X, Y, pd⟩ = 12 + 4 * K := by simp [hdN, hK]
    rw [e]
    have e4 := Lib.hid (show (12 + 4 * (K : Int)) = ((12 + 4 * K : Nat) : Int) by omega)
    clear e1 hB u1 x1 y1 hK hM e
    go_enter Tryz.func71, Tryz.ntmps71
    go_wp2
    go_ret
    refine ⟨?_, HW.out⟩
    rw [← e4.out]
    rfl
  · have e : hdN ⟨m, ty, sq, st, so, U, true, pf, X, Y, pd⟩ = 12 + 4 * K + (4 + M) := by simp [hdN, hK, hM]
    rw [e]
    have e4 := Lib.hid (show (12 + 4 * (K : Int) + (4 + (M : Int))) = ((12 + 4 * K + (4 + M) : Nat) : Int) by omega)
    clear e1 hB u1 x1 y1 hK hM e
    go_enter Tryz.func71, Tryz.ntmps71
    go_wp2
    go_ret
    refine ⟨?_, HW.out⟩
    rw [← e4.out]
    rfl

theorem why_parts (bs : List UInt8) (h : whyR bs = 0) : 12 ≤ bs.length ∧ bs.length ≤ 1200 ∧ bt bs 0 / 64 = 2 ∧ at1 bs ≤ bs.length ∧ at0 bs ≤ bs.length ∧ (exBR bs = true → wordsN bs ≤ 255) ∧ padN bs ≤ bs.length - at1 bs ∧ (pdB bs = true → 1 ≤ bt bs (bs.length - 1)) := by
  unfold whyR at h
  by_cases c1 : 1200 < bs.length
  · simp [c1] at h
  by_cases c2 : bs.length < 12
  · simp [c1, c2] at h
  by_cases c3 : bt bs 0 / 64 ≠ 2
  · simp [c1, c2, c3] at h
  by_cases c4 : bs.length < at0 bs
  · simp [c1, c2, c3, c4] at h
  by_cases c5 : exBR bs = true ∧ bs.length < at0 bs + 4
  · simp [c1, c2, c3, c4, c5] at h
  by_cases c6 : exBR bs = true ∧ bs.length < at1 bs
  · rw [if_neg c1, if_neg c2, if_neg c3, if_neg c4, if_neg c5, if_pos c6] at h
    cases h
  by_cases c7 : exBR bs = true ∧ 255 < wordsN bs
  · rw [if_neg c1, if_neg c2, if_neg c3, if_neg c4, if_neg c5, if_neg c6, if_pos c7] at h
    cases h
  by_cases c8 : pdB bs = true ∧ (at1 bs = bs.length ∨ bt bs (bs.length - 1) = 0 ∨ bs.length - at1 bs < bt bs (bs.length - 1))
  · rw [if_neg c1, if_neg c2, if_neg c3, if_neg c4, if_neg c5, if_neg c6, if_neg c7, if_pos c8] at h
    cases h
  have h1 : at1 bs ≤ bs.length := by
    by_cases ex : exBR bs = true
    · exact Nat.le_of_not_lt fun hc => c6 ⟨ex, hc⟩
    · have : at1 bs = at0 bs := by unfold at1; rw [if_neg ex]
      omega
  have h2 : pdB bs = true → 1 ≤ bt bs (bs.length - 1) ∧ bt bs (bs.length - 1) ≤ bs.length - at1 bs := fun hp => by
    have h3 : ¬ (at1 bs = bs.length ∨ bt bs (bs.length - 1) = 0 ∨ bs.length - at1 bs < bt bs (bs.length - 1)) := fun hc => c8 ⟨hp, hc⟩
    omega
  refine ⟨by omega, by omega, by omega, h1, by omega, fun ex => Nat.le_of_not_lt fun hc => c7 ⟨ex, hc⟩, ?_, fun hp => (h2 hp).1⟩
  unfold padN
  split
  · rename_i hp; exact (h2 hp).2
  · omega

theorem hd_at1 (bs : List UInt8) (h : whyR bs = 0) : hdN (pktR bs) = at1 bs := by
  obtain ⟨h1, h2, h3, h4, h5, h6, h7, h8⟩ := why_parts bs h
  unfold hdN
  by_cases ex : exBR bs = true
  · have e1 : at1 bs = at0 bs + 4 + 4 * wordsN bs := by simp [at1, ex]
    have e2 : (pktR bs).xt.length = 4 * wordsN bs := by
      simp only [pktR, ex, if_true]
      rw [List.length_take, List.length_drop]
      omega
    have e3 : (pktR bs).x = true := ex
    have e4 : (pktR bs).ot.length = othN bs := srcs_len _ _
    rw [e3, if_pos rfl, e2, e4, e1]
    unfold at0
    omega
  · have e1 : at1 bs = at0 bs := by unfold at1; rw [if_neg ex]
    have e3 : (pktR bs).x = false := by simpa [pktR] using ex
    have e4 : (pktR bs).ot.length = othN bs := srcs_len _ _
    rw [e3, if_neg (by simp), e4, e1]
    rfl
end Go.Proofs.YtmkeioeodlidgaaGreatDoor
