/- What the document's answer for layer 10 (tenailleref10) reads, all ways together. No statement is proved here. -/
import Derived.Test.YticbajagccemoaaRtpR3
import Derived.Test.YticbajagccemoaaRtpR4
import Derived.Test.YticbajagccemoaaRtpR5
import Derived.Test.YticbajagccemoaaRtpR6
import Derived.Test.YticbajagccemoaaRtpR8
namespace Go.Proofs.Yticbajagccemoaa
open Go.RowKit
set_option linter.unusedVariables false

theorem rread_ok (A : Option Addr) (n c : Nat) (bs : List UInt8) (w : World) (hr : RdS w A n c bs) (hy : whyR bs = 0) :
    Calls Try.prog 9 #[.slice A n c] w fun e w' => ∃ cs, e = .returned (.tuple #[.agg cs.toArray, .int .i64 (at1 bs : Nat), .int .i64 0]) ∧ PkOwn w' w.heap.size cs (pktR bs) ∧ Below w.heap.size w w' := by
  have hl := hr.len
  unfold whyR at hy
  by_cases c1 : 1200 < bs.length
  · simp [c1] at hy
  by_cases c2 : bs.length < 12
  · simp [c1, c2] at hy
  by_cases c3 : bt bs 0 / 64 ≠ 2
  · simp [c1, c2, c3] at hy
  by_cases c4 : bs.length < at0 bs
  · simp [c1, c2, c3, c4] at hy
  rw [if_neg c1, if_neg c2, if_neg c3, if_neg c4] at hy
  have c3' : bt bs 0 / 64 = 2 := by omega
  have hxl : bt bs 0 / 16 % 2 < 2 := Nat.mod_lt _ (by omega)
  have hpl : bt bs 0 / 32 % 2 < 2 := Nat.mod_lt _ (by omega)
  rw [hl] at c1 c2 c4 hy
  by_cases hx : bt bs 0 / 16 % 2 = 1
  · have ex : exB bs = true := by simp [exB, hx]
    have e1 : at1 bs = at0 bs + 4 + 4 * wordsN bs := by simp [at1, ex]
    rw [e1] at hy
    by_cases c5 : n < at0 bs + 4
    · simp [ex, c5] at hy
    by_cases c6 : n < at0 bs + 4 + 4 * wordsN bs
    · simp [ex, c5, c6] at hy
    by_cases c7 : 255 < wordsN bs
    · simp [ex, c5, c6, c7] at hy
    by_cases hp : bt bs 0 / 32 % 2 = 1
    · have ep : pdB bs = true := by simp [pdB, hp]
      simp only [ex, ep, c5, c6, c7, and_false, if_false, true_and] at hy
      have hq : ¬ (at0 bs + 4 + 4 * wordsN bs = n ∨ bt bs (n - 1) = 0 ∨ n - (at0 bs + 4 + 4 * wordsN bs) < bt bs (n - 1)) := fun hq => by simp [hq] at hy
      have h := rread_ok11 A n c bs w hr c1 c2 c3' (by omega) hx hp (by omega) (by omega) (by omega) (by omega) (by omega)
      have hk : pktR bs = ⟨bt bs 1 / 128 == 1, bt bs 1 % 128, sqN bs, stN bs, soN bs, srcs (bs.drop 12) (othN bs), true, numb ((bs.drop (at0 bs)).take 2), (bs.drop (at0 bs + 4)).take (4 * wordsN bs), (bs.drop (at0 bs + 4 + 4 * wordsN bs)).take (n - bt bs (n - 1) - (at0 bs + 4 + 4 * wordsN bs)), bt bs (n - 1)⟩ := by
        simp [pktR, ex, ep, e1, padN, hl, Nat.sub_right_comm]
      rw [e1, hk]
      exact h
    · have hp0 : bt bs 0 / 32 % 2 = 0 := by omega
      have ep : pdB bs = false := by simp [pdB, hp0]
      have h := rread_ok10 A n c bs w hr c1 c2 c3' (by omega) hx hp0 (by omega) (by omega)
      have hk : pktR bs = ⟨bt bs 1 / 128 == 1, bt bs 1 % 128, sqN bs, stN bs, soN bs, srcs (bs.drop 12) (othN bs), true, numb ((bs.drop (at0 bs)).take 2), (bs.drop (at0 bs + 4)).take (4 * wordsN bs), (bs.drop (at0 bs + 4 + 4 * wordsN bs)).take (n - 0 - (at0 bs + 4 + 4 * wordsN bs)), 0⟩ := by
        simp [pktR, ex, ep, e1, padN, hl]
      rw [e1, hk]
      exact h
  · have hx0 : bt bs 0 / 16 % 2 = 0 := by omega
    have ex : exB bs = false := by simp [exB, hx0]
    have e1 : at1 bs = at0 bs := by simp [at1, ex]
    rw [e1] at hy
    by_cases hp : bt bs 0 / 32 % 2 = 1
    · have ep : pdB bs = true := by simp [pdB, hp]
      simp only [ex, ep, Bool.false_eq_true, false_and, if_false, true_and] at hy
      have hq : ¬ (at0 bs = n ∨ bt bs (n - 1) = 0 ∨ n - at0 bs < bt bs (n - 1)) := fun hq => by simp [hq] at hy
      have h := rread_ok01 A n c bs w hr c1 c2 c3' (by omega) hx0 hp (by omega) (by omega) (by omega)
      have hk : pktR bs = ⟨bt bs 1 / 128 == 1, bt bs 1 % 128, sqN bs, stN bs, soN bs, srcs (bs.drop 12) (othN bs), false, 0, [], (bs.drop (at0 bs)).take (n - bt bs (n - 1) - at0 bs), bt bs (n - 1)⟩ := by
        simp [pktR, ex, ep, e1, padN, hl, Nat.sub_right_comm]
      rw [e1, hk]
      exact h
    · have hp0 : bt bs 0 / 32 % 2 = 0 := by omega
      have ep : pdB bs = false := by simp [pdB, hp0]
      have h := rread_ok00 A n c bs w hr c1 c2 c3' (by omega) hx0 hp0
      have hk : pktR bs = ⟨bt bs 1 / 128 == 1, bt bs 1 % 128, sqN bs, stN bs, soN bs, srcs (bs.drop 12) (othN bs), false, 0, [], (bs.drop (at0 bs)).take (n - 0 - at0 bs), 0⟩ := by
        simp [pktR, ex, ep, e1, padN, hl]
      rw [e1, hk]
      exact h

theorem rread_no (A : Option Addr) (n c : Nat) (bs : List UInt8) (w : World) (hr : RdS w A n c bs) (hy : whyR bs ≠ 0) :
    Calls Try.prog 9 #[.slice A n c] w fun e w' => e = .returned (.tuple #[.agg zeroC.toArray, .int .i64 0, .int .i64 (whyR bs)]) ∧ Below w.heap.size w w' := by
  have hl := hr.len
  unfold whyR at hy ⊢
  rw [hl] at hy ⊢
  by_cases c1 : 1200 < n
  · rw [if_pos c1]
    exact rread_long A n c w hr.small.1 c1
  rw [if_neg c1] at hy ⊢
  by_cases c2 : n < 12
  · rw [if_pos c2]
    exact rread_short A n c bs w hr c1 c2
  rw [if_neg c2] at hy ⊢
  by_cases c3 : bt bs 0 / 64 ≠ 2
  · rw [if_pos c3]
    exact rread_bits A n c bs w hr c1 c2 c3
  rw [if_neg c3] at hy ⊢
  have c3' : bt bs 0 / 64 = 2 := by omega
  by_cases c4 : n < at0 bs
  · rw [if_pos c4]
    exact rread_lack A n c bs w hr c1 c2 c3' c4
  rw [if_neg c4] at hy ⊢
  have hxl : bt bs 0 / 16 % 2 < 2 := Nat.mod_lt _ (by omega)
  by_cases hx : bt bs 0 / 16 % 2 = 1
  · have ex : exB bs = true := by simp [exB, hx]
    have e1 : at1 bs = at0 bs + 4 + 4 * wordsN bs := by simp [at1, ex]
    rw [e1] at hy ⊢
    simp only [ex, true_and] at hy ⊢
    by_cases c5 : n < at0 bs + 4
    · rw [if_pos c5]
      exact rread_ext4 A n c bs w hr c1 c2 c3' (by omega) hx c5
    rw [if_neg c5] at hy ⊢
    by_cases c6 : n < at0 bs + 4 + 4 * wordsN bs
    · rw [if_pos c6]
      exact rread_extw A n c bs w hr c1 c2 c3' (by omega) hx (by omega) c6
    rw [if_neg c6] at hy ⊢
    by_cases c7 : 255 < wordsN bs
    · rw [if_pos c7]
      exact rread_extl A n c bs w hr c1 c2 c3' (by omega) hx (by omega) c7
    rw [if_neg c7] at hy ⊢
    by_cases c8 : pdB bs = true ∧ (at0 bs + 4 + 4 * wordsN bs = n ∨ bt bs (n - 1) = 0 ∨ n - (at0 bs + 4 + 4 * wordsN bs) < bt bs (n - 1))
    · rw [if_pos c8]
      have hp : bt bs 0 / 32 % 2 = 1 := by have := c8.1; simpa [pdB] using this
      exact rread_padno1 A n c bs w hr c1 c2 c3' (by omega) hx hp (by omega) (by omega) c8.2
    · rw [if_neg c8] at hy
      exact absurd rfl hy
  · have hx0 : bt bs 0 / 16 % 2 = 0 := by omega
    have ex : exB bs = false := by simp [exB, hx0]
    have e1 : at1 bs = at0 bs := by simp [at1, ex]
    rw [e1] at hy ⊢
    simp only [ex, Bool.false_eq_true, false_and, if_false] at hy ⊢
    by_cases c8 : pdB bs = true ∧ (at0 bs = n ∨ bt bs (n - 1) = 0 ∨ n - at0 bs < bt bs (n - 1))
    · rw [if_pos c8]
      have hp : bt bs 0 / 32 % 2 = 1 := by have := c8.1; simpa [pdB] using this
      exact rread_padno0 A n c bs w hr c1 c2 c3' (by omega) hx0 hp c8.2
    · rw [if_neg c8] at hy
      exact absurd rfl hy

/-- What Read of package rtp answers, all ways together. -/
theorem read_any_no (A : Option Addr) (n c : Nat) (bs : List UInt8) (w : World) (hr : RdS w A n c bs) (hy : whyR bs ≠ 0) :
    Calls Try.prog 8 #[.slice A n c] w fun e w' => e = .returned (.tuple #[.agg zeroC.toArray, .int .i64 (whyR bs)]) ∧ Below w.heap.size w w' := by
  by_cases hm : 1200 < n
  · have e : whyR bs = 3 := by unfold whyR; rw [if_pos (by rw [hr.len]; exact hm)]
    rw [e]
    exact read_long A n c w hr.small.1 hm
  · exact read_no A n c bs w hr hm hy
theorem why_le (bs : List UInt8) (h : whyR bs = 0) : bs.length ≤ 1200 := by
  refine Nat.le_of_not_lt fun hc => ?_
  unfold whyR at h
  rw [if_pos hc] at h
  cases h
theorem read_any_ok (A : Option Addr) (n c : Nat) (bs : List UInt8) (w : World) (hr : RdS w A n c bs) (hy : whyR bs = 0) :
    Calls Try.prog 8 #[.slice A n c] w fun e w' => ∃ cs, e = .returned (.tuple #[.agg cs.toArray, .int .i64 0]) ∧ PkOwn w' w.heap.size cs (pktR bs) ∧ Below w.heap.size w w' :=
  read_ok A n c bs w hr (by have := why_le bs hy; rw [hr.len] at this; omega) hy
end Go.Proofs.Yticbajagccemoaa
