/- Plain mathematics: a payload with another number reads as it did, but for the number. No program is named; no statement is proved here. -/
import Derived.Test.YtpflgkepgoicjaaVpNum
namespace Go.Proofs.Ytpflgkepgoicjaa
set_option linter.unusedVariables false

theorem bV_set (bs : List UInt8) (j i : Nat) (b : UInt8) (hj : j < bs.length) : bV (bs.set j b) i = if j = i then b.toNat else bV bs i := by
  unfold bV
  simp only [List.getD, List.getElem?_set, hj, if_true]
  split <;> simp
/-- The number that is asked for. -/
def wantV (bs : List UInt8) (p : Nat) : Nat := if wideV bs then p % 32768 else p % 128
theorem trn_read {bs : List UInt8} (p : Nat) (h : whyV bs = 0) (hh : hasV bs = true) : whyV (trnV bs p) = 0 ∧ vpV (trnV bs p) = { vpV bs with pic := wantV bs p } := by
  have hG := why_zero h
  have h3 : 3 ≤ bs.length := by
    by_cases h2 : bs.length ≤ 2
    · exact absurd ⟨hh, h2⟩ hG.1.2.1
    · omega
  have hl := trnV_len bs p
  have hs : 128 ≤ secV bs := of_decide_eq_true hh
  have hx0 : 128 ≤ bV bs 0 := by
    unfold secV at hs
    by_cases h0 : 128 ≤ bV bs 0
    · exact h0
    · rw [if_neg h0] at hs; omega
  have hf : fstV bs = 2 := by unfold fstV; rw [if_pos hx0]
  have key : bV (trnV bs p) 0 = bV bs 0 ∧ bV (trnV bs p) 1 = bV bs 1 ∧ (128 ≤ bV (trnV bs p) 2 ↔ 128 ≤ bV bs 2) ∧ (∀ i, (if wideV bs then 4 else 3) ≤ i → bV (trnV bs p) i = bV bs i) ∧
      (if wideV bs then (bV (trnV bs p) 2 - 128) * 256 + bV (trnV bs p) 3 else bV (trnV bs p) 2) = wantV bs p := by
    by_cases hw : wideV bs = true
    · have h4 : 4 ≤ bs.length := by
        by_cases h2 : bs.length ≤ 3
        · exact absurd ⟨hw, h2⟩ hG.1.2.2
        · omega
      have hb2 : 128 ≤ bV bs 2 := by
        unfold wideV at hw
        rw [hh, Bool.true_and] at hw
        exact of_decide_eq_true hw
      have e : ∀ i, bV (trnV bs p) i = if 3 = i then p % 256 else if 2 = i then p / 256 % 128 + 128 else bV bs i := fun i => by
        unfold trnV
        rw [if_pos hw, bV_set _ _ _ _ (by rw [List.length_set]; omega), bV_set _ _ _ _ (by omega), UInt8.toNat_ofNat', UInt8.toNat_ofNat']
        rw [show p % 256 % 2 ^ 8 = p % 256 by omega, show (p / 256 % 128 + 128) % 2 ^ 8 = p / 256 % 128 + 128 by omega]
      refine ⟨by rw [e]; rfl, by rw [e]; rfl, by rw [e]; simp; omega, fun i hi => ?_, ?_⟩
      · rw [if_pos hw] at hi
        rw [e, if_neg (by omega), if_neg (by omega)]
      · rw [if_pos hw, e, e]
        unfold wantV
        rw [if_pos hw]
        simp
        omega
    · have hb2 : ¬ 128 ≤ bV bs 2 := fun h2 => hw (by unfold wideV; rw [hh]; simpa using h2)
      have e : ∀ i, bV (trnV bs p) i = if 2 = i then p % 128 else bV bs i := fun i => by
        unfold trnV
        rw [if_neg hw, bV_set _ _ _ _ (by omega), UInt8.toNat_ofNat', show p % 128 % 2 ^ 8 = p % 128 by omega]
      refine ⟨by rw [e]; rfl, by rw [e]; rfl, by rw [e]; simp; omega, fun i hi => ?_, ?_⟩
      · rw [if_neg hw] at hi
        rw [e, if_neg (by omega)]
      · rw [if_neg hw, e]
        unfold wantV
        rw [if_neg hw]
        simp
  obtain ⟨k0, k1, k2, ki, kp⟩ := key
  have es : secV (trnV bs p) = secV bs := by unfold secV; rw [k0, k1]
  have ef : fstV (trnV bs p) = fstV bs := by unfold fstV; rw [k0]
  have eh : hasV (trnV bs p) = hasV bs := by unfold hasV; rw [es]
  have ew : wideV (trnV bs p) = wideV bs := by
    unfold wideV
    rw [eh, show decide (128 ≤ bV (trnV bs p) 2) = decide (128 ≤ bV bs 2) from by simp only [k2]]
  have e1 : at1V (trnV bs p) = at1V bs := by unfold at1V; rw [ef, eh, ew]
  have e2 : at2V (trnV bs p) = at2V bs := by unfold at2V; rw [e1, es]
  have e3 : at3V (trnV bs p) = at3V bs := by unfold at3V; rw [e2, es]
  have h13 : (if wideV bs then 4 else 3) ≤ at3V bs := by
    have a1 : (if wideV bs then 4 else 3) ≤ at1V bs := by
      unfold at1V
      rw [hf, hh, if_pos rfl]
      split <;> omega
    unfold at3V at2V
    omega
  have ek : keyV (trnV bs p) = keyV bs := by unfold keyV; rw [k0, e3, hl, ki _ h13]
  have ey : whyV (trnV bs p) = whyV bs := by unfold whyV; rw [hl, k0, es, eh, ew, e3]
  have hy : whyV (trnV bs p) = 0 := ey.trans h
  refine ⟨hy, ?_⟩
  have ep : picV (trnV bs p) = wantV bs p := by
    unfold picV
    rw [ew, eh, hh, if_pos rfl]
    exact kp
  unfold vpV
  rw [if_pos hy, if_pos h, k0, eh, ew, ep, ek, e3]
end Go.Proofs.Ytpflgkepgoicjaa
