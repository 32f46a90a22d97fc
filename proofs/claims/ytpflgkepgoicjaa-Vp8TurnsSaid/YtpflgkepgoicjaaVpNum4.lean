/- Plain mathematics: package vp8's way along a payload tells what the chapter says. No program is named; no statement is proved here. -/
import Derived.Test.YtpflgkepgoicjaaVpNum3
namespace Go.Proofs.Ytpflgkepgoicjaa
open Go.RowKit
set_option linter.unusedVariables false

def f1 (bs : List UInt8) : Nat := nxX 72 bs
def s1R (bs : List UInt8) : List UInt8 := nxR 72 bs
def s1C (bs : List UInt8) : Nat := nxC 72 0 bs
def s2X (bs : List UInt8) : Nat := if 128 ≤ f1 bs then nxX 15 (s1R bs) else 0
def s2R (bs : List UInt8) : List UInt8 := if 128 ≤ f1 bs then nxR 15 (s1R bs) else s1R bs
def s2C (bs : List UInt8) : Nat := if 128 ≤ f1 bs then nxC 15 (s1C bs) (s1R bs) else s1C bs
def s3H (bs : List UInt8) : Bool := decide (128 ≤ s2X bs)
def s3P (bs : List UInt8) : Nat := if 128 ≤ s2X bs then numX (s2R bs) else 0
def s3W (bs : List UInt8) : Bool := if 128 ≤ s2X bs then numW (s2R bs) else false
def s3R (bs : List UInt8) : List UInt8 := if 128 ≤ s2X bs then numR (s2R bs) else s2R bs
def s3C (bs : List UInt8) : Nat := if 128 ≤ s2X bs then numC (s2C bs) (s2R bs) else s2C bs
/-- Behind i of the two bits. -/
def lvB (i : Nat) : Nat := if i = 0 then 64 else 48
def lvR (bs : List UInt8) : Nat → List UInt8
  | 0 => s3R bs
  | i + 1 => if s2X bs &&& lvB i = 0 then lvR bs i else nxR 0 (lvR bs i)
def lvC (bs : List UInt8) : Nat → Nat
  | 0 => s3C bs
  | i + 1 => if s2X bs &&& lvB i = 0 then lvC bs i else nxC 0 (lvC bs i) (lvR bs i)
theorem nx0_nil (q : Nat) : nxX 0 [] = 0 ∧ nxR 0 [] = [] ∧ nxC 0 q [] = 2 := ⟨rfl, rfl, rfl⟩
theorem nx0_cons (q : Nat) (x : UInt8) (t : List UInt8) : nxX 0 (x :: t) = x.toNat ∧ nxR 0 (x :: t) = t ∧ nxC 0 q (x :: t) = q :=
  ⟨if_pos (Nat.and_zero _), if_pos (Nat.and_zero _), if_pos (Nat.and_zero _)⟩
theorem nxR0 (rs : List UInt8) : nxR 0 rs = rs.drop 1 := by
  cases rs with
  | nil => rfl
  | cons x t => exact (nx0_cons 0 x t).2.1
theorem nxC0 (q : Nat) (rs : List UInt8) : nxC 0 q rs = if rs.length < 1 then 2 else q := by
  cases rs with
  | nil => rfl
  | cons x t => rw [(nx0_cons q x t).2.2, if_neg (by simp)]
theorem bits72 (x : Nat) (h : x < 256) : (x &&& 72 = 0) ↔ ¬ (x / 64 % 2 = 1 ∨ x / 8 % 2 = 1) := by
  have e : ∀ x : Fin 256, (x.val &&& 72 = 0) ↔ ¬ (x.val / 64 % 2 = 1 ∨ x.val / 8 % 2 = 1) := by decide +kernel
  exact e ⟨x, h⟩
theorem bits15 (x : Nat) (h : x < 256) : (x &&& 15 = 0) ↔ ¬ 0 < x % 16 := by
  have e : ∀ x : Fin 256, (x.val &&& 15 = 0) ↔ ¬ 0 < x.val % 16 := by decide +kernel
  exact e ⟨x, h⟩
theorem bits64 (x : Nat) (h : x < 256) : (x &&& 64 = 0) ↔ ¬ x / 64 % 2 = 1 := by
  have e : ∀ x : Fin 256, (x.val &&& 64 = 0) ↔ ¬ x.val / 64 % 2 = 1 := by decide +kernel
  exact e ⟨x, h⟩
theorem bits48 (x : Nat) (h : x < 256) : (x &&& 48 = 0) ↔ ¬ (x / 32 % 2 = 1 ∨ x / 16 % 2 = 1) := by
  have e : ∀ x : Fin 256, (x.val &&& 48 = 0) ↔ ¬ (x.val / 32 % 2 = 1 ∨ x.val / 16 % 2 = 1) := by decide +kernel
  exact e ⟨x, h⟩
theorem bits16 (x : Nat) (h : x < 256) : (x &&& 16 = 0) ↔ ¬ x / 16 % 2 = 1 := by
  have e : ∀ x : Fin 256, (x.val &&& 16 = 0) ↔ ¬ x.val / 16 % 2 = 1 := by decide +kernel
  exact e ⟨x, h⟩
theorem bits7 (x : Nat) (h : x < 256) : x &&& 7 = x % 8 := by
  have e : ∀ x : Fin 256, x.val &&& 7 = x.val % 8 := by decide +kernel
  exact e ⟨x, h⟩
theorem f1_lt (bs : List UInt8) : f1 bs < 256 := nxX_lt _ _
theorem s2X_lt (bs : List UInt8) : s2X bs < 256 := by
  unfold s2X
  split
  · exact nxX_lt _ _
  · omega
/-- How the picture's number leaves it. -/
def Stage3 (bs : List UInt8) : Prop := (whyV bs = s3C bs ∧ s3C bs ≠ 0 ∧ ((s3C bs = 2 ∧ s3R bs = []) ∨ s2X bs = 0)) ∨
  (s3C bs = 0 ∧ G3 bs ∧ s3R bs = bs.drop (at1V bs) ∧ at1V bs ≤ bs.length ∧ f1 bs = bV bs 0 ∧ s2X bs = secV bs ∧ s3P bs = picV bs ∧ s3W bs = wideV bs ∧ s3H bs = hasV bs)
theorem stage3 (bs : List UInt8) : Stage3 bs := by
  unfold Stage3
  match bs with
  | [] => exact .inl ⟨rfl, by decide, .inr rfl⟩
  | a :: t =>
    have la := UInt8.toNat_lt a
    have b0 : bV (a :: t) 0 = a.toNat := rfl
    have n1 : ¬ (a :: t).length < 1 := by simp
    by_cases h72 : a.toNat &&& 72 = 0
    case neg =>
      have e1 : f1 (a :: t) = 0 := if_neg h72
      have e2 : s1C (a :: t) = 3 := if_neg h72
      have e3 : s2X (a :: t) = 0 := by unfold s2X; rw [e1]; rfl
      have e4 : s3C (a :: t) = 3 := by unfold s3C s2C; rw [e3, e1, e2]; rfl
      exact .inl ⟨by rw [e4]; exact why_bits n1 (by rw [b0]; have := bits72 _ la; by_cases h : (a.toNat / 64 % 2 = 1 ∨ a.toNat / 8 % 2 = 1); exact h; exact absurd (this.2 h) h72), by rw [e4]; decide, .inr e3⟩
    case pos =>
      have hg1 : G1 (a :: t) := ⟨n1, by rw [b0]; exact (bits72 _ la).1 h72⟩
      have e1 : f1 (a :: t) = a.toNat := if_pos h72
      have e2 : s1C (a :: t) = 0 := if_pos h72
      have e2r : s1R (a :: t) = t := if_pos h72
      by_cases ha : 128 ≤ a.toNat
      case neg =>
        have e3 : s2X (a :: t) = 0 := by unfold s2X; rw [e1, if_neg ha]
        have e4 : s3C (a :: t) = 0 := by unfold s3C s2C; rw [e3, e1, e2, if_neg ha]; rfl
        have e5 : s3R (a :: t) = t := by unfold s3R s2R; rw [e3, e1, e2r, if_neg ha]; rfl
        have hs : secV (a :: t) = 0 := by unfold secV; rw [b0, if_neg ha]
        have hf : fstV (a :: t) = 1 := by unfold fstV; rw [b0, if_neg ha]
        have hh : hasV (a :: t) = false := by unfold hasV; rw [hs]; rfl
        have hw : wideV (a :: t) = false := by unfold wideV; rw [hh]; rfl
        have hp : picV (a :: t) = 0 := by unfold picV; rw [hw, hh]; rfl
        have ha1 : at1V (a :: t) = 1 := by unfold at1V; rw [hf, hh]; rfl
        refine .inr ⟨e4, ⟨⟨hg1, fun h => ha h.1, by rw [hs]; decide⟩, fun h => by simp [hh] at h, fun h => by simp [hw] at h⟩, by rw [e5, ha1]; rfl, by rw [ha1]; simp, e1, by rw [e3, hs], ?_, ?_, ?_⟩
        · unfold s3P; rw [e3, hp]; rfl
        · unfold s3W; rw [e3, hw]; rfl
        · unfold s3H; rw [e3, hh]; rfl
      case pos =>
        match t with
        | [] =>
          have e3 : s2X [a] = 0 := by unfold s2X; rw [e1, if_pos ha, e2r]; rfl
          have e4 : s3C [a] = 2 := by unfold s3C s2C; rw [e3, e1, e2r, if_pos ha]; rfl
          exact .inl ⟨by rw [e4]; exact why_second hg1 ha (by simp), by rw [e4]; decide, .inr e3⟩
        | b :: u =>
          have lb := UInt8.toNat_lt b
          have b1 : bV (a :: b :: u) 1 = b.toNat := rfl
          have hs : secV (a :: b :: u) = b.toNat := by unfold secV; rw [b0, if_pos ha, b1]
          have hf : fstV (a :: b :: u) = 2 := by unfold fstV; rw [b0, if_pos ha]
          have hn2 : ¬ (128 ≤ bV (a :: b :: u) 0 ∧ (a :: b :: u).length < 2) := fun h => by have := h.2; simp at this; omega
          by_cases h15 : b.toNat &&& 15 = 0
          case neg =>
            have e3 : s2X (a :: b :: u) = 0 := by unfold s2X; rw [e1, if_pos ha, e2r]; exact if_neg h15
            have e4 : s3C (a :: b :: u) = 3 := by unfold s3C s2C; rw [e3, e1, e2r, if_pos ha, e2]; exact if_neg h15
            refine .inl ⟨?_, by rw [e4]; decide, .inr e3⟩
            rw [e4]
            refine why_low hg1 hn2 ?_
            rw [hs]
            by_cases h : 0 < b.toNat % 16
            · exact h
            · exact absurd ((bits15 _ lb).2 h) h15
          case pos =>
            have e3 : s2X (a :: b :: u) = b.toNat := by unfold s2X; rw [e1, if_pos ha, e2r]; exact if_pos h15
            have e4c : s2C (a :: b :: u) = 0 := by unfold s2C; rw [e1, e2r, if_pos ha, e2]; exact if_pos h15
            have e4r : s2R (a :: b :: u) = u := by unfold s2R; rw [e1, e2r, if_pos ha]; exact if_pos h15
            have hg2 : G2 (a :: b :: u) := ⟨hg1, hn2, by rw [hs]; exact (bits15 _ lb).1 h15⟩
            by_cases hb : 128 ≤ b.toNat
            case neg =>
              have hh : hasV (a :: b :: u) = false := by unfold hasV; rw [hs]; exact decide_eq_false hb
              have hw : wideV (a :: b :: u) = false := by unfold wideV; rw [hh]; rfl
              have hp : picV (a :: b :: u) = 0 := by unfold picV; rw [hw, hh]; rfl
              have ha1 : at1V (a :: b :: u) = 2 := by unfold at1V; rw [hf, hh]; rfl
              refine .inr ⟨by unfold s3C; rw [e3, if_neg hb, e4c], ⟨hg2, fun h => by simp [hh] at h, fun h => by simp [hw] at h⟩, by unfold s3R; rw [e3, if_neg hb, e4r, ha1]; rfl, by rw [ha1]; simp, e1, by rw [e3, hs], ?_, ?_, ?_⟩
              · unfold s3P; rw [e3, if_neg hb, hp]
              · unfold s3W; rw [e3, if_neg hb, hw]
              · unfold s3H; rw [e3, hh]; exact decide_eq_false hb
            case pos =>
              have hh : hasV (a :: b :: u) = true := by unfold hasV; rw [hs]; exact decide_eq_true hb
              have e5c : s3C (a :: b :: u) = numC 0 u := by unfold s3C; rw [e3, if_pos hb, e4c, e4r]
              have e5r : s3R (a :: b :: u) = numR u := by unfold s3R; rw [e3, if_pos hb, e4r]
              have e5p : s3P (a :: b :: u) = numX u := by unfold s3P; rw [e3, if_pos hb, e4r]
              have e5w : s3W (a :: b :: u) = numW u := by unfold s3W; rw [e3, if_pos hb, e4r]
              have e5h : s3H (a :: b :: u) = true := by unfold s3H; rw [e3]; exact decide_eq_true hb
              match u with
              | [] =>
                have e6 : numC 0 [] = 2 ∧ numR [] = [] := ⟨rfl, rfl⟩
                refine .inl ⟨by rw [e5c, e6.1]; exact why_num hg2 hh (by simp), by rw [e5c, e6.1]; decide, .inl ⟨by rw [e5c, e6.1], by rw [e5r, e6.2]⟩⟩
              | p :: v =>
                have b2 : bV (a :: b :: p :: v) 2 = p.toNat := rfl
                have hn3 : ¬ (hasV (a :: b :: p :: v) = true ∧ (a :: b :: p :: v).length ≤ 2) := fun h => by have := h.2; simp at this
                obtain ⟨x1, x2, x3⟩ := nx0_cons 0 p v
                by_cases hp : 128 ≤ p.toNat
                case neg =>
                  have hw : wideV (a :: b :: p :: v) = false := by unfold wideV; rw [hh, b2]; simp; omega
                  have hpi : picV (a :: b :: p :: v) = p.toNat := by unfold picV; rw [hw, hh, b2]; rfl
                  have ha1 : at1V (a :: b :: p :: v) = 3 := by unfold at1V; rw [hf, hh, hw]; rfl
                  refine .inr ⟨by rw [e5c]; unfold numC; rw [x1, if_neg hp, x3], ⟨hg2, hn3, fun h => by simp [hw] at h⟩, by rw [e5r]; unfold numR; rw [x1, if_neg hp, x2, ha1]; rfl, by rw [ha1]; simp, e1, by rw [e3, hs], ?_, ?_, by rw [e5h, hh]⟩
                  · rw [e5p]; unfold numX; rw [x1, if_neg hp, hpi]
                  · rw [e5w]; unfold numW; rw [x1, hw]; exact decide_eq_false hp
                case pos =>
                  have hw : wideV (a :: b :: p :: v) = true := by unfold wideV; rw [hh, b2]; simp; omega
                  have ha1 : at1V (a :: b :: p :: v) = 4 := by unfold at1V; rw [hf, hh, hw]; rfl
                  match v with
                  | [] =>
                    have e6 : numC 0 [p] = 2 ∧ numR [p] = [] := ⟨by unfold numC; rw [x1, if_pos hp, x2, x3]; rfl, by unfold numR; rw [x1, if_pos hp, x2]; rfl⟩
                    refine .inl ⟨by rw [e5c, e6.1]; exact why_wide hg2 hn3 hw (by simp), by rw [e5c, e6.1]; decide, .inl ⟨by rw [e5c, e6.1], by rw [e5r, e6.2]⟩⟩
                  | y :: z =>
                    obtain ⟨y1, y2, y3⟩ := nx0_cons 0 y z
                    have b3 : bV (a :: b :: p :: y :: z) 3 = y.toNat := rfl
                    have hpi : picV (a :: b :: p :: y :: z) = (p.toNat - 128) * 256 + y.toNat := by unfold picV; rw [hw, b2, b3]; rfl
                    refine .inr ⟨by rw [e5c]; unfold numC; rw [x1, if_pos hp, x2, x3, y3], ⟨hg2, hn3, fun h => by have := h.2; simp at this⟩, by rw [e5r]; unfold numR; rw [x1, if_pos hp, x2, y2, ha1]; rfl, by rw [ha1]; simp, e1, by rw [e3, hs], ?_, ?_, by rw [e5h, hh]⟩
                    · rw [e5p]; unfold numX; rw [x1, if_pos hp, x2, y1, hpi]
                    · rw [e5w]; unfold numW; rw [x1, hw]; exact decide_eq_true hp
/-- How all leaves it. -/
theorem way_end (bs : List UInt8) : lvC bs 2 = whyV bs ∧ (whyV bs = 0 → vpV bs = ⟨decide (f1 bs / 16 % 2 = 1), f1 bs % 8, s3H bs, s3W bs, s3P bs, decide ((f1 bs / 16 % 2 = 1 ∧ f1 bs % 8 = 0) ∧ 0 < (lvR bs 2).length ∧ bV (lvR bs 2) 0 % 2 = 0), bs.length - (lvR bs 2).length⟩ ∧ (lvR bs 2).length ≤ bs.length) := by
  have hX := s2X_lt bs
  have h64 := bits64 _ hX
  have h48 := bits48 _ hX
  have hR1 : lvR bs 1 = (s3R bs).drop (if s2X bs / 64 % 2 = 1 then 1 else 0) := by
    show (if s2X bs &&& lvB 0 = 0 then s3R bs else nxR 0 (s3R bs)) = _
    rw [show lvB 0 = 64 from rfl]
    by_cases h : s2X bs / 64 % 2 = 1
    · rw [if_neg (fun h2 => (h64.1 h2) h), if_pos h, nxR0]
    · rw [if_pos (h64.2 h), if_neg h]; rfl
  have hC1 : lvC bs 1 = if (s3R bs).length < (if s2X bs / 64 % 2 = 1 then 1 else 0) then 2 else s3C bs := by
    show (if s2X bs &&& lvB 0 = 0 then s3C bs else nxC 0 (s3C bs) (s3R bs)) = _
    rw [show lvB 0 = 64 from rfl]
    by_cases h : s2X bs / 64 % 2 = 1
    · rw [if_neg (fun h2 => (h64.1 h2) h), if_pos h, nxC0]
    · rw [if_pos (h64.2 h), if_neg h, if_neg (by omega)]
  have hR2 : lvR bs 2 = (lvR bs 1).drop (if s2X bs / 32 % 2 = 1 ∨ s2X bs / 16 % 2 = 1 then 1 else 0) := by
    show (if s2X bs &&& lvB 1 = 0 then lvR bs 1 else nxR 0 (lvR bs 1)) = _
    rw [show lvB 1 = 48 from rfl]
    by_cases h : s2X bs / 32 % 2 = 1 ∨ s2X bs / 16 % 2 = 1
    · rw [if_neg (fun h2 => (h48.1 h2) h), if_pos h, nxR0]
    · rw [if_pos (h48.2 h), if_neg h]; rfl
  have hC2 : lvC bs 2 = if (lvR bs 1).length < (if s2X bs / 32 % 2 = 1 ∨ s2X bs / 16 % 2 = 1 then 1 else 0) then 2 else lvC bs 1 := by
    show (if s2X bs &&& lvB 1 = 0 then lvC bs 1 else nxC 0 (lvC bs 1) (lvR bs 1)) = _
    rw [show lvB 1 = 48 from rfl]
    by_cases h : s2X bs / 32 % 2 = 1 ∨ s2X bs / 16 % 2 = 1
    · rw [if_neg (fun h2 => (h48.1 h2) h), if_pos h, nxC0]
    · rw [if_pos (h48.2 h), if_neg h, if_neg (by omega)]
  rcases stage3 bs with ⟨h1, h2, h3⟩ | ⟨h1, hg, h2, h3, h4, h5, h6, h7, h8⟩
  · have hc : lvC bs 2 = s3C bs := by
      rcases h3 with ⟨h3, h4⟩ | h3
      · rw [hC2, hC1, h3, ite_self, ite_self]
      · rw [hC2, hC1, h3]
        rw [if_neg (by simp), if_neg (by simp)]
    exact ⟨by rw [hc, h1], fun h => absurd (h1 ▸ h) h2⟩
  · rw [h5] at hR1 hR2 hC1 hC2
    have ha3 : at3V bs = at1V bs + (if secV bs / 64 % 2 = 1 then 1 else 0) + (if secV bs / 32 % 2 = 1 ∨ secV bs / 16 % 2 = 1 then 1 else 0) := rfl
    generalize (if secV bs / 64 % 2 = 1 then 1 else 0) = l1 at *
    generalize (if secV bs / 32 % 2 = 1 ∨ secV bs / 16 % 2 = 1 then 1 else 0) = l2 at *
    have hR : lvR bs 2 = bs.drop (at3V bs) := by rw [hR2, hR1, h2, List.drop_drop, List.drop_drop, ha3]; congr 1; omega
    have hL1 : (lvR bs 1).length = bs.length - at1V bs - l1 := by rw [hR1, h2, List.length_drop, List.length_drop]
    have hL0 : (s3R bs).length = bs.length - at1V bs := by rw [h2, List.length_drop]
    by_cases hl : bs.length < at3V bs
    · have hw := why_end hg hl
      refine ⟨?_, fun h => by omega⟩
      rw [hw, hC2, hC1, hL1, hL0]
      by_cases k : bs.length - at1V bs - l1 < l2
      · rw [if_pos k]
      · rw [if_neg k, if_pos (by omega)]
    · have hw := why_ok hg hl
      refine ⟨by rw [hw, hC2, hC1, hL1, hL0, if_neg (by omega), if_neg (by omega), h1], fun _ => ⟨?_, by rw [hR, List.length_drop]; omega⟩⟩
      unfold vpV keyV
      rw [if_pos hw, h4, h8, h7, h6, hR, List.length_drop]
      have hk : bV (bs.drop (at3V bs)) 0 = bV bs (at3V bs) := by unfold bV; simp [List.getD]
      rw [hk]
      congr 1
      · rw [decide_eq_decide]
        constructor <;> rintro ⟨q1, q2, q3⟩ <;> exact ⟨q1, by omega, q3⟩
      · omega
end Go.Proofs.Ytpflgkepgoicjaa
