/- What the document's answers for layer 19 (tenailleref19) answer: a packet put. No statement is proved here. -/
import Derived.Test.YtjbeheegciacpaaRngR2
import Derived.Test.YtjbeheegciacpaaRngN2
import Derived.Test.YtjbeheegciacpaaReg
namespace Go.Proofs.Ytjbeheegciacpaa
open Go.RowKit
set_option linter.unusedVariables false

/-- A ring's blocks. -/
def FRg (g : Nat) (vI vB : Value) (k : Nat) : Prop := k = g ∨ vI.ownBlock = some k ∨ vB.ownBlock = some k
/-- Indices are of 64 bits, and there are not too many packets. -/
structure Okg (D : List Pck) (N : Nat) : Prop where
  len : D.length ≤ 200
  siz : sizD D ≤ N
theorem RRg.low {base g : Nat} {P B : Int} {D : List Pck} {vI vB : Value} {w : World} (h : RRg base g P B D vI vB w) : RRg 0 g P B D vI vB w := ⟨h.blk, own_moN h.own (Nat.zero_le _), own_moN h.owb (Nat.zero_le _)⟩
theorem RRg.lone {base g : Nat} {P B : Int} {D : List Pck} {vI vB : Value} {w w2 : World} (h : RRg base g P B D vI vB w) (hk : ∀ k, FRg g vI vB k → w2.heap[k]? = w.heap[k]?) : RRg base g P B D vI vB w2 :=
  ⟨(hk g (.inl rfl)).trans h.blk, own_at_same h.own (fun k hq => hk k (.inr (.inl hq))), own_at_same h.owb (fun k hq => hk k (.inr (.inr hq)))⟩
theorem RRg.lows {base g : Nat} {P B : Int} {D : List Pck} {vI vB : Value} {w : World} (h : RRg base g P B D vI vB w) : ∀ k, FRg g vI vB k → k < w.heap.size := by
  rintro k (rfl | hk | hk)
  · exact h.lt
  · exact (h.own.lt k hk).2
  · exact (h.owb.lt k hk).2
theorem idx_len (D : List Pck) : (D.map (·.1)).length = D.length := List.length_map _
theorem getD_idx {D : List Pck} {j : Nat} (h : j < D.length) : (D.map (·.1)).getD j 0 = D[j].1 := by simp [List.getD, h]

set_option maxRecDepth 100000 in
theorem rput_no19 (g : Nat) (P B i : Int) (D L : List Pck) (vI vB : Value) (A : Option Addr) (n c : Nat) (b : List UInt8) (w : World) (h : RRg 0 g P B D vI vB w) (hp : D.Perm L) (hs : Srt L) (hr : RdS w A n c b) (hl : D.length ≤ 200) (hP : 1 ≤ P) (hno : putE P B L i b ≠ 0) :
    Calls Try.prog 12 #[.pointer (some ⟨g, 0, none⟩), .int .i64 i, .slice A n c] w fun e w' => e = .returned (.int .i64 (putE P B L i b)) ∧ Below w.heap.size w w' := by
  have hc0 := h.c0
  have hc1 := h.c1
  have hc2 := h.c2
  have hlen := hr.len
  have hns : n ≤ 9223372036854775807 := by have h1 := hr.2.1; have h2 := hr.2.2.1; simp only [maxLen] at h2; omega
  obtain ⟨AI, cI, hvI⟩ := own_formN h.own
  subst hvI
  unfold putE at hno ⊢
  by_cases h1 : i < 0
  · rw [if_pos h1]
    clear h hno hs hp hr
    go_enter Try.func12, Try.ntmps12
    go_wp2
    go_ret
    exact ⟨rfl, Below.refl _ _⟩
  · rw [if_neg h1] at hno ⊢
    have h1' : 0 ≤ i := by omega
    rw [hlen] at hno ⊢
    by_cases h2 : B < (n : Int)
    · rw [if_pos h2]
      clear h hno hs hp hr h1
      go_enter Try.func12, Try.ntmps12
      go_wp2
      go_ret
      exact ⟨rfl, Below.refl _ _⟩
    · rw [if_neg h2] at hno ⊢
      have h2' : (n : Int) ≤ B := by omega
      have h3 : i ∈ L.map (·.1) ∨ ((L.length : Int) = P ∧ i < (L.map (·.1)).headD 0) := by
        by_cases h3 : i ∈ L.map (·.1) ∨ ((L.length : Int) = P ∧ i < (L.map (·.1)).headD 0)
        · exact h3
        · rw [if_neg h3] at hno; exact absurd rfl hno
      rw [if_pos h3]
      have HA := Lib.hid (fun q => rat_any19 0 g P B D _ vB i (w.drewN q) (h.drewN q) (by omega))
      by_cases h4 : i ∈ L.map (·.1)
      · have h4d : i ∈ D.map (·.1) := (idx_perm hp).mem_iff.2 h4
        have h5 := atL_nonneg.2 h4d
        obtain ⟨z, hz⟩ : ∃ z, z = atL (D.map (·.1)) i := ⟨_, rfl⟩
        rw [← hz] at HA h5
        clear h hno hs hp hr h1 h2 h3 h4 h4d hz
        go_enter Try.func12, Try.ntmps12
        go_wp2
        go_quiet ((go_at_call 14; exact Calls.quiet_of_same ((HA.out _).mono fun _ _ ⟨h, h2⟩ => ⟨h, h2.symm⟩)))
        go_wp2
        go_ret
        exact ⟨rfl, below_drewN (Below.refl _ _) _⟩
      · have h4d : i ∉ D.map (·.1) := fun hm => h4 ((idx_perm hp).mem_iff.1 hm)
        rw [atL_no h4d] at HA
        obtain ⟨hlp, hh⟩ := h3.resolve_left h4
        have HL := Lib.hid (fun q => rleast_any19 0 g P B D _ vB (w.drewN q) (h.drewN q) (by omega))
        obtain ⟨x, r, rfl⟩ : ∃ x r, L = x :: r := by
          cases L with
          | nil => simp at hlp; omega
          | cons x r => exact ⟨x, r, rfl⟩
        obtain ⟨m, hm1, hm2, hm3, _⟩ := lst_perm hp hs
        rw [hm1] at HL
        have hxi : i < x.1 := by simpa using hh
        have hlp' : (D.length : Int) = P := by rw [hp.length_eq]; exact hlp
        obtain ⟨k0, c', hv, _, _, hcell⟩ := own_ints h.own (by omega)
        injection hv with e1 e2 e3
        subst e1; subst e3
        have hcm := hcell m hm2
        rw [getD_idx hm2, hm3] at hcm
        obtain ⟨y, hy⟩ : ∃ y, y = x.1 := ⟨_, rfl⟩
        rw [← hy] at hcm hxi
        have hmi : (m : Int) < (D.length : Int) := by omega
        obtain ⟨N, hN⟩ : ∃ N, N = D.length := ⟨_, rfl⟩
        rw [← hN] at hmi hlp' hc2 hl hm2
        subst hlp'
        clear h hno hs hp hr h1 h2 h3 h4 h4d hcell hy hm1 hm3 hh hlp hN
        go_enter Try.func12, Try.ntmps12
        go_wp2
        go_quiet ((first
          | (go_at_call 14; exact Calls.quiet_of_same ((HA.out _).mono fun _ _ ⟨h, h2⟩ => ⟨h, h2.symm⟩))
          | (go_at_call 22; exact Calls.quiet_of (HL.out _))))
        go_wp2
        go_ret
        exact ⟨rfl, below_drewN (Below.refl _ _) _⟩
end Go.Proofs.Ytjbeheegciacpaa
