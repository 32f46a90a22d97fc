/- Plain mathematics on packets: the bytes of a packet, there and back. No program is named; no statement is proved here. -/
import Derived.Test.YticbajagccemoaaRtp4
namespace Go.Proofs.Yticbajagccemoaa
set_option linter.unusedVariables false

theorem beb_numb : ∀ (l : List UInt8), beb l.length (numb l) = l := by
  intro l
  obtain ⟨n, hn⟩ : ∃ n, n = l.length := ⟨_, rfl⟩
  induction n generalizing l with
  | zero => have : l = [] := List.eq_nil_of_length_eq_zero hn.symm
            subst this; rfl
  | succ n ih =>
    have hne : l ≠ [] := by intro h; subst h; cases hn
    have e : l = l.dropLast ++ [l.getLast hne] := (List.dropLast_concat_getLast hne).symm
    have hl : l.dropLast.length = n := by rw [List.length_dropLast]; omega
    rw [e]
    generalize l.getLast hne = b
    generalize l.dropLast = r at hl
    rw [List.length_append, List.length_singleton, numb_snoc, beb_succ]
    have hb := b.toNat_lt
    have e1 : (numb r * 256 + b.toNat) / 256 = numb r := by omega
    rw [e1, ih r hl.symm]
    congr 2
    rw [← UInt8.toNat_inj, UInt8.toNat_ofNat']
    omega
theorem beb_one (x : Nat) : beb 1 x = [UInt8.ofNat x] := by rw [beb_succ]; rfl
theorem beb_numb_of {l : List UInt8} {n : Nat} (h : l.length = n) : beb n (numb l) = l := h ▸ beb_numb l
theorem numb_beb_of {n x : Nat} (h : x < 256 ^ n) : numb (beb n x) = x := by rw [numb_beb, Nat.mod_eq_of_lt h]

/-- The bytes of so many bytes of padding. -/
def padB (n : Nat) : List UInt8 := if n = 0 then [] else List.replicate (n - 1) 0 ++ [UInt8.ofNat n]
theorem padB_len (n : Nat) : (padB n).length = n := by
  unfold padB
  split
  · rename_i h; rw [h]; rfl
  · simp; omega
def firstN (p : Pkt) : Nat := 128 + (if 0 < p.pd then 32 else 0) + (if p.x then 16 else 0) + p.ot.length
def secondN (p : Pkt) : Nat := (if p.m then 128 else 0) + p.ty
def hdB (p : Pkt) : List UInt8 := [UInt8.ofNat (firstN p)] ++ ([UInt8.ofNat (secondN p)] ++ (beb 2 p.sq ++ (beb 4 p.st ++ beb 4 p.so)))
def otB (L : List Nat) : List UInt8 := L.flatMap (beb 4)
def exBt (p : Pkt) : List UInt8 := if p.x then beb 2 p.pf ++ (beb 2 (p.xt.length / 4) ++ p.xt) else []
/-- The bytes of a packet that may be. -/
def wrB (p : Pkt) : List UInt8 := hdB p ++ (otB p.ot ++ (exBt p ++ (p.pl ++ padB p.pd)))
theorem hdB_len (p : Pkt) : (hdB p).length = 12 := by simp [hdB, length_beb]
theorem otB_len (L : List Nat) : (otB L).length = 4 * L.length := by
  induction L with
  | nil => rfl
  | cons a r ih =>
    have : otB (a :: r) = beb 4 a ++ otB r := rfl
    rw [this, List.length_append, length_beb, ih, List.length_cons]
    omega
def hdN' (p : Pkt) : Nat := 12 + 4 * p.ot.length + (if p.x then 4 + p.xt.length else 0)
theorem exBt_len (p : Pkt) : (exBt p).length = if p.x then 4 + p.xt.length else 0 := by
  unfold exBt
  split
  · simp [length_beb]; omega
  · rfl
theorem wrB_len (p : Pkt) : (wrB p).length = hdN' p + p.pl.length + p.pd := by
  unfold wrB hdN'
  rw [List.length_append, List.length_append, List.length_append, List.length_append, hdB_len, otB_len, exBt_len, padB_len]
  omega

/-- The packet may be written. -/
def mayB (p : Pkt) : Prop := p.ty ≤ 127 ∧ p.ot.length ≤ 15 ∧ (p.x = true ∨ (p.xt.length = 0 ∧ p.pf = 0)) ∧ p.xt.length % 4 = 0 ∧ p.xt.length ≤ 1020 ∧ hdN' p + p.pl.length + p.pd ≤ 1200
/-- Its numbers fit their fields. -/
def fits (p : Pkt) : Prop := p.sq < 65536 ∧ p.st < 4294967296 ∧ p.so < 4294967296 ∧ (∀ x ∈ p.ot, x < 4294967296) ∧ p.pf < 65536 ∧ p.pd < 256

theorem otB_srcs (S : List UInt8) : ∀ n, 4 * n ≤ S.length → otB (srcs S n) = S.take (4 * n)
  | 0, _ => by simp [srcs, otB]
  | n + 1, h => by
    have ih := otB_srcs S n (by omega)
    rw [srcs_succ]
    have e : otB (srcs S n ++ [numb ((S.drop (4 * n)).take 4)]) = otB (srcs S n) ++ beb 4 (numb ((S.drop (4 * n)).take 4)) := by simp [otB]
    rw [e, ih, beb_numb_of (by rw [List.length_take, List.length_drop]; omega), show 4 * (n + 1) = 4 * n + 4 by omega, List.take_add]

theorem srcs_otB (L : List Nat) (T : List UInt8) (h : ∀ x ∈ L, x < 4294967296) : srcs (otB L ++ T) L.length = L := by
  have key : ∀ (R : List Nat) (L : List Nat) (T : List UInt8), (∀ x ∈ L, x < 4294967296) → ∀ k, k < L.length → numb (((otB L ++ T).drop (4 * k)).take 4) = L.getD k 0 := by
    intro _ L
    induction L with
    | nil => intro T _ k hk; simp at hk
    | cons a r ih =>
      intro T h k hk
      have e : otB (a :: r) = beb 4 a ++ otB r := rfl
      rw [e, List.append_assoc]
      have hb : (beb 4 a).length = 4 := length_beb 4 a
      cases k with
      | zero =>
        rw [Nat.mul_zero, List.drop_zero, List.take_left' hb, numb_beb_of (by have := h a (by simp); omega)]
        rfl
      | succ k =>
        have e2 : ((beb 4 a ++ (otB r ++ T)).drop (4 * (k + 1))) = (otB r ++ T).drop (4 * k) := by
          rw [show 4 * (k + 1) = (beb 4 a).length + 4 * k by rw [hb]; omega, List.drop_append]
          simp
        rw [e2, ih T (fun x hx => h x (by simp [hx])) k (by simpa using hk)]
        rfl
  apply List.ext_getElem
  · simp [srcs]
  · intro k h1 h2
    simp only [srcs, List.getElem_map, List.getElem_range]
    rw [key [] L T h k h2]
    simp [List.getD, h2]
end Go.Proofs.Yticbajagccemoaa
