/- Several texts in one: plain words and walks. No statement is proved here. -/
import Derived.WalkKit
import Derived.Test.YtmkeioeodlidgaaGreatDoorProg
import Derived.KernelRfl
import Derived.IntWalk
import Derived.LoopTactic
import Derived.Lib.Hide
import Derived.OpenShut
import Derived.Test.YtmkeioeodlidgaaGreatDoorZM1
import Derived.Test.YtmkeioeodlidgaaGreatDoorZM3
import Derived.Test.YtmkeioeodlidgaaGreatDoorZBytes
import Derived.Test.YtmkeioeodlidgaaGreatDoorZNums
namespace Go.Proofs.YtmkeioeodlidgaaGreatDoor
set_option linter.unusedVariables false

def hiL (L : List Int) : Int := L.foldl (fun h y => if h < y then y else h) (-1)
def frL (L : List Int) (x : Int) : Bool := decide (0 ≤ x ∧ hiL L < x + 64 ∧ x ∉ L)
def mkL (L : List Int) (x : Int) : List Int := if frL L x = true then L ++ [x] else L
theorem hiL_nil : hiL [] = -1 := rfl
theorem hiL_snoc (L : List Int) (x : Int) : hiL (L ++ [x]) = if hiL L < x then x else hiL L := by
 unfold hiL
 rw [List.foldl_append]
 rfl
theorem hiL_facts (L : List Int) : -1 ≤ hiL L ∧ (∀ y ∈ L, y ≤ hiL L) ∧ (hiL L = -1 ∨ hiL L ∈ L) := by
 suffices h : ∀ M : List Int, -1 ≤ hiL M.reverse ∧ (∀ y ∈ M.reverse, y ≤ hiL M.reverse) ∧ (hiL M.reverse = -1 ∨ hiL M.reverse ∈ M.reverse) by
  have := h L.reverse
  rwa [List.reverse_reverse] at this
 intro M
 induction M with
 | nil => simp [hiL_nil]
 | cons a M ih =>
   obtain ⟨h1, h2, h3⟩ := ih
   rw [List.reverse_cons, hiL_snoc]
   split
   · refine ⟨by omega, fun y hy => ?_, .inr (by simp)⟩
     rcases List.mem_append.1 hy with h | h
     · have := h2 y h; omega
     · have := List.mem_singleton.1 h; omega
   · refine ⟨h1, fun y hy => ?_, ?_⟩
     · rcases List.mem_append.1 hy with h | h
       · exact h2 y h
       · have := List.mem_singleton.1 h; omega
     · rcases h3 with h | h
       · exact .inl h
       · exact .inr (List.mem_append_left _ h)
theorem hiL_low (L : List Int) : -1 ≤ hiL L := (hiL_facts L).1
theorem hiL_ge {L : List Int} {y : Int} (h : y ∈ L) : y ≤ hiL L := (hiL_facts L).2.1 y h
theorem hiL_mem {L : List Int} (h : L ≠ []) (hp : ∀ y ∈ L, 0 ≤ y) : hiL L ∈ L := by
 rcases (hiL_facts L).2.2 with e | e
 · obtain ⟨a, M, rfl⟩ := List.exists_cons_of_ne_nil h
   have := hp a (by simp)
   have := hiL_ge (L := a :: M) (y := a) (by simp)
   omega
 · exact e
theorem frL_iff (L : List Int) (x : Int) : frL L x = true ↔ 0 ≤ x ∧ hiL L < x + 64 ∧ x ∉ L := by simp [frL]
theorem mkL_of {L : List Int} {x : Int} (h : frL L x = true) : mkL L x = L ++ [x] := by simp [mkL, h]
theorem mkL_not {L : List Int} {x : Int} (h : frL L x = false) : mkL L x = L := by simp [mkL, h]
theorem mk_len (L : List Int) (x : Int) : (mkL L x).length ≤ L.length + 1 := by
 cases hf : frL L x
 · rw [mkL_not hf]; omega
 · rw [mkL_of hf]; simp
theorem hiL_top {L : List Int} {B : Int} (h : ∀ y ∈ L, 0 ≤ y ∧ y ≤ B) (hB : -1 ≤ B) : hiL L ≤ B := by
 rcases (hiL_facts L).2.2 with e | e
 · omega
 · exact (h _ e).2

/-! How many of the first k hold. -/
/-! The window. -/
structure WinS (L : List Int) (h : Int) (p : Nat) : Prop where
 lt : p < 18446744073709551616
 hh : L ≠ [] → h = hiL L
 h0 : L = [] → h = 0 ∧ p = 0
 bit : ∀ n : Nat, n < 64 → p.testBit n = decide (h - (n : Int) ∈ L)
 pos : ∀ y ∈ L, 0 ≤ y
 nd : L.Nodup
theorem WinS.nil : WinS [] 0 0 := ⟨by omega, by simp, by simp, by simp, by simp, List.nodup_nil⟩
section
variable {L : List Int} {h : Int} {p : Nat}
theorem WinS.zero (W : WinS L h p) : p = 0 ↔ L = [] := by
 constructor
 · intro hp
   cases L with
   | nil => rfl
   | cons a M =>
     have h1 := W.bit 0 (by omega)
     have h2 := hiL_mem (L := a :: M) (by simp) W.pos
     have h3 := W.hh (by simp)
     rw [hp] at h1
     simp only [Nat.zero_testBit, Int.natCast_zero, Int.sub_zero] at h1
     rw [h3] at h1
     simp [h2] at h1
 · intro hL
   exact (W.h0 hL).2
theorem WinS.hpos (W : WinS L h p) : 0 ≤ h := by
 by_cases hL : L = []
 · have := (W.h0 hL).1; omega
 · rw [W.hh hL]; exact W.pos _ (hiL_mem hL W.pos)
theorem WinS.high (W : WinS L h p) : (if p = 0 then -1 else h) = hiL L := by
 by_cases hL : L = []
 · rw [if_pos (W.zero.2 hL), hL]; rfl
 · rw [if_neg (fun e => hL (W.zero.1 e)), W.hh hL]
theorem WinS.le (W : WinS L h p) : hiL L ≤ h := by
 have := W.high
 have := W.hpos
 split at * <;> omega
theorem fr_neg {i : Int} (hi : i < 0) : frL L i = false := by
 rw [← Bool.not_eq_true, frL_iff]; intro h; omega
theorem fr_above {i : Int} (h0 : 0 ≤ i) (hi : hiL L < i) : frL L i = true := by
 rw [frL_iff]
 exact ⟨h0, by omega, fun hm => by have := hiL_ge hm; omega⟩
theorem fr_far {i : Int} (hi : 64 ≤ hiL L - i) : frL L i = false := by
 rw [← Bool.not_eq_true, frL_iff]; intro h; omega
theorem WinS.near (W : WinS L h p) {i : Int} (h0 : 0 ≤ i) (hi : i ≤ hiL L) (n : Nat) (hn : hiL L - i = n) (h6 : n < 64) : frL L i = !(p.testBit n) := by
 have hL : L ≠ [] := by
  intro e
  subst e
  have := hiL_nil
  omega
 rw [W.bit n h6, W.hh hL, show hiL L - (n : Int) = i by omega]
 unfold frL
 by_cases hm : i ∈ L <;> simp [hm] <;> omega
theorem two64 : (18446744073709551616 : Nat) = 2 ^ 64 := by decide
theorem nodup_snoc {i : Int} (hn : L.Nodup) (hi : i ∉ L) : (L ++ [i]).Nodup := by
 rw [List.nodup_append]
 refine ⟨hn, by simp, fun a ha b hb => ?_⟩
 have := List.mem_singleton.1 hb
 subst this
 exact fun e => hi (e ▸ ha)
theorem testBit_one_at (n : Nat) : Nat.testBit 1 n = decide (n = 0) := by
 cases n with
 | zero => rfl
 | succ n => rw [Nat.testBit_succ]; simp
theorem WinS.up (W : WinS L h p) {i : Int} (hi : h < i) (d : Nat) (hd : i - h = d) : WinS (mkL L i) i ((p * 2 ^ d) % 18446744073709551616 ||| 1) := by
 have hp := W.hpos
 have hf : frL L i = true := fr_above (by omega) (by have := W.le; omega)
 have hni := ((frL_iff L i).1 hf).2.2
 rw [mkL_of hf]
 refine ⟨?_, fun _ => ?_, by simp, fun n hn => ?_, fun y hy => ?_, nodup_snoc W.nd hni⟩
 · rw [two64]
   exact Nat.or_lt_two_pow (Nat.mod_lt _ (by decide)) (by decide)
 · rw [hiL_snoc, if_pos (by have := W.le; omega)]
 · rw [Nat.testBit_or, two64, Nat.testBit_mod_two_pow, Nat.testBit_mul_two_pow, testBit_one_at, decide_eq_true hn, Bool.true_and]
   by_cases h0 : n = 0
   · subst h0
     simp
   · have e0 : decide (n = 0) = false := by simp [h0]
     rw [e0, Bool.or_false]
     by_cases hdn : d ≤ n
     · have e1 : decide (n ≥ d) = true := decide_eq_true hdn
       rw [e1, Bool.true_and, W.bit (n - d) (by omega), show h - ((n - d : Nat) : Int) = i - (n : Int) by omega]
       have : i - (n : Int) ≠ i := by omega
       simp [this]
     · have e1 : decide (n ≥ d) = false := by simp; omega
       rw [e1, Bool.false_and]
       have h1 : i - (n : Int) ∉ L := fun hm => by
        have := hiL_ge hm
        have := W.le
        omega
       have : i - (n : Int) ≠ i := by omega
       simp [this, h1]
 · rcases List.mem_append.1 hy with h' | h'
   · exact W.pos y h'
   · have := List.mem_singleton.1 h'; omega
theorem WinS.in (W : WinS L h p) {i : Int} (hi : i ≤ h) (hf : frL L i = true) (d : Nat) (hd : h - i = d) : WinS (mkL L i) h (p ||| 2 ^ d) ∧ d < 64 := by
 have hfi := (frL_iff L i).1 hf
 have hd6 : d < 64 := by
  by_cases hL : L = []
  · have := (W.h0 hL).1
    omega
  · have := W.hh hL
    omega
 refine ⟨?_, hd6⟩
 rw [mkL_of hf]
 refine ⟨?_, fun _ => ?_, by simp, fun n hn => ?_, fun y hy => ?_, nodup_snoc W.nd hfi.2.2⟩
 · rw [two64]
   exact Nat.or_lt_two_pow (by rw [← two64]; exact W.lt) (Nat.pow_lt_pow_right (by decide) hd6)
 · rw [hiL_snoc]
   by_cases hL : L = []
   · have := (W.h0 hL).1
     subst hL
     rw [hiL_nil]
     split <;> omega
   · rw [W.hh hL] at hi ⊢
     rw [if_neg (by omega)]
 · rw [Nat.testBit_or, Nat.testBit_two_pow, W.bit n hn]
   by_cases he : d = n
   · subst he
     have : h - (d : Int) = i := by omega
     simp [this]
   · have : h - (n : Int) ≠ i := by omega
     simp [this, he]
 · rcases List.mem_append.1 hy with h' | h'
   · exact W.pos y h'
   · have := List.mem_singleton.1 h'; omega
end

/-! How many bits of a number are set, as the library counts them. -/
def bs : Nat → Nat → Nat
 | 0, _ => 0
 | k + 1, x => x % 2 + bs k (x / 2)
theorem and_split (k a b d e : Nat) (hd : d < 2 ^ k) (he : e < 2 ^ k) : (2 ^ k * a + d) &&& (2 ^ k * b + e) = 2 ^ k * (a &&& b) + (d &&& e) := by
 apply Nat.eq_of_testBit_eq
 intro i
 rw [Nat.testBit_and, Nat.testBit_two_pow_mul_add _ hd, Nat.testBit_two_pow_mul_add _ he, Nat.testBit_two_pow_mul_add _ (Nat.lt_of_le_of_lt Nat.and_le_left hd)]
 split
 · rw [Nat.testBit_and]
 · rw [Nat.testBit_and]
def c1 : Nat → Nat → Nat
 | 0, _ => 0
 | k + 1, x => 4 * c1 k (x / 4) + (x % 2 + x / 2 % 2)
def m1 : Nat → Nat
 | 0 => 0
 | k + 1 => 4 * m1 k + 1
theorem s1 : ∀ k x, (x / 2 &&& m1 k) + (x &&& m1 k) = c1 k x
 | 0, x => by simp [m1, c1]
 | k + 1, x => by
   have ih := s1 k (x / 4)
   have e1 : x / 2 = 2 ^ 2 * (x / 4 / 2) + x / 2 % 4 := by omega
   have e2 : x = 2 ^ 2 * (x / 4) + x % 4 := by omega
   have h1 : (x / 2 &&& m1 (k + 1)) = 4 * (x / 4 / 2 &&& m1 k) + x / 2 % 2 := by
    rw [m1]
    conv => lhs; rw [e1]
    rw [show 4 * m1 k + 1 = 2 ^ 2 * m1 k + 1 by omega, and_split 2 _ _ _ _ (by omega) (by omega), Nat.and_one_is_mod]
    omega
   have h2 : (x &&& m1 (k + 1)) = 4 * (x / 4 &&& m1 k) + x % 2 := by
    rw [m1]
    conv => lhs; rw [e2]
    rw [show 4 * m1 k + 1 = 2 ^ 2 * m1 k + 1 by omega, and_split 2 _ _ _ _ (by omega) (by omega), Nat.and_one_is_mod]
    omega
   rw [h1, h2, c1, ← ih]
   omega
def q4 (x : Nat) : Nat := x % 2 + x / 2 % 2 + x / 4 % 2 + x / 8 % 2
theorem q4_le (x : Nat) : q4 x ≤ 4 := by unfold q4; omega
def c2 : Nat → Nat → Nat
 | 0, _ => 0
 | k + 1, x => 16 * c2 k (x / 16) + q4 x
def m2 : Nat → Nat
 | 0 => 0
 | k + 1 => 16 * m2 k + 3
theorem s2 : ∀ k x, (c1 (2 * k) x / 4 &&& m2 k) + (c1 (2 * k) x &&& m2 k) = c2 k x
 | 0, x => by simp [m2, c2]
 | k + 1, x => by
   have ih := s2 k (x / 16)
   have e0 : c1 (2 * (k + 1)) x = 4 * (4 * c1 (2 * k) (x / 16) + (x / 4 % 2 + x / 8 % 2)) + (x % 2 + x / 2 % 2) := by
    rw [show 2 * (k + 1) = 2 * k + 1 + 1 by omega, c1, c1, show x / 4 / 4 = x / 16 by omega, show x / 4 / 2 = x / 8 by omega]
   obtain ⟨Y, hY⟩ : ∃ Y, Y = c1 (2 * k) (x / 16) := ⟨_, rfl⟩
   rw [← hY] at ih e0
   obtain ⟨a, ha⟩ : ∃ a, a = x / 4 % 2 + x / 8 % 2 := ⟨_, rfl⟩
   obtain ⟨b, hb⟩ : ∃ b, b = x % 2 + x / 2 % 2 := ⟨_, rfl⟩
   rw [← ha, ← hb] at e0
   have hq : q4 x = a + b := by unfold q4; omega
   have ha2 : a ≤ 2 := by omega
   have hb2 : b ≤ 2 := by omega
   have h1 : (c1 (2 * (k + 1)) x / 4 &&& m2 (k + 1)) = 16 * (Y / 4 &&& m2 k) + a := by
    rw [m2, e0, show (4 * (4 * Y + a) + b) / 4 = 2 ^ 4 * (Y / 4) + (4 * (Y % 4) + a) by omega, show 16 * m2 k + 3 = 2 ^ 4 * m2 k + 3 by omega, and_split 4 _ _ _ _ (by omega) (by omega), show 3 = 2 ^ 2 - 1 by rfl, Nat.and_two_pow_sub_one_eq_mod]
    omega
   have h2 : (c1 (2 * (k + 1)) x &&& m2 (k + 1)) = 16 * (Y &&& m2 k) + b := by
    rw [m2, e0, show 4 * (4 * Y + a) + b = 2 ^ 4 * Y + (4 * a + b) by omega, show 16 * m2 k + 3 = 2 ^ 4 * m2 k + 3 by omega, and_split 4 _ _ _ _ (by omega) (by omega), show 3 = 2 ^ 2 - 1 by rfl, Nat.and_two_pow_sub_one_eq_mod]
    omega
   rw [h1, h2, c2, hq, ← ih]
   omega
theorem c2_low : ∀ k x, c2 k x % 16 ≤ 4
 | 0, x => by simp [c2]
 | k + 1, x => by have := q4_le x; rw [c2]; omega
def c3 : Nat → Nat → Nat
 | 0, _ => 0
 | k + 1, x => 256 * c3 k (x / 256) + (q4 (x / 16) + q4 x)
def m3 : Nat → Nat
 | 0 => 0
 | k + 1 => 256 * m3 k + 15
theorem s3 : ∀ k x, ((c2 (2 * k) x / 16 + c2 (2 * k) x) &&& m3 k) = c3 k x
 | 0, x => by simp [m3, c3]
 | k + 1, x => by
   have ih := s3 k (x / 256)
   have e0 : c2 (2 * (k + 1)) x = 16 * (16 * c2 (2 * k) (x / 256) + q4 (x / 16)) + q4 x := by
    rw [show 2 * (k + 1) = 2 * k + 1 + 1 by omega, c2, c2, show x / 16 / 16 = x / 256 by omega]
   have hl := c2_low (2 * k) (x / 256)
   have ha := q4_le (x / 16)
   have hb := q4_le x
   obtain ⟨Y, hY⟩ : ∃ Y, Y = c2 (2 * k) (x / 256) := ⟨_, rfl⟩
   rw [← hY] at ih e0 hl
   obtain ⟨a, ha'⟩ : ∃ a, a = q4 (x / 16) := ⟨_, rfl⟩
   obtain ⟨b, hb'⟩ : ∃ b, b = q4 x := ⟨_, rfl⟩
   rw [c3, m3, e0, ← ha', ← hb']
   rw [← ha'] at ha
   rw [← hb'] at hb
   rw [show (16 * (16 * Y + a) + b) / 16 + (16 * (16 * Y + a) + b) = 2 ^ 8 * (Y / 16 + Y) + (16 * (Y % 16) + a + 16 * a + b) by omega, show 256 * m3 k + 15 = 2 ^ 8 * m3 k + 15 by omega, and_split 8 _ _ _ _ (by omega) (by omega), show 15 = 2 ^ 4 - 1 by rfl, Nat.and_two_pow_sub_one_eq_mod, ih]
   omega
theorem bs8 (k x : Nat) : bs (k + 8) x = bs k (x / 256) + (q4 (x / 16) + q4 x) := by
 simp only [bs, q4]
 rw [show x / 2 / 2 / 2 / 2 / 2 / 2 / 2 / 2 = x / 256 by omega]
 omega
theorem lastN (r0 r1 r2 r3 r4 r5 r6 r7 c a b d : Nat) (h0 : r0 ≤ 8) (h1 : r1 ≤ 8) (h2 : r2 ≤ 8) (h3 : r3 ≤ 8) (h4 : r4 ≤ 8) (h5 : r5 ≤ 8) (h6 : r6 ≤ 8) (h7 : r7 ≤ 8)
 (hc : c = 256 * (256 * (256 * (256 * (256 * (256 * (256 * r7 + r6) + r5) + r4) + r3) + r2) + r1) + r0) (ha : a = c + c / 256) (hb : b = a + a / 65536) (hd : d = b + b / 4294967296) :
 c ≤ 600000000000000000 ∧ a ≤ 1200000000000000000 ∧ b ≤ 2400000000000000000 ∧ d ≤ 4800000000000000000 ∧ d % 128 = r0 + r1 + r2 + r3 + r4 + r5 + r6 + r7 := by
 have hcl : c ≤ 600000000000000000 := by omega
 have hal : a ≤ 1200000000000000000 := by omega
 have hbl : b ≤ 2400000000000000000 := by omega
 have hdl : d ≤ 4800000000000000000 := by omega
 refine ⟨hcl, hal, hbl, hdl, ?_⟩
 clear hcl hal hbl hdl
 obtain ⟨P3, hP3⟩ : ∃ P3, P3 = 256 * r7 + r6 := ⟨_, rfl⟩
 obtain ⟨P2, hP2⟩ : ∃ P2, P2 = 256 * r5 + r4 := ⟨_, rfl⟩
 obtain ⟨P1, hP1⟩ : ∃ P1, P1 = 256 * r3 + r2 := ⟨_, rfl⟩
 obtain ⟨P0, hP0⟩ : ∃ P0, P0 = 256 * r1 + r0 := ⟨_, rfl⟩
 have hc' : c = 65536 * (65536 * (65536 * P3 + P2) + P1) + P0 := by rw [hc]; omega
 have hcd : c / 256 = 65536 * (65536 * (65536 * r7 + (256 * r6 + r5)) + (256 * r4 + r3)) + (256 * r2 + r1) := by rw [hc]; omega
 rw [hcd, hc'] at ha
 clear hc hcd hc'
 obtain ⟨Q3, hQ3⟩ : ∃ Q3, Q3 = 256 * r7 + (r6 + r7) := ⟨_, rfl⟩
 obtain ⟨Q2, hQ2⟩ : ∃ Q2, Q2 = 256 * (r5 + r6) + (r4 + r5) := ⟨_, rfl⟩
 obtain ⟨Q1, hQ1⟩ : ∃ Q1, Q1 = 256 * (r3 + r4) + (r2 + r3) := ⟨_, rfl⟩
 obtain ⟨Q0, hQ0⟩ : ∃ Q0, Q0 = 256 * (r1 + r2) + (r0 + r1) := ⟨_, rfl⟩
 have ha' : a = 65536 * (65536 * (65536 * Q3 + Q2) + Q1) + Q0 := by omega
 have l3 : Q3 ≤ 5000 := by omega
 have l2 : Q2 ≤ 5000 := by omega
 have l1 : Q1 ≤ 5000 := by omega
 have l0 : Q0 ≤ 5000 := by omega
 have had : a / 65536 = 65536 * (65536 * Q3 + Q2) + Q1 := by clear hQ0 hQ1 hQ2 hQ3 ha hP0 hP1 hP2 hP3; omega
 rw [had, ha'] at hb
 clear ha ha' had hP0 hP1 hP2 hP3
 have hb' : b = 4294967296 * (65536 * Q3 + (Q2 + Q3)) + (65536 * (Q1 + Q2) + (Q0 + Q1)) := by clear hQ0 hQ1 hQ2 hQ3; omega
 have hbd : b / 4294967296 = 65536 * Q3 + (Q2 + Q3) := by clear hQ0 hQ1 hQ2 hQ3; omega
 rw [hbd, hb'] at hd
 clear hb hb' hbd
 have hS : Q0 + Q1 + Q2 + Q3 = 256 * (r1 + r2 + r3 + r4 + r5 + r6 + r7) + (r0 + r1 + r2 + r3 + r4 + r5 + r6 + r7) := by omega
 have hS2 : d % 128 = (Q0 + Q1 + Q2 + Q3) % 128 := by clear hQ0 hQ1 hQ2 hQ3 hS; omega
 rw [hS2, hS]
 clear hd hS2 hS hQ0 hQ1 hQ2 hQ3
 omega
theorem q8 (y : Nat) : q4 (y / 16) + q4 y ≤ 8 := by have := q4_le (y / 16); have := q4_le y; omega
theorem last (x c a b d : Nat) (hc : c = c3 8 x) (ha : a = c + c / 256) (hb : b = a + a / 65536) (hd : d = b + b / 4294967296) : c ≤ 600000000000000000 ∧ a ≤ 1200000000000000000 ∧ b ≤ 2400000000000000000 ∧ d ≤ 4800000000000000000 ∧ d % 128 = bs 64 x := by
 have hbs : bs 64 x = (q4 (x / 16) + q4 x) + (q4 (x / 256 / 16) + q4 (x / 256)) + (q4 (x / 256 / 256 / 16) + q4 (x / 256 / 256)) + (q4 (x / 256 / 256 / 256 / 16) + q4 (x / 256 / 256 / 256)) + (q4 (x / 256 / 256 / 256 / 256 / 16) + q4 (x / 256 / 256 / 256 / 256)) +
  (q4 (x / 256 / 256 / 256 / 256 / 256 / 16) + q4 (x / 256 / 256 / 256 / 256 / 256)) + (q4 (x / 256 / 256 / 256 / 256 / 256 / 256 / 16) + q4 (x / 256 / 256 / 256 / 256 / 256 / 256)) + (q4 (x / 256 / 256 / 256 / 256 / 256 / 256 / 256 / 16) + q4 (x / 256 / 256 / 256 / 256 / 256 / 256 / 256)) := by
  rw [bs8 56, bs8 48, bs8 40, bs8 32, bs8 24, bs8 16, bs8 8, bs8 0, bs]
  omega
 have hc3 : c = 256 * (256 * (256 * (256 * (256 * (256 * (256 * (q4 (x / 256 / 256 / 256 / 256 / 256 / 256 / 256 / 16) + q4 (x / 256 / 256 / 256 / 256 / 256 / 256 / 256)) + (q4 (x / 256 / 256 / 256 / 256 / 256 / 256 / 16) + q4 (x / 256 / 256 / 256 / 256 / 256 / 256))) + (q4 (x / 256 / 256 / 256 / 256 / 256 / 16) + q4 (x / 256 / 256 / 256 / 256 / 256))) +
  (q4 (x / 256 / 256 / 256 / 256 / 16) + q4 (x / 256 / 256 / 256 / 256))) + (q4 (x / 256 / 256 / 256 / 16) + q4 (x / 256 / 256 / 256))) + (q4 (x / 256 / 256 / 16) + q4 (x / 256 / 256))) + (q4 (x / 256 / 16) + q4 (x / 256))) + (q4 (x / 16) + q4 x) := by
  rw [hc, c3, c3, c3, c3, c3, c3, c3, c3, c3, Nat.mul_zero, Nat.zero_add]
 rw [hbs]
 exact lastN _ _ _ _ _ _ _ _ c a b d (q8 _) (q8 _) (q8 _) (q8 _) (q8 _) (q8 _) (q8 _) (q8 _) hc3 ha hb hd
end Go.Proofs.YtmkeioeodlidgaaGreatDoor

namespace Go.Proofs.YtmkeioeodlidgaaGreatDoor
open Go.RowKit
set_option linter.unusedVariables false

def aheadZ (a b : Int) : Int := (b - a + 32768) % 65536 - 32768
def likely (h s : Int) : Int := if h < 0 then s else if h < aheadZ s h then h - aheadZ s h + 65536 else h - aheadZ s h

theorem aheadZ_bd (a b : Int) : -32768 ≤ aheadZ a b ∧ aheadZ a b ≤ 32767 := by unfold aheadZ; omega
theorem ret_num {k : IntKind} {a b : Int} (h : a = b) : Ending.returned (.int k a) = .returned (.int k b) := by rw [h]
theorem wrap_u16_ (n : Int) : IntKind.u16.wrap n = n % 65536 := by simp [IntKind.wrap, IntKind.bits, IntKind.signed]
theorem wrap_i16_ (n : Int) : IntKind.i16.wrap n = (n + 32768) % 65536 - 32768 := by simp [IntKind.wrap, IntKind.bits, IntKind.signed]; omega

theorem ahead_eq (a b : Int) : wrap64 (IntKind.i16.wrap (IntKind.u16.wrap (b - a))) = aheadZ a b := by
 rw [wrap_u16_, wrap_i16_]; unfold wrap64 aheadZ; omega
theorem ahead_mod (s h : Int) : aheadZ s (h % 65536) = aheadZ s h := by unfold aheadZ; omega

theorem seq_any (i : Int) (w : World) :
 Calls Tryz.prog 50 #[.int .i64 i] w fun e w' => e = .returned (.int .u16 (i % 65536)) ∧ w = w' := by
 go_enter Tryz.func50, Tryz.ntmps50
 go_wp2
 go_ret
 exact ⟨ret_num (wrap_u16_ i), rfl⟩

theorem ahead_any (a b : Int) (w : World) (ha : 0 ≤ a) (ha' : a ≤ 65535) (hb : 0 ≤ b) (hb' : b ≤ 65535) :
 Calls Tryz.prog 84 #[.int .u16 a, .int .u16 b] w fun e w' => e = .returned (.int .i64 (aheadZ a b)) ∧ w = w' := by
 go_enter Tryz.func84, Tryz.ntmps84
 go_wp2
 go_ret
 exact ⟨ret_num (ahead_eq a b), rfl⟩

theorem likely_neg (h s : Int) (hh : h < 0) : likely h s = s := by simp [likely, hh]
theorem likely_hi (h s : Int) (hh : 0 ≤ h) (hd : h < aheadZ s h) : likely h s = h - aheadZ s h + 65536 := by
 simp only [likely, show ¬ h < 0 by omega, if_false, hd, if_true]
theorem likely_in (h s : Int) (hh : 0 ≤ h) (hd : aheadZ s h ≤ h) : likely h s = h - aheadZ s h := by
 simp only [likely, show ¬ h < 0 by omega, show ¬ h < aheadZ s h by omega, if_false]

theorem index_any (h s : Int) (w : World) (hl : -9223372036854775808 ≤ h) (hh : h ≤ 4611686018427387904) (hs : 0 ≤ s) (hs' : s ≤ 65535) :
 Calls Tryz.prog 60 #[.int .i64 h, .int .u16 s] w fun e w' => e = .returned (.int .i64 (likely h s)) ∧ w = w' := by
 by_cases h0 : h < 0
 · rw [likely_neg h s h0]
   go_enter Tryz.func60, Tryz.ntmps60
   go_wp2
   go_ret
   exact ⟨rfl, rfl⟩
 have h0' : 0 ≤ h := by omega
 clear h0
 obtain ⟨d, hd⟩ : ∃ d, d = aheadZ s h := ⟨_, rfl⟩
 have hb := aheadZ_bd s h
 have hm := ahead_mod s h
 have HI := likely_hi h s h0'
 have HN := likely_in h s h0'
 rw [← hd] at hb hm HI HN
 clear hd
 have HM := Lib.hid hm
 clear hm
 have HA : ∀ w, Calls Tryz.prog 84 #[.int .u16 s, .int .u16 (h % 65536)] w fun e w' => e = .returned (.int .i64 d) ∧ w = w' := fun w => by
  have := ahead_any s (h % 65536) w hs hs' (by omega) (by omega)
  rw [HM.out] at this
  exact this
 have HA' := Lib.hid HA
 clear HA HM
 by_cases hc : h < d
 · rw [HI hc]
   clear HI HN
   go_enter Tryz.func60, Tryz.ntmps60
   go_wp2_with (first
    | (go_at_call 50; refine (seq_any _ _).mono ?_; rintro e w' ⟨rfl, rfl⟩)
    | (go_at_call 84; refine (Hid.out HA' _).mono ?_; rintro e w' ⟨rfl, rfl⟩))
   go_ret
   exact ⟨rfl, rfl⟩
 · have hc' : d ≤ h := by omega
   rw [HN hc']
   clear HI HN hc
   have hq : h - 9223372036854775807 ≤ d := by omega
   go_enter Tryz.func60, Tryz.ntmps60
   go_wp2_with (first
    | (go_at_call 50; refine (seq_any _ _).mono ?_; rintro e w' ⟨rfl, rfl⟩)
    | (go_at_call 84; refine (Hid.out HA' _).mono ?_; rintro e w' ⟨rfl, rfl⟩))
   go_ret
   exact ⟨rfl, rfl⟩
end Go.Proofs.YtmkeioeodlidgaaGreatDoor

namespace Go.Proofs.YtmkeioeodlidgaaGreatDoor
set_option linter.unusedVariables false

structure Wy where
 key : List UInt8
 auth : List UInt8
 salt : List UInt8
 limit : Int
 used : Int
 ws : List (Nat × List Int)
def Wy.fit (s : Wy) : Prop := s.key.length = 16 ∧ s.auth.length = 20 ∧ s.salt.length = 14 ∧ (-9223372036854775808 ≤ s.limit ∧ s.limit ≤ 9223372036854775807) ∧ 0 ≤ s.used ∧ s.ws.length ≤ 8 ∧ ∀ x ∈ s.ws, x.1 < 4294967296
def lookW : List (Nat × List Int) → Nat → Option (List Int)
 | [], _ => none
 | (n, L) :: r, x => if n = x then some L else lookW r x
def putY : List (Nat × List Int) → Nat → List Int → List (Nat × List Int)
 | [], x, L => [(x, L)]
 | (n, M) :: r, x, L => if n = x then (n, L) :: r else (n, M) :: putY r x L
def highW (ws : List (Nat × List Int)) (x : Nat) : Int := match lookW ws x with
 | none => -1
 | some L => hiL L
def tagW (s : Wy) (b : List UInt8) (i : Nat) : List UInt8 := (macFull s.auth (b ++ beb 4 (i / 65536))).take 10
def turnW (s : Wy) (b : List UInt8) (h so i : Nat) : List UInt8 := b.take h ++ cph s.key (firstC s.salt so i) (b.drop h)
def sealB (s : Wy) (b : List UInt8) (h so i : Nat) : List UInt8 := turnW s b h so i ++ tagW s (turnW s b h so i) i
def mayW (p : Pkt) (i : Int) : Prop := mayB p ∧ 0 ≤ i ∧ i < 281474976710656 ∧ i % 65536 = (p.sq : Int) ∧ (wrB p).length ≤ 1190
noncomputable def whySeal (s : Wy) (p : Pkt) (i : Int) : Int := open Classical in if s.limit ≤ s.used then 7 else if ¬ mayW p i then 1 else 0
def Wy.once (s : Wy) : Wy := { s with used := s.used + 1 }
def whyPeek (b : List UInt8) : Int :=
 if 1200 < b.length then 3 else if b.length < 22 then 2 else if bt b 0 / 64 ≠ 2 then 3 else if b.length - 10 < at1 b then 2 else 0
def idxW (s : Wy) (b : List UInt8) : Int := likely (highW s.ws (soN b)) (sqN b : Int)
def plainW (s : Wy) (b : List UInt8) : List UInt8 := turnW s (b.take (b.length - 10)) (at1 b) (soN b) (idxW s b).toNat
def whyOpen (s : Wy) (b : List UInt8) : Int :=
 if whyPeek b ≠ 0 then whyPeek b
 else if s.limit ≤ s.used then 7
 else if lookW s.ws (soN b) = none ∧ 8 ≤ s.ws.length then 6
 else if 281474976710656 ≤ idxW s b then 3
 else if ∃ L, lookW s.ws (soN b) = some L ∧ frL L (idxW s b) = false then 5
 else if tagW s (b.take (b.length - 10)) (idxW s b).toNat ≠ b.drop (b.length - 10) then 4
 else 0
end Go.Proofs.YtmkeioeodlidgaaGreatDoor

namespace Go.Proofs.YtmkeioeodlidgaaGreatDoor
open Go.RowKit
set_option linter.unusedVariables false

theorem u8_infoR : (Tryz.prog.info? 5).map (fun i => (i.zero, i.size, i.bytes)) = some (some (.int .u8 0), 1, 1) := by kernel_rfl

theorem rnum_yes (A : Option Addr) (nb c : Nat) (bs : List UInt8) (p m : Nat) (w : World) (hr : RdS w A nb c bs) (h1 : 1 ≤ m) (h2 : m ≤ 8) (h3 : p + m ≤ nb) :
 Calls Tryz.prog 56 #[.slice A nb c, .int .i64 p, .int .i64 m] w fun e w' => e = .returned (.int .u64 (numb ((bs.drop p).take m))) ∧ w = w' := by
 have hs := hr.small
 have hlen := hr.len
 obtain ⟨b, off, rfl, hlt, hc⟩ := hr.2.2.2.2 (by omega)
 clear hr
 obtain ⟨L, hL⟩ : ∃ L, L = (bs.drop p).take m := ⟨_, rfl⟩
 have hLl : L.length = m := by rw [hL]; simp; omega
 have hLc : ∀ k, k < m → w.cell? ⟨b, off + (p + m - 1 - k), none⟩ = some (.int .u8 ((L.getD (m - 1 - k) 0).toNat : Int)) := fun k hk => by
  have : L.getD (m - 1 - k) 0 = bs.getD (p + (m - 1 - k)) 0 := by
   rw [hL]
   simp [List.getD, show m - 1 - k < m by omega]
  rw [this, show p + m - 1 - k = p + (m - 1 - k) by omega]
  exact hc _ (by omega)
 rw [← hL]
 have HL := Lib.hid hL
 clear hL hc hlen
 go_enter Tryz.func56, Tryz.ntmps56
 go_wp2
 go_loop [7, 8, 9] (fun x q i => ∃ k : Nat, k ≤ m ∧ i = .int .i64 ((p : Int) + m - 1 - k) ∧ x = .int .u64 (numb (L.drop (m - k))) ∧ q = .int .u64 (powW k)) (fun _ _ i => (intOf i + 1 - p).toNat)
 case atStart => exact ⟨0, by omega, by go_num, by simp [numb, ← hLl], by rfl⟩
 case round =>
  obtain ⟨k, hk, rfl, rfl, rfl⟩ := hrel
  by_cases hlt : k < m
  · have hcell := hLc k hlt
    obtain ⟨y, hy⟩ : ∃ y : Int, y = ((L.getD (m - 1 - k) 0).toNat : Int) := ⟨_, rfl⟩
    have hy0 : 0 ≤ y ∧ y ≤ 255 := by have := (L.getD (m - 1 - k) 0).toNat_lt; omega
    have HS := Lib.hid (rnum_step L m k hLl hlt h2 y hy)
    have HP := Lib.hid (powW_step k)
    rw [← hy] at hcell
    clear hy hLc
    go_wp2
    go_round
    case rel => exact ⟨k + 1, by omega, by go_num, by rw [HS.out], by rw [HP.out]⟩
    case measure => simp [intOf]; omega
  · have hkm : k = m := by omega
    subst hkm
    have e0 : L.drop (k - k) = L := by simp
    rw [e0]
    clear e0 hLc
    go_wp2
    go_ret
    exact ⟨rfl, rfl⟩

def Made (w : World) (bs : List UInt8) (e : Ending) (w' : World) : Prop :=
 ∃ v, e = .returned v ∧ w'.ownsRow w.heap.size 5 1 v bs.length (cells bs) ∧ Below w.heap.size w w'

theorem own_empty (w : World) : (w.alloc (.cells #[] 5)).ownsRow w.heap.size 5 1 (.slice (some ⟨w.heap.size, 0, none⟩) 0 0) 0 (cells []) :=
 World.ownsRow_lit w #[] 0 (Nat.le_refl _) (by simp) rfl

theorem own_first {w w1 : World} {v1 : Value} {nb : Nat} {bs : List UInt8} (hl : bs.length = nb) (h : w1.ownsRow w.heap.size 5 1 v1 (0 + nb) (cells ([] ++ bs)))
 (hg : (w.alloc (.cells #[] 5)).grownBy w1 (Value.ownBlock (.slice (some ⟨w.heap.size, 0, none⟩) 0 0))) :
 w1.ownsRow w.heap.size 5 1 v1 nb (cells bs) ∧ Below w.heap.size w w1 :=
 ⟨by simpa using h, ((Below.refl _ _).alloc (Nat.le_refl _) _).grown hg (by simp) (fun k hk => by simp [Value.ownBlock] at hk; omega)⟩

theorem rput_some (A : Option Addr) (nb c : Nat) (bs : List UInt8) (m x : Nat) (w : World) (hr : RdS w A nb c bs) (h1 : 1 ≤ m) (h2 : m ≤ 8) (hx : x < 18446744073709551616) (hs : nb ≤ 1073741823) :
 Calls Tryz.prog 42 #[.slice A nb c, .int .i64 m, .int .u64 x] w (Made w (bs ++ beb m x)) := by
 have hl := hr.len
 have hmk := run_makeB (P := Tryz.prog) Tryz.underlying35 u8_infoR .i64 .i64 (m : Int) (m : Int) m rfl rfl (by omega)
 go_enter Tryz.func42, Tryz.ntmps42
 go_wp2_with (at_builtin; refine wpList_append_rd _ rfl (.tmp 10) (.tmp 11) rfl Tryz.underlying35 u8_infoR w.heap.size (.slice (some ⟨w.heap.size, 0, none⟩) 0 0) 0 [] rfl (own_empty w) A nb c bs rfl (hr.below ((Below.refl _ _).alloc (Nat.le_refl _) _)) (by omega) (by simp) ?_; intro v1 w1 hown1 hg1 hat1)
 obtain ⟨ho, hb⟩ := own_first hl hown1 hg1
 have hltb := ho.lt
 clear hown1 hg1 hat1
 go_loopw [2, 9] (fun y i wr => ∃ k X : Nat, k ≤ m ∧ X ≤ x ∧ i = .int .i64 ((m : Int) - 1 - k) ∧ y = .int .u64 X ∧ Hid (X = x / 256 ^ k) ∧ wr.ownsRow w.heap.size 5 1 v1 nb (cells bs) ∧ Blk wr w1.heap.size 5 (fillB [] (beb m x) m k) ∧ Below w.heap.size w wr) (fun _ i _ => (intOf i + 1).toNat)
 case atStart => exact ⟨0, x, by omega, Nat.le_refl _, by go_num, rfl, Lib.hid (by simp), ho.alloc _, by rw [fillB_zero _ _ _ (length_beb _ _)]; exact Blk.new _ _ _, hb.alloc hb.size _⟩
 case round =>
  obtain ⟨k, X, hk, hXx, rfl, rfl, hX, hor, hBr, hbr⟩ := hrel
  by_cases hlt : k < m
  · have hcell := hBr.cell (j := m - 1 - k) (by rw [length_fillB _ _ _ _ (length_beb _ _)]; simp; omega)
    have hfr := hBr.frozen (m - 1 - k)
    have hst : Blk (wr.setCell ⟨w1.heap.size, m - 1 - k, none⟩ (.int .u8 ((X : Int) % 256))) w1.heap.size 5 (fillB [] (beb m x) m (k + 1)) := by
     rw [byte_mod, ← fillB_step [] (beb m x) m k (length_beb _ _) hlt (UInt8.ofNat X) (by rw [beb_at _ _ _ (by omega), hX.out]; congr 3; omega)]
     have h3 := hBr.set_ (m - 1 - k) (UInt8.ofNat X)
     simpa only [List.length_nil, Nat.zero_add] using h3
    have hbs := hbr.setCell (p := ⟨w1.heap.size, m - 1 - k, none⟩) hb.size (.int .u8 ((X : Int) % 256))
    have hos := hor.kept (row := some w1.heap.size) (w' := wr.setCell ⟨w1.heap.size, m - 1 - k, none⟩ (.int .u8 ((X : Int) % 256))) ⟨rfl, rfl, rfl, by simp [World.setCell], fun i _ hi => Below.heap_setCell _ _ _ _ (fun e => hi (by rw [e]))⟩ (by
     rcases hv : v1.ownBlock with _ | q
     · exact .inl rfl
     · refine .inr fun e => ?_
       have := (hltb q hv).2
       injection e with e
       omega)
    have hX2 : Hid (X / 256 = x / 256 ^ (k + 1)) := Lib.hid (by rw [hX.out, div_pow_step])
    have hXl : X / 256 ≤ x := by omega
    obtain ⟨u, hu⟩ : ∃ u : Value, u = (.int .u8 (((fillB [] (beb m x) m k).getD (m - 1 - k) 0).toNat : Int)) := ⟨_, rfl⟩
    rw [← hu] at hcell
    clear hu hltb
    go_wp2
    go_roundw
    case rel => exact ⟨k + 1, X / 256, by omega, hXl, by go_num, by go_num, hX2, hos, hst, hbs⟩
    case measure => simp [intOf]; omega
  · obtain rfl : k = m := by omega
    rw [fillB_all, List.nil_append] at hBr
    clear hltb
    go_wp2_with (at_builtin; refine wpList_append_rd _ rfl (.tmp 36) (.tmp 37) rfl Tryz.underlying35 u8_infoR w.heap.size v1 nb bs rfl hor (some ⟨w1.heap.size, 0, none⟩) k k (beb k x) rfl (hBr.rd (length_beb _ _) (Nat.le_refl _) (by simp [maxLen]; omega)) (by omega) hbr.size ?_; intro v2 w2 hown2 hg2 hat2)
    go_ret
    exact ⟨v2, rfl, by rw [List.length_append, length_beb, hl]; exact hown2, hbr.grown hg2 hbr.size (fun q hq => (hor.lt q hq).1)⟩

theorem rd_zero (w : World) : RdS (w.alloc (.cells #[.int .u8 0] 5)) (some ⟨w.heap.size, 0, none⟩) 1 1 [0] :=
 (show Blk (w.alloc (.cells #[.int .u8 0] 5)) w.heap.size 5 [0] from Blk.new w _ [0]).rd rfl (Nat.le_refl _) (by simp [maxLen])

def lenOf : Value → Nat
 | .slice _ n _ => n
 | _ => 0

end Go.Proofs.YtmkeioeodlidgaaGreatDoor
