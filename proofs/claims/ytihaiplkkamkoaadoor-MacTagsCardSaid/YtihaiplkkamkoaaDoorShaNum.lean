/- Plain mathematics of layer 3: the sum SHA-1 of a list of bytes, as the document defines it, and what its pieces are below. No program is named; no statement is proved here. -/
import Derived.Test.YtihaiplkkamkoaaDoorNums
namespace Go.Proofs.YtihaiplkkamkoaaDoor

/-- A word turned to the left by k bits. -/
def rot (k x : Nat) : Nat := x * 2 ^ k % 4294967296 + x / 2 ^ (32 - k)
theorem rot_lt (k x : Nat) (hk : k = 1 ∨ k = 5 ∨ k = 30) (hx : x < 4294967296) : rot k x < 4294967296 := by
  unfold rot
  rcases hk with rfl | rfl | rfl <;> simp only [Nat.reducePow, Nat.reduceSub] <;> omega
theorem rot_or (k x : Nat) (hk : k = 1 ∨ k = 5 ∨ k = 30) (hx : x < 4294967296) : (x * 2 ^ k % 4294967296 ||| x / 2 ^ (32 - k)) = rot k x := by
  unfold rot
  rcases hk with rfl | rfl | rfl
  · have h := Nat.two_pow_add_eq_or_of_lt (i := 1) (b := x / 2147483648) (by simp; omega) (x % 2147483648)
    have e : x * 2 ^ 1 % 4294967296 = 2 ^ 1 * (x % 2147483648) := by omega
    rw [e]; exact h.symm
  · have h := Nat.two_pow_add_eq_or_of_lt (i := 5) (b := x / 134217728) (by simp; omega) (x % 134217728)
    have e : x * 2 ^ 5 % 4294967296 = 2 ^ 5 * (x % 134217728) := by omega
    rw [e]; exact h.symm
  · have h := Nat.two_pow_add_eq_or_of_lt (i := 30) (b := x / 4) (by simp; omega) (x % 4)
    have e : x * 2 ^ 30 % 4294967296 = 2 ^ 30 * (x % 4) := by omega
    rw [e]; exact h.symm

/-- f and K of the step t. -/
def ff (t b c d : Nat) : Nat :=
  if t < 20 then (b &&& c) ||| ((4294967295 - b) &&& d) else if t < 40 then b ^^^ c ^^^ d else if t < 60 then (b &&& c) ||| (b &&& d) ||| (c &&& d) else b ^^^ c ^^^ d
def kk (t : Nat) : Nat := if t < 20 then 1518500249 else if t < 40 then 1859775393 else if t < 60 then 2400959708 else 3395469782
theorem and32 {a b : Nat} (ha : a < 4294967296) : a &&& b < 4294967296 := Nat.lt_of_le_of_lt Nat.and_le_left ha
theorem or32 {a b : Nat} (ha : a < 4294967296) (hb : b < 4294967296) : a ||| b < 4294967296 := Nat.or_lt_two_pow (n := 32) ha hb
theorem xor32 {a b : Nat} (ha : a < 4294967296) (hb : b < 4294967296) : a ^^^ b < 4294967296 := Nat.xor_lt_two_pow (n := 32) ha hb
theorem ff_lt (t b c d : Nat) (hb : b < 4294967296) (hc : c < 4294967296) (hd : d < 4294967296) : ff t b c d < 4294967296 := by
  unfold ff
  split
  · exact or32 (and32 hb) (and32 (by omega))
  · split
    · exact xor32 (xor32 hb hc) hd
    · split
      · exact or32 (or32 (and32 hb) (and32 hb)) (and32 hc)
      · exact xor32 (xor32 hb hc) hd
theorem kk_lt (t : Nat) : kk t < 4294967296 := by
  unfold kk
  split
  · omega
  · split
    · omega
    · split <;> omega

/-- Five words. -/
structure S5 where
  a : Nat
  b : Nat
  c : Nat
  d : Nat
  e : Nat
def S5.ok (s : S5) : Prop := s.a < 4294967296 ∧ s.b < 4294967296 ∧ s.c < 4294967296 ∧ s.d < 4294967296 ∧ s.e < 4294967296
/-- A step. -/
def rnd (w : List Nat) (t : Nat) (s : S5) : S5 := ⟨(rot 5 s.a + ff t s.b s.c s.d + s.e + kk t + w.getD t 0) % 4294967296, s.a, rot 30 s.b, s.c, s.d⟩
def rnds (w : List Nat) (s : S5) : Nat → S5
  | 0 => s
  | t + 1 => rnd w t (rnds w s t)
theorem rnd_ok {w : List Nat} {t : Nat} {s : S5} (h : s.ok) : (rnd w t s).ok := ⟨Nat.mod_lt _ (by omega), h.1, rot_lt 30 _ (by omega) h.2.1, h.2.2.1, h.2.2.2.1⟩
theorem rnds_ok {w : List Nat} {s : S5} (h : s.ok) : ∀ t, (rnds w s t).ok
  | 0 => h
  | t + 1 => rnd_ok (rnds_ok h t)

/-- The next of a block's words, and all of them. -/
def nextW (k : Nat) (r : List Nat) : Nat := rot 1 (r.getD (k + 13) 0 ^^^ r.getD (k + 8) 0 ^^^ r.getD (k + 2) 0 ^^^ r.getD k 0)
def sched (l : List Nat) : Nat → List Nat
  | 0 => l
  | k + 1 => sched l k ++ [nextW k (sched l k)]
theorem sched_len (l : List Nat) (h : l.length = 16) : ∀ k, (sched l k).length = 16 + k
  | 0 => h
  | k + 1 => by rw [sched, List.length_append, sched_len l h k]; simp; omega
theorem all_getD {r : List Nat} (h : ∀ x ∈ r, x < 4294967296) (i : Nat) : r.getD i 0 < 4294967296 := by
  rcases Nat.lt_or_ge i r.length with hi | hi
  · simp only [List.getD, List.getElem?_eq_getElem hi, Option.getD_some]
    exact h _ (List.getElem_mem hi)
  · simp [List.getD, List.getElem?_eq_none hi]
theorem nextX_lt {r : List Nat} (h : ∀ x ∈ r, x < 4294967296) (k : Nat) : (r.getD (k + 13) 0 ^^^ r.getD (k + 8) 0 ^^^ r.getD (k + 2) 0 ^^^ r.getD k 0) < 4294967296 :=
  xor32 (xor32 (xor32 (all_getD h _) (all_getD h _)) (all_getD h _)) (all_getD h _)
theorem nextW_lt {r : List Nat} (h : ∀ x ∈ r, x < 4294967296) (k : Nat) : nextW k r < 4294967296 := rot_lt 1 _ (by omega) (nextX_lt h k)
theorem sched_lt (l : List Nat) (h : ∀ x ∈ l, x < 4294967296) : ∀ k, ∀ x ∈ sched l k, x < 4294967296
  | 0 => h
  | k + 1 => by
    intro x hx
    rw [sched, List.mem_append] at hx
    rcases hx with hx | hx
    · exact sched_lt l h k x hx
    · simp only [List.mem_singleton] at hx
      subst hx
      exact nextW_lt (sched_lt l h k) k

/-- The first sixteen words of a block. -/
def word (b : List UInt8) (t : Nat) : Nat := numb ((b.drop (4 * t)).take 4)
def words16 (b : List UInt8) (n : Nat) : List Nat := (List.range n).map (word b)
theorem word_lt (b : List UInt8) (t : Nat) : word b t < 4294967296 := by
  have h := numb_lt ((b.drop (4 * t)).take 4)
  have h2 : 256 ^ ((b.drop (4 * t)).take 4).length ≤ 256 ^ 4 := Nat.pow_le_pow_right (by omega) (by simp; omega)
  have e : (256 : Nat) ^ 4 = 4294967296 := by decide
  unfold word
  omega
theorem words16_len (b : List UInt8) (n : Nat) : (words16 b n).length = n := by simp [words16]
theorem words16_lt (b : List UInt8) (n : Nat) : ∀ x ∈ words16 b n, x < 4294967296 := by
  intro x hx
  obtain ⟨t, _, rfl⟩ := List.mem_map.1 hx
  exact word_lt b t
theorem words16_succ (b : List UInt8) (n : Nat) : words16 b (n + 1) = words16 b n ++ [word b n] := by simp [words16, List.range_succ]
/-- The block's eighty words, and how many of them a loop has after k rounds. -/
def wds (b : List UInt8) (k : Nat) : List Nat := if k ≤ 16 then words16 b k else sched (words16 b 16) (k - 16)
theorem wds_len (b : List UInt8) (k : Nat) : (wds b k).length = k := by
  unfold wds
  split
  · exact words16_len b k
  · rw [sched_len _ (words16_len b 16)]; omega
theorem wds_lt (b : List UInt8) (k : Nat) : ∀ x ∈ wds b k, x < 4294967296 := by
  unfold wds
  split
  · exact words16_lt b k
  · exact sched_lt _ (words16_lt b 16) _
theorem wds_16 (b : List UInt8) : wds b 16 = words16 b 16 := by simp [wds]
theorem wds_low (b : List UInt8) (k : Nat) (h : k < 16) : wds b (k + 1) = wds b k ++ [word b k] := by
  unfold wds
  rw [if_pos (by omega), if_pos (by omega), words16_succ]
theorem wds_high (b : List UInt8) (k : Nat) (h : 16 ≤ k) : wds b (k + 1) = wds b k ++ [nextW (k - 16) (wds b k)] := by
  have e1 : wds b (k + 1) = sched (words16 b 16) (k + 1 - 16) := by unfold wds; rw [if_neg (by omega)]
  have e2 : wds b k = sched (words16 b 16) (k - 16) := by
    rcases Nat.eq_or_lt_of_le h with h | h
    · subst h; simp [wds, sched]
    · unfold wds; rw [if_neg (by omega)]
  rw [e1, e2, show k + 1 - 16 = (k - 16) + 1 by omega, sched]

/-- The five words behind a block. -/
def S5.plus (h r : S5) : S5 := ⟨(h.a + r.a) % 4294967296, (h.b + r.b) % 4294967296, (h.c + r.c) % 4294967296, (h.d + r.d) % 4294967296, (h.e + r.e) % 4294967296⟩
def blockW (h : S5) (b : List UInt8) : S5 := h.plus (rnds (wds b 80) h 80)
theorem plus_ok (h r : S5) : (h.plus r).ok := ⟨Nat.mod_lt _ (by omega), Nat.mod_lt _ (by omega), Nat.mod_lt _ (by omega), Nat.mod_lt _ (by omega), Nat.mod_lt _ (by omega)⟩
def h0 : S5 := ⟨1732584193, 4023233417, 2562383102, 271733878, 3285377520⟩
theorem h0_ok : h0.ok := by unfold h0 S5.ok; simp
def hN (m : List UInt8) : Nat → S5
  | 0 => h0
  | k + 1 => blockW (hN m k) ((m.drop (64 * k)).take 64)
theorem hN_ok (m : List UInt8) : ∀ k, (hN m k).ok
  | 0 => h0_ok
  | _ + 1 => plus_ok _ _
theorem hN_append (m x : List UInt8) : ∀ k, 64 * k ≤ m.length → hN (m ++ x) k = hN m k
  | 0, _ => rfl
  | k + 1, h => by
    rw [hN, hN, hN_append m x k (by omega)]
    congr 1
    rw [List.drop_append_of_le_length (by omega), List.take_append_of_le_length (by simp; omega)]

def S5.l (s : S5) : List Nat := [s.a, s.b, s.c, s.d, s.e]
theorem S5.l_lt {s : S5} (h : s.ok) : ∀ x ∈ s.l, x < 4294967296 := by
  intro x hx
  simp only [S5.l, List.mem_cons, List.not_mem_nil, or_false] at hx
  rcases hx with rfl | rfl | rfl | rfl | rfl
  · exact h.1
  · exact h.2.1
  · exact h.2.2.1
  · exact h.2.2.2.1
  · exact h.2.2.2.2
/-- The words as bytes. -/
def toldB (s : S5) (i : Nat) : UInt8 := UInt8.ofNat (s.l.getD (i / 4) 0 / 2 ^ (24 - 8 * (i % 4)))
def toldN (s : S5) (n : Nat) : List UInt8 := (List.range n).map (toldB s)
theorem toldN_len (s : S5) (n : Nat) : (toldN s n).length = n := by simp [toldN]
theorem toldN_succ (s : S5) (n : Nat) : toldN s (n + 1) = toldN s n ++ [toldB s n] := by simp [toldN, List.range_succ]
/-- What closes a message of n bytes. -/
def zeros (n : Nat) : Nat := (119 - n % 64) % 64
def padB (n : Nat) : List UInt8 := (128 :: List.replicate (zeros n) 0) ++ beb 8 (n * 8)
theorem padB_len (n : Nat) : (padB n).length = 9 + zeros n := by simp [padB, length_beb]; omega
theorem padB_end (n : Nat) : (n + (padB n).length) % 64 = 0 := by rw [padB_len]; unfold zeros; omega
/-- The sum of a message. -/
def shaSum (m : List UInt8) : List UInt8 := toldN (hN (m ++ padB m.length) ((m ++ padB m.length).length / 64)) 20
theorem shaSum_len (m : List UInt8) : (shaSum m).length = 20 := toldN_len _ _
theorem sha_nothing : shaSum [] = [218, 57, 163, 238, 94, 107, 75, 13, 50, 85, 191, 239, 149, 96, 24, 144, 175, 216, 7, 9] := by decide +kernel
theorem sha_abc : shaSum [97, 98, 99] = [169, 153, 62, 54, 71, 6, 129, 106, 186, 62, 37, 113, 120, 80, 194, 108, 156, 208, 216, 157] := by decide +kernel
end Go.Proofs.YtihaiplkkamkoaaDoor
