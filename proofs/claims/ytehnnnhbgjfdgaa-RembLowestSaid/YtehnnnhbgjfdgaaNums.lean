/- Plain mathematics on numbers of bytes, the greatest first: what bytes are as a number, the bytes of a number. No program is named; no statement is proved here. -/
import Derived.Laws.BitsLemmas
import Derived.Laws.BitsAllLaws
namespace Go.Proofs.Ytehnnnhbgjfdgaa

/-- The number that bytes are. -/
def numb (l : List UInt8) : Nat := l.foldl (fun x b => x * 256 + b.toNat) 0

theorem foldl_numb : ∀ (l : List UInt8) (x : Nat), l.foldl (fun x b => x * 256 + b.toNat) x = x * 256 ^ l.length + numb l
  | [], x => by simp [numb]
  | b :: l, x => by
    have h1 := foldl_numb l (x * 256 + b.toNat)
    have h2 := foldl_numb l (0 * 256 + b.toNat)
    simp only [List.foldl_cons, numb, List.length_cons] at h1 h2 ⊢
    rw [h1, h2, Nat.pow_succ]
    have e : (x * 256 + b.toNat) * 256 ^ l.length = x * (256 ^ l.length * 256) + b.toNat * 256 ^ l.length := by
      rw [Nat.add_mul, Nat.mul_assoc, Nat.mul_comm 256]
    rw [e]
    simp only [Nat.zero_mul, Nat.zero_add]
    omega

theorem numb_nil : numb [] = 0 := rfl
theorem numb_cons (b : UInt8) (l : List UInt8) : numb (b :: l) = b.toNat * 256 ^ l.length + numb l := by
  have := foldl_numb l (0 * 256 + b.toNat)
  simpa [numb] using this
theorem numb_snoc (l : List UInt8) (b : UInt8) : numb (l ++ [b]) = numb l * 256 + b.toNat := by simp [numb]
theorem numb_append (a l : List UInt8) : numb (a ++ l) = numb a * 256 ^ l.length + numb l := by
  have := foldl_numb l (numb a)
  simpa [numb] using this
theorem numb_lt (l : List UInt8) : numb l < 256 ^ l.length := by
  induction l with
  | nil => simp [numb]
  | cons b l ih =>
    rw [numb_cons, List.length_cons, Nat.pow_succ]
    have hb := b.toNat_lt
    have : b.toNat * 256 ^ l.length ≤ 255 * 256 ^ l.length := Nat.mul_le_mul_right _ (by omega)
    omega

/-- The n low bytes of x. -/
def beb (n x : Nat) : List UInt8 := (List.range n).map fun i => UInt8.ofNat (x / 256 ^ (n - 1 - i))
theorem length_beb (n x : Nat) : (beb n x).length = n := by simp [beb]
theorem beb_succ (n x : Nat) : beb (n + 1) x = beb n (x / 256) ++ [UInt8.ofNat x] := by
  rw [beb, List.range_succ, List.map_append]
  congr 1
  · apply List.map_congr_left
    intro i hi
    have hi' : i < n := by simpa using hi
    have e : n + 1 - 1 - i = (n - 1 - i) + 1 := by omega
    rw [e, Nat.pow_succ, Nat.mul_comm, Nat.div_div_eq_div_mul]
  · simp
theorem numb_beb (n : Nat) : ∀ x, numb (beb n x) = x % 256 ^ n := by
  induction n with
  | zero => intro x; simp [beb, numb, Nat.mod_one]
  | succ n ih =>
    intro x
    have h := Nat.mod_mul (a := 256) (b := 256 ^ n) (x := x)
    have e : (256 : Nat) ^ (n + 1) = 256 * 256 ^ n := by rw [Nat.pow_succ, Nat.mul_comm]
    have hb : (UInt8.ofNat x).toNat = x % 256 := by rw [UInt8.toNat_ofNat']
    rw [beb_succ, numb_snoc, ih, hb, e, h]
    omega

theorem pow_le8 {m : Nat} (h : m ≤ 8) : 256 ^ m ≤ 18446744073709551616 := by
  have : 256 ^ m ≤ 256 ^ 8 := Nat.pow_le_pow_right (by omega) h
  have e : (256 : Nat) ^ 8 = 18446744073709551616 := by decide
  omega
theorem numb_lt8 (l : List UInt8) (h : l.length ≤ 8) : numb l < 18446744073709551616 := Nat.lt_of_lt_of_le (numb_lt l) (pow_le8 h)
theorem numb_lt7 (l : List UInt8) (h : l.length ≤ 7) : numb l < 72057594037927936 := by
  have h1 := numb_lt l
  have h2 : 256 ^ l.length ≤ 256 ^ 7 := Nat.pow_le_pow_right (by omega) h
  have e : (256 : Nat) ^ 7 = 72057594037927936 := by decide
  omega

theorem or_byte (a b : Nat) (hb : b < 256) : (a * 256) ||| b = a * 256 + b := by
  have h := Nat.two_pow_add_eq_or_of_lt (i := 8) (b := b) (by simpa using hb) a
  have e : (2 : Nat) ^ 8 = 256 := rfl
  rw [e] at h
  rw [Nat.mul_comm a 256]
  exact h.symm
theorem take_snoc {l : List UInt8} {k : Nat} (h : k < l.length) : l.take (k + 1) = l.take k ++ [l.getD k 0] := by
  rw [List.take_succ_eq_append_getElem h]
  simp [List.getD, h]

theorem or_step (x : Nat) (b : UInt8) (hx : x < 72057594037927936) : bits BinOp.or IntKind.u64 (IntKind.u64.wrap ((x : Int) * 256)) (IntKind.u64.wrap (b.toNat : Int)) = ((x * 256 + b.toNat : Nat) : Int) := by
  have hb := b.toNat_lt
  have h1 : IntKind.u64.wrap ((x : Int) * 256) = ((x * 256 : Nat) : Int) := by rw [IntKind.wrap_u64]; omega
  have h2 : IntKind.u64.wrap (b.toNat : Int) = (b.toNat : Int) := by rw [IntKind.wrap_u64]; omega
  rw [h1, h2, u64_or_nat _ _ (by omega) (by omega), or_byte _ _ (by omega)]
/-- One byte more is read. -/
theorem num_step (l : List UInt8) (k : Nat) (hk : k < l.length) (h8 : k < 8) :
    bits BinOp.or IntKind.u64 (IntKind.u64.wrap ((numb (l.take k) : Int) * 256)) (IntKind.u64.wrap ((l.getD k 0).toNat : Int)) = ((numb (l.take (k + 1)) : Nat) : Int) := by
  have h7 : numb (l.take k) < 72057594037927936 := numb_lt7 _ (by simp; omega)
  rw [or_step _ _ h7, take_snoc hk, numb_snoc]

/-- What stands behind k rounds of a loop that fills the last n bytes from the end. -/
def fillB (bs L : List UInt8) (n k : Nat) : List UInt8 := bs ++ (List.replicate (n - k) 0 ++ L.drop (n - k))
theorem length_fillB (bs L : List UInt8) (n k : Nat) (hL : L.length = n) : (fillB bs L n k).length = bs.length + n := by simp [fillB, hL]
theorem fillB_zero (bs L : List UInt8) (n : Nat) (hL : L.length = n) : fillB bs L n 0 = bs ++ List.replicate n 0 := by simp [fillB, ← hL]
theorem fillB_all (bs L : List UInt8) (n : Nat) : fillB bs L n n = bs ++ L := by simp [fillB]
theorem fillB_step (bs L : List UInt8) (n k : Nat) (hL : L.length = n) (hk : k < n) (b : UInt8) (hb : b = L.getD (n - 1 - k) 0) : (fillB bs L n k).set (bs.length + (n - 1 - k)) b = fillB bs L n (k + 1) := by
  subst hb
  have e1 : n - k = (n - 1 - k) + 1 := by omega
  have e2 : n - (k + 1) = n - 1 - k := by omega
  have hlt : n - 1 - k < L.length := by omega
  unfold fillB
  rw [List.set_append_right _ _ (by omega), Nat.add_sub_cancel_left, e1, e2, List.replicate_succ', List.append_assoc, List.set_append_right _ _ (by simp)]
  simp only [List.length_replicate, Nat.sub_self, List.singleton_append, List.set_cons_zero]
  rw [List.drop_eq_getElem_cons hlt]
  simp [List.getD, hlt]
theorem beb_at (n x i : Nat) (h : i < n) : (beb n x).getD i 0 = UInt8.ofNat (x / 256 ^ (n - 1 - i)) := by simp [beb, List.getD, h]

theorem pow8 (k : Nat) : 2 ^ (8 * k) = 256 ^ k := by rw [Nat.pow_mul]
theorem byte_of (x k : Nat) : ((x : Int) / 2 ^ (8 * k) % 256) = ((UInt8.ofNat (x / 256 ^ k)).toNat : Int) := by
  have h : (2 : Int) ^ (8 * k) = ((256 ^ k : Nat) : Int) := by rw [← pow8]; simp
  rw [h, UInt8.toNat_ofNat']
  simp

/-- What the first k bytes of two rows differ in, all laid over each other. -/
def diffs (as bs : List UInt8) : Nat → Nat
  | 0 => 0
  | k + 1 => diffs as bs k ||| ((as.getD k 0).toNat ^^^ (bs.getD k 0).toNat)
theorem diffs_lt (as bs : List UInt8) : ∀ k, diffs as bs k < 256
  | 0 => by simp [diffs]
  | k + 1 => Nat.or_lt_two_pow (n := 8) (diffs_lt as bs k) (Nat.xor_lt_two_pow (n := 8) (as.getD k 0).toNat_lt (bs.getD k 0).toNat_lt)
theorem or_eq_zero {a b : Nat} : a ||| b = 0 ↔ a = 0 ∧ b = 0 := by
  constructor
  · intro h
    have key : ∀ i, (a.testBit i || b.testBit i) = false := fun i => by rw [← Nat.testBit_or, h]; simp
    exact ⟨Nat.eq_of_testBit_eq fun i => by have := key i; simp at this; simp [this.1], Nat.eq_of_testBit_eq fun i => by have := key i; simp at this; simp [this.2]⟩
  · rintro ⟨rfl, rfl⟩; rfl
theorem xor_eq_zero {a b : Nat} : a ^^^ b = 0 ↔ a = b := by
  constructor
  · intro h
    refine Nat.eq_of_testBit_eq fun i => ?_
    have : (a ^^^ b).testBit i = false := by rw [h]; simp
    rw [Nat.testBit_xor] at this
    simpa using this
  · rintro rfl; exact Nat.xor_self a
theorem diffs_zero (as bs : List UInt8) : ∀ k, diffs as bs k = 0 ↔ ∀ j, j < k → as.getD j 0 = bs.getD j 0
  | 0 => by simp [diffs]
  | k + 1 => by
    rw [diffs, or_eq_zero, diffs_zero as bs k, xor_eq_zero, UInt8.toNat_inj]
    constructor
    · intro ⟨h1, h2⟩ j hj
      rcases Nat.lt_or_ge j k with h | h
      · exact h1 j h
      · have : j = k := by omega
        subst this; exact h2
    · exact fun h => ⟨fun j hj => h j (by omega), h k (by omega)⟩
theorem diffs_same (as bs : List UInt8) (hl : as.length = bs.length) : diffs as bs as.length = 0 ↔ as = bs := by
  rw [diffs_zero]
  constructor
  · intro h
    refine List.ext_getElem hl fun j h1 h2 => ?_
    have := h j h1
    simpa [List.getD, h1, h2] using this
  · rintro rfl _ _; rfl
theorem diffs_step (as bs : List UInt8) (k : Nat) :
    bits BinOp.or IntKind.u8 (diffs as bs k : Int) (bits BinOp.xor IntKind.u8 ((as.getD k 0).toNat : Int) ((bs.getD k 0).toNat : Int)) = ((diffs as bs (k + 1) : Nat) : Int) := by
  have h1 := (as.getD k 0).toNat_lt
  have h2 := (bs.getD k 0).toNat_lt
  rw [u8_xor_nat _ _ (by omega) (by omega), u8_or_nat _ _ (diffs_lt _ _ _) (Nat.xor_lt_two_pow (n := 8) h1 h2)]
  rfl

/-- The sum, or the greatest number. -/
def satN (a b : Int) : Int := if a + b < 18446744073709551616 then a + b else 18446744073709551615
/-- How many zeros lack. -/
def lacks (nb n : Nat) : Nat := (n - nb % n) % n

theorem diffs_end (xs ys : List UInt8) (M : Nat) (hM : xs.length ≤ M ∧ ys.length ≤ M ∧ (M = xs.length ∨ M = ys.length)) (t : Bool) (ht : t = decide (xs = ys)) :
    (xs.length = ys.length → (diffs xs ys M = 0 ↔ t = true)) ∧ (xs.length ≠ ys.length → t = false) := by
  subst ht
  constructor
  · intro hl
    have : M = xs.length := by omega
    subst this
    rw [diffs_same _ _ hl]
    simp
  · intro hl
    simp only [decide_eq_false_iff_not]
    rintro rfl
    exact hl rfl

/-- What the reference's loop has gathered behind k rounds: the last k bytes' number. -/
theorem back_step (l : List UInt8) (m k : Nat) (hl : l.length = m) (hk : k < m) :
    numb (l.drop (m - (k + 1))) = (l.getD (m - 1 - k) 0).toNat * 256 ^ k + numb (l.drop (m - k)) := by
  have h1 : m - (k + 1) < l.length := by omega
  rw [List.drop_eq_getElem_cons h1, numb_cons, show m - (k + 1) + 1 = m - k by omega]
  have e : l.getD (m - 1 - k) 0 = l[m - (k + 1)] := by
    rw [show m - 1 - k = m - (k + 1) by omega]
    simp only [List.getD, List.getElem?_eq_getElem h1, Option.getD_some]
  rw [e, List.length_drop, hl, show m - (m - k) = k by omega]
theorem wrap_mul_add (X y P : Nat) (hX : X + P * y < 18446744073709551616) (hy : P * y < 18446744073709551616) :
    IntKind.u64.wrap ((X : Int) + IntKind.u64.wrap ((P : Int) * (y : Int))) = ((X + P * y : Nat) : Int) := by
  have e : ((P : Int) * (y : Int)) = ((P * y : Nat) : Int) := by simp
  rw [e, IntKind.wrap_u64, IntKind.wrap_u64]
  omega

/-- 256^k, as it goes round at 2^64. -/
def powW (k : Nat) : Int := ((256 ^ k % 18446744073709551616 : Nat) : Int)
theorem powW_zero : powW 0 = 1 := rfl
theorem powW_lt (k : Nat) (h : k < 8) : powW k = ((256 ^ k : Nat) : Int) := by
  have h1 : 256 ^ k ≤ 256 ^ 7 := Nat.pow_le_pow_right (by omega) (by omega)
  have e : (256 : Nat) ^ 7 = 72057594037927936 := by decide
  unfold powW
  rw [Nat.mod_eq_of_lt (by omega)]
theorem powW_step (k : Nat) : IntKind.u64.wrap (powW k * 256) = powW (k + 1) := by
  have e : powW k * 256 = ((256 ^ k % 18446744073709551616 * 256 : Nat) : Int) := by unfold powW; simp
  rw [e, IntKind.wrap_u64, powW, Nat.pow_succ]
  omega
theorem rnum_step (l : List UInt8) (m k : Nat) (hl : l.length = m) (hk : k < m) (h8 : m ≤ 8) (y : Int) (hy : y = ((l.getD (m - 1 - k) 0).toNat : Int)) :
    IntKind.u64.wrap ((numb (l.drop (m - k)) : Int) + IntKind.u64.wrap (powW k * y)) = ((numb (l.drop (m - (k + 1))) : Nat) : Int) := by
  subst hy
  have hb := back_step l m k hl hk
  have h1 : numb (l.drop (m - (k + 1))) < 18446744073709551616 := numb_lt8 _ (by simp; omega)
  rw [powW_lt k (by omega), wrap_mul_add _ _ _ (by rw [Nat.mul_comm (256 ^ k)]; omega) (by rw [Nat.mul_comm (256 ^ k)]; omega), hb, Nat.mul_comm (256 ^ k), Nat.add_comm]

theorem byte_mod (x : Nat) : ((x : Int) % 256) = ((UInt8.ofNat x).toNat : Int) := by
  rw [UInt8.toNat_ofNat']; simp
theorem div_pow_step (x k : Nat) : x / 256 ^ k / 256 = x / 256 ^ (k + 1) := by rw [Nat.div_div_eq_div_mul, Nat.pow_succ]

theorem lacks_lt (nb n : Nat) (h : 1 ≤ n) : lacks nb n < n := Nat.mod_lt _ (by omega)
theorem lacks_end (nb n : Nat) (h : 1 ≤ n) : (nb + lacks nb n) % n = 0 := by
  unfold lacks
  have hm : nb % n < n := Nat.mod_lt _ (by omega)
  rcases Nat.eq_zero_or_pos (nb % n) with h0 | h0
  · rw [h0]; simp [h0]
  · rw [Nat.mod_eq_of_lt (show n - nb % n < n by omega)]
    have e : nb + (n - nb % n) = n * (nb / n) + n := by have := Nat.div_add_mod nb n; omega
    rw [e]; simp
theorem lacks_on (nb n k : Nat) (h : 1 ≤ n) (hk : k < lacks nb n) : 0 < (nb + k) % n := by
  unfold lacks at hk
  have hm : nb % n < n := Nat.mod_lt _ (by omega)
  rcases Nat.eq_zero_or_pos (nb % n) with h0 | h0
  · rw [h0] at hk; simp at hk
  · rw [Nat.mod_eq_of_lt (show n - nb % n < n by omega)] at hk
    have e : (nb + k) % n = nb % n + k := by
      rw [Nat.add_mod, Nat.mod_eq_of_lt (show k < n by omega), Nat.mod_eq_of_lt (by omega)]
    omega
end Go.Proofs.Ytehnnnhbgjfdgaa
