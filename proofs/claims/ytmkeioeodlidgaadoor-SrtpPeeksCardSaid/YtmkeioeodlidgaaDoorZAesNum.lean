/- Plain mathematics of layer 5: bytes multiplied, and the box, as the document defines them. No program is named; no statement is proved here. -/
import Derived.Test.YtmkeioeodlidgaaDoorZBytes
namespace Go.Proofs.YtmkeioeodlidgaaDoor

/-- 2 times x. -/
def dblN (x : Nat) : Nat := (x * 2 % 256) ^^^ (x / 128 * 27)
/-- The product, by doubling: n bits of b are left, a has been doubled, p is had. -/
def tmF : Nat → Nat → Nat → Nat → Nat
  | 0, _, _, p => p
  | n + 1, b, a, p => tmF n (b / 2) (dblN a) (if b % 2 = 1 then p ^^^ a else p)
/-- The product of polynomials: n bits of b are left. -/
def rt1 : Nat → Nat → Nat → Nat → Nat
  | 0, _, _, x => x
  | n + 1, b, s, x => rt1 n (b / 2) (2 * s) (if b % 2 = 1 then x ^^^ s else x)
/-- The rest of a polynomial modulo the document's: n bits above the seventh are left. -/
def rt2 : Nat → Nat → Nat
  | 0, x => x
  | n + 1, x => rt2 n (if x / 2 ^ (n + 8) % 2 = 1 then x ^^^ 283 * 2 ^ n else x)
def timesN (a b : Nat) : Nat := rt2 7 (rt1 8 b a 0) % 256

/-- The same, written straight on. -/
def dd (x : Nat) : Nat := Nat.xor (Nat.mod (Nat.mul x 2) 256) (Nat.mul (Nat.div x 128) 27)
def bm (b k : Nat) : Nat := Nat.mod (Nat.div b k) 2
def tmS (a0 a1 a2 a3 a4 a5 a6 a7 b : Nat) : Nat :=
  Nat.xor (Nat.xor (Nat.xor (Nat.xor (Nat.xor (Nat.xor (Nat.xor (Nat.mul a0 (bm b 1)) (Nat.mul a1 (bm b 2))) (Nat.mul a2 (bm b 4))) (Nat.mul a3 (bm b 8))) (Nat.mul a4 (bm b 16))) (Nat.mul a5 (bm b 32))) (Nat.mul a6 (bm b 64))) (Nat.mul a7 (bm b 128))
def tm8 (a b : Nat) : Nat := tmS a (dd a) (dd (dd a)) (dd (dd (dd a))) (dd (dd (dd (dd a)))) (dd (dd (dd (dd (dd a))))) (dd (dd (dd (dd (dd (dd a)))))) (dd (dd (dd (dd (dd (dd (dd a))))))) b
def rs (n x : Nat) : Nat := Nat.xor x (Nat.mul (Nat.mul 283 (Nat.pow 2 n)) (Nat.mod (Nat.div x (Nat.pow 2 (Nat.add n 8))) 2))
def rS (x : Nat) : Nat := Nat.mod (rs 0 (rs 1 (rs 2 (rs 3 (rs 4 (rs 5 (rs 6 x))))))) 256
def rt8 (a b : Nat) : Nat := rS (tmS a (Nat.mul 2 a) (Nat.mul 2 (Nat.mul 2 a)) (Nat.mul 2 (Nat.mul 2 (Nat.mul 2 a))) (Nat.mul 2 (Nat.mul 2 (Nat.mul 2 (Nat.mul 2 a)))) (Nat.mul 2 (Nat.mul 2 (Nat.mul 2 (Nat.mul 2 (Nat.mul 2 a))))) (Nat.mul 2 (Nat.mul 2 (Nat.mul 2 (Nat.mul 2 (Nat.mul 2 (Nat.mul 2 a)))))) (Nat.mul 2 (Nat.mul 2 (Nat.mul 2 (Nat.mul 2 (Nat.mul 2 (Nat.mul 2 (Nat.mul 2 a))))))) b)
theorem if_mul (p a b : Nat) : (if b % 2 = 1 then p ^^^ a else p) = Nat.xor p (Nat.mul a (Nat.mod b 2)) := by
  change _ = p ^^^ (a * (b % 2))
  rcases Nat.mod_two_eq_zero_or_one b with h | h <;> simp [h]
theorem tmF_straight (a b : Nat) : tmF 8 b a 0 = tm8 a b := by
  have e0 : ∀ x : Nat, Nat.xor 0 x = x := Nat.zero_xor
  have e1 : ∀ x : Nat, Nat.div x 1 = x := Nat.div_one
  have e2 : ∀ x y : Nat, x / y = Nat.div x y := fun _ _ => rfl
  have hd : ∀ x, dblN x = dd x := fun _ => rfl
  have q : ∀ x m n k : Nat, m * n = k → Nat.div (Nat.div x m) n = Nat.div x k := fun x m n k h => by subst h; exact Nat.div_div_eq_div_mul x m n
  have q1 := fun x => q x 2 2 4 rfl
  have q2 := fun x => q x 4 2 8 rfl
  have q3 := fun x => q x 8 2 16 rfl
  have q4 := fun x => q x 16 2 32 rfl
  have q5 := fun x => q x 32 2 64 rfl
  have q6 := fun x => q x 64 2 128 rfl
  simp only [tmF, if_mul, hd, tm8, tmS, bm, e0, e1, e2, q1, q2, q3, q4, q5, q6]
theorem rt1_straight (a b : Nat) : rt1 8 b a 0 = tmS a (Nat.mul 2 a) (Nat.mul 2 (Nat.mul 2 a)) (Nat.mul 2 (Nat.mul 2 (Nat.mul 2 a))) (Nat.mul 2 (Nat.mul 2 (Nat.mul 2 (Nat.mul 2 a)))) (Nat.mul 2 (Nat.mul 2 (Nat.mul 2 (Nat.mul 2 (Nat.mul 2 a))))) (Nat.mul 2 (Nat.mul 2 (Nat.mul 2 (Nat.mul 2 (Nat.mul 2 (Nat.mul 2 a)))))) (Nat.mul 2 (Nat.mul 2 (Nat.mul 2 (Nat.mul 2 (Nat.mul 2 (Nat.mul 2 (Nat.mul 2 a))))))) b := by
  have e0 : ∀ x : Nat, Nat.xor 0 x = x := Nat.zero_xor
  have e1 : ∀ x : Nat, Nat.div x 1 = x := Nat.div_one
  have e2 : ∀ x y : Nat, x / y = Nat.div x y := fun _ _ => rfl
  have e3 : ∀ x : Nat, 2 * x = Nat.mul 2 x := fun _ => rfl
  have q : ∀ x m n k : Nat, m * n = k → Nat.div (Nat.div x m) n = Nat.div x k := fun x m n k h => by subst h; exact Nat.div_div_eq_div_mul x m n
  have q1 := fun x => q x 2 2 4 rfl
  have q2 := fun x => q x 4 2 8 rfl
  have q3 := fun x => q x 8 2 16 rfl
  have q4 := fun x => q x 16 2 32 rfl
  have q5 := fun x => q x 32 2 64 rfl
  have q6 := fun x => q x 64 2 128 rfl
  simp only [rt1, if_mul, tmS, bm, e0, e1, e2, e3, q1, q2, q3, q4, q5, q6]
theorem rt2_straight (x : Nat) : rt2 7 x % 256 = rS x := by
  simp only [rt2, if_mul]
  rfl
theorem timesN_straight (a b : Nat) : timesN a b = rt8 a b := by
  rw [timesN, rt1_straight, rt2_straight]; rfl

def chkR (c n : Nat) : Bool := (List.range n).all fun a => (List.range 256).all fun b => Nat.beq (tm8 (c + a) b) (rt8 (c + a) b)
set_option maxRecDepth 100000
theorem chkR0 : chkR 0 32 = true := by decide +kernel
theorem chkR1 : chkR 32 32 = true := by decide +kernel
theorem chkR2 : chkR 64 32 = true := by decide +kernel
theorem chkR3 : chkR 96 32 = true := by decide +kernel
theorem chkR4 : chkR 128 32 = true := by decide +kernel
theorem chkR5 : chkR 160 32 = true := by decide +kernel
theorem chkR6 : chkR 192 32 = true := by decide +kernel
theorem chkR7 : chkR 224 32 = true := by decide +kernel
theorem chkR_get {c n : Nat} (h : chkR c n = true) (a b : Nat) (h1 : c ≤ a) (h2 : a < c + n) (hb : b < 256) : tm8 a b = rt8 a b := by
  have := List.all_eq_true.1 h (a - c) (List.mem_range.2 (by omega))
  have := List.all_eq_true.1 this b (List.mem_range.2 hb)
  rw [show c + (a - c) = a by omega] at this
  exact Nat.eq_of_beq_eq_true this
theorem times_same (a b : Nat) (ha : a < 256) (hb : b < 256) : tmF 8 b a 0 = timesN a b := by
  rw [tmF_straight, timesN_straight]
  rcases Nat.lt_or_ge a 128 with h | h
  · rcases Nat.lt_or_ge a 64 with h' | h'
    · rcases Nat.lt_or_ge a 32 with h'' | h''
      · exact chkR_get chkR0 a b (by omega) (by omega) hb
      · exact chkR_get chkR1 a b (by omega) (by omega) hb
    · rcases Nat.lt_or_ge a 96 with h'' | h''
      · exact chkR_get chkR2 a b (by omega) (by omega) hb
      · exact chkR_get chkR3 a b (by omega) (by omega) hb
  · rcases Nat.lt_or_ge a 192 with h' | h'
    · rcases Nat.lt_or_ge a 160 with h'' | h''
      · exact chkR_get chkR4 a b (by omega) (by omega) hb
      · exact chkR_get chkR5 a b (by omega) (by omega) hb
    · rcases Nat.lt_or_ge a 224 with h'' | h''
      · exact chkR_get chkR6 a b (by omega) (by omega) hb
      · exact chkR_get chkR7 a b (by omega) (by omega) hb
theorem timesN_lt (a b : Nat) : timesN a b < 256 := Nat.mod_lt _ (by omega)

/-- Inverses: of 0: 0. -/
def invT : List Nat := [0, 1, 141, 246, 203, 82, 123, 209, 232, 79, 41, 192, 176, 225, 229, 199, 116, 180, 170, 75, 153, 43, 96, 95, 88, 63, 253, 204, 255, 64, 238, 178, 58, 110, 90, 241, 85, 77, 168, 201, 193, 10, 152, 21, 48, 68, 162, 194, 44, 69, 146, 108, 243, 57, 102, 66, 242, 53, 32, 111, 119, 187, 89, 25, 29, 254, 55, 103, 45, 49, 245, 105, 167, 100, 171, 19, 84, 37, 233, 9, 237, 92, 5, 202, 76, 36, 135, 191, 24, 62, 34, 240, 81, 236, 97, 23, 22, 94, 175, 211, 73, 166, 54, 67, 244, 71, 145, 223, 51, 147, 33, 59, 121, 183, 151, 133, 16, 181, 186, 60, 182, 112, 208, 6, 161, 250, 129, 130, 131, 126, 127, 128, 150, 115, 190, 86, 155, 158, 149, 217, 247, 2, 185, 164, 222, 106, 50, 109, 216, 138, 132, 114, 42, 20, 159, 136, 249, 220, 137, 154, 251, 124, 46, 195, 143, 184, 101, 72, 38, 200, 18, 74, 206, 231, 210, 98, 12, 224, 31, 239, 17, 117, 120, 113, 165, 142, 118, 61, 189, 188, 134, 87, 11, 40, 47, 163, 218, 212, 228, 15, 169, 39, 83, 4, 27, 252, 172, 230, 122, 7, 174, 99, 197, 219, 226, 234, 148, 139, 196, 213, 157, 248, 144, 107, 177, 13, 214, 235, 198, 14, 207, 173, 8, 78, 215, 227, 93, 80, 30, 179, 91, 35, 56, 52, 104, 70, 3, 140, 221, 156, 125, 160, 205, 26, 65, 28]
def invN (c : Nat) : Nat := invT.getD c 0
def chkI (c n : Nat) : Bool := (List.range n).all fun a => (List.range 256).all fun i => Bool.or (Nat.beq i 0) (Bool.not (Bool.xor (Nat.beq (tm8 (c + a) i) 1) (Nat.beq i (invN (c + a)))))
theorem chkI0 : chkI 0 32 = true := by decide +kernel
theorem chkI1 : chkI 32 32 = true := by decide +kernel
theorem chkI2 : chkI 64 32 = true := by decide +kernel
theorem chkI3 : chkI 96 32 = true := by decide +kernel
theorem chkI4 : chkI 128 32 = true := by decide +kernel
theorem chkI5 : chkI 160 32 = true := by decide +kernel
theorem chkI6 : chkI 192 32 = true := by decide +kernel
theorem chkI7 : chkI 224 32 = true := by decide +kernel
theorem chkI_get {c n : Nat} (h : chkI c n = true) (a i : Nat) (h1 : c ≤ a) (h2 : a < c + n) (hi : i < 256) (h0 : 0 < i) : tm8 a i = 1 ↔ i = invN a := by
  have := List.all_eq_true.1 h (a - c) (List.mem_range.2 (by omega))
  have := List.all_eq_true.1 this i (List.mem_range.2 hi)
  rw [show c + (a - c) = a by omega] at this
  have e : ∀ x y : Nat, Nat.beq x y = decide (x = y) := fun x y => by
    rcases Nat.decEq x y with h | h
    · simp [h]; exact Bool.eq_false_iff.2 (fun h' => h (Nat.eq_of_beq_eq_true h'))
    · simp [h]
  rw [e, e, e] at this
  have hz : decide (i = 0) = false := by simp; omega
  rw [hz] at this
  by_cases h5 : tm8 a i = 1 <;> by_cases h6 : i = invN a <;> simp [h5, h6] at this ⊢
  all_goals first | exact absurd h6.symm (by simpa using this) | simp_all
theorem inv_is (c i : Nat) (hc : c < 256) (hi : i < 256) (h0 : 0 < i) : timesN c i = 1 ↔ i = invN c := by
  rw [← times_same c i hc hi, tmF_straight]
  rcases Nat.lt_or_ge c 128 with h | h
  · rcases Nat.lt_or_ge c 64 with h' | h'
    · rcases Nat.lt_or_ge c 32 with h'' | h''
      · exact chkI_get chkI0 c i (by omega) (by omega) hi h0
      · exact chkI_get chkI1 c i (by omega) (by omega) hi h0
    · rcases Nat.lt_or_ge c 96 with h'' | h''
      · exact chkI_get chkI2 c i (by omega) (by omega) hi h0
      · exact chkI_get chkI3 c i (by omega) (by omega) hi h0
  · rcases Nat.lt_or_ge c 192 with h' | h'
    · rcases Nat.lt_or_ge c 160 with h'' | h''
      · exact chkI_get chkI4 c i (by omega) (by omega) hi h0
      · exact chkI_get chkI5 c i (by omega) (by omega) hi h0
    · rcases Nat.lt_or_ge c 224 with h'' | h''
      · exact chkI_get chkI6 c i (by omega) (by omega) hi h0
      · exact chkI_get chkI7 c i (by omega) (by omega) hi h0
theorem invN_lt (c : Nat) : invN c < 256 := by
  rcases Nat.lt_or_ge c 256 with h | h
  · have : (List.range 256).all (fun c => decide (invN c < 256)) = true := by decide +kernel
    exact of_decide_eq_true (List.all_eq_true.1 this c (List.mem_range.2 h))
  · unfold invN
    rw [List.getD_eq_getElem?_getD, List.getElem?_eq_none (by simpa [invT] using h)]
    simp
/-- The inverse that has been found ahead of i. -/
def ivAt (c i : Nat) : Nat := if invN c < i then invN c else 0
theorem ivAt_hit (c i : Nat) (hc : c < 256) (hi : i < 256) (h0 : 0 < i) (h : timesN c i = 1) : ivAt c (i + 1) = i := by
  have := (inv_is c i hc hi h0).1 h
  unfold ivAt
  rw [if_pos (by omega)]; exact this.symm
theorem ivAt_miss (c i : Nat) (hc : c < 256) (hi : i < 256) (h0 : 0 < i) (h : timesN c i ≠ 1) : ivAt c (i + 1) = ivAt c i := by
  have : i ≠ invN c := fun e => h ((inv_is c i hc hi h0).2 e)
  unfold ivAt
  by_cases h1 : invN c < i
  · rw [if_pos h1, if_pos (by omega)]
  · rw [if_neg h1, if_neg (by omega)]
theorem ivAt_all (c : Nat) : ivAt c 256 = invN c := by
  unfold ivAt; rw [if_pos (invN_lt c)]
theorem ivAt_one (c : Nat) : ivAt c 1 = 0 := by
  unfold ivAt
  split
  · omega
  · rfl
theorem ivAt_lt (c i : Nat) : ivAt c i < 256 := by
  have := invN_lt c
  unfold ivAt
  split <;> omega

/-- Bits mixed: by turns, and bit by bit. -/
def rot8 (k x : Nat) : Nat := (x * 2 ^ k % 256) ||| (x / 2 ^ (8 - k))
def mixN (x : Nat) : Nat := x ^^^ rot8 4 x ^^^ rot8 3 x ^^^ rot8 2 x ^^^ rot8 1 x ^^^ 99
def ns (v i : Nat) : Nat → Nat
  | 0 => 99 / 2 ^ i % 2 + v / 2 ^ i % 2
  | j + 1 => ns v i j + v / 2 ^ ((i + (j + 4)) % 8) % 2
def os (v : Nat) : Nat → Nat
  | 0 => 0
  | i + 1 => os v i + ns v i 4 % 2 * 2 ^ i
theorem ns_le (v i : Nat) : ∀ j, ns v i j ≤ 2 + j
  | 0 => by
    have h1 := Nat.mod_lt (99 / 2 ^ i) (show 2 > 0 by omega)
    have h2 := Nat.mod_lt (v / 2 ^ i) (show 2 > 0 by omega)
    unfold ns; omega
  | j + 1 => by
    have h1 := ns_le v i j
    have h2 := Nat.mod_lt (v / 2 ^ ((i + (j + 4)) % 8)) (show 2 > 0 by omega)
    unfold ns; omega
theorem os_lt (v : Nat) : ∀ i, os v i < 2 ^ i
  | 0 => by simp [os]
  | i + 1 => by
    have h1 := os_lt v i
    have h2 := Nat.mod_lt (ns v i 4) (show 2 > 0 by omega)
    have h3 : ns v i 4 % 2 * 2 ^ i ≤ 1 * 2 ^ i := Nat.mul_le_mul_right _ (by omega)
    rw [os, Nat.pow_succ]
    omega
theorem mix_same (x : Nat) (hx : x < 256) : os x 8 = mixN x := by
  have : (List.range 256).all (fun x => decide (os x 8 = mixN x)) = true := by decide +kernel
  exact of_decide_eq_true (List.all_eq_true.1 this x (List.mem_range.2 hx))
theorem mixN_lt (x : Nat) (hx : x < 256) : mixN x < 256 := by
  rw [← mix_same x hx]; exact os_lt x 8
theorem dblN_lt (x : Nat) (hx : x < 256) : dblN x < 256 := Nat.xor_lt_two_pow (n := 8) (Nat.mod_lt _ (by omega)) (by omega)
theorem rot8_lt (k x : Nat) (hk : k = 1 ∨ k = 2 ∨ k = 3 ∨ k = 4) (hx : x < 256) : rot8 k x < 256 := by
  refine Nat.or_lt_two_pow (n := 8) (Nat.mod_lt _ (by omega)) ?_
  rcases hk with rfl | rfl | rfl | rfl <;> simp <;> omega

/-- The box, and back. -/
def boxT : List UInt8 := [99, 124, 119, 123, 242, 107, 111, 197, 48, 1, 103, 43, 254, 215, 171, 118, 202, 130, 201, 125, 250, 89, 71, 240, 173, 212, 162, 175, 156, 164, 114, 192, 183, 253, 147, 38, 54, 63, 247, 204, 52, 165, 229, 241, 113, 216, 49, 21, 4, 199, 35, 195, 24, 150, 5, 154, 7, 18, 128, 226, 235, 39, 178, 117, 9, 131, 44, 26, 27, 110, 90, 160, 82, 59, 214, 179, 41, 227, 47, 132, 83, 209, 0, 237, 32, 252, 177, 91, 106, 203, 190, 57, 74, 76, 88, 207, 208, 239, 170, 251, 67, 77, 51, 133, 69, 249, 2, 127, 80, 60, 159, 168, 81, 163, 64, 143, 146, 157, 56, 245, 188, 182, 218, 33, 16, 255, 243, 210, 205, 12, 19, 236, 95, 151, 68, 23, 196, 167, 126, 61, 100, 93, 25, 115, 96, 129, 79, 220, 34, 42, 144, 136, 70, 238, 184, 20, 222, 94, 11, 219, 224, 50, 58, 10, 73, 6, 36, 92, 194, 211, 172, 98, 145, 149, 228, 121, 231, 200, 55, 109, 141, 213, 78, 169, 108, 86, 244, 234, 101, 122, 174, 8, 186, 120, 37, 46, 28, 166, 180, 198, 232, 221, 116, 31, 75, 189, 139, 138, 112, 62, 181, 102, 72, 3, 246, 14, 97, 53, 87, 185, 134, 193, 29, 158, 225, 248, 152, 17, 105, 217, 142, 148, 155, 30, 135, 233, 206, 85, 40, 223, 140, 161, 137, 13, 191, 230, 66, 104, 65, 153, 45, 15, 176, 84, 187, 22]
def iboxT : List UInt8 := [82, 9, 106, 213, 48, 54, 165, 56, 191, 64, 163, 158, 129, 243, 215, 251, 124, 227, 57, 130, 155, 47, 255, 135, 52, 142, 67, 68, 196, 222, 233, 203, 84, 123, 148, 50, 166, 194, 35, 61, 238, 76, 149, 11, 66, 250, 195, 78, 8, 46, 161, 102, 40, 217, 36, 178, 118, 91, 162, 73, 109, 139, 209, 37, 114, 248, 246, 100, 134, 104, 152, 22, 212, 164, 92, 204, 93, 101, 182, 146, 108, 112, 72, 80, 253, 237, 185, 218, 94, 21, 70, 87, 167, 141, 157, 132, 144, 216, 171, 0, 140, 188, 211, 10, 247, 228, 88, 5, 184, 179, 69, 6, 208, 44, 30, 143, 202, 63, 15, 2, 193, 175, 189, 3, 1, 19, 138, 107, 58, 145, 17, 65, 79, 103, 220, 234, 151, 242, 207, 206, 240, 180, 230, 115, 150, 172, 116, 34, 231, 173, 53, 133, 226, 249, 55, 232, 28, 117, 223, 110, 71, 241, 26, 113, 29, 41, 197, 137, 111, 183, 98, 14, 170, 24, 190, 27, 252, 86, 62, 75, 198, 210, 121, 32, 154, 219, 192, 254, 120, 205, 90, 244, 31, 221, 168, 51, 136, 7, 199, 49, 177, 18, 16, 89, 39, 128, 236, 95, 96, 81, 127, 169, 25, 181, 74, 13, 45, 229, 122, 159, 147, 201, 156, 239, 160, 224, 59, 77, 174, 42, 245, 176, 200, 235, 187, 60, 131, 83, 153, 97, 23, 43, 4, 126, 186, 119, 214, 38, 225, 105, 20, 99, 85, 33, 12, 125]
/-- The powers of 3. -/
def powT : List UInt8 := [1, 3, 5, 15, 17, 51, 85, 255, 26, 46, 114, 150, 161, 248, 19, 53, 95, 225, 56, 72, 216, 115, 149, 164, 247, 2, 6, 10, 30, 34, 102, 170, 229, 52, 92, 228, 55, 89, 235, 38, 106, 190, 217, 112, 144, 171, 230, 49, 83, 245, 4, 12, 20, 60, 68, 204, 79, 209, 104, 184, 211, 110, 178, 205, 76, 212, 103, 169, 224, 59, 77, 215, 98, 166, 241, 8, 24, 40, 120, 136, 131, 158, 185, 208, 107, 189, 220, 127, 129, 152, 179, 206, 73, 219, 118, 154, 181, 196, 87, 249, 16, 48, 80, 240, 11, 29, 39, 105, 187, 214, 97, 163, 254, 25, 43, 125, 135, 146, 173, 236, 47, 113, 147, 174, 233, 32, 96, 160, 251, 22, 58, 78, 210, 109, 183, 194, 93, 231, 50, 86, 250, 21, 63, 65, 195, 94, 226, 61, 71, 201, 64, 192, 91, 237, 44, 116, 156, 191, 218, 117, 159, 186, 213, 100, 172, 239, 42, 126, 130, 157, 188, 223, 122, 142, 137, 128, 155, 182, 193, 88, 232, 35, 101, 175, 234, 37, 111, 177, 200, 67, 197, 84, 252, 31, 33, 99, 165, 244, 7, 9, 27, 45, 119, 153, 176, 203, 70, 202, 69, 207, 74, 222, 121, 139, 134, 145, 168, 227, 62, 66, 198, 81, 243, 14, 18, 54, 90, 238, 41, 123, 141, 140, 143, 138, 133, 148, 167, 242, 13, 23, 57, 75, 221, 124, 132, 151, 162, 253, 28, 36, 108, 180, 199, 82, 246]
theorem boxT_len : boxT.length = 256 := by decide +kernel
theorem powT_len : powT.length = 255 := by decide +kernel
def sb (x : UInt8) : UInt8 := boxT.getD x.toNat 0
def dbl (x : UInt8) : UInt8 := UInt8.ofNat (dblN x.toNat)
def mx (x : UInt8) : UInt8 := UInt8.ofNat (mixN x.toNat)
def pw (k : Nat) : UInt8 := powT.getD k 0
theorem dbl_nat (x : UInt8) : (dbl x).toNat = dblN x.toNat := by
  have := dblN_lt x.toNat x.toNat_lt
  unfold dbl; rw [UInt8.toNat_ofNat']; omega
theorem mx_nat (x : UInt8) : (mx x).toNat = mixN x.toNat := by
  have := mixN_lt x.toNat x.toNat_lt
  unfold mx; rw [UInt8.toNat_ofNat']; omega
theorem all256 {p : Nat → Bool} (h : (List.range 256).all p = true) (x : UInt8) : p x.toNat = true := List.all_eq_true.1 h _ (List.mem_range.2 x.toNat_lt)
theorem sb_is (x : UInt8) : sb x = UInt8.ofNat (mixN (invN x.toNat)) := by
  have : (List.range 256).all (fun x => boxT.getD x 0 == UInt8.ofNat (mixN (invN x))) = true := by decide +kernel
  exact eq_of_beq (all256 this x)
theorem sb_nat (x : UInt8) : (sb x).toNat = mixN (invN x.toNat) := by
  have := mixN_lt (invN x.toNat) (invN_lt _)
  rw [sb_is, UInt8.toNat_ofNat']; omega
theorem sb_back (x : UInt8) : iboxT.getD (sb x).toNat 0 = x := by
  have : (List.range 256).all (fun x => iboxT.getD (boxT.getD x 0).toNat 0 == UInt8.ofNat x) = true := by decide +kernel
  have := eq_of_beq (all256 this x)
  unfold sb
  rw [this]
  exact UInt8.ofNat_toNat
theorem sb_inj {x y : UInt8} (h : sb x = sb y) : x = y := by rw [← sb_back x, h, sb_back y]
theorem pw_zero : pw 0 = 1 := by decide +kernel
theorem pw_succ (k : Nat) (hk : k < 254) : pw (k + 1) = pw k ^^^ dbl (pw k) := by
  have : (List.range 254).all (fun k => pw (k + 1) == pw k ^^^ dbl (pw k)) = true := by decide +kernel
  exact eq_of_beq (List.all_eq_true.1 this k (List.mem_range.2 hk))
/-- The box under way: k powers have been gone through. -/
def boxAt : Nat → List UInt8
  | 0 => (List.replicate 256 0).set 0 (mx 0)
  | k + 1 => (boxAt k).set (pw k).toNat (mx (pw ((255 - k) % 255)))
theorem boxAt_len : ∀ k, (boxAt k).length = 256
  | 0 => by simp [boxAt]
  | k + 1 => by rw [boxAt, List.length_set, boxAt_len k]
theorem boxAt_all : boxAt 255 = boxT := by decide +kernel
theorem times_one (x : UInt8) : timesN 1 x.toNat = x.toNat := by
  have : (List.range 256).all (fun x => timesN 1 x == x) = true := by decide +kernel
  exact eq_of_beq (all256 this x)
theorem times_two (x : UInt8) : timesN 2 x.toNat = (dbl x).toNat := by
  have : (List.range 256).all (fun x => timesN 2 x == dblN x) = true := by decide +kernel
  rw [dbl_nat]
  exact eq_of_beq (all256 this x)
theorem times_two' (x : UInt8) : timesN x.toNat 2 = (dbl x).toNat := by
  have : (List.range 256).all (fun x => timesN x 2 == dblN x) = true := by decide +kernel
  rw [dbl_nat]
  exact eq_of_beq (all256 this x)
theorem times_three (x : UInt8) : timesN 3 x.toNat = (dbl x ^^^ x).toNat := by
  have : (List.range 256).all (fun x => timesN 3 x == dblN x ^^^ x) = true := by decide +kernel
  rw [UInt8.toNat_xor, dbl_nat]
  exact eq_of_beq (all256 this x)
theorem times_three' (x : UInt8) : timesN x.toNat 3 = (x ^^^ dbl x).toNat := by
  have : (List.range 256).all (fun x => timesN x 3 == x ^^^ dblN x) = true := by decide +kernel
  rw [UInt8.toNat_xor, dbl_nat]
  exact eq_of_beq (all256 this x)
def chkD (c n : Nat) : Bool := (List.range n).all fun a => (List.range 256).all fun b => Nat.beq (dd (Nat.xor (c + a) b)) (Nat.xor (dd (c + a)) (dd b))
theorem chkD0 : chkD 0 64 = true := by decide +kernel
theorem chkD1 : chkD 64 64 = true := by decide +kernel
theorem chkD2 : chkD 128 64 = true := by decide +kernel
theorem chkD3 : chkD 192 64 = true := by decide +kernel
theorem chkD_get {c n : Nat} (h : chkD c n = true) (a b : Nat) (h1 : c ≤ a) (h2 : a < c + n) (hb : b < 256) : dd (a ^^^ b) = dd a ^^^ dd b := by
  have := List.all_eq_true.1 h (a - c) (List.mem_range.2 (by omega))
  have := List.all_eq_true.1 this b (List.mem_range.2 hb)
  rw [show c + (a - c) = a by omega] at this
  exact Nat.eq_of_beq_eq_true this
theorem dbl_xor (x y : UInt8) : dbl (x ^^^ y) = dbl x ^^^ dbl y := by
  apply UInt8.toNat.inj
  rw [UInt8.toNat_xor, dbl_nat, dbl_nat, dbl_nat, UInt8.toNat_xor]
  have hb := y.toNat_lt
  have ha := x.toNat_lt
  change dd _ = dd _ ^^^ dd _
  rcases Nat.lt_or_ge x.toNat 128 with h | h
  · rcases Nat.lt_or_ge x.toNat 64 with h' | h'
    · exact chkD_get chkD0 _ _ (by omega) (by omega) hb
    · exact chkD_get chkD1 _ _ (by omega) (by omega) hb
  · rcases Nat.lt_or_ge x.toNat 192 with h' | h'
    · exact chkD_get chkD2 _ _ (by omega) (by omega) hb
    · exact chkD_get chkD3 _ _ (by omega) (by omega) hb
theorem dbl_zero : dbl 0 = 0 := by decide +kernel
end Go.Proofs.YtmkeioeodlidgaaDoor
