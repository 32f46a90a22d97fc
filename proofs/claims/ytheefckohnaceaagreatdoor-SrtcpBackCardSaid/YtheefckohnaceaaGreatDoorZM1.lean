/- Several texts in one: plain words and walks. No statement is proved here. -/
import Derived.Test.YtheefckohnaceaaGreatDoorZM0
import Derived.Test.YtheefckohnaceaaGreatDoorZBytes
namespace Go.Proofs.YtheefckohnaceaaGreatDoor
set_option linter.unusedVariables false

def fits (p : Pkt) : Prop := p.sq < 65536 ∧ p.st < 4294967296 ∧ p.so < 4294967296 ∧ (∀ x ∈ p.ot, x < 4294967296) ∧ p.pf < 65536 ∧ p.pd < 256

end Go.Proofs.YtheefckohnaceaaGreatDoor

namespace Go.Proofs.YtheefckohnaceaaGreatDoor

def dblN (x : Nat) : Nat := (x * 2 % 256) ^^^ (x / 128 * 27)
def rt1 : Nat → Nat → Nat → Nat → Nat
 | 0, _, _, x => x
 | n + 1, b, s, x => rt1 n (b / 2) (2 * s) (if b % 2 = 1 then x ^^^ s else x)
def rt2 : Nat → Nat → Nat
 | 0, x => x
 | n + 1, x => rt2 n (if x / 2 ^ (n + 8) % 2 = 1 then x ^^^ 283 * 2 ^ n else x)
def timesN (a b : Nat) : Nat := rt2 7 (rt1 8 b a 0) % 256

def dd (x : Nat) : Nat := Nat.xor (Nat.mod (Nat.mul x 2) 256) (Nat.mul (Nat.div x 128) 27)
def rs (n x : Nat) : Nat := Nat.xor x (Nat.mul (Nat.mul 283 (Nat.pow 2 n)) (Nat.mod (Nat.div x (Nat.pow 2 (Nat.add n 8))) 2))
set_option maxRecDepth 100000
theorem timesN_lt (a b : Nat) : timesN a b < 256 := Nat.mod_lt _ (by omega)

def rot8 (k x : Nat) : Nat := (x * 2 ^ k % 256) ||| (x / 2 ^ (8 - k))
def mixN (x : Nat) : Nat := x ^^^ rot8 4 x ^^^ rot8 3 x ^^^ rot8 2 x ^^^ rot8 1 x ^^^ 99
def ns (v i : Nat) : Nat → Nat
 | 0 => 99 / 2 ^ i % 2 + v / 2 ^ i % 2
 | j + 1 => ns v i j + v / 2 ^ ((i + (j + 4)) % 8) % 2
def os (v : Nat) : Nat → Nat
 | 0 => 0
 | i + 1 => os v i + ns v i 4 % 2 * 2 ^ i
theorem ns_le (v i : Nat) : ∀ j, ns v i j ≤ 2 + j
 | 0 => by
   have h1 := Nat.mod_lt (99 / 2 ^ i) (show 2 > 0 by omega)
   have h2 := Nat.mod_lt (v / 2 ^ i) (show 2 > 0 by omega)
   unfold ns; omega
 | j + 1 => by
   have h1 := ns_le v i j
   have h2 := Nat.mod_lt (v / 2 ^ ((i + (j + 4)) % 8)) (show 2 > 0 by omega)
   unfold ns; omega
theorem os_lt (v : Nat) : ∀ i, os v i < 2 ^ i
 | 0 => by simp [os]
 | i + 1 => by
   have h1 := os_lt v i
   have h2 := Nat.mod_lt (ns v i 4) (show 2 > 0 by omega)
   have h3 : ns v i 4 % 2 * 2 ^ i ≤ 1 * 2 ^ i := Nat.mul_le_mul_right _ (by omega)
   rw [os, Nat.pow_succ]
   omega
theorem mix_same (x : Nat) (hx : x < 256) : os x 8 = mixN x := by
 have : (List.range 256).all (fun x => decide (os x 8 = mixN x)) = true := by decide +kernel
 exact of_decide_eq_true (List.all_eq_true.1 this x (List.mem_range.2 hx))
theorem mixN_lt (x : Nat) (hx : x < 256) : mixN x < 256 := by
 rw [← mix_same x hx]; exact os_lt x 8
theorem dblN_lt (x : Nat) (hx : x < 256) : dblN x < 256 := Nat.xor_lt_two_pow (n := 8) (Nat.mod_lt _ (by omega)) (by omega)
theorem rot8_lt (k x : Nat) (hk : k = 1 ∨ k = 2 ∨ k = 3 ∨ k = 4) (hx : x < 256) : rot8 k x < 256 := by
 refine Nat.or_lt_two_pow (n := 8) (Nat.mod_lt _ (by omega)) ?_
 rcases hk with rfl | rfl | rfl | rfl <;> simp <;> omega

def boxT : List UInt8 := [99, 124, 119, 123, 242, 107, 111, 197, 48, 1, 103, 43, 254, 215, 171, 118, 202, 130, 201, 125, 250, 89, 71, 240, 173, 212, 162, 175, 156, 164, 114, 192, 183, 253, 147, 38, 54, 63, 247, 204, 52, 165, 229, 241, 113, 216, 49, 21, 4, 199, 35, 195, 24, 150, 5, 154, 7, 18, 128, 226, 235, 39, 178, 117, 9, 131, 44, 26, 27, 110, 90, 160, 82, 59, 214, 179, 41, 227, 47, 132, 83, 209, 0, 237, 32, 252, 177, 91, 106, 203, 190, 57, 74, 76, 88, 207, 208, 239, 170, 251, 67, 77, 51, 133, 69, 249, 2, 127, 80, 60, 159, 168, 81, 163, 64, 143, 146, 157, 56, 245, 188, 182, 218, 33, 16, 255, 243, 210, 205, 12, 19, 236, 95, 151, 68, 23, 196, 167, 126, 61, 100, 93, 25, 115, 96, 129, 79, 220, 34, 42, 144, 136, 70, 238, 184, 20, 222, 94, 11, 219, 224, 50, 58, 10, 73, 6, 36, 92, 194, 211, 172, 98, 145, 149, 228, 121, 231, 200, 55, 109, 141, 213, 78, 169, 108, 86, 244, 234, 101, 122, 174, 8, 186, 120, 37, 46, 28, 166, 180, 198, 232, 221, 116, 31, 75, 189, 139, 138, 112, 62, 181, 102, 72, 3, 246, 14, 97, 53, 87, 185, 134, 193, 29, 158, 225, 248, 152, 17, 105, 217, 142, 148, 155, 30, 135, 233, 206, 85, 40, 223, 140, 161, 137, 13, 191, 230, 66, 104, 65, 153, 45, 15, 176, 84, 187, 22]
def powT : List UInt8 := [1, 3, 5, 15, 17, 51, 85, 255, 26, 46, 114, 150, 161, 248, 19, 53, 95, 225, 56, 72, 216, 115, 149, 164, 247, 2, 6, 10, 30, 34, 102, 170, 229, 52, 92, 228, 55, 89, 235, 38, 106, 190, 217, 112, 144, 171, 230, 49, 83, 245, 4, 12, 20, 60, 68, 204, 79, 209, 104, 184, 211, 110, 178, 205, 76, 212, 103, 169, 224, 59, 77, 215, 98, 166, 241, 8, 24, 40, 120, 136, 131, 158, 185, 208, 107, 189, 220, 127, 129, 152, 179, 206, 73, 219, 118, 154, 181, 196, 87, 249, 16, 48, 80, 240, 11, 29, 39, 105, 187, 214, 97, 163, 254, 25, 43, 125, 135, 146, 173, 236, 47, 113, 147, 174, 233, 32, 96, 160, 251, 22, 58, 78, 210, 109, 183, 194, 93, 231, 50, 86, 250, 21, 63, 65, 195, 94, 226, 61, 71, 201, 64, 192, 91, 237, 44, 116, 156, 191, 218, 117, 159, 186, 213, 100, 172, 239, 42, 126, 130, 157, 188, 223, 122, 142, 137, 128, 155, 182, 193, 88, 232, 35, 101, 175, 234, 37, 111, 177, 200, 67, 197, 84, 252, 31, 33, 99, 165, 244, 7, 9, 27, 45, 119, 153, 176, 203, 70, 202, 69, 207, 74, 222, 121, 139, 134, 145, 168, 227, 62, 66, 198, 81, 243, 14, 18, 54, 90, 238, 41, 123, 141, 140, 143, 138, 133, 148, 167, 242, 13, 23, 57, 75, 221, 124, 132, 151, 162, 253, 28, 36, 108, 180, 199, 82, 246]
theorem boxT_len : boxT.length = 256 := by decide +kernel
theorem powT_len : powT.length = 255 := by decide +kernel
def sb (x : UInt8) : UInt8 := boxT.getD x.toNat 0
def dbl (x : UInt8) : UInt8 := UInt8.ofNat (dblN x.toNat)
def mx (x : UInt8) : UInt8 := UInt8.ofNat (mixN x.toNat)
def pw (k : Nat) : UInt8 := powT.getD k 0
theorem dbl_nat (x : UInt8) : (dbl x).toNat = dblN x.toNat := by
 have := dblN_lt x.toNat x.toNat_lt
 unfold dbl; rw [UInt8.toNat_ofNat']; omega
theorem mx_nat (x : UInt8) : (mx x).toNat = mixN x.toNat := by
 have := mixN_lt x.toNat x.toNat_lt
 unfold mx; rw [UInt8.toNat_ofNat']; omega
theorem all256 {p : Nat → Bool} (h : (List.range 256).all p = true) (x : UInt8) : p x.toNat = true := List.all_eq_true.1 h _ (List.mem_range.2 x.toNat_lt)
theorem pw_zero : pw 0 = 1 := by decide +kernel
theorem pw_succ (k : Nat) (hk : k < 254) : pw (k + 1) = pw k ^^^ dbl (pw k) := by
 have : (List.range 254).all (fun k => pw (k + 1) == pw k ^^^ dbl (pw k)) = true := by decide +kernel
 exact eq_of_beq (List.all_eq_true.1 this k (List.mem_range.2 hk))
def boxAt : Nat → List UInt8
 | 0 => (List.replicate 256 0).set 0 (mx 0)
 | k + 1 => (boxAt k).set (pw k).toNat (mx (pw ((255 - k) % 255)))
theorem boxAt_len : ∀ k, (boxAt k).length = 256
 | 0 => by simp [boxAt]
 | k + 1 => by rw [boxAt, List.length_set, boxAt_len k]
theorem boxAt_all : boxAt 255 = boxT := by decide +kernel
theorem times_one (x : UInt8) : timesN 1 x.toNat = x.toNat := by
 have : (List.range 256).all (fun x => timesN 1 x == x) = true := by decide +kernel
 exact eq_of_beq (all256 this x)
theorem times_two (x : UInt8) : timesN 2 x.toNat = (dbl x).toNat := by
 have : (List.range 256).all (fun x => timesN 2 x == dblN x) = true := by decide +kernel
 rw [dbl_nat]
 exact eq_of_beq (all256 this x)
theorem times_two' (x : UInt8) : timesN x.toNat 2 = (dbl x).toNat := by
 have : (List.range 256).all (fun x => timesN x 2 == dblN x) = true := by decide +kernel
 rw [dbl_nat]
 exact eq_of_beq (all256 this x)
theorem times_three (x : UInt8) : timesN 3 x.toNat = (dbl x ^^^ x).toNat := by
 have : (List.range 256).all (fun x => timesN 3 x == dblN x ^^^ x) = true := by decide +kernel
 rw [UInt8.toNat_xor, dbl_nat]
 exact eq_of_beq (all256 this x)
theorem times_three' (x : UInt8) : timesN x.toNat 3 = (x ^^^ dbl x).toNat := by
 have : (List.range 256).all (fun x => timesN x 3 == x ^^^ dblN x) = true := by decide +kernel
 rw [UInt8.toNat_xor, dbl_nat]
 exact eq_of_beq (all256 this x)
def chkD (c n : Nat) : Bool := (List.range n).all fun a => (List.range 256).all fun b => Nat.beq (dd (Nat.xor (c + a) b)) (Nat.xor (dd (c + a)) (dd b))
theorem chkD0 : chkD 0 64 = true := by decide +kernel
theorem chkD1 : chkD 64 64 = true := by decide +kernel
theorem chkD2 : chkD 128 64 = true := by decide +kernel
theorem chkD3 : chkD 192 64 = true := by decide +kernel
theorem chkD_get {c n : Nat} (h : chkD c n = true) (a b : Nat) (h1 : c ≤ a) (h2 : a < c + n) (hb : b < 256) : dd (a ^^^ b) = dd a ^^^ dd b := by
 have := List.all_eq_true.1 h (a - c) (List.mem_range.2 (by omega))
 have := List.all_eq_true.1 this b (List.mem_range.2 hb)
 rw [show c + (a - c) = a by omega] at this
 exact Nat.eq_of_beq_eq_true this
theorem dbl_xor (x y : UInt8) : dbl (x ^^^ y) = dbl x ^^^ dbl y := by
 apply UInt8.toNat.inj
 rw [UInt8.toNat_xor, dbl_nat, dbl_nat, dbl_nat, UInt8.toNat_xor]
 have hb := y.toNat_lt
 have ha := x.toNat_lt
 change dd _ = dd _ ^^^ dd _
 rcases Nat.lt_or_ge x.toNat 128 with h | h
 · rcases Nat.lt_or_ge x.toNat 64 with h' | h'
   · exact chkD_get chkD0 _ _ (by omega) (by omega) hb
   · exact chkD_get chkD1 _ _ (by omega) (by omega) hb
 · rcases Nat.lt_or_ge x.toNat 192 with h' | h'
   · exact chkD_get chkD2 _ _ (by omega) (by omega) hb
   · exact chkD_get chkD3 _ _ (by omega) (by omega) hb
end Go.Proofs.YtheefckohnaceaaGreatDoor

namespace Go.Proofs.YtheefckohnaceaaGreatDoor

def fillAt (f : Nat → UInt8) (s : List UInt8) (k : Nat) : List UInt8 := (List.range k).map f ++ s.drop k
theorem fillAt_zero (f : Nat → UInt8) (s : List UInt8) : fillAt f s 0 = s := by simp [fillAt]
theorem fillAt_len (f : Nat → UInt8) (s : List UInt8) (k : Nat) (h : k ≤ s.length) : (fillAt f s k).length = s.length := by simp [fillAt]; omega
theorem fillAt_step (f : Nat → UInt8) (s : List UInt8) (k : Nat) (h : k < s.length) : (fillAt f s k).set k (f k) = fillAt f s (k + 1) := by
 unfold fillAt
 rw [List.set_append_right _ _ (by simp), List.length_map, List.length_range, Nat.sub_self, List.drop_eq_getElem_cons h, List.set_cons_zero, List.range_succ, List.map_append, List.append_assoc]
 rfl
theorem fillAt_all (f : Nat → UInt8) (s : List UInt8) (k : Nat) (h : s.length = k) : fillAt f s k = (List.range k).map f := by
 unfold fillAt
 rw [List.drop_of_length_le (by omega), List.append_nil]
theorem fillAt_ge (f : Nat → UInt8) (s : List UInt8) (k j : Nat) (h : k ≤ j) : (fillAt f s k).getD j 0 = s.getD j 0 := by
 unfold fillAt
 simp only [List.getD_eq_getElem?_getD]
 rw [List.getElem?_append_right (by simpa using h), List.length_map, List.length_range, List.getElem?_drop]
 congr 2
 omega
theorem fillAt_lt (f : Nat → UInt8) (s : List UInt8) (k j : Nat) (h : j < k) : (fillAt f s k).getD j 0 = f j := by
 unfold fillAt
 simp only [List.getD_eq_getElem?_getD]
 rw [List.getElem?_append_left (by simpa using h)]
 simp [h]
def tab (n : Nat) (f : Nat → UInt8) : List UInt8 := (List.range n).map f
theorem tab_len (n : Nat) (f : Nat → UInt8) : (tab n f).length = n := by simp [tab]
theorem tab_get (n : Nat) (f : Nat → UInt8) (i : Nat) (h : i < n) : (tab n f).getD i 0 = f i := by simp [tab, List.getD_eq_getElem?_getD, h]
theorem tab_congr (n : Nat) (f g : Nat → UInt8) (h : ∀ i, i < n → f i = g i) : tab n f = tab n g := by
 unfold tab
 exact List.map_congr_left fun i hi => h i (List.mem_range.1 hi)
theorem list_tab {n : Nat} (s : List UInt8) (h : s.length = n) : tab n (fun i => s.getD i 0) = s := by
 subst h
 apply List.ext_getElem
 · simp [tab]
 · intro i h1 h2
   simp [tab, List.getD_eq_getElem?_getD, h2]
theorem list_eq {n : Nat} {s t : List UInt8} (hs : s.length = n) (ht : t.length = n) (h : ∀ i, i < n → s.getD i 0 = t.getD i 0) : s = t := by
 rw [← list_tab s hs, ← list_tab t ht]; exact tab_congr n _ _ h

def rcon : Nat → UInt8
 | 0 => 1
 | n + 1 => dbl (rcon n)
def tw (l : List UInt8) (n : Nat) : List UInt8 :=
 if n % 4 = 0 then [sb (l.getD (4 * n + 13) 0) ^^^ rcon (n / 4), sb (l.getD (4 * n + 14) 0), sb (l.getD (4 * n + 15) 0), sb (l.getD (4 * n + 12) 0)]
 else [l.getD (4 * n + 12) 0, l.getD (4 * n + 13) 0, l.getD (4 * n + 14) 0, l.getD (4 * n + 15) 0]
def nwB (l : List UInt8) (n j : Nat) : UInt8 := l.getD (4 * n + j) 0 ^^^ (tw l n).getD j 0
def nw (l : List UInt8) (n : Nat) : List UInt8 := tab 4 (nwB l n)
def kws (key : List UInt8) : Nat → List UInt8
 | 0 => key
 | n + 1 => kws key n ++ nw (kws key n) n
theorem kws_len (key : List UInt8) (h : key.length = 16) : ∀ n, (kws key n).length = 4 * n + 16
 | 0 => h
 | n + 1 => by rw [kws, List.length_append, kws_len key h n, nw, tab_len]; omega
theorem kws_get (key : List UInt8) (h : key.length = 16) (n i : Nat) (hi : i < 4 * n + 16) : ∀ m, (kws key (n + m)).getD i 0 = (kws key n).getD i 0
 | 0 => rfl
 | m + 1 => by
   rw [← kws_get key h n i hi m, show n + (m + 1) = (n + m) + 1 by omega, kws]
   simp only [List.getD_eq_getElem?_getD]
   rw [List.getElem?_append_left (by rw [kws_len key h]; omega)]
def kall (key : List UInt8) : List UInt8 := kws key 40
theorem kall_len (key : List UInt8) (h : key.length = 16) : (kall key).length = 176 := by rw [kall, kws_len key h]
theorem kall_get (key : List UInt8) (h : key.length = 16) (n i : Nat) (hn : n ≤ 40) (hi : i < 4 * n + 16) : (kall key).getD i 0 = (kws key n).getD i 0 := by
 have := kws_get key h n i hi (40 - n)
 rw [show n + (40 - n) = 40 by omega] at this
 exact this
theorem kall_new (key : List UInt8) (h : key.length = 16) (n j : Nat) (hn : n < 40) (hj : j < 4) : (kall key).getD (4 * n + 16 + j) 0 = nwB (kws key n) n j := by
 rw [kall_get key h (n + 1) _ (by omega) (by omega), kws]
 simp only [List.getD_eq_getElem?_getD]
 rw [List.getElem?_append_right (by rw [kws_len key h]; omega), kws_len key h, show 4 * n + 16 + j - (4 * n + 16) = j by omega]
 have := tab_get 4 (nwB (kws key n) n) j hj
 rw [List.getD_eq_getElem?_getD] at this
 exact this
def wd (key : List UInt8) (i : Nat) : List UInt8 := tab 4 fun j => (kall key).getD (4 * i + j) 0
theorem wd_len (key : List UInt8) (i : Nat) : (wd key i).length = 4 := tab_len _ _
theorem wd_get (key : List UInt8) (i j : Nat) (hj : j < 4) : (wd key i).getD j 0 = (kall key).getD (4 * i + j) 0 := tab_get _ _ _ hj
theorem wd_low (key : List UInt8) (h : key.length = 16) (i : Nat) (hi : i < 4) : wd key i = [key.getD (4 * i) 0, key.getD (4 * i + 1) 0, key.getD (4 * i + 2) 0, key.getD (4 * i + 3) 0] := by
 have hk : ∀ j, j < 4 → (kall key).getD (4 * i + j) 0 = key.getD (4 * i + j) 0 := fun j hj => kall_get key h 0 _ (by omega) (by omega)
 have e : wd key i = [(kall key).getD (4 * i + 0) 0, (kall key).getD (4 * i + 1) 0, (kall key).getD (4 * i + 2) 0, (kall key).getD (4 * i + 3) 0] := rfl
 rw [e, hk 0 (by omega), hk 1 (by omega), hk 2 (by omega), hk 3 (by omega)]
 rfl
def twW (key : List UInt8) (n : Nat) : List UInt8 :=
 if n % 4 = 0 then [sb ((wd key (n + 3)).getD 1 0) ^^^ rcon (n / 4), sb ((wd key (n + 3)).getD 2 0), sb ((wd key (n + 3)).getD 3 0), sb ((wd key (n + 3)).getD 0 0)] else wd key (n + 3)
theorem twW_len (key : List UInt8) (n : Nat) : (twW key n).length = 4 := by
 unfold twW
 split
 · rfl
 · exact wd_len _ _
theorem four_is (l : List UInt8) (h : l.length = 4) : [l.getD 0 0, l.getD 1 0, l.getD 2 0, l.getD 3 0] = l := list_tab l h
theorem tw_gen (l v : List UInt8) (n : Nat) (hv : v.length = 4) (h0 : l.getD (4 * n + 12) 0 = v.getD 0 0) (h1 : l.getD (4 * n + 13) 0 = v.getD 1 0) (h2 : l.getD (4 * n + 14) 0 = v.getD 2 0) (h3 : l.getD (4 * n + 15) 0 = v.getD 3 0) :
 tw l n = if n % 4 = 0 then [sb (v.getD 1 0) ^^^ rcon (n / 4), sb (v.getD 2 0), sb (v.getD 3 0), sb (v.getD 0 0)] else v := by
 unfold tw
 rw [h0, h1, h2, h3, four_is v hv]
theorem tw_is (key : List UInt8) (h : key.length = 16) (n : Nat) (hn : n < 40) : tw (kws key n) n = twW key n := by
 have hk : ∀ j, j < 4 → (kws key n).getD (4 * n + (12 + j)) 0 = (wd key (n + 3)).getD j 0 := fun j hj => by
  rw [wd_get _ _ _ hj, kall_get key h n _ (by omega) (by omega), show 4 * (n + 3) + j = 4 * n + (12 + j) by omega]
 exact tw_gen _ _ n (wd_len _ _) (hk 0 (by omega)) (hk 1 (by omega)) (hk 2 (by omega)) (hk 3 (by omega))
theorem wd_new (key : List UInt8) (h : key.length = 16) (n j : Nat) (hn : n < 40) (hj : j < 4) : (wd key n).getD j 0 ^^^ (twW key n).getD j 0 = (wd key (n + 4)).getD j 0 := by
 rw [wd_get _ _ _ hj, wd_get _ _ _ hj, show 4 * (n + 4) + j = 4 * n + 16 + j by omega, kall_new key h n j hn hj, nwB, tw_is key h n hn, kall_get key h n _ (by omega) (by omega)]

def addB (ks : List UInt8) (r : Nat) (s : List UInt8) (i : Nat) : UInt8 := s.getD i 0 ^^^ ks.getD (16 * r + i) 0
def addK (ks : List UInt8) (r : Nat) (s : List UInt8) : List UInt8 := tab 16 (addB ks r s)
def subB (s : List UInt8) (i : Nat) : UInt8 := sb (s.getD (4 * ((i / 4 + i % 4) % 4) + i % 4) 0)
def subR (s : List UInt8) : List UInt8 := tab 16 (subB s)
def mulB (s : List UInt8) (i : Nat) : UInt8 :=
 s.getD i 0 ^^^ (s.getD (4 * (i / 4)) 0 ^^^ s.getD (4 * (i / 4) + 1) 0 ^^^ s.getD (4 * (i / 4) + 2) 0 ^^^ s.getD (4 * (i / 4) + 3) 0) ^^^ dbl (s.getD i 0 ^^^ s.getD (4 * (i / 4) + (i % 4 + 1) % 4) 0)
def mulC (s : List UInt8) : List UInt8 := tab 16 (mulB s)
def encR (ks inp : List UInt8) : Nat → List UInt8
 | 0 => addK ks 0 inp
 | r + 1 => addK ks (r + 1) (mulC (subR (encR ks inp r)))
def enc (ks inp : List UInt8) : List UInt8 := addK ks 10 (subR (encR ks inp 9))
theorem addK_len (ks : List UInt8) (r : Nat) (s : List UInt8) : (addK ks r s).length = 16 := tab_len _ _
theorem subR_len (s : List UInt8) : (subR s).length = 16 := tab_len _ _
theorem mulC_len (s : List UInt8) : (mulC s).length = 16 := tab_len _ _
theorem encR_len (ks inp : List UInt8) : ∀ r, (encR ks inp r).length = 16
 | 0 => addK_len _ _ _
 | _ + 1 => addK_len _ _ _
theorem enc_len (ks inp : List UInt8) : (enc ks inp).length = 16 := addK_len _ _ _

def rowM (row k : Nat) : Nat := [2, 3, 1, 1].getD ((k + 4 - row) % 4) 0
def rx (s : List UInt8) (col row : Nat) : Nat → UInt8
 | 0 => 0
 | k + 1 => rx s col row k ^^^ UInt8.ofNat (timesN (rowM row k) (s.getD (4 * col + k) 0).toNat)
theorem rx_all (s : List UInt8) (col row : Nat) (hr : row < 4) : rx s col row 4 = mulB s (4 * col + row) := by
 have t1 : ∀ x : UInt8, UInt8.ofNat (timesN 1 x.toNat) = x := fun x => by rw [times_one, UInt8.ofNat_toNat]
 have t2 : ∀ x : UInt8, UInt8.ofNat (timesN 2 x.toNat) = dbl x := fun x => by rw [times_two, UInt8.ofNat_toNat]
 have t3 : ∀ x : UInt8, UInt8.ofNat (timesN 3 x.toNat) = dbl x ^^^ x := fun x => by rw [times_three, UInt8.ofNat_toNat]
 unfold mulB
 rw [show (4 * col + row) / 4 = col by omega, show (4 * col + row) % 4 = row by omega]
 simp only [rx, Nat.add_zero]
 rcases (show row = 0 ∨ row = 1 ∨ row = 2 ∨ row = 3 by omega) with rfl | rfl | rfl | rfl
 all_goals
  simp only [rowM, Nat.reduceAdd, Nat.reduceSub, Nat.reduceMod, List.getD_cons_zero, List.getD_cons_succ, t1, t2, t3, dbl_xor, Nat.add_zero]
  generalize dbl (s.getD (4 * col) 0) = P
  generalize dbl (s.getD (4 * col + 1) 0) = Q
  generalize dbl (s.getD (4 * col + 2) 0) = R
  generalize dbl (s.getD (4 * col + 3) 0) = S
  generalize s.getD (4 * col) 0 = p
  generalize s.getD (4 * col + 1) 0 = q
  generalize s.getD (4 * col + 2) 0 = r
  generalize s.getD (4 * col + 3) 0 = u
  apply UInt8.toBitVec_inj.1
  simp only [UInt8.toBitVec_xor, UInt8.zero_xor]
  ext i hi
  simp only [BitVec.getElem_xor]
  cases p.toBitVec[i] <;> cases q.toBitVec[i] <;> cases r.toBitVec[i] <;> cases u.toBitVec[i] <;> cases P.toBitVec[i] <;> cases Q.toBitVec[i] <;> cases R.toBitVec[i] <;> cases S.toBitVec[i] <;> rfl

end Go.Proofs.YtheefckohnaceaaGreatDoor
