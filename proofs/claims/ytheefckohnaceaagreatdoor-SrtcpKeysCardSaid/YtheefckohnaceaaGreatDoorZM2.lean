/- Several texts in one: plain words and walks. No statement is proved here. -/
import Derived.Test.YtheefckohnaceaaGreatDoorZM1
import Derived.Test.YtheefckohnaceaaGreatDoorZNums
import Derived.Test.YtheefckohnaceaaGreatDoorZBytes
import Derived.WalkKit
import Derived.Test.YtheefckohnaceaaGreatDoorProg
import Derived.KernelRfl
import Derived.IntWalk
import Derived.LoopTactic
import Derived.Lib.Hide
import Derived.OpenShut
namespace Go.Proofs.YtheefckohnaceaaGreatDoor

theorem ofNat_modS (a b : Nat) (h : a % 256 = b % 256) : UInt8.ofNat a = UInt8.ofNat b := by
 apply UInt8.toNat_inj.1
 rw [UInt8.toNat_ofNat', UInt8.toNat_ofNat']
 exact h
theorem beb_cons (n x : Nat) : beb (n + 1) x = UInt8.ofNat (x / 256 ^ n) :: beb n x := by
 unfold beb
 rw [List.range_succ_eq_map, List.map_cons, List.map_map]
 congr 1
 apply List.map_congr_left
 intro i _
 simp only [Function.comp_apply]
 congr 3
 omega
theorem beb_mul_addS (n a : Nat) : ∀ x, beb n (a * 256 ^ n + x) = beb n x := by
 induction n with
 | zero => intro x; rfl
 | succ n ih =>
   intro x
   have e : a * 256 ^ (n + 1) = a * 256 ^ n * 256 := by rw [Nat.pow_succ, Nat.mul_assoc]
   rw [beb_succ, beb_succ n x, e, show (a * 256 ^ n * 256 + x) / 256 = a * 256 ^ n + x / 256 by omega, ih, ofNat_modS _ x (by omega)]
theorem beb_modS (n x : Nat) : beb n (x % 256 ^ n) = beb n x := by
 have h := beb_mul_addS n (x / 256 ^ n) (x % 256 ^ n)
 rw [Nat.mul_comm, Nat.div_add_mod] at h
 exact h.symm
theorem beb_congrS (n x y : Nat) (h : x % 256 ^ n = y % 256 ^ n) : beb n x = beb n y := by rw [← beb_modS n x, h, beb_modS]
theorem beb_numbS : ∀ l : List UInt8, beb l.length (numb l) = l
 | [] => rfl
 | b :: t => by
   have hl := numb_lt t
   rw [List.length_cons, numb_cons, beb_cons, beb_mul_addS, beb_numbS t]
   have hp : 0 < 256 ^ t.length := Nat.pow_pos (by omega)
   rw [Nat.add_comm, Nat.add_mul_div_right _ _ hp, Nat.div_eq_of_lt hl, Nat.zero_add, UInt8.ofNat_toNat]

def plusC (c : List UInt8) (n : Nat) : List UInt8 := beb 16 (numb c + n)
theorem plusC_len (c : List UInt8) (n : Nat) : (plusC c n).length = 16 := length_beb _ _
theorem plusC_plus (c : List UInt8) (a b : Nat) : plusC (plusC c a) b = plusC c (a + b) := by
 unfold plusC
 rw [numb_beb]
 apply beb_congrS
 rw [Nat.add_mod, Nat.mod_mod, ← Nat.add_mod, Nat.add_assoc]
theorem plusC_zero (c : List UInt8) (h : c.length = 16) : plusC c 0 = c := by
 unfold plusC
 rw [Nat.add_zero, ← h, beb_numbS]

theorem drop_cons (c : List UInt8) (j : Nat) (h : j < c.length) : c.drop j = c.getD j 0 :: c.drop (j + 1) := by
 rw [List.drop_eq_getElem_cons h]
 congr 1
 simp [List.getD, h]
theorem numb_drop (c : List UInt8) (k : Nat) (hc : c.length = 16) (hk : k < 16) : numb (c.drop (15 - k)) = (c.getD (15 - k) 0).toNat * 256 ^ k + numb (c.drop (16 - k)) := by
 rw [drop_cons c (15 - k) (by omega), numb_cons, List.length_drop, show 15 - k + 1 = 16 - k by omega, hc, show 16 - (16 - k) = k by omega]
theorem numb_split (c : List UInt8) (k : Nat) (hc : c.length = 16) (hk : k ≤ 16) : numb c = numb (c.take (16 - k)) * 256 ^ k + numb (c.drop (16 - k)) := by
 have h := numb_append (c.take (16 - k)) (c.drop (16 - k))
 rw [List.take_append_drop, List.length_drop, hc, show 16 - (16 - k) = k by omega] at h
 exact h
theorem set_mid (a b : List UInt8) (j : Nat) (y z : UInt8) (h : a.length = j) : (a ++ y :: b).set j z = a ++ z :: b := by
 rw [List.set_append_right _ _ (by omega), h, Nat.sub_self, List.set_cons_zero]
theorem take_snocD (c : List UInt8) (j : Nat) (h : j < c.length) : c.take (j + 1) = c.take j ++ [c.getD j 0] := take_snoc h

def nxR (c : List UInt8) (k : Nat) : List UInt8 := c.take (16 - k) ++ List.replicate k 0
theorem nxR_len (c : List UInt8) (k : Nat) (hc : c.length = 16) (hk : k ≤ 16) : (nxR c k).length = 16 := by simp [nxR, hc]; omega
theorem nxR_zero (c : List UInt8) (hc : c.length = 16) : nxR c 0 = c := by simp [nxR, List.take_of_length_le, hc]
theorem nxR_mid (c : List UInt8) (k : Nat) (hc : c.length = 16) (hk : k < 16) : nxR c k = c.take (15 - k) ++ c.getD (15 - k) 0 :: List.replicate k 0 := by
 unfold nxR
 rw [show 16 - k = 15 - k + 1 by omega, take_snocD c (15 - k) (by omega), List.append_assoc]
 rfl
theorem nxR_get (c : List UInt8) (k : Nat) (hc : c.length = 16) (hk : k < 16) : (nxR c k).getD (15 - k) 0 = c.getD (15 - k) 0 := by
 rw [nxR_mid c k hc hk, List.getD_eq_getElem?_getD, List.getElem?_append_right (by simp; omega)]
 simp [hc, show min (15 - k) 16 = 15 - k by omega]
theorem nxR_set (c : List UInt8) (k : Nat) (hc : c.length = 16) (hk : k < 16) : (nxR c k).set (15 - k) 0 = nxR c (k + 1) := by
 rw [nxR_mid c k hc hk, set_mid _ _ _ _ _ (by simp; omega), nxR, show 16 - (k + 1) = 15 - k by omega, List.replicate_succ]
def Full (c : List UInt8) (k : Nat) : Prop := numb (c.drop (16 - k)) + 1 = 256 ^ k
theorem full_zero (c : List UInt8) (hc : c.length = 16) : Full c 0 := by
 unfold Full
 rw [List.drop_of_length_le (by omega)]
 rfl
theorem full_succ (c : List UInt8) (k : Nat) (hc : c.length = 16) (hk : k < 16) (h : Full c k) (hy : (c.getD (15 - k) 0).toNat = 255) : Full c (k + 1) := by
 unfold Full at *
 rw [show 16 - (k + 1) = 15 - k by omega, numb_drop c k hc hk, hy, Nat.pow_succ]
 omega
theorem numb_zeros : ∀ k, numb (List.replicate k 0) = 0
 | 0 => rfl
 | k + 1 => by rw [List.replicate_succ, numb_cons, numb_zeros k]; simp
theorem nxR_stop (c : List UInt8) (k : Nat) (hc : c.length = 16) (hk : k < 16) (h : Full c k) (z : UInt8) (hz : z.toNat = (c.getD (15 - k) 0).toNat + 1) : (nxR c k).set (15 - k) z = plusC c 1 := by
 rw [nxR_mid c k hc hk, set_mid _ _ _ _ _ (by simp; omega)]
 have hl : (c.take (15 - k) ++ z :: List.replicate k 0).length = 16 := by simp [hc]; omega
 have hs := numb_split c (k + 1) hc (by omega)
 rw [show 16 - (k + 1) = 15 - k by omega, numb_drop c k hc hk] at hs
 unfold Full at h
 have hn : numb (c.take (15 - k) ++ z :: List.replicate k 0) = numb c + 1 := by
  rw [numb_append, numb_cons, numb_zeros, List.length_cons, List.length_replicate, hz, hs, Nat.add_mul]
  omega
 have hb := beb_numbS (c.take (15 - k) ++ z :: List.replicate k 0)
 rw [hl, hn] at hb
 exact hb.symm
theorem nxR_all (c : List UInt8) (h : Full c 16) : nxR c 16 = plusC c 1 := by
 unfold Full at h
 rw [show 16 - 16 = 0 by omega, List.drop_zero] at h
 unfold plusC
 rw [h, ← beb_modS 16 (256 ^ 16), Nat.mod_self]
 unfold nxR
 rw [show 16 - 16 = 0 by omega, List.take_zero, List.nil_append]
 rfl

def plR (c : List UInt8) (n k : Nat) : List UInt8 := c.take (16 - k) ++ beb k (numb (c.drop (16 - k)) + n)
def plN (c : List UInt8) (n k : Nat) : Nat := (numb (c.drop (16 - k)) + n) / 256 ^ k
theorem plR_len (c : List UInt8) (n k : Nat) (hc : c.length = 16) (hk : k ≤ 16) : (plR c n k).length = 16 := by simp [plR, hc, length_beb]; omega
theorem plR_zero (c : List UInt8) (n : Nat) (hc : c.length = 16) : plR c n 0 = c := by simp [plR, List.take_of_length_le, hc, beb]
theorem plN_zero (c : List UInt8) (n : Nat) (hc : c.length = 16) : plN c n 0 = n := by
 unfold plN
 rw [List.drop_of_length_le (by omega), numb_nil]
 simp
theorem plR_mid (c : List UInt8) (n k : Nat) (hc : c.length = 16) (hk : k < 16) : plR c n k = c.take (15 - k) ++ c.getD (15 - k) 0 :: beb k (numb (c.drop (16 - k)) + n) := by
 unfold plR
 rw [show 16 - k = 15 - k + 1 by omega, take_snocD c (15 - k) (by omega), List.append_assoc]
 rfl
theorem plR_get (c : List UInt8) (n k : Nat) (hc : c.length = 16) (hk : k < 16) : (plR c n k).getD (15 - k) 0 = c.getD (15 - k) 0 := by
 rw [plR_mid c n k hc hk, List.getD_eq_getElem?_getD, List.getElem?_append_right (by simp; omega)]
 simp [hc, show min (15 - k) 16 = 15 - k by omega]
theorem plN_add (c : List UInt8) (n k : Nat) (hc : c.length = 16) (hk : k < 16) : plN c n k + (c.getD (15 - k) 0).toNat = (numb (c.drop (15 - k)) + n) / 256 ^ k := by
 unfold plN
 rw [numb_drop c k hc hk, show (c.getD (15 - k) 0).toNat * 256 ^ k + numb (c.drop (16 - k)) + n = (numb (c.drop (16 - k)) + n) + (c.getD (15 - k) 0).toNat * 256 ^ k by omega, Nat.add_mul_div_right _ _ (Nat.pow_pos (by omega))]
theorem plN_succ (c : List UInt8) (n k : Nat) (hc : c.length = 16) (hk : k < 16) : (plN c n k + (c.getD (15 - k) 0).toNat) / 256 = plN c n (k + 1) := by
 rw [plN_add c n k hc hk, plN, show 16 - (k + 1) = 15 - k by omega, Nat.pow_succ, Nat.div_div_eq_div_mul]
theorem plR_set (c : List UInt8) (n k : Nat) (hc : c.length = 16) (hk : k < 16) (z : UInt8) (hz : z = UInt8.ofNat (plN c n k + (c.getD (15 - k) 0).toNat)) : (plR c n k).set (15 - k) z = plR c n (k + 1) := by
 rw [plR_mid c n k hc hk, set_mid _ _ _ _ _ (by simp; omega), plR, show 16 - (k + 1) = 15 - k by omega, beb_cons, hz, plN_add c n k hc hk]
 congr 2
 rw [numb_drop c k hc hk, Nat.add_assoc, beb_mul_addS]
theorem plR_all (c : List UInt8) (n : Nat) : plR c n 16 = plusC c n := by
 unfold plR plusC
 rw [show 16 - 16 = 0 by omega, List.take_zero, List.nil_append, List.drop_zero]

def fillO (f : Nat → UInt8) (o : Nat) (s : List UInt8) (k : Nat) : List UInt8 := s.take o ++ fillAt f (s.drop o) k
theorem fillO_zero (f : Nat → UInt8) (o : Nat) (s : List UInt8) : fillO f o s 0 = s := by rw [fillO, fillAt_zero, List.take_append_drop]
theorem fillO_at (f : Nat → UInt8) (s : List UInt8) (k : Nat) : fillO f 0 s k = fillAt f s k := by simp [fillO]
theorem fillO_len (f : Nat → UInt8) (o : Nat) (s : List UInt8) (k : Nat) (h : o + k ≤ s.length) : (fillO f o s k).length = s.length := by
 rw [fillO, List.length_append, fillAt_len _ _ _ (by rw [List.length_drop]; omega), List.length_take, List.length_drop]; omega
theorem fillO_step (f : Nat → UInt8) (o : Nat) (s : List UInt8) (k : Nat) (h : o + k < s.length) : (fillO f o s k).set (o + k) (f k) = fillO f o s (k + 1) := by
 unfold fillO
 rw [List.set_append_right _ _ (by simp; omega), List.length_take, show min o s.length = o by omega, show o + k - o = k by omega, fillAt_step _ _ _ (by rw [List.length_drop]; omega)]
theorem fillO_get (f : Nat → UInt8) (o : Nat) (s : List UInt8) (k i : Nat) (h : o + k ≤ s.length) : (fillO f o s k).getD i 0 = if o ≤ i ∧ i < o + k then f (i - o) else s.getD i 0 := by
 unfold fillO
 rcases Nat.lt_or_ge i o with hi | hi
 · rw [if_neg (by omega), List.getD_eq_getElem?_getD, List.getElem?_append_left (by simp; omega), List.getElem?_take, if_pos hi, ← List.getD_eq_getElem?_getD]
 · rw [List.getD_eq_getElem?_getD, List.getElem?_append_right (by simp; omega), List.length_take, show min o s.length = o by omega, ← List.getD_eq_getElem?_getD]
   rcases Nat.lt_or_ge i (o + k) with h2 | h2
   · rw [if_pos (by omega), fillAt_lt _ _ _ _ (by omega)]
   · rw [if_neg (by omega), fillAt_ge _ _ _ _ (by omega)]
     simp only [List.getD_eq_getElem?_getD, List.getElem?_drop]
     congr 2
     omega
theorem fillO_ge (f : Nat → UInt8) (o : Nat) (s : List UInt8) (k : Nat) (h : o + k ≤ s.length) : (fillO f o s k).getD (o + k) 0 = s.getD (o + k) 0 := by
 rw [fillO_get _ _ _ _ _ h, if_neg (by omega)]

def xrB (s bs : List UInt8) (o i : Nat) : UInt8 := s.getD (o + i) 0 ^^^ bs.getD i 0
def saltZ (salt : List UInt8) : List UInt8 := salt ++ [0, 0]
theorem saltZ_len (salt : List UInt8) (h : salt.length = 14) : (saltZ salt).length = 16 := by simp [saltZ, h]
def firstC (salt : List UInt8) (s x : Nat) : List UInt8 := fillO (xrB (saltZ salt) (beb 4 s ++ beb 6 x) 4) 4 (saltZ salt) 10
theorem firstC_len (salt : List UInt8) (s x : Nat) (h : salt.length = 14) : (firstC salt s x).length = 16 := by
 rw [firstC, fillO_len _ _ _ _ (by rw [saltZ_len _ h]; omega), saltZ_len _ h]
theorem getD_app_left (a b : List UInt8) (i : Nat) (h : i < a.length) : (a ++ b).getD i 0 = a.getD i 0 := by
 simp only [List.getD_eq_getElem?_getD]
 rw [List.getElem?_append_left h]
theorem getD_app_right (a b : List UInt8) (i : Nat) (h : a.length ≤ i) : (a ++ b).getD i 0 = b.getD (i - a.length) 0 := by
 simp only [List.getD_eq_getElem?_getD]
 rw [List.getElem?_append_right h]
def ksB (key c : List UInt8) (i : Nat) : UInt8 := (enc (kall key) (plusC c (i / 16))).getD (i % 16) 0
def strm (key c : List UInt8) (n : Nat) : List UInt8 := tab n (ksB key c)
theorem strm_len (key c : List UInt8) (n : Nat) : (strm key c n).length = n := tab_len _ _
def cphB (key c bs : List UInt8) (i : Nat) : UInt8 := bs.getD i 0 ^^^ ksB key c i
def cph (key c bs : List UInt8) : List UInt8 := tab bs.length (cphB key c bs)
theorem cph_len (key c bs : List UInt8) : (cph key c bs).length = bs.length := tab_len _ _
theorem cph_twice (key c bs : List UInt8) : cph key c (cph key c bs) = bs := by
 apply list_eq (n := bs.length)
 · rw [cph_len, cph_len]
 · rfl
 · intro i hi
   rw [cph, cph_len, tab_get _ _ _ hi, cphB, cph, tab_get _ _ _ hi, cphB, UInt8.xor_assoc, UInt8.xor_self, UInt8.xor_zero]
theorem cph_zeros (key c : List UInt8) (n : Nat) : cph key c (List.replicate n 0) = strm key c n := by
 unfold cph strm
 rw [List.length_replicate]
 apply tab_congr
 intro i hi
 unfold cphB
 simp [List.getD_eq_getElem?_getD, hi]
theorem cph_step (key c bs : List UInt8) (i : Nat) (h : i < bs.length) : (cph key c bs).take (i + 1) = (cph key c bs).take i ++ [cphB key c bs i] := by
 rw [take_snoc (by rw [cph_len]; exact h)]
 congr 2
 exact tab_get _ _ _ h
theorem cph_fill (key c bs : List UInt8) : fillO (xrB (strm key c bs.length) bs 0) 0 (strm key c bs.length) bs.length = cph key c bs := by
 rw [fillO_at, fillAt_all _ _ _ (strm_len _ _ _)]
 apply tab_congr
 intro i hi
 unfold xrB cphB strm
 rw [Nat.zero_add, tab_get _ _ _ hi, UInt8.xor_comm]

def strR (key c : List UInt8) (n k : Nat) : List UInt8 := fillAt (ksB key c) (List.replicate n 0) k
theorem strR_len (key c : List UInt8) (n k : Nat) (h : k ≤ n) : (strR key c n k).length = n := by rw [strR, fillAt_len _ _ _ (by simpa using h), List.length_replicate]
theorem strR_all (key c : List UInt8) (n : Nat) : strR key c n n = strm key c n := fillAt_all _ _ _ (by simp)
theorem splice_fill (f : Nat → UInt8) (s ds : List UInt8) (k m : Nat) (hm : ds.length = m) (h : ∀ i, i < m → ds.getD i 0 = f (k + i)) : splice (cells (fillAt f s k)) k (cells ds) = cells (fillAt f s (k + m)) := by
 have e : ds = (List.range m).map fun i => f (k + i) := list_eq (n := m) hm (by simp) fun i hi => by
  rw [h i hi]
  simp [List.getD_eq_getElem?_getD, hi]
 have hcut : fillAt f s (k + m) = (fillAt f s k).take k ++ ds ++ (fillAt f s k).drop (k + m) := by
  have e1 : (fillAt f s k).take k = (List.range k).map f := by unfold fillAt; exact List.take_left' (by simp)
  have e2 : (fillAt f s k).drop (k + m) = s.drop (k + m) := by
   have e3 : ((List.range k).map f).drop (k + m) = [] := List.drop_eq_nil_of_le (by simp)
   rw [fillAt, List.drop_append, e3, List.nil_append, List.length_map, List.length_range, List.drop_drop, show k + (k + m - k) = k + m by omega]
  rw [e1, e2, e, fillAt, List.range_add, List.map_append, List.map_map]
  rfl
 rw [hcut, splice, cells_append, cells_append, length_cells, hm]
 simp [cells]
theorem strR_step (key c : List UInt8) (n k : Nat) (m : Nat) (hm : m = min 16 (n - 16 * k)) : splice (cells (strR key c n (16 * k))) (16 * k) (cells ((enc (kall key) (plusC c k)).take m)) = cells (strR key c n (16 * k + m)) := by
 apply splice_fill
 · rw [List.length_take, enc_len]; omega
 · intro i hi
   unfold ksB
   rw [show (16 * k + i) / 16 = k by omega, show (16 * k + i) % 16 = i by omega]
   simp only [List.getD_eq_getElem?_getD]
   rw [List.getElem?_take, if_pos hi]
end Go.Proofs.YtheefckohnaceaaGreatDoor

namespace Go.Proofs.YtheefckohnaceaaGreatDoor

def rot (k x : Nat) : Nat := x * 2 ^ k % 4294967296 + x / 2 ^ (32 - k)
theorem rot_lt (k x : Nat) (hk : k = 1 ∨ k = 5 ∨ k = 30) (hx : x < 4294967296) : rot k x < 4294967296 := by
 unfold rot
 rcases hk with rfl | rfl | rfl <;> simp only [Nat.reducePow, Nat.reduceSub] <;> omega
theorem rot_or (k x : Nat) (hk : k = 1 ∨ k = 5 ∨ k = 30) (hx : x < 4294967296) : (x * 2 ^ k % 4294967296 ||| x / 2 ^ (32 - k)) = rot k x := by
 unfold rot
 rcases hk with rfl | rfl | rfl
 · have h := Nat.two_pow_add_eq_or_of_lt (i := 1) (b := x / 2147483648) (by simp; omega) (x % 2147483648)
   have e : x * 2 ^ 1 % 4294967296 = 2 ^ 1 * (x % 2147483648) := by omega
   rw [e]; exact h.symm
 · have h := Nat.two_pow_add_eq_or_of_lt (i := 5) (b := x / 134217728) (by simp; omega) (x % 134217728)
   have e : x * 2 ^ 5 % 4294967296 = 2 ^ 5 * (x % 134217728) := by omega
   rw [e]; exact h.symm
 · have h := Nat.two_pow_add_eq_or_of_lt (i := 30) (b := x / 4) (by simp; omega) (x % 4)
   have e : x * 2 ^ 30 % 4294967296 = 2 ^ 30 * (x % 4) := by omega
   rw [e]; exact h.symm

def ff (t b c d : Nat) : Nat :=
 if t < 20 then (b &&& c) ||| ((4294967295 - b) &&& d) else if t < 40 then b ^^^ c ^^^ d else if t < 60 then (b &&& c) ||| (b &&& d) ||| (c &&& d) else b ^^^ c ^^^ d
def kk (t : Nat) : Nat := if t < 20 then 1518500249 else if t < 40 then 1859775393 else if t < 60 then 2400959708 else 3395469782
theorem and32 {a b : Nat} (ha : a < 4294967296) : a &&& b < 4294967296 := Nat.lt_of_le_of_lt Nat.and_le_left ha
theorem or32 {a b : Nat} (ha : a < 4294967296) (hb : b < 4294967296) : a ||| b < 4294967296 := Nat.or_lt_two_pow (n := 32) ha hb
theorem xor32 {a b : Nat} (ha : a < 4294967296) (hb : b < 4294967296) : a ^^^ b < 4294967296 := Nat.xor_lt_two_pow (n := 32) ha hb
theorem ff_lt (t b c d : Nat) (hb : b < 4294967296) (hc : c < 4294967296) (hd : d < 4294967296) : ff t b c d < 4294967296 := by
 unfold ff
 split
 · exact or32 (and32 hb) (and32 (by omega))
 · split
   · exact xor32 (xor32 hb hc) hd
   · split
     · exact or32 (or32 (and32 hb) (and32 hb)) (and32 hc)
     · exact xor32 (xor32 hb hc) hd
theorem kk_lt (t : Nat) : kk t < 4294967296 := by
 unfold kk
 split
 · omega
 · split
   · omega
   · split <;> omega

structure S5 where
 a : Nat
 b : Nat
 c : Nat
 d : Nat
 e : Nat
def S5.ok (s : S5) : Prop := s.a < 4294967296 ∧ s.b < 4294967296 ∧ s.c < 4294967296 ∧ s.d < 4294967296 ∧ s.e < 4294967296
def rnd (w : List Nat) (t : Nat) (s : S5) : S5 := ⟨(rot 5 s.a + ff t s.b s.c s.d + s.e + kk t + w.getD t 0) % 4294967296, s.a, rot 30 s.b, s.c, s.d⟩
def rnds (w : List Nat) (s : S5) : Nat → S5
 | 0 => s
 | t + 1 => rnd w t (rnds w s t)
def nextW (k : Nat) (r : List Nat) : Nat := rot 1 (r.getD (k + 13) 0 ^^^ r.getD (k + 8) 0 ^^^ r.getD (k + 2) 0 ^^^ r.getD k 0)
def sched (l : List Nat) : Nat → List Nat
 | 0 => l
 | k + 1 => sched l k ++ [nextW k (sched l k)]
theorem sched_len (l : List Nat) (h : l.length = 16) : ∀ k, (sched l k).length = 16 + k
 | 0 => h
 | k + 1 => by rw [sched, List.length_append, sched_len l h k]; simp; omega
theorem all_getD {r : List Nat} (h : ∀ x ∈ r, x < 4294967296) (i : Nat) : r.getD i 0 < 4294967296 := by
 rcases Nat.lt_or_ge i r.length with hi | hi
 · simp only [List.getD, List.getElem?_eq_getElem hi, Option.getD_some]
   exact h _ (List.getElem_mem hi)
 · simp [List.getD, List.getElem?_eq_none hi]
theorem nextX_lt {r : List Nat} (h : ∀ x ∈ r, x < 4294967296) (k : Nat) : (r.getD (k + 13) 0 ^^^ r.getD (k + 8) 0 ^^^ r.getD (k + 2) 0 ^^^ r.getD k 0) < 4294967296 :=
 xor32 (xor32 (xor32 (all_getD h _) (all_getD h _)) (all_getD h _)) (all_getD h _)
theorem nextW_lt {r : List Nat} (h : ∀ x ∈ r, x < 4294967296) (k : Nat) : nextW k r < 4294967296 := rot_lt 1 _ (by omega) (nextX_lt h k)
theorem sched_lt (l : List Nat) (h : ∀ x ∈ l, x < 4294967296) : ∀ k, ∀ x ∈ sched l k, x < 4294967296
 | 0 => h
 | k + 1 => by
   intro x hx
   rw [sched, List.mem_append] at hx
   rcases hx with hx | hx
   · exact sched_lt l h k x hx
   · simp only [List.mem_singleton] at hx
     subst hx
     exact nextW_lt (sched_lt l h k) k

def word (b : List UInt8) (t : Nat) : Nat := numb ((b.drop (4 * t)).take 4)
def words16 (b : List UInt8) (n : Nat) : List Nat := (List.range n).map (word b)
theorem word_lt (b : List UInt8) (t : Nat) : word b t < 4294967296 := by
 have h := numb_lt ((b.drop (4 * t)).take 4)
 have h2 : 256 ^ ((b.drop (4 * t)).take 4).length ≤ 256 ^ 4 := Nat.pow_le_pow_right (by omega) (by simp; omega)
 have e : (256 : Nat) ^ 4 = 4294967296 := by decide
 unfold word
 omega
theorem words16_len (b : List UInt8) (n : Nat) : (words16 b n).length = n := by simp [words16]
theorem words16_lt (b : List UInt8) (n : Nat) : ∀ x ∈ words16 b n, x < 4294967296 := by
 intro x hx
 obtain ⟨t, _, rfl⟩ := List.mem_map.1 hx
 exact word_lt b t
theorem words16_succ (b : List UInt8) (n : Nat) : words16 b (n + 1) = words16 b n ++ [word b n] := by simp [words16, List.range_succ]
def wds (b : List UInt8) (k : Nat) : List Nat := if k ≤ 16 then words16 b k else sched (words16 b 16) (k - 16)
theorem wds_len (b : List UInt8) (k : Nat) : (wds b k).length = k := by
 unfold wds
 split
 · exact words16_len b k
 · rw [sched_len _ (words16_len b 16)]; omega
theorem wds_lt (b : List UInt8) (k : Nat) : ∀ x ∈ wds b k, x < 4294967296 := by
 unfold wds
 split
 · exact words16_lt b k
 · exact sched_lt _ (words16_lt b 16) _
theorem wds_low (b : List UInt8) (k : Nat) (h : k < 16) : wds b (k + 1) = wds b k ++ [word b k] := by
 unfold wds
 rw [if_pos (by omega), if_pos (by omega), words16_succ]
theorem wds_high (b : List UInt8) (k : Nat) (h : 16 ≤ k) : wds b (k + 1) = wds b k ++ [nextW (k - 16) (wds b k)] := by
 have e1 : wds b (k + 1) = sched (words16 b 16) (k + 1 - 16) := by unfold wds; rw [if_neg (by omega)]
 have e2 : wds b k = sched (words16 b 16) (k - 16) := by
  rcases Nat.eq_or_lt_of_le h with h | h
  · subst h; simp [wds, sched]
  · unfold wds; rw [if_neg (by omega)]
 rw [e1, e2, show k + 1 - 16 = (k - 16) + 1 by omega, sched]

def S5.plus (h r : S5) : S5 := ⟨(h.a + r.a) % 4294967296, (h.b + r.b) % 4294967296, (h.c + r.c) % 4294967296, (h.d + r.d) % 4294967296, (h.e + r.e) % 4294967296⟩
def blockW (h : S5) (b : List UInt8) : S5 := h.plus (rnds (wds b 80) h 80)
theorem plus_ok (h r : S5) : (h.plus r).ok := ⟨Nat.mod_lt _ (by omega), Nat.mod_lt _ (by omega), Nat.mod_lt _ (by omega), Nat.mod_lt _ (by omega), Nat.mod_lt _ (by omega)⟩
def h0 : S5 := ⟨1732584193, 4023233417, 2562383102, 271733878, 3285377520⟩
theorem h0_ok : h0.ok := by unfold h0 S5.ok; simp
def hN (m : List UInt8) : Nat → S5
 | 0 => h0
 | k + 1 => blockW (hN m k) ((m.drop (64 * k)).take 64)
theorem hN_ok (m : List UInt8) : ∀ k, (hN m k).ok
 | 0 => h0_ok
 | _ + 1 => plus_ok _ _
theorem hN_append (m x : List UInt8) : ∀ k, 64 * k ≤ m.length → hN (m ++ x) k = hN m k
 | 0, _ => rfl
 | k + 1, h => by
   rw [hN, hN, hN_append m x k (by omega)]
   congr 1
   rw [List.drop_append_of_le_length (by omega), List.take_append_of_le_length (by simp; omega)]

def S5.l (s : S5) : List Nat := [s.a, s.b, s.c, s.d, s.e]
theorem S5.l_lt {s : S5} (h : s.ok) : ∀ x ∈ s.l, x < 4294967296 := by
 intro x hx
 simp only [S5.l, List.mem_cons, List.not_mem_nil, or_false] at hx
 rcases hx with rfl | rfl | rfl | rfl | rfl
 · exact h.1
 · exact h.2.1
 · exact h.2.2.1
 · exact h.2.2.2.1
 · exact h.2.2.2.2
def toldB (s : S5) (i : Nat) : UInt8 := UInt8.ofNat (s.l.getD (i / 4) 0 / 2 ^ (24 - 8 * (i % 4)))
def toldN (s : S5) (n : Nat) : List UInt8 := (List.range n).map (toldB s)
theorem toldN_len (s : S5) (n : Nat) : (toldN s n).length = n := by simp [toldN]
theorem toldN_succ (s : S5) (n : Nat) : toldN s (n + 1) = toldN s n ++ [toldB s n] := by simp [toldN, List.range_succ]
def zeros (n : Nat) : Nat := (119 - n % 64) % 64
def padBH (n : Nat) : List UInt8 := (128 :: List.replicate (zeros n) 0) ++ beb 8 (n * 8)
theorem padB_lenH (n : Nat) : (padBH n).length = 9 + zeros n := by simp [padBH, length_beb]; omega
theorem padB_end (n : Nat) : (n + (padBH n).length) % 64 = 0 := by rw [padB_lenH]; unfold zeros; omega
def shaSum (m : List UInt8) : List UInt8 := toldN (hN (m ++ padBH m.length) ((m ++ padBH m.length).length / 64)) 20
theorem shaSum_len (m : List UInt8) : (shaSum m).length = 20 := toldN_len _ _
end Go.Proofs.YtheefckohnaceaaGreatDoor

namespace Go.Proofs.YtheefckohnaceaaGreatDoor

def xorB (x : UInt8) (bs : List UInt8) : List UInt8 := bs.map fun b => b ^^^ x
theorem xorB_len (x : UInt8) (bs : List UInt8) : (xorB x bs).length = bs.length := by simp [xorB]
theorem xorB_take (x : UInt8) (bs : List UInt8) (k : Nat) (h : k < bs.length) : xorB x (bs.take (k + 1)) = xorB x (bs.take k) ++ [bs.getD k 0 ^^^ x] := by
 rw [List.take_succ_eq_append_getElem h, xorB, xorB, List.map_append]
 simp only [List.map_cons, List.map_nil, List.getD, List.getElem?_eq_getElem h, Option.getD_some]
def turnAt (x : UInt8) (bs : List UInt8) (k : Nat) : List UInt8 := xorB x (bs.take k) ++ bs.drop k
theorem turnAt_len (x : UInt8) (bs : List UInt8) (k : Nat) (h : k ≤ bs.length) : (turnAt x bs k).length = bs.length := by simp [turnAt, xorB_len]; omega
theorem turnAt_zero (x : UInt8) (bs : List UInt8) : turnAt x bs 0 = bs := by simp [turnAt, xorB]
theorem turnAt_all (x : UInt8) (bs : List UInt8) (k : Nat) (h : bs.length ≤ k) : turnAt x bs k = xorB x bs := by simp [turnAt, List.take_of_length_le h, List.drop_of_length_le h]
theorem turnAt_get (x : UInt8) (bs : List UInt8) (k : Nat) (h : k < bs.length) : (turnAt x bs k).getD k 0 = bs.getD k 0 := by
 have e : (xorB x (bs.take k)).length = k := by rw [xorB_len, List.length_take]; omega
 unfold turnAt
 simp [List.getD, List.getElem?_append, e]
theorem turnAt_step (x : UInt8) (bs : List UInt8) (k : Nat) (h : k < bs.length) : (turnAt x bs k).set k (bs.getD k 0 ^^^ x) = turnAt x bs (k + 1) := by
 have e : (xorB x (bs.take k)).length = k := by rw [xorB_len, List.length_take]; omega
 unfold turnAt
 rw [List.set_append_right _ _ (by omega), e, Nat.sub_self, List.drop_eq_getElem_cons h, List.set_cons_zero, xorB_take x bs k h, List.append_assoc]
 rfl

def padTo (k : List UInt8) : List UInt8 := k ++ List.replicate (64 - k.length) 0
theorem padTo_len (k : List UInt8) (h : k.length ≤ 64) : (padTo k).length = 64 := by simp [padTo]; omega
def keyS (key : List UInt8) : List UInt8 := if 64 < key.length then shaSum key else key
theorem keyS_le (key : List UInt8) : (keyS key).length ≤ 64 := by
 unfold keyS
 split
 · rw [shaSum_len]; omega
 · omega
theorem keyS_long {key : List UInt8} (h : 64 < key.length) : keyS key = shaSum key := by simp [keyS, h]
theorem keyS_short {key : List UInt8} (h : ¬ 64 < key.length) : keyS key = key := by simp [keyS, h]
def keyB (key : List UInt8) : List UInt8 := padTo (keyS key)
theorem keyB_len (key : List UInt8) : (keyB key).length = 64 := padTo_len _ (keyS_le key)
def inSum (key m : List UInt8) : List UInt8 := shaSum (xorB 54 (keyB key) ++ m)
def macFull (key m : List UInt8) : List UInt8 := shaSum (xorB 92 (keyB key) ++ inSum key m)
theorem inSum_len (key m : List UInt8) : (inSum key m).length = 20 := shaSum_len _
theorem macFull_len (key m : List UInt8) : (macFull key m).length = 20 := shaSum_len _
end Go.Proofs.YtheefckohnaceaaGreatDoor

namespace Go.Proofs.YtheefckohnaceaaGreatDoor
set_option linter.unusedVariables false

def hiL (L : List Int) : Int := L.foldl (fun h y => if h < y then y else h) (-1)
def frL (L : List Int) (x : Int) : Bool := decide (0 ≤ x ∧ hiL L < x + 64 ∧ x ∉ L)
def mkL (L : List Int) (x : Int) : List Int := if frL L x = true then L ++ [x] else L
def ctLW (L : List Int) : Nat := L.countP (fun y => decide (hiL L < y + 64))

theorem hiL_nil : hiL [] = -1 := rfl
theorem hiL_snoc (L : List Int) (x : Int) : hiL (L ++ [x]) = if hiL L < x then x else hiL L := by
 unfold hiL
 rw [List.foldl_append]
 rfl
theorem hiL_facts (L : List Int) : -1 ≤ hiL L ∧ (∀ y ∈ L, y ≤ hiL L) ∧ (hiL L = -1 ∨ hiL L ∈ L) := by
 suffices h : ∀ M : List Int, -1 ≤ hiL M.reverse ∧ (∀ y ∈ M.reverse, y ≤ hiL M.reverse) ∧ (hiL M.reverse = -1 ∨ hiL M.reverse ∈ M.reverse) by
  have := h L.reverse
  rwa [List.reverse_reverse] at this
 intro M
 induction M with
 | nil => simp [hiL_nil]
 | cons a M ih =>
   obtain ⟨h1, h2, h3⟩ := ih
   rw [List.reverse_cons, hiL_snoc]
   split
   · refine ⟨by omega, fun y hy => ?_, .inr (by simp)⟩
     rcases List.mem_append.1 hy with h | h
     · have := h2 y h; omega
     · have := List.mem_singleton.1 h; omega
   · refine ⟨h1, fun y hy => ?_, ?_⟩
     · rcases List.mem_append.1 hy with h | h
       · exact h2 y h
       · have := List.mem_singleton.1 h; omega
     · rcases h3 with h | h
       · exact .inl h
       · exact .inr (List.mem_append_left _ h)
theorem hiL_low (L : List Int) : -1 ≤ hiL L := (hiL_facts L).1
theorem hiL_ge {L : List Int} {y : Int} (h : y ∈ L) : y ≤ hiL L := (hiL_facts L).2.1 y h
theorem hiL_mem {L : List Int} (h : L ≠ []) (hp : ∀ y ∈ L, 0 ≤ y) : hiL L ∈ L := by
 rcases (hiL_facts L).2.2 with e | e
 · obtain ⟨a, M, rfl⟩ := List.exists_cons_of_ne_nil h
   have := hp a (by simp)
   have := hiL_ge (L := a :: M) (y := a) (by simp)
   omega
 · exact e
theorem frL_iff (L : List Int) (x : Int) : frL L x = true ↔ 0 ≤ x ∧ hiL L < x + 64 ∧ x ∉ L := by simp [frL]
theorem mkL_of {L : List Int} {x : Int} (h : frL L x = true) : mkL L x = L ++ [x] := by simp [mkL, h]
theorem mkL_not {L : List Int} {x : Int} (h : frL L x = false) : mkL L x = L := by simp [mkL, h]
theorem mk_len (L : List Int) (x : Int) : (mkL L x).length ≤ L.length + 1 := by
 cases hf : frL L x
 · rw [mkL_not hf]; omega
 · rw [mkL_of hf]; simp
theorem hiL_top {L : List Int} {B : Int} (h : ∀ y ∈ L, 0 ≤ y ∧ y ≤ B) (hB : -1 ≤ B) : hiL L ≤ B := by
 rcases (hiL_facts L).2.2 with e | e
 · omega
 · exact (h _ e).2

/-! How many of the first k hold. -/
def cnt (f : Nat → Bool) : Nat → Nat
 | 0 => 0
 | k + 1 => cnt f k + (if f k = true then 1 else 0)
theorem cnt_congr {f g : Nat → Bool} : ∀ k, (∀ n, n < k → f n = g n) → cnt f k = cnt g k
 | 0, _ => rfl
 | k + 1, h => by simp only [cnt]; rw [cnt_congr k (fun n hn => h n (by omega)), h k (by omega)]
theorem cnt_zero (k : Nat) : cnt (fun _ => false) k = 0 := by
 induction k with
 | zero => rfl
 | succ k ih => simp [cnt, ih]
theorem cnt_or {f g : Nat → Bool} (h : ∀ n, f n = true → g n = false) : ∀ k, cnt (fun n => f n || g n) k = cnt f k + cnt g k
 | 0 => rfl
 | k + 1 => by
   have key : ∀ (x y : Bool) (A B : Nat), (x = true → y = false) → (A + B + if (x || y) = true then 1 else 0) = (A + if x = true then 1 else 0) + (B + if y = true then 1 else 0) := by
    intro x y A B h1
    cases x <;> cases y <;> simp_all <;> omega
   rw [cnt, cnt_or h k]
   exact key _ _ _ _ (h k)
theorem cnt_one (h a : Int) (ha : a ≤ h) : ∀ k, cnt (fun n => decide (h - (n : Int) = a)) k = if h - a < (k : Int) then 1 else 0
 | 0 => by simp only [cnt]; rw [if_neg (by omega)]
 | k + 1 => by
   simp only [cnt, cnt_one h a ha k, decide_eq_true_eq]
   split <;> split <;> split <;> omega
theorem cnt_list (h : Int) : ∀ M : List Int, M.Nodup → (∀ y ∈ M, y ≤ h) → cnt (fun n => decide (h - (n : Int) ∈ M)) 64 = M.countP (fun y => decide (h < y + 64))
 | [], _, _ => by simp [cnt_zero]
 | a :: M, hn, hy => by
   have hn' := List.nodup_cons.1 hn
   have e : cnt (fun n => decide (h - (n : Int) ∈ a :: M)) 64 = cnt (fun n => decide (h - (n : Int) = a) || decide (h - (n : Int) ∈ M)) 64 := cnt_congr 64 fun n _ => by
    simp only [List.mem_cons, Bool.decide_or]
   rw [e, cnt_or (fun n h1 => by
    have h1 := of_decide_eq_true h1
    simpa [h1] using hn'.1) 64, cnt_one h a (hy a (by simp)), cnt_list h M hn'.2 (fun y h1 => hy y (by simp [h1])), List.countP_cons]
   have ha := hy a (by simp)
   by_cases hc : h < a + 64
   · rw [if_pos (by omega), if_pos (by simpa using hc)]; omega
   · rw [if_neg (by omega), if_neg (by simpa using hc)]; omega

/-! The window. -/
structure WinS (L : List Int) (h : Int) (p : Nat) : Prop where
 lt : p < 18446744073709551616
 hh : L ≠ [] → h = hiL L
 h0 : L = [] → h = 0 ∧ p = 0
 bit : ∀ n : Nat, n < 64 → p.testBit n = decide (h - (n : Int) ∈ L)
 pos : ∀ y ∈ L, 0 ≤ y
 nd : L.Nodup
theorem WinS.nil : WinS [] 0 0 := ⟨by omega, by simp, by simp, by simp, by simp, List.nodup_nil⟩
section
variable {L : List Int} {h : Int} {p : Nat}
theorem WinS.zero (W : WinS L h p) : p = 0 ↔ L = [] := by
 constructor
 · intro hp
   cases L with
   | nil => rfl
   | cons a M =>
     have h1 := W.bit 0 (by omega)
     have h2 := hiL_mem (L := a :: M) (by simp) W.pos
     have h3 := W.hh (by simp)
     rw [hp] at h1
     simp only [Nat.zero_testBit, Int.natCast_zero, Int.sub_zero] at h1
     rw [h3] at h1
     simp [h2] at h1
 · intro hL
   exact (W.h0 hL).2
theorem WinS.hpos (W : WinS L h p) : 0 ≤ h := by
 by_cases hL : L = []
 · have := (W.h0 hL).1; omega
 · rw [W.hh hL]; exact W.pos _ (hiL_mem hL W.pos)
theorem WinS.high (W : WinS L h p) : (if p = 0 then -1 else h) = hiL L := by
 by_cases hL : L = []
 · rw [if_pos (W.zero.2 hL), hL]; rfl
 · rw [if_neg (fun e => hL (W.zero.1 e)), W.hh hL]
theorem WinS.le (W : WinS L h p) : hiL L ≤ h := by
 have := W.high
 have := W.hpos
 split at * <;> omega
theorem fr_neg {i : Int} (hi : i < 0) : frL L i = false := by
 rw [← Bool.not_eq_true, frL_iff]; intro h; omega
theorem fr_above {i : Int} (h0 : 0 ≤ i) (hi : hiL L < i) : frL L i = true := by
 rw [frL_iff]
 exact ⟨h0, by omega, fun hm => by have := hiL_ge hm; omega⟩
theorem fr_far {i : Int} (hi : 64 ≤ hiL L - i) : frL L i = false := by
 rw [← Bool.not_eq_true, frL_iff]; intro h; omega
theorem WinS.near (W : WinS L h p) {i : Int} (h0 : 0 ≤ i) (hi : i ≤ hiL L) (n : Nat) (hn : hiL L - i = n) (h6 : n < 64) : frL L i = !(p.testBit n) := by
 have hL : L ≠ [] := by
  intro e
  subst e
  have := hiL_nil
  omega
 rw [W.bit n h6, W.hh hL, show hiL L - (n : Int) = i by omega]
 unfold frL
 by_cases hm : i ∈ L <;> simp [hm] <;> omega
theorem two64 : (18446744073709551616 : Nat) = 2 ^ 64 := by decide
theorem nodup_snoc {i : Int} (hn : L.Nodup) (hi : i ∉ L) : (L ++ [i]).Nodup := by
 rw [List.nodup_append]
 refine ⟨hn, by simp, fun a ha b hb => ?_⟩
 have := List.mem_singleton.1 hb
 subst this
 exact fun e => hi (e ▸ ha)
theorem testBit_one_at (n : Nat) : Nat.testBit 1 n = decide (n = 0) := by
 cases n with
 | zero => rfl
 | succ n => rw [Nat.testBit_succ]; simp
theorem WinS.up (W : WinS L h p) {i : Int} (hi : h < i) (d : Nat) (hd : i - h = d) : WinS (mkL L i) i ((p * 2 ^ d) % 18446744073709551616 ||| 1) := by
 have hp := W.hpos
 have hf : frL L i = true := fr_above (by omega) (by have := W.le; omega)
 have hni := ((frL_iff L i).1 hf).2.2
 rw [mkL_of hf]
 refine ⟨?_, fun _ => ?_, by simp, fun n hn => ?_, fun y hy => ?_, nodup_snoc W.nd hni⟩
 · rw [two64]
   exact Nat.or_lt_two_pow (Nat.mod_lt _ (by decide)) (by decide)
 · rw [hiL_snoc, if_pos (by have := W.le; omega)]
 · rw [Nat.testBit_or, two64, Nat.testBit_mod_two_pow, Nat.testBit_mul_two_pow, testBit_one_at, decide_eq_true hn, Bool.true_and]
   by_cases h0 : n = 0
   · subst h0
     simp
   · have e0 : decide (n = 0) = false := by simp [h0]
     rw [e0, Bool.or_false]
     by_cases hdn : d ≤ n
     · have e1 : decide (n ≥ d) = true := decide_eq_true hdn
       rw [e1, Bool.true_and, W.bit (n - d) (by omega), show h - ((n - d : Nat) : Int) = i - (n : Int) by omega]
       have : i - (n : Int) ≠ i := by omega
       simp [this]
     · have e1 : decide (n ≥ d) = false := by simp; omega
       rw [e1, Bool.false_and]
       have h1 : i - (n : Int) ∉ L := fun hm => by
        have := hiL_ge hm
        have := W.le
        omega
       have : i - (n : Int) ≠ i := by omega
       simp [this, h1]
 · rcases List.mem_append.1 hy with h' | h'
   · exact W.pos y h'
   · have := List.mem_singleton.1 h'; omega
theorem WinS.in (W : WinS L h p) {i : Int} (hi : i ≤ h) (hf : frL L i = true) (d : Nat) (hd : h - i = d) : WinS (mkL L i) h (p ||| 2 ^ d) ∧ d < 64 := by
 have hfi := (frL_iff L i).1 hf
 have hd6 : d < 64 := by
  by_cases hL : L = []
  · have := (W.h0 hL).1
    omega
  · have := W.hh hL
    omega
 refine ⟨?_, hd6⟩
 rw [mkL_of hf]
 refine ⟨?_, fun _ => ?_, by simp, fun n hn => ?_, fun y hy => ?_, nodup_snoc W.nd hfi.2.2⟩
 · rw [two64]
   exact Nat.or_lt_two_pow (by rw [← two64]; exact W.lt) (Nat.pow_lt_pow_right (by decide) hd6)
 · rw [hiL_snoc]
   by_cases hL : L = []
   · have := (W.h0 hL).1
     subst hL
     rw [hiL_nil]
     split <;> omega
   · rw [W.hh hL] at hi ⊢
     rw [if_neg (by omega)]
 · rw [Nat.testBit_or, Nat.testBit_two_pow, W.bit n hn]
   by_cases he : d = n
   · subst he
     have : h - (d : Int) = i := by omega
     simp [this]
   · have : h - (n : Int) ≠ i := by omega
     simp [this, he]
 · rcases List.mem_append.1 hy with h' | h'
   · exact W.pos y h'
   · have := List.mem_singleton.1 h'; omega
theorem WinS.count (W : WinS L h p) : cnt p.testBit 64 = ctLW L := by
 by_cases hL : L = []
 · have := (W.h0 hL).2
   subst this; subst hL
   rw [cnt_congr (g := fun _ => false) 64 (fun n _ => Nat.zero_testBit n), cnt_zero]
   rfl
 · have hh := W.hh hL
   rw [cnt_congr 64 W.bit, cnt_list h L W.nd (fun y hy => by rw [hh]; exact hiL_ge hy), hh]
   rfl
end

/-! How many bits of a number are set, as the library counts them. -/
def bs : Nat → Nat → Nat
 | 0, _ => 0
 | k + 1, x => x % 2 + bs k (x / 2)
theorem and_split (k a b d e : Nat) (hd : d < 2 ^ k) (he : e < 2 ^ k) : (2 ^ k * a + d) &&& (2 ^ k * b + e) = 2 ^ k * (a &&& b) + (d &&& e) := by
 apply Nat.eq_of_testBit_eq
 intro i
 rw [Nat.testBit_and, Nat.testBit_two_pow_mul_add _ hd, Nat.testBit_two_pow_mul_add _ he, Nat.testBit_two_pow_mul_add _ (Nat.lt_of_le_of_lt Nat.and_le_left hd)]
 split
 · rw [Nat.testBit_and]
 · rw [Nat.testBit_and]
def c1 : Nat → Nat → Nat
 | 0, _ => 0
 | k + 1, x => 4 * c1 k (x / 4) + (x % 2 + x / 2 % 2)
def m1 : Nat → Nat
 | 0 => 0
 | k + 1 => 4 * m1 k + 1
theorem s1 : ∀ k x, (x / 2 &&& m1 k) + (x &&& m1 k) = c1 k x
 | 0, x => by simp [m1, c1]
 | k + 1, x => by
   have ih := s1 k (x / 4)
   have e1 : x / 2 = 2 ^ 2 * (x / 4 / 2) + x / 2 % 4 := by omega
   have e2 : x = 2 ^ 2 * (x / 4) + x % 4 := by omega
   have h1 : (x / 2 &&& m1 (k + 1)) = 4 * (x / 4 / 2 &&& m1 k) + x / 2 % 2 := by
    rw [m1]
    conv => lhs; rw [e1]
    rw [show 4 * m1 k + 1 = 2 ^ 2 * m1 k + 1 by omega, and_split 2 _ _ _ _ (by omega) (by omega), Nat.and_one_is_mod]
    omega
   have h2 : (x &&& m1 (k + 1)) = 4 * (x / 4 &&& m1 k) + x % 2 := by
    rw [m1]
    conv => lhs; rw [e2]
    rw [show 4 * m1 k + 1 = 2 ^ 2 * m1 k + 1 by omega, and_split 2 _ _ _ _ (by omega) (by omega), Nat.and_one_is_mod]
    omega
   rw [h1, h2, c1, ← ih]
   omega
def q4 (x : Nat) : Nat := x % 2 + x / 2 % 2 + x / 4 % 2 + x / 8 % 2
theorem q4_le (x : Nat) : q4 x ≤ 4 := by unfold q4; omega
def c2 : Nat → Nat → Nat
 | 0, _ => 0
 | k + 1, x => 16 * c2 k (x / 16) + q4 x
def m2 : Nat → Nat
 | 0 => 0
 | k + 1 => 16 * m2 k + 3
theorem s2 : ∀ k x, (c1 (2 * k) x / 4 &&& m2 k) + (c1 (2 * k) x &&& m2 k) = c2 k x
 | 0, x => by simp [m2, c2]
 | k + 1, x => by
   have ih := s2 k (x / 16)
   have e0 : c1 (2 * (k + 1)) x = 4 * (4 * c1 (2 * k) (x / 16) + (x / 4 % 2 + x / 8 % 2)) + (x % 2 + x / 2 % 2) := by
    rw [show 2 * (k + 1) = 2 * k + 1 + 1 by omega, c1, c1, show x / 4 / 4 = x / 16 by omega, show x / 4 / 2 = x / 8 by omega]
   obtain ⟨Y, hY⟩ : ∃ Y, Y = c1 (2 * k) (x / 16) := ⟨_, rfl⟩
   rw [← hY] at ih e0
   obtain ⟨a, ha⟩ : ∃ a, a = x / 4 % 2 + x / 8 % 2 := ⟨_, rfl⟩
   obtain ⟨b, hb⟩ : ∃ b, b = x % 2 + x / 2 % 2 := ⟨_, rfl⟩
   rw [← ha, ← hb] at e0
   have hq : q4 x = a + b := by unfold q4; omega
   have ha2 : a ≤ 2 := by omega
   have hb2 : b ≤ 2 := by omega
   have h1 : (c1 (2 * (k + 1)) x / 4 &&& m2 (k + 1)) = 16 * (Y / 4 &&& m2 k) + a := by
    rw [m2, e0, show (4 * (4 * Y + a) + b) / 4 = 2 ^ 4 * (Y / 4) + (4 * (Y % 4) + a) by omega, show 16 * m2 k + 3 = 2 ^ 4 * m2 k + 3 by omega, and_split 4 _ _ _ _ (by omega) (by omega), show 3 = 2 ^ 2 - 1 by rfl, Nat.and_two_pow_sub_one_eq_mod]
    omega
   have h2 : (c1 (2 * (k + 1)) x &&& m2 (k + 1)) = 16 * (Y &&& m2 k) + b := by
    rw [m2, e0, show 4 * (4 * Y + a) + b = 2 ^ 4 * Y + (4 * a + b) by omega, show 16 * m2 k + 3 = 2 ^ 4 * m2 k + 3 by omega, and_split 4 _ _ _ _ (by omega) (by omega), show 3 = 2 ^ 2 - 1 by rfl, Nat.and_two_pow_sub_one_eq_mod]
    omega
   rw [h1, h2, c2, hq, ← ih]
   omega
theorem c2_low : ∀ k x, c2 k x % 16 ≤ 4
 | 0, x => by simp [c2]
 | k + 1, x => by have := q4_le x; rw [c2]; omega
def c3 : Nat → Nat → Nat
 | 0, _ => 0
 | k + 1, x => 256 * c3 k (x / 256) + (q4 (x / 16) + q4 x)
def m3 : Nat → Nat
 | 0 => 0
 | k + 1 => 256 * m3 k + 15
theorem s3 : ∀ k x, ((c2 (2 * k) x / 16 + c2 (2 * k) x) &&& m3 k) = c3 k x
 | 0, x => by simp [m3, c3]
 | k + 1, x => by
   have ih := s3 k (x / 256)
   have e0 : c2 (2 * (k + 1)) x = 16 * (16 * c2 (2 * k) (x / 256) + q4 (x / 16)) + q4 x := by
    rw [show 2 * (k + 1) = 2 * k + 1 + 1 by omega, c2, c2, show x / 16 / 16 = x / 256 by omega]
   have hl := c2_low (2 * k) (x / 256)
   have ha := q4_le (x / 16)
   have hb := q4_le x
   obtain ⟨Y, hY⟩ : ∃ Y, Y = c2 (2 * k) (x / 256) := ⟨_, rfl⟩
   rw [← hY] at ih e0 hl
   obtain ⟨a, ha'⟩ : ∃ a, a = q4 (x / 16) := ⟨_, rfl⟩
   obtain ⟨b, hb'⟩ : ∃ b, b = q4 x := ⟨_, rfl⟩
   rw [c3, m3, e0, ← ha', ← hb']
   rw [← ha'] at ha
   rw [← hb'] at hb
   rw [show (16 * (16 * Y + a) + b) / 16 + (16 * (16 * Y + a) + b) = 2 ^ 8 * (Y / 16 + Y) + (16 * (Y % 16) + a + 16 * a + b) by omega, show 256 * m3 k + 15 = 2 ^ 8 * m3 k + 15 by omega, and_split 8 _ _ _ _ (by omega) (by omega), show 15 = 2 ^ 4 - 1 by rfl, Nat.and_two_pow_sub_one_eq_mod, ih]
   omega
theorem bs8 (k x : Nat) : bs (k + 8) x = bs k (x / 256) + (q4 (x / 16) + q4 x) := by
 simp only [bs, q4]
 rw [show x / 2 / 2 / 2 / 2 / 2 / 2 / 2 / 2 = x / 256 by omega]
 omega
theorem lastN (r0 r1 r2 r3 r4 r5 r6 r7 c a b d : Nat) (h0 : r0 ≤ 8) (h1 : r1 ≤ 8) (h2 : r2 ≤ 8) (h3 : r3 ≤ 8) (h4 : r4 ≤ 8) (h5 : r5 ≤ 8) (h6 : r6 ≤ 8) (h7 : r7 ≤ 8)
 (hc : c = 256 * (256 * (256 * (256 * (256 * (256 * (256 * r7 + r6) + r5) + r4) + r3) + r2) + r1) + r0) (ha : a = c + c / 256) (hb : b = a + a / 65536) (hd : d = b + b / 4294967296) :
 c ≤ 600000000000000000 ∧ a ≤ 1200000000000000000 ∧ b ≤ 2400000000000000000 ∧ d ≤ 4800000000000000000 ∧ d % 128 = r0 + r1 + r2 + r3 + r4 + r5 + r6 + r7 := by
 have hcl : c ≤ 600000000000000000 := by omega
 have hal : a ≤ 1200000000000000000 := by omega
 have hbl : b ≤ 2400000000000000000 := by omega
 have hdl : d ≤ 4800000000000000000 := by omega
 refine ⟨hcl, hal, hbl, hdl, ?_⟩
 clear hcl hal hbl hdl
 obtain ⟨P3, hP3⟩ : ∃ P3, P3 = 256 * r7 + r6 := ⟨_, rfl⟩
 obtain ⟨P2, hP2⟩ : ∃ P2, P2 = 256 * r5 + r4 := ⟨_, rfl⟩
 obtain ⟨P1, hP1⟩ : ∃ P1, P1 = 256 * r3 + r2 := ⟨_, rfl⟩
 obtain ⟨P0, hP0⟩ : ∃ P0, P0 = 256 * r1 + r0 := ⟨_, rfl⟩
 have hc' : c = 65536 * (65536 * (65536 * P3 + P2) + P1) + P0 := by rw [hc]; omega
 have hcd : c / 256 = 65536 * (65536 * (65536 * r7 + (256 * r6 + r5)) + (256 * r4 + r3)) + (256 * r2 + r1) := by rw [hc]; omega
 rw [hcd, hc'] at ha
 clear hc hcd hc'
 obtain ⟨Q3, hQ3⟩ : ∃ Q3, Q3 = 256 * r7 + (r6 + r7) := ⟨_, rfl⟩
 obtain ⟨Q2, hQ2⟩ : ∃ Q2, Q2 = 256 * (r5 + r6) + (r4 + r5) := ⟨_, rfl⟩
 obtain ⟨Q1, hQ1⟩ : ∃ Q1, Q1 = 256 * (r3 + r4) + (r2 + r3) := ⟨_, rfl⟩
 obtain ⟨Q0, hQ0⟩ : ∃ Q0, Q0 = 256 * (r1 + r2) + (r0 + r1) := ⟨_, rfl⟩
 have ha' : a = 65536 * (65536 * (65536 * Q3 + Q2) + Q1) + Q0 := by omega
 have l3 : Q3 ≤ 5000 := by omega
 have l2 : Q2 ≤ 5000 := by omega
 have l1 : Q1 ≤ 5000 := by omega
 have l0 : Q0 ≤ 5000 := by omega
 have had : a / 65536 = 65536 * (65536 * Q3 + Q2) + Q1 := by clear hQ0 hQ1 hQ2 hQ3 ha hP0 hP1 hP2 hP3; omega
 rw [had, ha'] at hb
 clear ha ha' had hP0 hP1 hP2 hP3
 have hb' : b = 4294967296 * (65536 * Q3 + (Q2 + Q3)) + (65536 * (Q1 + Q2) + (Q0 + Q1)) := by clear hQ0 hQ1 hQ2 hQ3; omega
 have hbd : b / 4294967296 = 65536 * Q3 + (Q2 + Q3) := by clear hQ0 hQ1 hQ2 hQ3; omega
 rw [hbd, hb'] at hd
 clear hb hb' hbd
 have hS : Q0 + Q1 + Q2 + Q3 = 256 * (r1 + r2 + r3 + r4 + r5 + r6 + r7) + (r0 + r1 + r2 + r3 + r4 + r5 + r6 + r7) := by omega
 have hS2 : d % 128 = (Q0 + Q1 + Q2 + Q3) % 128 := by clear hQ0 hQ1 hQ2 hQ3 hS; omega
 rw [hS2, hS]
 clear hd hS2 hS hQ0 hQ1 hQ2 hQ3
 omega
theorem q8 (y : Nat) : q4 (y / 16) + q4 y ≤ 8 := by have := q4_le (y / 16); have := q4_le y; omega
theorem last (x c a b d : Nat) (hc : c = c3 8 x) (ha : a = c + c / 256) (hb : b = a + a / 65536) (hd : d = b + b / 4294967296) : c ≤ 600000000000000000 ∧ a ≤ 1200000000000000000 ∧ b ≤ 2400000000000000000 ∧ d ≤ 4800000000000000000 ∧ d % 128 = bs 64 x := by
 have hbs : bs 64 x = (q4 (x / 16) + q4 x) + (q4 (x / 256 / 16) + q4 (x / 256)) + (q4 (x / 256 / 256 / 16) + q4 (x / 256 / 256)) + (q4 (x / 256 / 256 / 256 / 16) + q4 (x / 256 / 256 / 256)) + (q4 (x / 256 / 256 / 256 / 256 / 16) + q4 (x / 256 / 256 / 256 / 256)) +
  (q4 (x / 256 / 256 / 256 / 256 / 256 / 16) + q4 (x / 256 / 256 / 256 / 256 / 256)) + (q4 (x / 256 / 256 / 256 / 256 / 256 / 256 / 16) + q4 (x / 256 / 256 / 256 / 256 / 256 / 256)) + (q4 (x / 256 / 256 / 256 / 256 / 256 / 256 / 256 / 16) + q4 (x / 256 / 256 / 256 / 256 / 256 / 256 / 256)) := by
  rw [bs8 56, bs8 48, bs8 40, bs8 32, bs8 24, bs8 16, bs8 8, bs8 0, bs]
  omega
 have hc3 : c = 256 * (256 * (256 * (256 * (256 * (256 * (256 * (q4 (x / 256 / 256 / 256 / 256 / 256 / 256 / 256 / 16) + q4 (x / 256 / 256 / 256 / 256 / 256 / 256 / 256)) + (q4 (x / 256 / 256 / 256 / 256 / 256 / 256 / 16) + q4 (x / 256 / 256 / 256 / 256 / 256 / 256))) + (q4 (x / 256 / 256 / 256 / 256 / 256 / 16) + q4 (x / 256 / 256 / 256 / 256 / 256))) +
  (q4 (x / 256 / 256 / 256 / 256 / 16) + q4 (x / 256 / 256 / 256 / 256))) + (q4 (x / 256 / 256 / 256 / 16) + q4 (x / 256 / 256 / 256))) + (q4 (x / 256 / 256 / 16) + q4 (x / 256 / 256))) + (q4 (x / 256 / 16) + q4 (x / 256))) + (q4 (x / 16) + q4 x) := by
  rw [hc, c3, c3, c3, c3, c3, c3, c3, c3, c3, Nat.mul_zero, Nat.zero_add]
 rw [hbs]
 exact lastN _ _ _ _ _ _ _ _ c a b d (q8 _) (q8 _) (q8 _) (q8 _) (q8 _) (q8 _) (q8 _) (q8 _) hc3 ha hb hd
end Go.Proofs.YtheefckohnaceaaGreatDoor

namespace Go.Proofs.YtheefckohnaceaaGreatDoor
open Go.RowKit
set_option linter.unusedVariables false

end Go.Proofs.YtheefckohnaceaaGreatDoor

namespace Go.Proofs.YtheefckohnaceaaGreatDoor
set_option linter.unusedVariables false

structure Wy where
 key : List UInt8
 auth : List UInt8
 salt : List UInt8
 limit : Int
 used : Int
 ws : List (Nat × List Int)
def Wy.fit (s : Wy) : Prop := s.key.length = 16 ∧ s.auth.length = 20 ∧ s.salt.length = 14 ∧ (-9223372036854775808 ≤ s.limit ∧ s.limit ≤ 9223372036854775807) ∧ 0 ≤ s.used ∧ s.ws.length ≤ 8 ∧ ∀ x ∈ s.ws, x.1 < 4294967296
def lookW : List (Nat × List Int) → Nat → Option (List Int)
 | [], _ => none
 | (n, L) :: r, x => if n = x then some L else lookW r x
def putY : List (Nat × List Int) → Nat → List Int → List (Nat × List Int)
 | [], x, L => [(x, L)]
 | (n, M) :: r, x, L => if n = x then (n, L) :: r else (n, M) :: putY r x L
def highW (ws : List (Nat × List Int)) (x : Nat) : Int := match lookW ws x with
 | none => -1
 | some L => hiL L
def Wy.once (s : Wy) : Wy := { s with used := s.used + 1 }
def whyPeek (b : List UInt8) : Int :=
 if 1200 < b.length then 3 else if b.length < 22 then 2 else if bt b 0 / 64 ≠ 2 then 3 else if b.length - 10 < at1 b then 2 else 0
end Go.Proofs.YtheefckohnaceaaGreatDoor
