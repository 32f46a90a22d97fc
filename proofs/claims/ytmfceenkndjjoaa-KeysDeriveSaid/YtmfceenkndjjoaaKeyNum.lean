/- Plain words on what is derived of a master, for any program: a label's counter, the bytes derived, the keys of a way. No statement is proved here. -/
import Derived.Test.YtmfceenkndjjoaaStrNum
import Derived.Test.YtmfceenkndjjoaaMem
namespace Go.Proofs.Ytmfceenkndjjoaa
set_option linter.unusedVariables false

/-- A master's bytes: the key, the salt. -/
def mst (key salt : List UInt8) : List UInt8 := key ++ salt
theorem mst_len (key salt : List UInt8) (hk : key.length = 16) (hs : salt.length = 14) : (mst key salt).length = 30 := by simp [mst, hk, hs]
theorem mst_key (key salt : List UInt8) (hk : key.length = 16) : ∀ i, i < (cells key).length → (cells (mst key salt))[0 + i]? = (cells key)[i]? := fun i hi => by
  rw [mst, cells_append, Nat.zero_add, List.getElem?_append_left hi]
theorem mst_salt (key salt : List UInt8) (hk : key.length = 16) : ∀ i, i < (cells salt).length → (cells (mst key salt))[16 + i]? = (cells salt)[i]? := fun i hi => by
  rw [mst, cells_append, List.getElem?_append_right (by rw [length_cells]; omega), length_cells, hk, show 16 + i - 16 = i by omega]
/-- A part of a block reads. -/
theorem Blk.rdAt {w : World} {g : Nat} {e : TypeId} {bs xs : List UInt8} (h : Blk w g e bs) (o n c : Nat) (hn : xs.length = n) (hnc : n ≤ c) (hc : c ≤ maxLen) (hd : ∀ i, i < (cells xs).length → (cells bs)[o + i]? = (cells xs)[i]?) : RdS w (some ⟨g, o, none⟩) n c xs :=
  ⟨hn, hnc, hc, fun h => by simp at h, fun _ => ⟨g, o, rfl, h.lt, fun j hj => by
    rw [h.v.cell, hd j (by rw [length_cells]; omega)]
    exact cells_at (by omega)⟩⟩

/-- The counter of a label. -/
def labC (salt : List UInt8) (l : Nat) : List UInt8 := (saltZ salt).set 7 ((saltZ salt).getD 7 0 ^^^ UInt8.ofNat l)
theorem labC_len (salt : List UInt8) (l : Nat) (hs : salt.length = 14) : (labC salt l).length = 16 := by rw [labC, List.length_set, saltZ_len _ hs]
/-- What is derived of a master by a label: n bytes. -/
def drv (key salt : List UInt8) (l n : Nat) : List UInt8 := strm key (labC salt l) n
theorem drv_len (key salt : List UInt8) (l n : Nat) : (drv key salt l n).length = n := strm_len _ _ _
theorem drv_take (key salt : List UInt8) (l n m : Nat) (h : n ≤ m) : (drv key salt l m).take n = drv key salt l n := strm_take _ _ _ _ h

theorem cells_splice (s d : List UInt8) (o : Nat) : splice (cells s) o (cells d) = cells (splice s o d) := by
  simp [splice, cells, List.map_take, List.map_drop]
theorem splice_len {α : Type} (s d : List α) (o : Nat) (h : o + d.length ≤ s.length) : (splice s o d).length = s.length := by
  simp [splice]; omega
/-- Keys of 16, 20 and 14 bytes. -/
def trio (a b c : List UInt8) : List UInt8 := a ++ (b ++ c)
theorem trio_len (a b c : List UInt8) (ha : a.length = 16) (hb : b.length = 20) (hc : c.length = 14) : (trio a b c).length = 50 := by simp [trio, ha, hb, hc]
def Z50 : List UInt8 := List.replicate 50 0
theorem Z50_len : Z50.length = 50 := by rw [Z50, List.length_replicate]
theorem trio1 (a : List UInt8) (ha : a.length = 16) : splice Z50 0 a = a ++ List.replicate 34 0 := by simp [splice, Z50, ha]
theorem trio2 (a b : List UInt8) (ha : a.length = 16) (hb : b.length = 20) : splice (splice Z50 0 a) 16 b = a ++ (b ++ List.replicate 14 0) := by
  rw [trio1 a ha, splice, List.take_left' ha, hb, List.drop_append, ha]
  simp
  omega
theorem trio3 (a b c : List UInt8) (ha : a.length = 16) (hb : b.length = 20) (hc : c.length = 14) : splice (splice (splice Z50 0 a) 16 b) 36 c = trio a b c := by
  have h : (a ++ b).length = 36 := by simp [ha, hb]
  rw [trio2 a b ha hb, ← List.append_assoc, splice, List.take_left' h, hc, trio, List.drop_of_length_le (by simp [ha, hb]), List.append_nil, List.append_assoc]
/-- The keys of a way whose labels begin with f. -/
def kys (key salt : List UInt8) (f : Nat) : List UInt8 := trio (drv key salt f 16) (drv key salt (f + 1) 20) (drv key salt (f + 2) 14)
theorem kys_len (key salt : List UInt8) (f : Nat) : (kys key salt f).length = 50 := trio_len _ _ _ (drv_len _ _ _ _) (drv_len _ _ _ _) (drv_len _ _ _ _)

/-- Keys of which x, y and z bytes have come. -/
def trioR (a b c : List UInt8) (x y z : Nat) : List UInt8 := tab 50 fun j =>
  if j < 16 then (if j < x then a.getD j 0 else 0) else if j < 36 then (if j < 16 + y then b.getD (j - 16) 0 else 0) else (if j < 36 + z then c.getD (j - 36) 0 else 0)
theorem trioR_len (a b c : List UInt8) (x y z : Nat) : (trioR a b c x y z).length = 50 := tab_len _ _
theorem trioR_zero (a b c : List UInt8) : trioR a b c 0 0 0 = Z50 := by
  apply list_eq (n := 50) (trioR_len _ _ _ _ _ _) Z50_len
  intro i hi
  rw [trioR, tab_get _ _ _ hi, Z50]
  have h0 : ∀ (n j : Nat), (List.replicate n (0 : UInt8)).getD j 0 = 0 := fun n j => by
    simp only [List.getD, List.getElem?_replicate]
    split <;> rfl
  rw [h0]
  by_cases h1 : i < 16
  · rw [if_pos h1, if_neg (by omega)]
  · rw [if_neg h1]
    by_cases h2 : i < 36
    · rw [if_pos h2, if_neg (by omega)]
    · rw [if_neg h2, if_neg (by omega)]
theorem getD_setU (l : List UInt8) (k i : Nat) (v : UInt8) (hk : k < l.length) : (l.set k v).getD i 0 = if i = k then v else l.getD i 0 := by
  simp only [List.getD, List.getElem?_set]
  by_cases h : i = k
  · subst h; simp [hk]
  · rw [if_neg (fun e => h e.symm), if_neg h]
theorem trioR_x (a b c : List UInt8) (x y z : Nat) (hx : x < 16) : (trioR a b c x y z).set x (a.getD x 0) = trioR a b c (x + 1) y z := by
  apply list_eq (n := 50) (by rw [List.length_set, trioR_len]) (trioR_len _ _ _ _ _ _)
  intro i hi
  rw [getD_setU _ _ _ _ (by rw [trioR_len]; omega), trioR, trioR, tab_get _ _ _ hi, tab_get _ _ _ hi]
  by_cases h : i = x
  · subst h
    rw [if_pos rfl, if_pos hx, if_pos (by omega)]
  · rw [if_neg h]
    by_cases h1 : i < 16
    · rw [if_pos h1, if_pos h1]
      by_cases h2 : i < x
      · rw [if_pos h2, if_pos (by omega)]
      · rw [if_neg h2, if_neg (by omega)]
    · rw [if_neg h1, if_neg h1]
theorem trioR_y (a b c : List UInt8) (x y z : Nat) (hy : y < 20) : (trioR a b c x y z).set (16 + y) (b.getD y 0) = trioR a b c x (y + 1) z := by
  apply list_eq (n := 50) (by rw [List.length_set, trioR_len]) (trioR_len _ _ _ _ _ _)
  intro i hi
  rw [getD_setU _ _ _ _ (by rw [trioR_len]; omega), trioR, trioR, tab_get _ _ _ hi, tab_get _ _ _ hi]
  by_cases h : i = 16 + y
  · subst h
    rw [if_pos rfl, if_neg (by omega), if_pos (by omega), if_pos (by omega), show 16 + y - 16 = y by omega]
  · rw [if_neg h]
    by_cases h1 : i < 16
    · rw [if_pos h1, if_pos h1]
    · rw [if_neg h1, if_neg h1]
      by_cases h3 : i < 36
      · rw [if_pos h3, if_pos h3]
        by_cases h2 : i < 16 + y
        · rw [if_pos h2, if_pos (by omega)]
        · rw [if_neg h2, if_neg (by omega)]
      · rw [if_neg h3, if_neg h3]
theorem trioR_z (a b c : List UInt8) (x y z : Nat) (hz : z < 14) : (trioR a b c x y z).set (36 + z) (c.getD z 0) = trioR a b c x y (z + 1) := by
  apply list_eq (n := 50) (by rw [List.length_set, trioR_len]) (trioR_len _ _ _ _ _ _)
  intro i hi
  rw [getD_setU _ _ _ _ (by rw [trioR_len]; omega), trioR, trioR, tab_get _ _ _ hi, tab_get _ _ _ hi]
  by_cases h : i = 36 + z
  · subst h
    rw [if_pos rfl, if_neg (by omega), if_neg (by omega), if_pos (by omega), show 36 + z - 36 = z by omega]
  · rw [if_neg h]
    by_cases h1 : i < 16
    · rw [if_pos h1, if_pos h1]
    · rw [if_neg h1, if_neg h1]
      by_cases h3 : i < 36
      · rw [if_pos h3, if_pos h3]
      · rw [if_neg h3, if_neg h3]
        by_cases h2 : i < 36 + z
        · rw [if_pos h2, if_pos (by omega)]
        · rw [if_neg h2, if_neg (by omega)]
theorem trioR_all (a b c : List UInt8) (ha : a.length = 16) (hb : b.length = 20) (hc : c.length = 14) : trioR a b c 16 20 14 = trio a b c := by
  apply list_eq (n := 50) (trioR_len _ _ _ _ _ _) (trio_len _ _ _ ha hb hc)
  intro i hi
  rw [trioR, tab_get _ _ _ hi, trio]
  by_cases h1 : i < 16
  · rw [if_pos h1, if_pos h1, getD_app_left _ _ _ (by omega)]
  · rw [if_neg h1, getD_app_right _ _ _ (by omega), ha]
    by_cases h3 : i < 36
    · rw [if_pos h3, if_pos (by omega), getD_app_left _ _ _ (by omega)]
    · rw [if_neg h3, if_pos (by omega), getD_app_right _ _ _ (by omega), hb, show i - 16 - 20 = i - 36 by omega]

/-- The document's example. -/
def exKK : List UInt8 := [0xe1, 0xf9, 0x7a, 0x0d, 0x3e, 0x01, 0x8b, 0xe0, 0xd6, 0x4f, 0xa3, 0x2c, 0x06, 0xde, 0x41, 0x39]
def exKS : List UInt8 := [0x0e, 0xc6, 0x75, 0xad, 0x49, 0x8a, 0xfe, 0xeb, 0xb6, 0x96, 0x0b, 0x3a, 0xab, 0xe6]
def exKA : List UInt8 := [0xc6, 0x1e, 0x7a, 0x93, 0x74, 0x4f, 0x39, 0xee, 0x10, 0x73, 0x4a, 0xfe, 0x3f, 0xf7, 0xa0, 0x87]
def exKC : List UInt8 := [0x30, 0xcb, 0xbc, 0x08, 0x86, 0x3d, 0x8c, 0x85, 0xd4, 0x9d, 0xb3, 0x4a, 0x9a, 0xe1]
theorem strm_below (key c : List UInt8) (n : Nat) (hc : c.length = 16) (hn : n ≤ 16) : strm key c n = (enc (kall key) c).take n := by
  apply list_eq (n := n)
  · exact strm_len _ _ _
  · rw [List.length_take, enc_len]; omega
  · intro i hi
    rw [strm, tab_get _ _ _ hi, ksB, show i / 16 = 0 by omega, show i % 16 = i by omega, plusC_zero _ hc]
    simp [List.getD, hi]
theorem exK_a : drv exKK exKS 0 16 = exKA := by
  rw [drv, strm_below _ _ _ (labC_len _ _ rfl) (by omega)]; decide +kernel
theorem exK_c : drv exKK exKS 2 14 = exKC := by
  rw [drv, strm_below _ _ _ (labC_len _ _ rfl) (by omega)]; decide +kernel
end Go.Proofs.Ytmfceenkndjjoaa
