/- Several texts in one: What the document's answer for layer 15 (tenailleref15) tells of ciphered bytes: their header, what is seen of them. Plain words on what is derived of a master, for any program: a label's counter, the bytes derived, the keys of a way. Contracts of package sha's small functions, and of the document's answer's own turn to the left. No statement is proved here. -/
import Derived.Test.YtmkeioeodlidgaaDoorZM5
import Derived.Test.YtmkeioeodlidgaaDoorZM3
import Derived.Test.YtmkeioeodlidgaaDoorZM0
import Derived.Test.YtmkeioeodlidgaaDoorProg
import Derived.Test.YtmkeioeodlidgaaDoorZBytes
import Derived.KernelRfl
import Derived.Lib.Hide
namespace Go.Proofs.YtmkeioeodlidgaaDoor
open Go.RowKit
set_option linter.unusedVariables false

theorem words_lt (bs : List UInt8) : wordsN bs < 65536 := Nat.lt_of_lt_of_le (numb_lt _) (Nat.le_trans (Nat.pow_le_pow_right (n := 256) (by omega) (show ((bs.drop (at0 bs + 2)).take 2).length ≤ 2 by simp; omega)) (by decide))
theorem at0_lt (bs : List UInt8) : at0 bs ≤ 72 := by unfold at0 othN; omega
set_option maxRecDepth 100000 in
set_option maxHeartbeats 1000000 in
theorem rhead15_any (A : Option Addr) (n c : Nat) (bs : List UInt8) (m : Nat) (mi : Int) (hmi : mi = m) (w : World) (hr : RdS w A n c bs) (h1 : 1 ≤ n) (hn : n ≤ 100000) (hm : m ≤ n) :
    Calls Tryd.prog 14 #[.slice A n c, .int .i64 mi] w fun e w' => (∃ h : Int, e = .returned (.tuple #[.int .i64 h, .bool (decide (at1 bs ≤ m))]) ∧ (at1 bs ≤ m → h = (at1 bs : Nat))) ∧ w = w' := by
  subst hmi
  have hl := hr.len
  have hs := hr.small
  obtain ⟨b, off, rfl, hlt, hcs⟩ := hr.2.2.2.2 (by omega)
  have c0 := hcs 0 (by omega)
  rw [Nat.add_zero] at c0
  obtain ⟨x0, hx⟩ : ∃ x0, x0 = (bs.getD 0 0).toNat := ⟨_, rfl⟩
  have hx2 : x0 < 256 := by rw [hx]; exact UInt8.toNat_lt _
  rw [← hx] at c0
  have hbt : bt bs 0 = x0 := hx.symm
  obtain ⟨H0, hH0⟩ : ∃ H0, H0 = at0 bs := ⟨_, rfl⟩
  have hH : H0 = 12 + 4 * (x0 % 16) := by rw [hH0]; unfold at0 othN; rw [hbt]
  have m1 : Int.tmod (x0 : Int) 16 = ((x0 % 16 : Nat) : Int) := by rw [Int.tmod_eq_emod_of_nonneg (by omega)]; omega
  have q1 : Int.tdiv (x0 : Int) 16 = ((x0 / 16 : Nat) : Int) := by rw [Int.tdiv_eq_ediv_of_nonneg (by omega)]; omega
  have m2 : Int.tmod (((x0 / 16 : Nat) : Int)) 2 = ((x0 / 16 % 2 : Nat) : Int) := by rw [Int.tmod_eq_emod_of_nonneg (by omega)]; omega
  have hx16 : (12 : Int) + 4 * ((x0 % 16 : Nat) : Int) = (H0 : Int) := by omega
  have hH9 : H0 ≤ 72 := by omega
  cases hex : exBR bs with
  | false =>
    have he : ((((x0 / 16 % 2 : Nat) : Int)) == 1) = false := by
      have := hex; unfold exBR at this; rw [hbt] at this
      simp at this ⊢; omega
    have ha : at1 bs = H0 := by unfold at1; rw [hex, hH0]; rfl
    rw [ha]
    clear hr hcs hx hbt hH0 hex ha hH
    obtain ⟨y1, hy1⟩ : ∃ y, y = x0 % 16 := ⟨_, rfl⟩
    obtain ⟨y2, hy2⟩ : ∃ y, y = x0 / 16 := ⟨_, rfl⟩
    obtain ⟨y3, hy3⟩ : ∃ y, y = x0 / 16 % 2 := ⟨_, rfl⟩
    rw [← hy1] at m1 hx16
    rw [← hy3] at m2 he
    rw [← hy2] at q1 m2
    have l1 : y1 < 16 := by omega
    have l2 : y2 < 16 := by omega
    clear hy1 hy2 hy3
    go_enter Tryd.func14, Tryd.ntmps14
    go_wp2
    go_ret2
    exact ⟨⟨_, rfl, fun _ => rfl⟩, rfl⟩
  | true =>
    have he : ((((x0 / 16 % 2 : Nat) : Int)) == 1) = true := by
      have := hex; unfold exBR at this; rw [hbt] at this
      simp at this ⊢; omega
    have ha : at1 bs = H0 + 4 + 4 * wordsN bs := by unfold at1; rw [hex, hH0]; rfl
    have hw9 := words_lt bs
    obtain ⟨V, hV⟩ : ∃ V, V = wordsN bs := ⟨_, rfl⟩
    rw [← hV] at ha hw9
    rw [ha]
    by_cases hsh : (m : Int) < (H0 : Int) + 4
    · have hd : decide (H0 + 4 + 4 * V ≤ m) = false := decide_eq_false (by omega)
      have hnot : ¬ H0 + 4 + 4 * V ≤ m := by omega
      rw [hd]
      have HNOT := Lib.hid hnot
      clear hr hcs hx hbt hH0 hex ha hH hd hnot hV hw9
      obtain ⟨y1, hy1⟩ : ∃ y, y = x0 % 16 := ⟨_, rfl⟩
      obtain ⟨y2, hy2⟩ : ∃ y, y = x0 / 16 := ⟨_, rfl⟩
      obtain ⟨y3, hy3⟩ : ∃ y, y = x0 / 16 % 2 := ⟨_, rfl⟩
      rw [← hy1] at m1 hx16
      rw [← hy3] at m2 he
      rw [← hy2] at q1 m2
      have l1 : y1 < 16 := by omega
      have l2 : y2 < 16 := by omega
      clear hy1 hy2 hy3
      go_enter Tryd.func14, Tryd.ntmps14
      go_wp2
      go_ret2
      exact ⟨⟨_, rfl, fun h => absurd h HNOT.out⟩, rfl⟩
    · have HNU : Hid (Calls Tryd.prog 15 #[.slice (some ⟨b, off, none⟩) n c, .int .i64 ((H0 : Int) + 2), .int .i64 2] w fun e w' => e = .returned (.int .u64 (V : Int)) ∧ w = w') := Lib.hid (by
        have := rnum_yes (some ⟨b, off, none⟩) n c bs (H0 + 2) 2 w hr (by omega) (by omega) (by omega)
        rw [show ((H0 + 2 : Nat) : Int) = (H0 : Int) + 2 by omega, hH0] at this
        rw [hV, hH0]
        exact this)
      have eV : IntKind.i64.wrap (V : Int) = (V : Int) := by rw [IntKind.wrap_i64]; omega
      obtain ⟨H1, hH1⟩ : ∃ H1, H1 = H0 + 4 + 4 * V := ⟨_, rfl⟩
      have eH1 : (H0 : Int) + 4 + 4 * (V : Int) = (H1 : Int) := by omega
      have hH9' : H1 ≤ 400000 := by omega
      rw [← hH1]
      clear hr hcs hx hbt hH0 hex ha hH hV hH1
      obtain ⟨y1, hy1⟩ : ∃ y, y = x0 % 16 := ⟨_, rfl⟩
      obtain ⟨y2, hy2⟩ : ∃ y, y = x0 / 16 := ⟨_, rfl⟩
      obtain ⟨y3, hy3⟩ : ∃ y, y = x0 / 16 % 2 := ⟨_, rfl⟩
      rw [← hy1] at m1 hx16
      rw [← hy3] at m2 he
      rw [← hy2] at q1 m2
      have l1 : y1 < 16 := by omega
      have l2 : y2 < 16 := by omega
      clear hy1 hy2 hy3
      go_enter Tryd.func14, Tryd.ntmps14
      go_wp2_with (go_at_call 15; ((with_reducible refine (Hid.out HNU).mono ?_); rintro e w' ⟨rfl, rfl⟩))
      go_ret2
      exact ⟨⟨_, rfl, fun _ => rfl⟩, rfl⟩
/-- What is seen of ciphered bytes. -/
def P15 (bs : List UInt8) (w : World) (e : Ending) (w' : World) : Prop :=
  (whyPeek bs = 0 → e = .returned (.tuple #[.int .u32 (soN bs : Int), .int .u16 (sqN bs : Int), .int .i64 0])) ∧ (whyPeek bs ≠ 0 → e = .returned (.tuple #[.int .u32 0, .int .u16 0, .int .i64 (whyPeek bs)])) ∧ Below w.heap.size w w'
theorem P15.no {bs : List UInt8} {w : World} {q : Int} (h : whyPeek bs = q) (hq : q ≠ 0) : P15 bs w (.returned (.tuple #[.int .u32 0, .int .u16 0, .int .i64 q])) w := ⟨fun h2 => absurd (h.symm.trans h2) hq, fun _ => by rw [h], Below.refl _ _⟩
set_option maxRecDepth 100000 in
set_option maxHeartbeats 1000000 in
theorem rpeek15_any (A : Option Addr) (n c : Nat) (bs : List UInt8) (w : World) (hr : RdS w A n c bs) : Calls Tryd.prog 6 #[.slice A n c] w (P15 bs w) := by
  have hl := hr.len
  have hs := hr.small
  by_cases h12 : (1200 : Int) < (n : Int)
  · have HW := Lib.hid (P15.no (bs := bs) (w := w) (q := 3) (by unfold whyPeek; rw [if_pos (by omega)]) (by decide))
    clear hr hl
    go_enter Tryd.func6, Tryd.ntmps6
    go_wp2
    go_ret3
    exact HW.out
  by_cases h22 : (n : Int) < 22
  · have HW := Lib.hid (P15.no (bs := bs) (w := w) (q := 2) (by unfold whyPeek; rw [if_neg (by omega), if_pos (by omega)]) (by decide))
    clear hr hl
    go_enter Tryd.func6, Tryd.ntmps6
    go_wp2
    go_ret3
    exact HW.out
  obtain ⟨b, off, rfl, hlt, hcs⟩ := hr.2.2.2.2 (by omega)
  have c0 := hcs 0 (by omega)
  rw [Nat.add_zero] at c0
  have HHD0 := Lib.hid (rhead15_any (some ⟨b, off, none⟩) n c bs (n - 10) ((n : Int) - 10) (by omega) w hr (by omega) (by omega) (by omega))
  have HN1 : Hid (Calls Tryd.prog 15 #[.slice (some ⟨b, off, none⟩) n c, .int .i64 8, .int .i64 4] w fun e w' => e = .returned (.int .u64 (soN bs : Int)) ∧ w = w') := Lib.hid (rnum_yes (some ⟨b, off, none⟩) n c bs 8 4 w hr (by omega) (by omega) (by omega))
  have HN2 : Hid (Calls Tryd.prog 15 #[.slice (some ⟨b, off, none⟩) n c, .int .i64 2, .int .i64 2] w fun e w' => e = .returned (.int .u64 (sqN bs : Int)) ∧ w = w') := Lib.hid (rnum_yes (some ⟨b, off, none⟩) n c bs 2 2 w hr (by omega) (by omega) (by omega))
  obtain ⟨x0, hx⟩ : ∃ x0, x0 = (bs.getD 0 0).toNat := ⟨_, rfl⟩
  have hx2 : x0 < 256 := by rw [hx]; exact UInt8.toNat_lt _
  rw [← hx] at c0
  have hbt : bt bs 0 = x0 := hx.symm
  obtain ⟨y, hy⟩ : ∃ y, y = x0 / 64 := ⟨_, rfl⟩
  have q1 : Int.tdiv (x0 : Int) 64 = (y : Int) := by rw [Int.tdiv_eq_ediv_of_nonneg (by omega)]; omega
  have ly : y < 4 := by omega
  by_cases h2 : y = 2
  case neg =>
    have h2i : ((y : Int) != 2) = true := by simp; omega
    have HW := Lib.hid (P15.no (bs := bs) (w := w) (q := 3) (by unfold whyPeek; rw [if_neg (by omega), if_neg (by omega), if_pos (by rw [hbt]; omega)]) (by decide))
    clear hr hl hcs hx hbt hy h2
    go_enter Tryd.func6, Tryd.ntmps6
    go_wp2
    go_ret3
    exact HW.out
  have h2i : ((y : Int) != 2) = false := by simp; omega
  have hso : soN bs < 4294967296 := Nat.lt_of_lt_of_le (numb_lt _) (Nat.le_trans (Nat.pow_le_pow_right (n := 256) (by omega) (show ((bs.drop 8).take 4).length ≤ 4 by simp; omega)) (by decide))
  have hsq : sqN bs < 65536 := Nat.lt_of_lt_of_le (numb_lt _) (Nat.le_trans (Nat.pow_le_pow_right (n := 256) (by omega) (show ((bs.drop 2).take 2).length ≤ 2 by simp; omega)) (by decide))
  obtain ⟨SO, hSO⟩ : ∃ SO, SO = soN bs := ⟨_, rfl⟩
  obtain ⟨SQ, hSQ⟩ : ∃ SQ, SQ = sqN bs := ⟨_, rfl⟩
  rw [← hSO] at hso HN1
  rw [← hSQ] at hsq HN2
  have e1 : IntKind.u32.wrap (SO : Int) = (SO : Int) := by rw [IntKind.wrap_u32]; omega
  have e2 : IntKind.u16.wrap (SQ : Int) = (SQ : Int) := by rw [IntKind.wrap_u16]; omega
  by_cases hat : at1 bs ≤ n - 10
  · have HW : Hid (P15 bs w (.returned (.tuple #[.int .u32 (SO : Int), .int .u16 (SQ : Int), .int .i64 0])) w) := Lib.hid (by
      have : whyPeek bs = 0 := by unfold whyPeek; rw [if_neg (by omega), if_neg (by omega), if_neg (by rw [hbt]; omega), if_neg (by omega)]
      exact ⟨fun _ => by rw [hSO, hSQ], fun h => absurd this h, Below.refl _ _⟩)
    have HHD : Hid (Calls Tryd.prog 14 #[.slice (some ⟨b, off, none⟩) n c, .int .i64 ((n : Int) - 10)] w fun e w' => ∃ h : Int, e = .returned (.tuple #[.int .i64 h, .bool true]) ∧ w = w') := Lib.hid (HHD0.out.mono fun e w' ⟨⟨h, h1, _⟩, h3⟩ => ⟨h, by rw [h1, decide_eq_true hat], h3⟩)
    clear hr hl hcs hx hbt hy h2 hSO hSQ hat
    go_enter Tryd.func6, Tryd.ntmps6
    go_wp2_with (first
      | (go_at_call 14; ((with_reducible refine (Hid.out HHD).mono ?_); rintro e w' ⟨h, rfl, rfl⟩))
      | (go_at_call 15; ((with_reducible refine (Hid.out HN1).mono ?_); rintro e w' ⟨rfl, rfl⟩))
      | (go_at_call 15; ((with_reducible refine (Hid.out HN2).mono ?_); rintro e w' ⟨rfl, rfl⟩)))
    go_ret3
    exact HW.out
  · have HW := Lib.hid (P15.no (bs := bs) (w := w) (q := 2) (by unfold whyPeek; rw [if_neg (by omega), if_neg (by omega), if_neg (by rw [hbt]; omega), if_pos (by omega)]) (by decide))
    have HHD : Hid (Calls Tryd.prog 14 #[.slice (some ⟨b, off, none⟩) n c, .int .i64 ((n : Int) - 10)] w fun e w' => ∃ h : Int, e = .returned (.tuple #[.int .i64 h, .bool false]) ∧ w = w') := Lib.hid (HHD0.out.mono fun e w' ⟨⟨h, h1, _⟩, h3⟩ => ⟨h, by rw [h1, decide_eq_false hat], h3⟩)
    clear hr hl hcs hx hbt hy h2 hSO hSQ hat
    go_enter Tryd.func6, Tryd.ntmps6
    go_wp2_with (go_at_call 14; ((with_reducible refine (Hid.out HHD).mono ?_); rintro e w' ⟨h, rfl, rfl⟩))
    go_ret3
    exact HW.out
end Go.Proofs.YtmkeioeodlidgaaDoor

namespace Go.Proofs.YtmkeioeodlidgaaDoor
set_option linter.unusedVariables false

/-- A master's bytes: the key, the salt. -/
def mst (key salt : List UInt8) : List UInt8 := key ++ salt
theorem mst_len (key salt : List UInt8) (hk : key.length = 16) (hs : salt.length = 14) : (mst key salt).length = 30 := by simp [mst, hk, hs]
theorem mst_key (key salt : List UInt8) (hk : key.length = 16) : ∀ i, i < (cells key).length → (cells (mst key salt))[0 + i]? = (cells key)[i]? := fun i hi => by
  rw [mst, cells_append, Nat.zero_add, List.getElem?_append_left hi]
theorem mst_salt (key salt : List UInt8) (hk : key.length = 16) : ∀ i, i < (cells salt).length → (cells (mst key salt))[16 + i]? = (cells salt)[i]? := fun i hi => by
  rw [mst, cells_append, List.getElem?_append_right (by rw [length_cells]; omega), length_cells, hk, show 16 + i - 16 = i by omega]
/-- A part of a block reads. -/
theorem Blk.rdAt {w : World} {g : Nat} {e : TypeId} {bs xs : List UInt8} (h : Blk w g e bs) (o n c : Nat) (hn : xs.length = n) (hnc : n ≤ c) (hc : c ≤ maxLen) (hd : ∀ i, i < (cells xs).length → (cells bs)[o + i]? = (cells xs)[i]?) : RdS w (some ⟨g, o, none⟩) n c xs :=
  ⟨hn, hnc, hc, fun h => by simp at h, fun _ => ⟨g, o, rfl, h.lt, fun j hj => by
    rw [h.v.cell, hd j (by rw [length_cells]; omega)]
    exact cells_at (by omega)⟩⟩

/-- The counter of a label. -/
def labC (salt : List UInt8) (l : Nat) : List UInt8 := (saltZ salt).set 7 ((saltZ salt).getD 7 0 ^^^ UInt8.ofNat l)
theorem labC_len (salt : List UInt8) (l : Nat) (hs : salt.length = 14) : (labC salt l).length = 16 := by rw [labC, List.length_set, saltZ_len _ hs]
/-- What is derived of a master by a label: n bytes. -/
def drv (key salt : List UInt8) (l n : Nat) : List UInt8 := strm key (labC salt l) n
theorem drv_len (key salt : List UInt8) (l n : Nat) : (drv key salt l n).length = n := strm_len _ _ _
theorem drv_take (key salt : List UInt8) (l n m : Nat) (h : n ≤ m) : (drv key salt l m).take n = drv key salt l n := strm_take _ _ _ _ h

theorem cells_splice (s d : List UInt8) (o : Nat) : splice (cells s) o (cells d) = cells (splice s o d) := by
  simp [splice, cells, List.map_take, List.map_drop]
theorem splice_len {α : Type} (s d : List α) (o : Nat) (h : o + d.length ≤ s.length) : (splice s o d).length = s.length := by
  simp [splice]; omega
/-- Keys of 16, 20 and 14 bytes. -/
def trio (a b c : List UInt8) : List UInt8 := a ++ (b ++ c)
theorem trio_len (a b c : List UInt8) (ha : a.length = 16) (hb : b.length = 20) (hc : c.length = 14) : (trio a b c).length = 50 := by simp [trio, ha, hb, hc]
def Z50 : List UInt8 := List.replicate 50 0
theorem Z50_len : Z50.length = 50 := by rw [Z50, List.length_replicate]
theorem trio1 (a : List UInt8) (ha : a.length = 16) : splice Z50 0 a = a ++ List.replicate 34 0 := by simp [splice, Z50, ha]
theorem trio2 (a b : List UInt8) (ha : a.length = 16) (hb : b.length = 20) : splice (splice Z50 0 a) 16 b = a ++ (b ++ List.replicate 14 0) := by
  rw [trio1 a ha, splice, List.take_left' ha, hb, List.drop_append, ha]
  simp
  omega
theorem trio3 (a b c : List UInt8) (ha : a.length = 16) (hb : b.length = 20) (hc : c.length = 14) : splice (splice (splice Z50 0 a) 16 b) 36 c = trio a b c := by
  have h : (a ++ b).length = 36 := by simp [ha, hb]
  rw [trio2 a b ha hb, ← List.append_assoc, splice, List.take_left' h, hc, trio, List.drop_of_length_le (by simp [ha, hb]), List.append_nil, List.append_assoc]
/-- The keys of a way whose labels begin with f. -/
def kys (key salt : List UInt8) (f : Nat) : List UInt8 := trio (drv key salt f 16) (drv key salt (f + 1) 20) (drv key salt (f + 2) 14)
theorem kys_len (key salt : List UInt8) (f : Nat) : (kys key salt f).length = 50 := trio_len _ _ _ (drv_len _ _ _ _) (drv_len _ _ _ _) (drv_len _ _ _ _)

/-- Keys of which x, y and z bytes have come. -/
def trioR (a b c : List UInt8) (x y z : Nat) : List UInt8 := tab 50 fun j =>
  if j < 16 then (if j < x then a.getD j 0 else 0) else if j < 36 then (if j < 16 + y then b.getD (j - 16) 0 else 0) else (if j < 36 + z then c.getD (j - 36) 0 else 0)
theorem trioR_len (a b c : List UInt8) (x y z : Nat) : (trioR a b c x y z).length = 50 := tab_len _ _
theorem trioR_zero (a b c : List UInt8) : trioR a b c 0 0 0 = Z50 := by
  apply list_eq (n := 50) (trioR_len _ _ _ _ _ _) Z50_len
  intro i hi
  rw [trioR, tab_get _ _ _ hi, Z50]
  have h0 : ∀ (n j : Nat), (List.replicate n (0 : UInt8)).getD j 0 = 0 := fun n j => by
    simp only [List.getD, List.getElem?_replicate]
    split <;> rfl
  rw [h0]
  by_cases h1 : i < 16
  · rw [if_pos h1, if_neg (by omega)]
  · rw [if_neg h1]
    by_cases h2 : i < 36
    · rw [if_pos h2, if_neg (by omega)]
    · rw [if_neg h2, if_neg (by omega)]
theorem getD_setU (l : List UInt8) (k i : Nat) (v : UInt8) (hk : k < l.length) : (l.set k v).getD i 0 = if i = k then v else l.getD i 0 := by
  simp only [List.getD, List.getElem?_set]
  by_cases h : i = k
  · subst h; simp [hk]
  · rw [if_neg (fun e => h e.symm), if_neg h]
theorem trioR_x (a b c : List UInt8) (x y z : Nat) (hx : x < 16) : (trioR a b c x y z).set x (a.getD x 0) = trioR a b c (x + 1) y z := by
  apply list_eq (n := 50) (by rw [List.length_set, trioR_len]) (trioR_len _ _ _ _ _ _)
  intro i hi
  rw [getD_setU _ _ _ _ (by rw [trioR_len]; omega), trioR, trioR, tab_get _ _ _ hi, tab_get _ _ _ hi]
  by_cases h : i = x
  · subst h
    rw [if_pos rfl, if_pos hx, if_pos (by omega)]
  · rw [if_neg h]
    by_cases h1 : i < 16
    · rw [if_pos h1, if_pos h1]
      by_cases h2 : i < x
      · rw [if_pos h2, if_pos (by omega)]
      · rw [if_neg h2, if_neg (by omega)]
    · rw [if_neg h1, if_neg h1]
theorem trioR_y (a b c : List UInt8) (x y z : Nat) (hy : y < 20) : (trioR a b c x y z).set (16 + y) (b.getD y 0) = trioR a b c x (y + 1) z := by
  apply list_eq (n := 50) (by rw [List.length_set, trioR_len]) (trioR_len _ _ _ _ _ _)
  intro i hi
  rw [getD_setU _ _ _ _ (by rw [trioR_len]; omega), trioR, trioR, tab_get _ _ _ hi, tab_get _ _ _ hi]
  by_cases h : i = 16 + y
  · subst h
    rw [if_pos rfl, if_neg (by omega), if_pos (by omega), if_pos (by omega), show 16 + y - 16 = y by omega]
  · rw [if_neg h]
    by_cases h1 : i < 16
    · rw [if_pos h1, if_pos h1]
    · rw [if_neg h1, if_neg h1]
      by_cases h3 : i < 36
      · rw [if_pos h3, if_pos h3]
        by_cases h2 : i < 16 + y
        · rw [if_pos h2, if_pos (by omega)]
        · rw [if_neg h2, if_neg (by omega)]
      · rw [if_neg h3, if_neg h3]
theorem trioR_z (a b c : List UInt8) (x y z : Nat) (hz : z < 14) : (trioR a b c x y z).set (36 + z) (c.getD z 0) = trioR a b c x y (z + 1) := by
  apply list_eq (n := 50) (by rw [List.length_set, trioR_len]) (trioR_len _ _ _ _ _ _)
  intro i hi
  rw [getD_setU _ _ _ _ (by rw [trioR_len]; omega), trioR, trioR, tab_get _ _ _ hi, tab_get _ _ _ hi]
  by_cases h : i = 36 + z
  · subst h
    rw [if_pos rfl, if_neg (by omega), if_neg (by omega), if_pos (by omega), show 36 + z - 36 = z by omega]
  · rw [if_neg h]
    by_cases h1 : i < 16
    · rw [if_pos h1, if_pos h1]
    · rw [if_neg h1, if_neg h1]
      by_cases h3 : i < 36
      · rw [if_pos h3, if_pos h3]
      · rw [if_neg h3, if_neg h3]
        by_cases h2 : i < 36 + z
        · rw [if_pos h2, if_pos (by omega)]
        · rw [if_neg h2, if_neg (by omega)]
theorem trioR_all (a b c : List UInt8) (ha : a.length = 16) (hb : b.length = 20) (hc : c.length = 14) : trioR a b c 16 20 14 = trio a b c := by
  apply list_eq (n := 50) (trioR_len _ _ _ _ _ _) (trio_len _ _ _ ha hb hc)
  intro i hi
  rw [trioR, tab_get _ _ _ hi, trio]
  by_cases h1 : i < 16
  · rw [if_pos h1, if_pos h1, getD_app_left _ _ _ (by omega)]
  · rw [if_neg h1, getD_app_right _ _ _ (by omega), ha]
    by_cases h3 : i < 36
    · rw [if_pos h3, if_pos (by omega), getD_app_left _ _ _ (by omega)]
    · rw [if_neg h3, if_pos (by omega), getD_app_right _ _ _ (by omega), hb, show i - 16 - 20 = i - 36 by omega]

/-- The document's example. -/
def exKK : List UInt8 := [0xe1, 0xf9, 0x7a, 0x0d, 0x3e, 0x01, 0x8b, 0xe0, 0xd6, 0x4f, 0xa3, 0x2c, 0x06, 0xde, 0x41, 0x39]
def exKS : List UInt8 := [0x0e, 0xc6, 0x75, 0xad, 0x49, 0x8a, 0xfe, 0xeb, 0xb6, 0x96, 0x0b, 0x3a, 0xab, 0xe6]
def exKA : List UInt8 := [0xc6, 0x1e, 0x7a, 0x93, 0x74, 0x4f, 0x39, 0xee, 0x10, 0x73, 0x4a, 0xfe, 0x3f, 0xf7, 0xa0, 0x87]
def exKC : List UInt8 := [0x30, 0xcb, 0xbc, 0x08, 0x86, 0x3d, 0x8c, 0x85, 0xd4, 0x9d, 0xb3, 0x4a, 0x9a, 0xe1]
theorem strm_below (key c : List UInt8) (n : Nat) (hc : c.length = 16) (hn : n ≤ 16) : strm key c n = (enc (kall key) c).take n := by
  apply list_eq (n := n)
  · exact strm_len _ _ _
  · rw [List.length_take, enc_len]; omega
  · intro i hi
    rw [strm, tab_get _ _ _ hi, ksB, show i / 16 = 0 by omega, show i % 16 = i by omega, plusC_zero _ hc]
    simp [List.getD, hi]
theorem exK_a : drv exKK exKS 0 16 = exKA := by
  rw [drv, strm_below _ _ _ (labC_len _ _ rfl) (by omega)]; decide +kernel
theorem exK_c : drv exKK exKS 2 14 = exKC := by
  rw [drv, strm_below _ _ _ (labC_len _ _ rfl) (by omega)]; decide +kernel
end Go.Proofs.YtmkeioeodlidgaaDoor

namespace Go.Proofs.YtmkeioeodlidgaaDoor
open Go.RowKit
set_option linter.unusedVariables false

theorem max_xor (b : Nat) (hb : b < 4294967296) : bits BinOp.xor IntKind.u32 IntKind.u32.max (b : Int) = ((4294967295 - b : Nat) : Int) := by
  show IntKind.u32.wrap ((BitVec.ofInt 32 ((4294967295 : Nat) : Int) ^^^ BitVec.ofInt 32 (b : Int)).toNat : Int) = _
  have e : BitVec.ofInt 32 ((4294967295 : Nat) : Int) = BitVec.allOnes 32 := by decide
  rw [e, BitVec.allOnes_xor, BitVec.toNat_not, ofInt_u32 b hb, IntKind.wrap_u32']
  omega

theorem rotl5 (x : Nat) (w : World) (hx : x < 4294967296) : Calls Tryd.prog 84 #[.int .u32 x, .int .i64 5] w fun e w' => e = .returned (.int .u32 (rot 5 x : Nat)) ∧ w = w' := by
  have h := rot_or 5 x (by omega) hx
  have hb : bits BinOp.or IntKind.u32 ((x : Int) * 32 % 4294967296) ((x : Int) / 134217728) = (rot 5 x : Nat) := by
    have e1 : (x : Int) * 32 % 4294967296 = ((x * 2 ^ 5 % 4294967296 : Nat) : Int) := by omega
    have e2 : (x : Int) / 134217728 = ((x / 2 ^ (32 - 5) : Nat) : Int) := by omega
    rw [e1, e2, u32_or_nat _ _ (by omega) (by omega), h]
  have hx' : (x : Int) ≤ 4294967295 := by omega
  have hk : bits BinOp.and IntKind.u64 5 31 = 5 := by decide
  have HB := Lib.hid hb
  clear h hb
  go_enter Tryd.func84, Tryd.ntmps84
  go_wp2
  rw [HB.out]
  go_ret
  exact ⟨rfl, rfl⟩
theorem rotl1 (x : Nat) (w : World) (hx : x < 4294967296) : Calls Tryd.prog 84 #[.int .u32 x, .int .i64 1] w fun e w' => e = .returned (.int .u32 (rot 1 x : Nat)) ∧ w = w' := by
  have h := rot_or 1 x (by omega) hx
  have hb : bits BinOp.or IntKind.u32 ((x : Int) * 2 % 4294967296) ((x : Int) / 2147483648) = (rot 1 x : Nat) := by
    have e1 : (x : Int) * 2 % 4294967296 = ((x * 2 ^ 1 % 4294967296 : Nat) : Int) := by omega
    have e2 : (x : Int) / 2147483648 = ((x / 2 ^ (32 - 1) : Nat) : Int) := by omega
    rw [e1, e2, u32_or_nat _ _ (by omega) (by omega), h]
  have hx' : (x : Int) ≤ 4294967295 := by omega
  have hk : bits BinOp.and IntKind.u64 1 31 = 1 := by decide
  have HB := Lib.hid hb
  clear h hb
  go_enter Tryd.func84, Tryd.ntmps84
  go_wp2
  rw [HB.out]
  go_ret
  exact ⟨rfl, rfl⟩
theorem rotl30 (x : Nat) (w : World) (hx : x < 4294967296) : Calls Tryd.prog 84 #[.int .u32 x, .int .i64 30] w fun e w' => e = .returned (.int .u32 (rot 30 x : Nat)) ∧ w = w' := by
  have h := rot_or 30 x (by omega) hx
  have hb : bits BinOp.or IntKind.u32 ((x : Int) * 1073741824 % 4294967296) ((x : Int) / 4) = (rot 30 x : Nat) := by
    have e1 : (x : Int) * 1073741824 % 4294967296 = ((x * 2 ^ 30 % 4294967296 : Nat) : Int) := by omega
    have e2 : (x : Int) / 4 = ((x / 2 ^ (32 - 30) : Nat) : Int) := by omega
    rw [e1, e2, u32_or_nat _ _ (by omega) (by omega), h]
  have hx' : (x : Int) ≤ 4294967295 := by omega
  have hk : bits BinOp.and IntKind.u64 30 31 = 30 := by decide
  have HB := Lib.hid hb
  clear h hb
  go_enter Tryd.func84, Tryd.ntmps84
  go_wp2
  rw [HB.out]
  go_ret
  exact ⟨rfl, rfl⟩
theorem rot_is (k x : Nat) (hk : k = 1 ∨ k = 5 ∨ k = 30) : ((rot k x : Nat) : Int) = (x : Int) * 2 ^ k % 4294967296 + (x : Int) / 2 ^ (32 - k) := by
  unfold rot
  rcases hk with rfl | rfl | rfl <;> simp
/-- The bits of f, as the program has them. -/
theorem ff20 (t b c d : Nat) (ht : t < 20) (hb : b < 4294967296) (hc : c < 4294967296) (hd : d < 4294967296) :
    bits BinOp.or IntKind.u32 (bits BinOp.and IntKind.u32 b c) (bits BinOp.and IntKind.u32 ((4294967295 - b : Nat) : Int) d) = ((ff t b c d : Nat) : Int) := by
  rw [u32_and_nat _ _ hb hc, u32_and_nat _ _ (by omega) hd, u32_or_nat _ _ (and32 hb) (and32 (by omega))]
  simp [ff, ht]
theorem ff40 (t b c d : Nat) (ht : (20 ≤ t ∧ t < 40) ∨ 60 ≤ t) (hb : b < 4294967296) (hc : c < 4294967296) (hd : d < 4294967296) :
    bits BinOp.xor IntKind.u32 (bits BinOp.xor IntKind.u32 b c) d = ((ff t b c d : Nat) : Int) := by
  rw [u32_xor_nat _ _ hb hc, u32_xor_nat _ _ (xor32 hb hc) hd]
  unfold ff
  rcases ht with ⟨h1, h2⟩ | h
  · rw [if_neg (by omega), if_pos h2]
  · rw [if_neg (by omega), if_neg (by omega), if_neg (by omega)]
theorem ff60 (t b c d : Nat) (ht : 40 ≤ t ∧ t < 60) (hb : b < 4294967296) (hc : c < 4294967296) (hd : d < 4294967296) :
    bits BinOp.or IntKind.u32 (bits BinOp.or IntKind.u32 (bits BinOp.and IntKind.u32 b c) (bits BinOp.and IntKind.u32 b d)) (bits BinOp.and IntKind.u32 c d) = ((ff t b c d : Nat) : Int) := by
  rw [u32_and_nat _ _ hb hc, u32_and_nat _ _ hb hd, u32_and_nat _ _ hc hd, u32_or_nat _ _ (and32 hb) (and32 hb), u32_or_nat _ _ (or32 (and32 hb) (and32 hb)) (and32 hc)]
  unfold ff
  rw [if_neg (by omega), if_neg (by omega), if_pos ht.2]
theorem kk20 {t : Nat} (h : t < 20) : kk t = 1518500249 := by simp [kk, h]
theorem kk40 {t : Nat} (h : 20 ≤ t) (h2 : t < 40) : kk t = 1859775393 := by unfold kk; rw [if_neg (by omega), if_pos h2]
theorem kk60 {t : Nat} (h : 40 ≤ t) (h2 : t < 60) : kk t = 2400959708 := by unfold kk; rw [if_neg (by omega), if_neg (by omega), if_pos h2]
theorem kk80 {t : Nat} (h : 60 ≤ t) : kk t = 3395469782 := by unfold kk; rw [if_neg (by omega), if_neg (by omega), if_neg (by omega)]

theorem mix_any (t b c d : Nat) (w : World) (ht : t < 80) (hb : b < 4294967296) (hc : c < 4294967296) (hd : d < 4294967296) :
    Calls Tryd.prog 83 #[.int .i64 t, .int .u32 b, .int .u32 c, .int .u32 d] w fun e w' => e = .returned (.tuple #[.int .u32 (ff t b c d : Nat), .int .u32 (kk t : Nat)]) ∧ w = w' := by
  rcases Nat.lt_or_ge t 20 with h1 | h1
  · have HF := Lib.hid (ff20 t b c d h1 hb hc hd)
    have HK := Lib.hid (kk20 h1)
    have hm := max_xor b hb
    have hs : IntKind.u32.signed = false := rfl
    have HM := Lib.hid hm
    clear hm
    go_enter Tryd.func83, Tryd.ntmps83
    go_wp2
    rw [HM.out, HF.out]
    go_ret2
    exact ⟨by rw [HK.out]; rfl, rfl⟩
  rcases Nat.lt_or_ge t 40 with h2 | h2
  · have HF := Lib.hid (ff40 t b c d (by omega) hb hc hd)
    have HK := Lib.hid (kk40 h1 h2)
    go_enter Tryd.func83, Tryd.ntmps83
    go_wp2
    rw [HF.out]
    go_ret2
    exact ⟨by rw [HK.out]; rfl, rfl⟩
  rcases Nat.lt_or_ge t 60 with h3 | h3
  · have HF := Lib.hid (ff60 t b c d (by omega) hb hc hd)
    have HK := Lib.hid (kk60 h2 h3)
    go_enter Tryd.func83, Tryd.ntmps83
    go_wp2
    rw [HF.out]
    go_ret2
    exact ⟨by rw [HK.out]; rfl, rfl⟩
  · have HF := Lib.hid (ff40 t b c d (by omega) hb hc hd)
    have HK := Lib.hid (kk80 h3)
    go_enter Tryd.func83, Tryd.ntmps83
    go_wp2
    rw [HF.out]
    go_ret2
    exact ⟨by rw [HK.out]; rfl, rfl⟩
end Go.Proofs.YtmkeioeodlidgaaDoor
