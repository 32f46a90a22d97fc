/- Several texts in one: plain words and walks. No statement is proved here. -/
import Derived.Test.YtheefckohnaceaaGreatDoorZM0
import Derived.WalkLawsBesides
import Derived.Test.YtheefckohnaceaaGreatDoorZBytes
import Derived.Test.YtheefckohnaceaaGreatDoorZNums
import Derived.Test.YtheefckohnaceaaGreatDoorZM3
import Derived.Maps.AppendAt
import Derived.Laws.RangeString
import Derived.Laws.RangeAny
import Derived.Test.YtheefckohnaceaaGreatDoorZM6
import Derived.Test.YtheefckohnaceaaGreatDoorZM11
import Derived.Test.YtheefckohnaceaaGreatDoorZM12
namespace Go.Proofs.YtheefckohnaceaaGreatDoor
open Go.RowKit
set_option linter.unusedVariables false


theorem refuse_no (b : Bool) (c : Int) (w : World) (hb : b = false) : Calls Tryz.prog 41 #[.bool b, .int .i64 c] w fun e w' => e = .returned (.tuple #[]) ∧ w = w' := by
 subst hb
 go_enter Tryz.func41, Tryz.ntmps41
 go_wp2
 go_end0
 exact ⟨rfl, rfl⟩


def Rdr (w : World) (g q : Nat) (bs : List UInt8) : Prop := ∃ A n c, BlkV w g 154 [.int .i64 (q : Int), .slice A n c] ∧ RdS w A n c bs ∧ LoN A n g
theorem Rdr.grown {w w' : World} {g q : Nat} {bs : List UInt8} (h : Rdr w g q bs) {row : Option Nat} (hg : w.grownBy w' row) (hr : ∀ p, row = some p → g < p) : Rdr w' g q bs := by
 obtain ⟨A, n, c, h1, h2, h3⟩ := h
 exact ⟨A, n, c, h1.grown hg (fun e => by have := hr g e.symm; omega), h2.keep hg (fun p hp => h3.off (by have := hr p hp; omega)), h3⟩
theorem Rdr.below {w w' : World} {g q : Nat} {bs : List UInt8} (h : Rdr w g q bs) (hb : Below w.heap.size w w') : Rdr w' g q bs := by
 obtain ⟨A, n, c, h1, h2, h3⟩ := h
 exact ⟨A, n, c, h1.below hb h1.lt, h2.below hb, h3⟩
theorem Rdr.lt {w : World} {g q : Nat} {bs : List UInt8} (h : Rdr w g q bs) : g < w.heap.size := by
 obtain ⟨A, n, c, h1, h2, h3⟩ := h
 exact h1.lt
theorem Rdr.drew {w : World} {g q : Nat} {bs : List UInt8} (h : Rdr w g q bs) : Rdr w.drew g q bs := h
theorem Rdr.small {w : World} {g q : Nat} {bs : List UInt8} (h : Rdr w g q bs) : bs.length ≤ 9223372036854775807 := by
 obtain ⟨A, n, c, h1, h2, h3⟩ := h
 rw [h2.len]; exact h2.small.1

set_option maxRecDepth 100000 in
theorem bytes_ok (g q m : Nat) (bs : List UInt8) (w : World) (h : Rdr w g q bs) (hm : m ≤ bs.length) :
 Calls Tryz.prog 128 #[.pointer (some ⟨g, 0, none⟩), .int .i64 m] w fun e w' => ∃ A c, e = .returned (.slice A m c) ∧ RdS w' A m c (bs.take m) ∧ Rdr w' g q (bs.drop m) ∧ LoN A m g ∧ Only g w w' := by
 obtain ⟨A, n, c, hB, hR, hL⟩ := h
 have hO := hL.off (Nat.le_refl g)
 have hl := hR.len
 have hs := hR.small
 have hmn : m ≤ n := by omega
 have hle := hR.le
 have hc : w.cell? ⟨g, 1, none⟩ = some (.slice A n c) := (hB.cell 1).trans rfl
 have hf := hB.frozen 1
 have hHead := Lib.hid (hR.headR m hmn)
 have HR := Lib.hid hR
 have HO := Lib.hid hO
 have HLo := Lib.hid hL
 have HB := Lib.hid hB
 clear hR hO hB hL
 go_enter Tryz.func128, Tryz.ntmps128
 go_wp2_with (first
  | (go_at_call 41; ((with_reducible refine (refuse_no _ _ _ ?_).mono ?_); (simp; omega); rintro e w' ⟨rfl, rfl⟩))
  | ((with_reducible refine wpList_cut rfl 32 (.tmp 24) (.tmp 25) rfl undB szB A n c bs rfl m _ rfl rfl HR.out hmn ?_); intro A2 hR2 hO2))
 go_ret
 have hS := Lib.hid (HB.out.set_ 1 (.slice A2 (n - m) (c - m)))
 have ho := Only.set w g 1 (.slice A2 (n - m) (c - m))
 refine ⟨A, c, rfl, hHead.out.only ho (fun h0 => HO.out (by omega)), ⟨A2, n - m, c - m, hS.out, hR2.only ho (fun h0 => hO2 g (HO.out (by omega))), HLo.out.of_off hO2 (by omega)⟩, HLo.out.of_off (fun _ h => h) hmn, ho⟩

set_option maxRecDepth 100000 in
theorem number_ok (g q m : Nat) (bs : List UInt8) (w : World) (h : Rdr w g q bs) (h1 : 1 ≤ m) (h8 : m ≤ 8) (hm : m ≤ bs.length) :
 Calls Tryz.prog 117 #[.pointer (some ⟨g, 0, none⟩), .int .i64 m] w fun e w' => e = .returned (.int .u64 (numb (bs.take m))) ∧ Rdr w' g q (bs.drop m) ∧ Only g w w' := by
 have H := Lib.hid h
 have HN : Hid (∀ A1 c1 W, RdS W A1 m c1 (bs.take m) → Calls Tryz.prog 56 #[.slice A1 m c1, .int .i64 0, .int .i64 m] W fun e w' => e = .returned (.tuple #[.int .u64 (numb (bs.take m)), .bool true]) ∧ W = w') := Lib.hid fun A1 c1 W hr => by
  have := num_yes A1 m c1 (bs.take m) 0 m W hr h1 h8 (by omega)
  rw [List.drop_zero, List.take_take, Nat.min_self] at this
  exact this
 clear h
 go_enter Tryz.func117, Tryz.ntmps117
 go_wp2_with (first
  | (go_at_call 128; ((with_reducible refine (bytes_ok g q m bs _ H.out hm).mono ?_); rintro e w1 ⟨A1, c1, rfl, hr1, hd1, hl1, ho1⟩; have R1 := Lib.hid hr1; have D1 := Lib.hid (And.intro hd1 ho1); clear hr1 hd1 hl1 ho1))
  | (go_at_call 56; ((with_reducible refine (Hid.out HN A1 c1 _ R1.out).mono ?_); rintro e w2 ⟨rfl, rfl⟩)))
 go_ret
 exact ⟨rfl, D1.out.1, D1.out.2⟩

set_option maxRecDepth 100000 in
theorem word_ok (g q : Nat) (bs : List UInt8) (w : World) (h : Rdr w g q bs) (hm : 4 ≤ bs.length) :
 Calls Tryz.prog 116 #[.pointer (some ⟨g, 0, none⟩)] w fun e w' => e = .returned (.int .u32 (numb (bs.take 4))) ∧ Rdr w' g q (bs.drop 4) ∧ Only g w w' := by
 have HN : Hid (∀ W, Rdr W g q bs → Calls Tryz.prog 117 #[.pointer (some ⟨g, 0, none⟩), .int .i64 4] W fun e w' => e = .returned (.int .u64 (numb (bs.take 4))) ∧ Rdr w' g q (bs.drop 4) ∧ Only g W w') := Lib.hid fun W hW => number_ok g q 4 bs W hW (by omega) (by omega) hm
 have H := Lib.hid h
 have hlt : numb (bs.take 4) < 4294967296 := by have h2 := numb_lt (bs.take 4); rw [List.length_take, Nat.min_eq_left hm] at h2; exact h2
 obtain ⟨x, hx⟩ : ∃ x, x = numb (bs.take 4) := ⟨_, rfl⟩
 rw [← hx] at HN hlt ⊢
 have e1 : IntKind.u32.wrap (x : Int) = (x : Int) := by rw [IntKind.wrap_u32]; omega
 clear h hx
 go_enter Tryz.func116, Tryz.ntmps116
 go_wp2_with (go_at_call 117; ((with_reducible refine (Hid.out HN _ H.out).mono ?_); rintro e w1 ⟨rfl, hd1⟩; have D1 := Lib.hid hd1; clear hd1))
 go_ret
 exact ⟨rfl, D1.out.1, D1.out.2⟩

theorem signed_ok (x : Nat) (z : Int) (w : World) (h1 : -8388608 ≤ z) (h2 : z < 8388608) (hx : (x : Int) = if z < 0 then z + 16777216 else z) :
 Calls Tryz.prog 138 #[.int .u64 (x : Int)] w fun e w' => e = .returned (.int .i32 z) ∧ w = w' := by
 have hx2 : x < 16777216 := by split at hx <;> omega
 have e1 : IntKind.u32.wrap (x : Int) = (x : Int) := by rw [IntKind.wrap_u32]; omega
 have e2 : wrap32 ((x : Int) * 256) / 256 = z := by
  unfold wrap32; split at hx <;> omega
 clear hx
 go_enter Tryz.func138, Tryz.ntmps138
 go_wp2
 go_ret
 exact ⟨rfl, rfl⟩
end Go.Proofs.YtheefckohnaceaaGreatDoor

namespace Go.Proofs.YtheefckohnaceaaGreatDoor
set_option linter.unusedVariables false

def far (s x : Nat) : Nat := (x + 65536 - s) % 65536
def nameP (s : ByteArray) : Prop := 1 ≤ s.size ∧ s.size ≤ 16 ∧ ∀ (i : Nat) (h : i < s.size), 33 ≤ (s[i]'h).toNat ∧ (s[i]'h).toNat ≤ 126
end Go.Proofs.YtheefckohnaceaaGreatDoor

namespace Go.Proofs.YtheefckohnaceaaGreatDoor
set_option linter.unusedVariables false

structure Rep where
 so : Nat
 fr : Nat
 lo : Int
 hi : Nat
 ji : Nat
 la : Nat
 de : Nat
def Rep.fit (r : Rep) : Prop := r.so < 4294967296 ∧ r.fr < 256 ∧ (-2147483648 ≤ r.lo ∧ r.lo < 2147483648) ∧ r.hi < 4294967296 ∧ r.ji < 4294967296 ∧ r.la < 4294967296 ∧ r.de < 4294967296
def Rep.ok (r : Rep) : Prop := -8388608 ≤ r.lo ∧ r.lo ≤ 8388607
def lo24 (z : Int) : Nat := (if z < 0 then z + 16777216 else z).toNat
theorem lo24_lt (z : Int) (h1 : -8388608 ≤ z) (h2 : z ≤ 8388607) : lo24 z < 16777216 := by unfold lo24; split <;> omega
theorem lo24_is (z : Int) (h1 : -8388608 ≤ z) (h2 : z ≤ 8388607) : (lo24 z : Int) = if z < 0 then z + 16777216 else z := by unfold lo24; split <;> omega
def repB (r : Rep) : List UInt8 := beb 4 r.so ++ (beb 1 r.fr ++ (beb 3 (lo24 r.lo) ++ (beb 4 r.hi ++ (beb 4 r.ji ++ (beb 4 r.la ++ beb 4 r.de)))))
theorem repB_len (r : Rep) : (repB r).length = 24 := by simp [repB, length_beb]
def zb (n : Nat) : Nat := 4 - (6 + n) % 4
def namB (x : Nat × List UInt8) : List UInt8 := beb 4 x.1 ++ (beb 1 1 ++ (beb 1 x.2.length ++ (x.2 ++ List.replicate (zb x.2.length) 0)))
def lossB (x : Nat × Nat) : List UInt8 := beb 2 x.1 ++ beb 2 x.2
def firB (x : Nat × Nat) : List UInt8 := beb 4 x.1 ++ (beb 1 x.2 ++ List.replicate 3 0)
theorem namB_len (x : Nat × List UInt8) : (namB x).length = 6 + x.2.length + zb x.2.length := by simp [namB, length_beb]; omega
theorem lossB_len (x : Nat × Nat) : (lossB x).length = 4 := by simp [lossB, length_beb]
theorem firB_len (x : Nat × Nat) : (firB x).length = 8 := by simp [firB, length_beb]
theorem flat_len {α : Type} (f : α → List UInt8) (n : Nat) (hf : ∀ x, (f x).length = n) : ∀ L : List α, (L.flatMap f).length = n * L.length
 | [] => by simp
 | a :: r => by rw [List.flatMap_cons, List.length_append, hf, flat_len f n hf r, List.length_cons, Nat.mul_succ]; omega
theorem drop_at {α : Type} {L : List α} {k : Nat} (h : k < L.length) : L.drop k = L[k] :: L.drop (k + 1) := List.drop_eq_getElem_cons h
theorem flat_at {α : Type} (f : α → List UInt8) {L : List α} {k : Nat} (h : k < L.length) (tl : List UInt8) : (L.drop k).flatMap f ++ tl = f L[k] ++ ((L.drop (k + 1)).flatMap f ++ tl) := by
 rw [drop_at h, List.flatMap_cons, List.append_assoc]
end Go.Proofs.YtheefckohnaceaaGreatDoor

namespace Go.Proofs.YtheefckohnaceaaGreatDoor
open Go.RowKit
set_option linter.unusedVariables false

theorem Rdr.alloc {w : World} {g q : Nat} {bs : List UInt8} (h : Rdr w g q bs) (o : Obj) : Rdr (w.alloc o) g q bs := h.below ((Below.refl _ _).alloc (Nat.le_refl _) _)


theorem numberB (g q m x : Nat) (tl : List UInt8) (w : World) (h1 : 1 ≤ m) (h8 : m ≤ 8) (hx : x < 256 ^ m) (h : Rdr w g q (beb m x ++ tl)) :
 Calls Tryz.prog 117 #[.pointer (some ⟨g, 0, none⟩), .int .i64 (m : Int)] w fun e w' => e = .returned (.int .u64 (x : Int)) ∧ Rdr w' g q tl ∧ Only g w w' := by
 refine (number_ok g q m _ w h h1 h8 (by simp [length_beb])).mono ?_
 rintro e w' ⟨rfl, h2, h3⟩
 rw [List.take_left' (length_beb m x), numb_beb, Nat.mod_eq_of_lt hx]
 rw [List.drop_left' (length_beb m x)] at h2
 exact ⟨rfl, h2, h3⟩
theorem wordB (g q x : Nat) (tl : List UInt8) (w : World) (hx : x < 4294967296) (h : Rdr w g q (beb 4 x ++ tl)) :
 Calls Tryz.prog 116 #[.pointer (some ⟨g, 0, none⟩)] w fun e w' => e = .returned (.int .u32 (x : Int)) ∧ Rdr w' g q tl ∧ Only g w w' := by
 refine (word_ok g q _ w h (by simp [length_beb])).mono ?_
 rintro e w' ⟨rfl, h2, h3⟩
 rw [List.take_left' (length_beb 4 x), numb_beb, Nat.mod_eq_of_lt (show x < 256 ^ 4 from hx)]
 rw [List.drop_left' (length_beb 4 x)] at h2
 exact ⟨rfl, h2, h3⟩
theorem bytesB (g q : Nat) (bs tl : List UInt8) (w : World) (h : Rdr w g q (bs ++ tl)) (m : Int) (hm : m = bs.length) :
 Calls Tryz.prog 128 #[.pointer (some ⟨g, 0, none⟩), .int .i64 m] w fun e w' => ∃ A c, e = .returned (.slice A bs.length c) ∧ RdS w' A bs.length c bs ∧ Rdr w' g q tl ∧ LoN A bs.length g ∧ Only g w w' := by
 subst hm
 refine (bytes_ok g q bs.length _ w h (by simp)).mono ?_
 rintro e w' ⟨A, c, rfl, h1, h2, h3, h4⟩
 rw [List.take_left] at h1
 rw [List.drop_left] at h2
 exact ⟨A, c, rfl, h1, h2, h3, h4⟩

set_option maxRecDepth 100000 in
set_option maxHeartbeats 400000 in
theorem zerosB (g q n : Nat) (tl : List UInt8) (w : World) (h : Rdr w g q (List.replicate n 0 ++ tl)) :
 Calls Tryz.prog 125 #[.pointer (some ⟨g, 0, none⟩), .int .i64 (n : Int)] w fun e w' => e = .returned (.tuple #[]) ∧ Rdr w' g q tl ∧ Only g w w' := by
 have hb := bytesB g q (List.replicate n 0) tl w h n (by simp)
 rw [List.length_replicate] at hb
 have HB := Lib.hid hb
 have hs := h.small
 rw [List.length_append, List.length_replicate] at hs
 clear hb h
 go_enter Tryz.func125, Tryz.ntmps125
 go_wp2_with (go_at_call 128; ((with_reducible refine (Hid.out HB).mono ?_); rintro e w1 ⟨A, c, rfl, h1, h2, h3, h4⟩; have R1 := Lib.hid h1; have D1 := Lib.hid (And.intro h2 h4); clear h1 h2 h3 h4))
 go_loopw [10] (fun i wx => ∃ k : Nat, k ≤ n ∧ i = .int .i64 k ∧ wx = w1) (fun i _ => n - (intOf i).toNat)
 case atStart => exact ⟨0, by omega, rfl, rfl⟩
 case round =>
  obtain ⟨k, hk, rfl, rfl⟩ := hrel
  by_cases hkn : k < n
  · have hr := R1.out.2.2.2.2
    obtain ⟨b, off, rfl, hlt, hc⟩ := hr (by omega)
    have c1 := hc k hkn
    have e0 : (List.replicate n (0 : UInt8)).getD k 0 = 0 := by simp [List.getD, hkn]
    rw [e0] at c1
    have c2 : wr.cell? ⟨b, off + k, none⟩ = some (.int .u8 0) := c1
    clear hr hc c1 e0
    go_wp2_with (go_at_call 41; ((with_reducible refine (refuse_no _ _ _ ?_).mono ?_); (first | rfl | simp); rintro e w' ⟨rfl, rfl⟩))
    go_roundw
    case rel => exact ⟨k + 1, by omega, by go_num, by trivial⟩
    case measure => simp [intOf]; omega
  · go_wp2
    go_end0
    exact ⟨rfl, D1.out.1, D1.out.2⟩
def NameTold (s : ByteArray) (e : Ending) : Prop := ∃ b : Bool, e = .returned (.bool b) ∧ (b = true ↔ nameP s)
theorem NameTold.no {s : ByteArray} (h : ¬ nameP s) : NameTold s (.returned (.bool false)) := ⟨false, rfl, by simp [h]⟩
theorem NameTold.yes {s : ByteArray} (h : nameP s) : NameTold s (.returned (.bool true)) := ⟨true, rfl, by simp [h]⟩
theorem NameTold.same {s : ByteArray} {e e' : Ending} (h : NameTold s e) (h' : NameTold s e') : ∃ b : Bool, e = .returned (.bool b) ∧ e' = .returned (.bool b) := by
 obtain ⟨b, rfl, hb⟩ := h
 obtain ⟨c, rfl, hc⟩ := h'
 have : b = c := by rw [Bool.eq_iff_iff, hb, hc]
 exact ⟨b, rfl, by rw [this]⟩

theorem iter_below (w : World) (s : ByteArray) (p : Nat) : Below w.heap.size w (w.iter s p) := (Below.refl _ _).alloc (Nat.le_refl _) _

set_option maxRecDepth 100000 in
set_option maxHeartbeats 1000000 in
theorem isname_any (s : ByteArray) (w : World) : Calls Tryz.prog 71 #[.string s] w fun e w' => NameTold s e ∧ Below w.heap.size w w' := by
 obtain ⟨n, hn⟩ : ∃ n, n = s.size := ⟨_, rfl⟩
 by_cases h1 : s.size < 1
 · go_enter Tryz.func71, Tryz.ntmps71
   go_wp2
   go_ret
   exact ⟨NameTold.no (fun hp => by have := hp.1; have := hp.2.1; omega), Below.refl _ _⟩
 · by_cases h2 : 16 < s.size
   · go_enter Tryz.func71, Tryz.ntmps71
     go_wp2
     go_ret
     exact ⟨NameTold.no (fun hp => by have := hp.1; have := hp.2.1; omega), Below.refl _ _⟩
   · go_enter Tryz.func71, Tryz.ntmps71
     go_wp2
     go_loopw [] (fun w' => ∃ (pos : Nat), w' = w.iter s pos ∧ pos ≤ s.size ∧ Hid (∀ j (hj : j < s.size), j < pos → 33 ≤ (s[j]'hj).toNat ∧ (s[j]'hj).toNat ≤ 126)) (fun w' => s.size - w'.iterPos w.heap.size)
     case atStart => exact ⟨0, rfl, by omega, Lib.hid fun j hj h0 => absurd h0 (by omega)⟩
     case round =>
      obtain ⟨pos, rfl, hp, HP⟩ := hrel
      by_cases hps : pos < s.size
      · have hnx : ∀ ty, (Instr.next (.pointer (some ⟨w.heap.size, 0, none⟩)) true ty).run Tryz.prog (w.iter s pos) = _ := fun ty => run_next_any w s pos ty hps
        have hV : Hid (((Utf8.decode s pos).1 < 128 → (s[pos]'hps).toNat = (Utf8.decode s pos).1 ∧ (Utf8.decode s pos).2 = 1) ∧ (128 ≤ (Utf8.decode s pos).1 → 128 ≤ (s[pos]'hps).toNat)) := Lib.hid (by
         by_cases ha : (s[pos]'hps).toNat < 128
         · rw [decode_ascii s pos hps ha]; exact ⟨fun _ => ⟨rfl, rfl⟩, fun h => by omega⟩
         · have h3 := decode_high s pos hps (by omega)
           exact ⟨fun h => by omega, fun _ => by omega⟩)
        have hle := decode_le s pos
        obtain ⟨v, hv⟩ : ∃ v, v = (Utf8.decode s pos).1 := ⟨_, rfl⟩
        obtain ⟨d, hd⟩ : ∃ d, d = (Utf8.decode s pos).2 := ⟨_, rfl⟩
        rw [← hv, ← hd] at hV hnx
        rw [← hv] at hle
        clear hv hd
        have e1 : IntKind.i32.wrap (v : Int) = (v : Int) := by rw [IntKind.wrap_i32]; omega
        by_cases g1 : v < 33
        · have HN : Hid (¬ nameP s) := Lib.hid fun hp2 => by have := hp2.2.2 pos hps; have := hV.out.1 (by omega); omega
          go_wp2
          go_ret
          exact ⟨NameTold.no HN.out, iter_below _ _ _⟩
        · by_cases g2 : 126 < v
          · have HN : Hid (¬ nameP s) := Lib.hid fun hp2 => by
             have := hp2.2.2 pos hps
             by_cases hh : v < 128
             · have := hV.out.1 hh; omega
             · have := hV.out.2 (by omega); omega
            go_wp2
            go_ret
            exact ⟨NameTold.no HN.out, iter_below _ _ _⟩
          · have HQ : Hid (d = 1 ∧ ∀ j (hj : j < s.size), j < pos + 1 → 33 ≤ (s[j]'hj).toNat ∧ (s[j]'hj).toNat ≤ 126) := Lib.hid (by
             have hh := hV.out.1 (by omega)
             refine ⟨hh.2, fun j hj h3 => ?_⟩
             rcases Nat.lt_or_ge j pos with h4 | h4
             · exact HP.out j hj h4
             · obtain rfl : j = pos := by omega
               rw [hh.1]; omega)
            obtain rfl := HQ.out.1
            go_wp2
            go_roundw
            case rel => exact ⟨pos + 1, rfl, by omega, Lib.hid HQ.out.2⟩
            case measure => simp; omega
      · have hnx : ∀ ty, (Instr.next (.pointer (some ⟨w.heap.size, 0, none⟩)) true ty).run Tryz.prog (w.iter s pos) = _ := fun ty => run_next_end w s pos ty hps
        obtain rfl : pos = s.size := by omega
        go_wp2
        go_ret
        exact ⟨NameTold.yes ⟨by omega, by omega, fun j hj => HP.out j hj hj⟩, iter_below _ _ _⟩
set_option maxHeartbeats 1000000 in
theorem check_any (A : Option Addr) (nb c : Nat) (key : List UInt8) (B : Option Addr) (nt ct : Nat) (tag : List UInt8) (ad : Addr) (k cp : Nat) (ps : List (List UInt8)) (w : World) (ht : TabH w) (hw : 0 < w.heap.size) (hr : RdS w A nb c key) (hle : nb ≤ 100000)
 (hrt : RdS w B nt ct tag) (hp : PartsRd w (some ad) k ps) (hk : k ≤ 1000) (hpl : ps.flatten.length ≤ 100000) (t : Bool) (htt : t = decide (1 ≤ nt ∧ nt ≤ 20 ∧ tag = (macFull key ps.flatten).take nt)) :
 Calls Tryz.prog 38 #[.slice A nb c, .slice B nt ct, .slice (some ad) k cp] w fun e w' => e = .returned (.bool t) ∧ Below w.heap.size w w' := by
 have hs := hrt.small
 by_cases h0 : nt < 1
 · have e0 : t = false := by rw [htt]; simp; omega
   subst e0
   have hd : (nt : Int) < 1 := by omega
   go_enter Tryz.func38, Tryz.ntmps38
   go_wp2
   go_ret
   exact ⟨rfl, Below.refl _ _⟩
 by_cases h1 : 20 < nt
 · have e0 : t = false := by rw [htt]; simp; omega
   subst e0
   have hd : (20 : Int) < (nt : Int) := by omega
   have hd1 : decide ((nt : Int) < 1) = false := by simp; omega
   go_enter Tryz.func38, Tryz.ntmps38
   go_wp2
   go_ret
   exact ⟨rfl, Below.refl _ _⟩
 have hd : decide ((20 : Int) < (nt : Int)) = false := by simp; omega
 have hd1 : decide ((nt : Int) < 1) = false := by simp; omega
 have htg := tag_any A nb c key (nt : Int) ad k cp ps w ht hw hr hle (by omega) hp hk hpl
 have hcm := cutN_mid nt (by omega) (by omega)
 have e : tagB (nt : Int) (macFull key ps.flatten) = (macFull key ps.flatten).take nt := by rw [tagB, hcm]
 rw [hcm, e] at htg
 have htt' : t = decide (tag = (macFull key ps.flatten).take nt) := by
  rw [htt]
  congr 1
  simp only [eq_iff_iff]
  exact ⟨fun h => h.2.2, fun h => ⟨by omega, by omega, h⟩⟩
 obtain ⟨T, hT⟩ : ∃ T, T = (macFull key ps.flatten).take nt := ⟨_, rfl⟩
 rw [← hT] at htg htt'
 have HT := Lib.hid htg
 have HE := Lib.hid htt'
 clear htg htt' htt e hcm hT h0 h1
 go_enter Tryz.func38, Tryz.ntmps38
 go_wp2_with (first
  | (go_at_call 31; ((with_reducible refine (Hid.out HT).mono ?_); rintro e w2 ⟨A', rfl, hrd, hb2⟩; have hrt2 := hrt.below hb2))
  | (go_at_call 63; ((with_reducible refine (same_any B nt ct tag A' nt nt T w2 hrt2 hrd t HE.out).mono ?_); rintro e w' ⟨rfl, rfl⟩)))
 go_ret
 exact ⟨rfl, hb2⟩
theorem putW (w0 W : World) (A : Option Addr) (nb c : Nat) (bs : List UInt8) (m x : Nat) (mi : Int) (N : Nat) (hmi : mi = m) (hN : N = nb + m) (hb : Below w0.heap.size w0 W) (hr : RdS W A nb c bs) (h1 : 1 ≤ m) (h2 : m ≤ 8) (hx : x < 18446744073709551616) (hs : nb ≤ 1000000) :
 Calls Tryz.prog 35 #[.slice A nb c, .int .i64 mi, .int .u64 (x : Int)] W fun e w' => ∃ g, e = .returned (.slice (some ⟨g, 0, none⟩) N N) ∧ Blk w' g 5 (bs ++ beb m x) ∧ w0.heap.size ≤ g ∧ Below w0.heap.size w0 w' := by
 subst hmi; subst hN
 exact (put_some A nb c bs m x W hr h1 h2 hx (by omega)).mono fun e w' h => ⟨W.heap.size, h.1, h.2.1, hb.size, hb.trans (h.2.2.mono hb.size)⟩
theorem Blk.rdN {W : World} {g n : Nat} {bs : List UInt8} (h : Blk W g 5 bs) (hn : bs.length = n) (hm : n ≤ 1000000) : RdS W (some ⟨g, 0, none⟩) n n bs :=
 h.rd hn (Nat.le_refl _) (by simp only [maxLen]; omega)
theorem concat2_own (W : World) (A1 A2 : Option Addr) (n1 n2 c1 c2 M : Nat) (p1 p2 BB : List UInt8) (h1 : RdS W A1 n1 c1 p1) (h2 : RdS W A2 n2 c2 p2) (hB : BB = p1 ++ p2) (hM : M = BB.length) (hle : M ≤ 100000) :
 Calls Tryz.prog 24 #[.slice (some ⟨W.heap.size, 0, none⟩) 2 2] (W.alloc (.cells #[.slice A1 n1 c1, .slice A2 n2 c2] 32)) fun e w' => ∃ A' c', e = .returned (.slice A' M c') ∧ BO W w' A' M c' BB := by
 have hf : [p1, p2].flatten = BB := by rw [hB]; simp
 have hfl : [p1, p2].flatten.length = M := by rw [hf, hM]
 refine (concat_any _ 2 2 [p1, p2] _ (parts2 W A1 A2 n1 n2 c1 c2 p1 p2 _ h1 h2) (by omega) (by omega)).mono ?_
 rintro e w' ⟨A', c', rfl, hb⟩
 rw [hfl, hf] at hb
 rw [hfl]
 exact ⟨A', c', rfl, own_mono hb.1 (by rw [← size_alloc]; omega), ((Below.refl _ _).alloc (Nat.le_refl _) _).trans (hb.2.mono (by rw [← size_alloc]; omega))⟩
theorem tab_cell {w : World} (h : TabH w) : ∃ x, w.cell? ⟨1, 0, none⟩ = some (.int .u32 x) := ⟨_, h 0 _ rfl⟩
theorem row2W : RowTy Tryz.prog 90 2 := ⟨_, Tryz.underlying90, rfl, by kernel_rfl⟩
theorem wp_mapW (w : World) {o : Oper} {a : Act} {K : Act → World → Prop} {Q : Exit → Act → World → Prop} (m x v : Operand) (hop : o.op = Op.mapUpdate 64 m x v) (b : Nat) (ws : List (Nat × List Int))
 (hm : a.eval m = .map (some b)) (h : MapW w b ws) (hlt : ∀ y ∈ ws, y.1 < 4294967296) (X : Nat) (hx : a.eval x = .int .u32 (X : Int)) (hX : X < 4294967296) (hh : Int) (p : Nat) (hv : a.eval v = .agg #[.int .i64 hh, .int .u64 (p : Int)]) (L : List Int) (hW : WinS L hh p)
 (hK : ∀ w', MapW w' b (putY ws X L) → Only b w w' → K (a.put o.dst undef) w') : o.wp Tryz.prog a w K Q := by
 obtain ⟨w', hrun, r1, r2⟩ := h.store hlt hX hW
 unfold Oper.wp
 simp [execOp, hop, hm, hx, hv, hrun, Result.andThen]
 exact hK w' r1 r2
section
variable {P : Program} {w : World} {ops : Array Oper} {rest : List Oper} {op : Oper} {a : Act} {Q : Exit → Act → World → Prop}
theorem wpList_built3y (hgd : op.guard = none) (t : TypeId) (i j k : Nat) (x y z : Operand) (ho : op.op = .build t #[(i, x), (j, y), (k, z)]) (u u2 u3 v : Value) (hx : a.eval x = u) (hy : a.eval y = u2) (hz : a.eval z = u3) (hr : (Instr.build t #[(i, u), (j, u2), (k, u3)]).run P w = .ok v w)
 (hK : wpList P ops Q rest (a.put op.dst v) w) : wpList P ops Q (op :: rest) a w := by
 refine wpList_plain hgd fun K hK2 => ?_
 unfold Oper.wp execOp
 simp only [ho, List.map_toArray, List.map_cons, List.map_nil, hx, hy, hz, Sem.run_bind, hr, Result.andThen_ok, Sem.run_pure]
 exact hK2 _ _ hK
end
theorem highW_bd {y : Wy} (h : y.good) (x : Nat) : -1 ≤ highW y.ws x ∧ highW y.ws x < 281474976710656 := by
 rw [highW_win]
 refine ⟨hiL_low _, ?_⟩
 have := hiL_top (L := winW y.ws x) (B := 281474976710655) (fun i hi => ⟨((win_facts h x).2 i hi).1, by have := ((win_facts h x).2 i hi).2; omega⟩) (by omega)
 omega
theorem tab_fr {w w2 : World} {F : Nat → Prop} (ht : TabH w) (hf : Fr F w w2) (hn : ¬ F 1) : TabH w2 := fun j v hv => by
 have hc := ht j v hv
 have hlt := World.block_lt_of_cell? w _ hc
 exact (hf.cell (a := ⟨1, 0 + j, none⟩) hlt hn).trans hc
def z16Y : List UInt8 := List.replicate 16 0
def z14Y : List UInt8 := List.replicate 14 0
theorem zero30Y (w : World) : (zeroValue 25).run Tryz.prog w = .ok (.agg (cells (mst z16Y z14Y)).toArray) w := by kernel_rfl
end Go.Proofs.YtheefckohnaceaaGreatDoor
