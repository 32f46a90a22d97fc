/- Several texts in one: Contracts of package rtcp: how a reader goes along bytes. Contracts of package rtcp: numbers that a reader goes along, and what is behind them; one element more behind a slice of the call's own. What the document's answer for layer 11 (tenailleref11) says of names and rates. Contracts of package rtcp: whether a text is a name. Contracts of package rtcp: what a reader's next one is, and lists of them. Contracts of package rtcp: what the bodies of packets are. No statement is proved here. -/
import Derived.Test.YtacaempcbdekaaaDoorZA
import Derived.WalkLawsBesides
import Derived.Maps.AppendAt
import Derived.Laws.RangeString
import Derived.Laws.RangeAny
import Derived.Deep.RegionHeld3
namespace Go.Proofs.YtacaempcbdekaaaDoor
open Go.RowKit
set_option linter.unusedVariables false

theorem undB : Tryd.prog.underlying 25 = some (.slice (Tryd.prog.elem 25)) := by kernel_rfl
theorem szB : ∀ w, (sizeOf (Tryd.prog.elem 25)).run Tryd.prog w = .ok 1 w := fun w => by kernel_rfl

theorem refuse_no (b : Bool) (c : Int) (w : World) (hb : b = false) : Calls Tryd.prog 24 #[.bool b, .int .i64 c] w fun e w' => e = .returned (.tuple #[]) ∧ w = w' := by
  subst hb
  go_enter Tryd.func24, Tryd.ntmps24
  go_wp2
  go_end0
  exact ⟨rfl, rfl⟩

/-- The first bytes of a slice that reads. -/
theorem RdS.headR {w : World} {A : Option Addr} {n c : Nat} {bs : List UInt8} (h : RdS w A n c bs) (m : Nat) (hm : m ≤ n) : RdS w A m c (bs.take m) := by
  obtain ⟨h1, h2, h3, h4, h5⟩ := h
  refine ⟨by rw [List.length_take]; omega, by omega, h3, h4, fun hn => ?_⟩
  obtain ⟨b, off, hA, hlt, hc⟩ := h5 (by omega)
  refine ⟨b, off, hA, hlt, fun j hj => ?_⟩
  rw [hc j (by omega)]
  simp [List.getD, hj]
theorem RdS.only {w w' : World} {A : Option Addr} {n c g : Nat} {bs : List UInt8} (h : RdS w A n c bs) (ho : Only g w w') (hg : OffN A n g) : RdS w' A n c bs :=
  h.keep ho.grown fun p hp => by injection hp with hp; subst hp; exact hg

/-- A slice of bytes that lie in a block ahead of g, if there are any. -/
def LoN (A : Option Addr) (n g : Nat) : Prop := 0 < n → ∀ ad, A = some ad → ad.block < g
theorem LoN.off {A : Option Addr} {n g p : Nat} (h : LoN A n g) (hp : g ≤ p) : OffN A n p := fun h0 ad hA e => by have := h h0 ad hA; omega
theorem LoN.of_off {A A2 : Option Addr} {n m g : Nat} (h : LoN A n g) (h2 : ∀ p, Off A p → Off A2 p) (hm : m ≤ n) : LoN A2 m g := by
  intro h0 ad hA
  refine Nat.lt_of_not_le fun hle => ?_
  exact h2 ad.block (fun ad' hA' e => by have := h (by omega) ad' hA'; omega) ad hA rfl
theorem RdS.lo {w : World} {A : Option Addr} {n c : Nat} {bs : List UInt8} (h : RdS w A n c bs) {g : Nat} (hg : w.heap.size ≤ g) : LoN A n g := by
  intro h0 ad hA
  obtain ⟨b, off, hA', hlt, _⟩ := h.2.2.2.2 h0
  rw [hA] at hA'
  injection hA' with hA'
  subst hA'
  show b < g
  omega
/-- Block g is a reader with a count q that hasn't gone along bs yet. -/
def Rdr (w : World) (g q : Nat) (bs : List UInt8) : Prop := ∃ A n c, BlkV w g 99 [.int .i64 (q : Int), .slice A n c] ∧ RdS w A n c bs ∧ LoN A n g
theorem Rdr.grown {w w' : World} {g q : Nat} {bs : List UInt8} (h : Rdr w g q bs) {row : Option Nat} (hg : w.grownBy w' row) (hr : ∀ p, row = some p → g < p) : Rdr w' g q bs := by
  obtain ⟨A, n, c, h1, h2, h3⟩ := h
  exact ⟨A, n, c, h1.grown hg (fun e => by have := hr g e.symm; omega), h2.keep hg (fun p hp => h3.off (by have := hr p hp; omega)), h3⟩
theorem Rdr.below {w w' : World} {g q : Nat} {bs : List UInt8} (h : Rdr w g q bs) (hb : Below w.heap.size w w') : Rdr w' g q bs := by
  obtain ⟨A, n, c, h1, h2, h3⟩ := h
  exact ⟨A, n, c, h1.below hb h1.lt, h2.below hb, h3⟩
theorem Rdr.lt {w : World} {g q : Nat} {bs : List UInt8} (h : Rdr w g q bs) : g < w.heap.size := by
  obtain ⟨A, n, c, h1, h2, h3⟩ := h
  exact h1.lt
theorem Rdr.drew {w : World} {g q : Nat} {bs : List UInt8} (h : Rdr w g q bs) : Rdr w.drew g q bs := h
theorem Rdr.small {w : World} {g q : Nat} {bs : List UInt8} (h : Rdr w g q bs) : bs.length ≤ 9223372036854775807 := by
  obtain ⟨A, n, c, h1, h2, h3⟩ := h
  rw [h2.len]; exact h2.small.1

set_option maxRecDepth 100000 in
theorem bytes_ok (g q m : Nat) (bs : List UInt8) (w : World) (h : Rdr w g q bs) (hm : m ≤ bs.length) :
    Calls Tryd.prog 76 #[.pointer (some ⟨g, 0, none⟩), .int .i64 m] w fun e w' => ∃ A c, e = .returned (.slice A m c) ∧ RdS w' A m c (bs.take m) ∧ Rdr w' g q (bs.drop m) ∧ LoN A m g ∧ Only g w w' := by
  obtain ⟨A, n, c, hB, hR, hL⟩ := h
  have hO := hL.off (Nat.le_refl g)
  have hl := hR.len
  have hs := hR.small
  have hmn : m ≤ n := by omega
  have hle := hR.le
  have hc : w.cell? ⟨g, 1, none⟩ = some (.slice A n c) := (hB.cell 1).trans rfl
  have hf := hB.frozen 1
  have hHead := Lib.hid (hR.headR m hmn)
  have HR := Lib.hid hR
  have HO := Lib.hid hO
  have HLo := Lib.hid hL
  have HB := Lib.hid hB
  clear hR hO hB hL
  go_enter Tryd.func76, Tryd.ntmps76
  go_wp2_with (first
    | (go_at_call 24; ((with_reducible refine (refuse_no _ _ _ ?_).mono ?_); (simp; omega); rintro e w' ⟨rfl, rfl⟩))
    | ((with_reducible refine wpList_cut rfl 25 (.tmp 24) (.tmp 25) rfl undB szB A n c bs rfl m _ rfl rfl HR.out hmn ?_); intro A2 hR2 hO2))
  go_ret
  have hS := Lib.hid (HB.out.set_ 1 (.slice A2 (n - m) (c - m)))
  have ho := Only.set w g 1 (.slice A2 (n - m) (c - m))
  refine ⟨A, c, rfl, hHead.out.only ho (fun h0 => HO.out (by omega)), ⟨A2, n - m, c - m, hS.out, hR2.only ho (fun h0 => hO2 g (HO.out (by omega))), HLo.out.of_off hO2 (by omega)⟩, HLo.out.of_off (fun _ h => h) hmn, ho⟩

set_option maxRecDepth 100000 in
theorem number_ok (g q m : Nat) (bs : List UInt8) (w : World) (h : Rdr w g q bs) (h1 : 1 ≤ m) (h8 : m ≤ 8) (hm : m ≤ bs.length) :
    Calls Tryd.prog 65 #[.pointer (some ⟨g, 0, none⟩), .int .i64 m] w fun e w' => e = .returned (.int .u64 (numb (bs.take m))) ∧ Rdr w' g q (bs.drop m) ∧ Only g w w' := by
  have H := Lib.hid h
  have HN : Hid (∀ A1 c1 W, RdS W A1 m c1 (bs.take m) → Calls Tryd.prog 50 #[.slice A1 m c1, .int .i64 0, .int .i64 m] W fun e w' => e = .returned (.tuple #[.int .u64 (numb (bs.take m)), .bool true]) ∧ W = w') := Lib.hid fun A1 c1 W hr => by
    have := num_yes A1 m c1 (bs.take m) 0 m W hr h1 h8 (by omega)
    rw [List.drop_zero, List.take_take, Nat.min_self] at this
    exact this
  clear h
  go_enter Tryd.func65, Tryd.ntmps65
  go_wp2_with (first
    | (go_at_call 76; ((with_reducible refine (bytes_ok g q m bs _ H.out hm).mono ?_); rintro e w1 ⟨A1, c1, rfl, hr1, hd1, hl1, ho1⟩; have R1 := Lib.hid hr1; have D1 := Lib.hid (And.intro hd1 ho1); clear hr1 hd1 hl1 ho1))
    | (go_at_call 50; ((with_reducible refine (Hid.out HN A1 c1 _ R1.out).mono ?_); rintro e w2 ⟨rfl, rfl⟩)))
  go_ret
  exact ⟨rfl, D1.out.1, D1.out.2⟩

set_option maxRecDepth 100000 in
theorem word_ok (g q : Nat) (bs : List UInt8) (w : World) (h : Rdr w g q bs) (hm : 4 ≤ bs.length) :
    Calls Tryd.prog 64 #[.pointer (some ⟨g, 0, none⟩)] w fun e w' => e = .returned (.int .u32 (numb (bs.take 4))) ∧ Rdr w' g q (bs.drop 4) ∧ Only g w w' := by
  have HN : Hid (∀ W, Rdr W g q bs → Calls Tryd.prog 65 #[.pointer (some ⟨g, 0, none⟩), .int .i64 4] W fun e w' => e = .returned (.int .u64 (numb (bs.take 4))) ∧ Rdr w' g q (bs.drop 4) ∧ Only g W w') := Lib.hid fun W hW => number_ok g q 4 bs W hW (by omega) (by omega) hm
  have H := Lib.hid h
  have hlt : numb (bs.take 4) < 4294967296 := by have h2 := numb_lt (bs.take 4); rw [List.length_take, Nat.min_eq_left hm] at h2; exact h2
  obtain ⟨x, hx⟩ : ∃ x, x = numb (bs.take 4) := ⟨_, rfl⟩
  rw [← hx] at HN hlt ⊢
  have e1 : IntKind.u32.wrap (x : Int) = (x : Int) := by rw [IntKind.wrap_u32]; omega
  clear h hx
  go_enter Tryd.func64, Tryd.ntmps64
  go_wp2_with (go_at_call 65; ((with_reducible refine (Hid.out HN _ H.out).mono ?_); rintro e w1 ⟨rfl, hd1⟩; have D1 := Lib.hid hd1; clear hd1))
  go_ret
  exact ⟨rfl, D1.out.1, D1.out.2⟩

theorem signed_ok (x : Nat) (z : Int) (w : World) (h1 : -8388608 ≤ z) (h2 : z < 8388608) (hx : (x : Int) = if z < 0 then z + 16777216 else z) :
    Calls Tryd.prog 78 #[.int .u64 (x : Int)] w fun e w' => e = .returned (.int .i32 z) ∧ w = w' := by
  have hx2 : x < 16777216 := by split at hx <;> omega
  have e1 : IntKind.u32.wrap (x : Int) = (x : Int) := by rw [IntKind.wrap_u32]; omega
  have e2 : wrap32 ((x : Int) * 256) / 256 = z := by
    unfold wrap32; split at hx <;> omega
  clear hx
  go_enter Tryd.func78, Tryd.ntmps78
  go_wp2
  go_ret
  exact ⟨rfl, rfl⟩
end Go.Proofs.YtacaempcbdekaaaDoor

namespace Go.Proofs.YtacaempcbdekaaaDoor
open Go.RowKit
set_option linter.unusedVariables false

theorem grown_then {w w2 w3 : World} {g : Nat} {row : Option Nat} (h : w.grownBy w2 (some g)) (k : w2.grownBy w3 row) (hr : ∀ p, row = some p → w.heap.size ≤ p ∨ p = g) : w.grownBy w3 (some g) :=
  ⟨k.os.trans h.os, k.tape.trans h.tape, k.output.trans h.output, Nat.le_trans h.size k.size, fun i hi hne => (k.block i (Nat.lt_of_lt_of_le hi h.size) (fun e => by
    rcases hr i e.symm with h2 | h2
    · omega
    · exact hne (by rw [h2]))).trans (h.block i hi hne)⟩
theorem grown_self (w : World) (r : Option Nat) : w.grownBy w r := grown_of_below (Below.refl _ _) r
theorem grown_alloc (w : World) (o : Obj) (r : Option Nat) : w.grownBy (w.alloc o) r := grown_of_below ((Below.refl _ _).alloc (Nat.le_refl _) _) r
theorem Rdr.alloc {w : World} {g q : Nat} {bs : List UInt8} (h : Rdr w g q bs) (o : Obj) : Rdr (w.alloc o) g q bs := h.below ((Below.refl _ _).alloc (Nat.le_refl _) _)

/-- What a slice of e, of the type t, is told of: an element has sz cells. -/
def ElT (e t : TypeId) (sz : Nat) : Prop := ∃ (i : TypeInfo) (z : Value), Tryd.prog.underlying t = some (.slice e) ∧ Tryd.prog.info? e = some i ∧ i.zero = some z ∧ i.size = sz ∧ i.bytes ≤ 400 ∧ z.cells.size = sz ∧ 0 < sz
theorem elT {e t : TypeId} {sz by8 : Nat} {z : Value} (hu : Tryd.prog.underlying t = some (.slice e)) (h : (Tryd.prog.info? e).map (fun i => (i.zero, i.size, i.bytes)) = some (some z, sz, by8)) (h8 : by8 ≤ 400) (hz : z.cells.size = sz) (h0 : 0 < sz) : ElT e t sz := by
  generalize hp : Tryd.prog.info? e = p at h
  cases p with
  | none => cases h
  | some i =>
    simp only [Option.map_some, Option.some.injEq, Prod.mk.injEq] at h
    exact ⟨i, z, hu, hp, h.1, h.2.1, by omega, hz, h0⟩
/-- One element is put behind elements of the call's own. -/
theorem wpList_appV {w : World} {ops : Array Oper} {rest : List Oper} {o : Oper} {a : Act} {Q : Exit → Act → World → Prop} (hgd : o.guard = none) (s y : Operand) {t e : TypeId} {sz : Nat} (hE : ElT e t sz)
    (ho : o.op = .call { callee := .builtin .append, args := #[s, y], argTypes := #[t, t] })
    (base : Nat) (v : Value) (n : Nat) (xs : List Value) (hs : a.eval s = v) (hown : w.ownsRow base e sz v n xs) (g : Nat) (hy : a.eval y = .slice (some ⟨g, 0, none⟩) 1 1) (row : List Value) (hrow : row.length = sz) (h1 : ∀ u ∈ row, u.oneCell' = true) {e' : TypeId} (hB : BlkV w g e' row) (hn : n ≤ 1000000) (hbase : base ≤ w.heap.size)
    (h : ∀ v' w', w'.ownsRow base e sz v' (n + 1) (xs ++ row) → w.grownBy w' v.ownBlock → (v'.ownBlock = v.ownBlock ∨ v'.ownBlock = some w.heap.size) → wpList Tryd.prog ops Q rest (a.put o.dst v') w') : wpList Tryd.prog ops Q (o :: rest) a w := by
  obtain ⟨i, z, hu, hi, hz, hsz, hby, hzs, h0⟩ := hE
  refine wpList_append_own_at w hgd s y t ho base e i z sz i.bytes hu hi hz hsz rfl hzs h0 v n xs hs hown ⟨g, 0, none⟩ 1 1 row hy (by omega) ?_ h1 (by simp [maxLen]; omega) ?_ hbase (fun v' w' h1 h2 _ h4 => h v' w' h1 h2 h4)
  · intro j u hj
    rw [add_lit, Nat.zero_add, hB.cell j]
    exact hj
  · have : (n + 1) * i.bytes ≤ 1000001 * 400 := Nat.mul_le_mul (by omega) hby
    omega
theorem own_formN {w : World} {base : Nat} {e : TypeId} {sz : Nat} {v : Value} {n : Nat} {xs : List Value} (h : w.ownsRow base e sz v n xs) : ∃ A c, v = .slice A n c := by
  rcases h.2 with ⟨rfl, rfl⟩ | ⟨g, cap, cur, rfl, _⟩
  · exact ⟨none, 0, rfl⟩
  · exact ⟨_, cap, rfl⟩

/-- A number of m bytes, and what is behind it. -/
theorem numberB (g q m x : Nat) (tl : List UInt8) (w : World) (h1 : 1 ≤ m) (h8 : m ≤ 8) (hx : x < 256 ^ m) (h : Rdr w g q (beb m x ++ tl)) :
    Calls Tryd.prog 65 #[.pointer (some ⟨g, 0, none⟩), .int .i64 (m : Int)] w fun e w' => e = .returned (.int .u64 (x : Int)) ∧ Rdr w' g q tl ∧ Only g w w' := by
  refine (number_ok g q m _ w h h1 h8 (by simp [length_beb])).mono ?_
  rintro e w' ⟨rfl, h2, h3⟩
  rw [List.take_left' (length_beb m x), numb_beb, Nat.mod_eq_of_lt hx]
  rw [List.drop_left' (length_beb m x)] at h2
  exact ⟨rfl, h2, h3⟩
theorem wordB (g q x : Nat) (tl : List UInt8) (w : World) (hx : x < 4294967296) (h : Rdr w g q (beb 4 x ++ tl)) :
    Calls Tryd.prog 64 #[.pointer (some ⟨g, 0, none⟩)] w fun e w' => e = .returned (.int .u32 (x : Int)) ∧ Rdr w' g q tl ∧ Only g w w' := by
  refine (word_ok g q _ w h (by simp [length_beb])).mono ?_
  rintro e w' ⟨rfl, h2, h3⟩
  rw [List.take_left' (length_beb 4 x), numb_beb, Nat.mod_eq_of_lt (show x < 256 ^ 4 from hx)]
  rw [List.drop_left' (length_beb 4 x)] at h2
  exact ⟨rfl, h2, h3⟩
theorem bytesB (g q : Nat) (bs tl : List UInt8) (w : World) (h : Rdr w g q (bs ++ tl)) (m : Int) (hm : m = bs.length) :
    Calls Tryd.prog 76 #[.pointer (some ⟨g, 0, none⟩), .int .i64 m] w fun e w' => ∃ A c, e = .returned (.slice A bs.length c) ∧ RdS w' A bs.length c bs ∧ Rdr w' g q tl ∧ LoN A bs.length g ∧ Only g w w' := by
  subst hm
  refine (bytes_ok g q bs.length _ w h (by simp)).mono ?_
  rintro e w' ⟨A, c, rfl, h1, h2, h3, h4⟩
  rw [List.take_left] at h1
  rw [List.drop_left] at h2
  exact ⟨A, c, rfl, h1, h2, h3, h4⟩

set_option maxRecDepth 100000 in
set_option maxHeartbeats 400000 in
theorem zerosB (g q n : Nat) (tl : List UInt8) (w : World) (h : Rdr w g q (List.replicate n 0 ++ tl)) :
    Calls Tryd.prog 73 #[.pointer (some ⟨g, 0, none⟩), .int .i64 (n : Int)] w fun e w' => e = .returned (.tuple #[]) ∧ Rdr w' g q tl ∧ Only g w w' := by
  have hb := bytesB g q (List.replicate n 0) tl w h n (by simp)
  rw [List.length_replicate] at hb
  have HB := Lib.hid hb
  have hs := h.small
  rw [List.length_append, List.length_replicate] at hs
  clear hb h
  go_enter Tryd.func73, Tryd.ntmps73
  go_wp2_with (go_at_call 76; ((with_reducible refine (Hid.out HB).mono ?_); rintro e w1 ⟨A, c, rfl, h1, h2, h3, h4⟩; have R1 := Lib.hid h1; have D1 := Lib.hid (And.intro h2 h4); clear h1 h2 h3 h4))
  go_loopw [10] (fun i wx => ∃ k : Nat, k ≤ n ∧ i = .int .i64 k ∧ wx = w1) (fun i _ => n - (intOf i).toNat)
  case atStart => exact ⟨0, by omega, rfl, rfl⟩
  case round =>
    obtain ⟨k, hk, rfl, rfl⟩ := hrel
    by_cases hkn : k < n
    · have hr := R1.out.2.2.2.2
      obtain ⟨b, off, rfl, hlt, hc⟩ := hr (by omega)
      have c1 := hc k hkn
      have e0 : (List.replicate n (0 : UInt8)).getD k 0 = 0 := by simp [List.getD, hkn]
      rw [e0] at c1
      have c2 : wr.cell? ⟨b, off + k, none⟩ = some (.int .u8 0) := c1
      clear hr hc c1 e0
      go_wp2_with (go_at_call 24; ((with_reducible refine (refuse_no _ _ _ ?_).mono ?_); (first | rfl | simp); rintro e w' ⟨rfl, rfl⟩))
      go_roundw
      case rel => exact ⟨k + 1, by omega, by go_num, by trivial⟩
      case measure => simp [intOf]; omega
    · go_wp2
      go_end0
      exact ⟨rfl, D1.out.1, D1.out.2⟩
end Go.Proofs.YtacaempcbdekaaaDoor

namespace Go.Proofs.YtacaempcbdekaaaDoor
open Go.RowKit
set_option linter.unusedVariables false

/-- What is told of a text: whether it is a name. -/
def NameTold (s : ByteArray) (e : Ending) : Prop := ∃ b : Bool, e = .returned (.bool b) ∧ (b = true ↔ nameP s)
theorem NameTold.no {s : ByteArray} (h : ¬ nameP s) : NameTold s (.returned (.bool false)) := ⟨false, rfl, by simp [h]⟩
theorem NameTold.yes {s : ByteArray} (h : nameP s) : NameTold s (.returned (.bool true)) := ⟨true, rfl, by simp [h]⟩
/-- Two that tell it tell one. -/
theorem NameTold.same {s : ByteArray} {e e' : Ending} (h : NameTold s e) (h' : NameTold s e') : ∃ b : Bool, e = .returned (.bool b) ∧ e' = .returned (.bool b) := by
  obtain ⟨b, rfl, hb⟩ := h
  obtain ⟨c, rfl, hc⟩ := h'
  have : b = c := by rw [Bool.eq_iff_iff, hb, hc]
  exact ⟨b, rfl, by rw [this]⟩

set_option maxRecDepth 100000 in
set_option maxHeartbeats 1000000 in
theorem rname_any (s : ByteArray) (w : World) : Calls Tryd.prog 13 #[.string s] w fun e w' => NameTold s e ∧ w = w' := by
  obtain ⟨n, hn⟩ : ∃ n, n = s.size := ⟨_, rfl⟩
  by_cases h1 : s.size < 1
  · go_enter Tryd.func13, Tryd.ntmps13
    go_wp2
    go_ret
    exact ⟨NameTold.no (fun hp => by have := hp.1; have := hp.2.1; omega), rfl⟩
  · by_cases h2 : 16 < s.size
    · go_enter Tryd.func13, Tryd.ntmps13
      go_wp2
      go_ret
      exact ⟨NameTold.no (fun hp => by have := hp.1; have := hp.2.1; omega), rfl⟩
    · go_enter Tryd.func13, Tryd.ntmps13
      go_wp2
      go_loopw [3] (fun i wr => wr = w ∧ ∃ k : Nat, k ≤ s.size ∧ i = .int .i64 k ∧ ∀ (j : Nat) (h : j < s.size), j < k → 33 ≤ (s[j]'h).toNat ∧ (s[j]'h).toNat ≤ 126) (fun i _ => s.size - (intOf i).toNat)
      case atStart => exact ⟨rfl, 0, by omega, rfl, fun j h hj => absurd hj (by omega)⟩
      case round =>
        obtain ⟨rfl, k, hk, rfl, hok⟩ := hrel
        have HOK := Lib.hid hok
        clear hok
        by_cases hkn : k < s.size
        · by_cases c1 : (s[k]'hkn).toNat < 33
          · go_wp2
            go_ret
            exact ⟨NameTold.no (fun hp => by have := (hp.2.2 k hkn).1; omega), rfl⟩
          · by_cases c2 : 126 < (s[k]'hkn).toNat
            · go_wp2
              go_ret
              exact ⟨NameTold.no (fun hp => by have := (hp.2.2 k hkn).2; omega), rfl⟩
            · go_wp2
              go_roundw
              case rel =>
                refine ⟨by trivial, k + 1, by omega, by go_num, fun j h hj => ?_⟩
                rcases Nat.lt_or_ge j k with hjk | hjk
                · exact HOK.out j h hjk
                · obtain rfl : j = k := by omega
                  exact ⟨by omega, by omega⟩
              case measure => simp [intOf]; omega
        · have hke : k = s.size := by omega
          go_wp2
          go_ret
          exact ⟨NameTold.yes ⟨by omega, by omega, fun i h => HOK.out i h (by omega)⟩, rfl⟩
end Go.Proofs.YtacaempcbdekaaaDoor

namespace Go.Proofs.YtacaempcbdekaaaDoor
open Go.RowKit
set_option linter.unusedVariables false

theorem iter_below (w : World) (s : ByteArray) (p : Nat) : Below w.heap.size w (w.iter s p) := (Below.refl _ _).alloc (Nat.le_refl _) _

set_option maxRecDepth 100000 in
set_option maxHeartbeats 1000000 in
theorem isname_any (s : ByteArray) (w : World) : Calls Tryd.prog 12 #[.string s] w fun e w' => NameTold s e ∧ Below w.heap.size w w' := by
  obtain ⟨n, hn⟩ : ∃ n, n = s.size := ⟨_, rfl⟩
  by_cases h1 : s.size < 1
  · go_enter Tryd.func12, Tryd.ntmps12
    go_wp2
    go_ret
    exact ⟨NameTold.no (fun hp => by have := hp.1; have := hp.2.1; omega), Below.refl _ _⟩
  · by_cases h2 : 16 < s.size
    · go_enter Tryd.func12, Tryd.ntmps12
      go_wp2
      go_ret
      exact ⟨NameTold.no (fun hp => by have := hp.1; have := hp.2.1; omega), Below.refl _ _⟩
    · go_enter Tryd.func12, Tryd.ntmps12
      go_wp2
      go_loopw [] (fun w' => ∃ (pos : Nat), w' = w.iter s pos ∧ pos ≤ s.size ∧ Hid (∀ j (hj : j < s.size), j < pos → 33 ≤ (s[j]'hj).toNat ∧ (s[j]'hj).toNat ≤ 126)) (fun w' => s.size - w'.iterPos w.heap.size)
      case atStart => exact ⟨0, rfl, by omega, Lib.hid fun j hj h0 => absurd h0 (by omega)⟩
      case round =>
        obtain ⟨pos, rfl, hp, HP⟩ := hrel
        by_cases hps : pos < s.size
        · have hnx : ∀ ty, (Instr.next (.pointer (some ⟨w.heap.size, 0, none⟩)) true ty).run Tryd.prog (w.iter s pos) = _ := fun ty => run_next_any w s pos ty hps
          have hV : Hid (((Utf8.decode s pos).1 < 128 → (s[pos]'hps).toNat = (Utf8.decode s pos).1 ∧ (Utf8.decode s pos).2 = 1) ∧ (128 ≤ (Utf8.decode s pos).1 → 128 ≤ (s[pos]'hps).toNat)) := Lib.hid (by
            by_cases ha : (s[pos]'hps).toNat < 128
            · rw [decode_ascii s pos hps ha]; exact ⟨fun _ => ⟨rfl, rfl⟩, fun h => by omega⟩
            · have h3 := decode_high s pos hps (by omega)
              exact ⟨fun h => by omega, fun _ => by omega⟩)
          have hle := decode_le s pos
          obtain ⟨v, hv⟩ : ∃ v, v = (Utf8.decode s pos).1 := ⟨_, rfl⟩
          obtain ⟨d, hd⟩ : ∃ d, d = (Utf8.decode s pos).2 := ⟨_, rfl⟩
          rw [← hv, ← hd] at hV hnx
          rw [← hv] at hle
          clear hv hd
          have e1 : IntKind.i32.wrap (v : Int) = (v : Int) := by rw [IntKind.wrap_i32]; omega
          by_cases g1 : v < 33
          · have HN : Hid (¬ nameP s) := Lib.hid fun hp2 => by have := hp2.2.2 pos hps; have := hV.out.1 (by omega); omega
            go_wp2
            go_ret
            exact ⟨NameTold.no HN.out, iter_below _ _ _⟩
          · by_cases g2 : 126 < v
            · have HN : Hid (¬ nameP s) := Lib.hid fun hp2 => by
                have := hp2.2.2 pos hps
                by_cases hh : v < 128
                · have := hV.out.1 hh; omega
                · have := hV.out.2 (by omega); omega
              go_wp2
              go_ret
              exact ⟨NameTold.no HN.out, iter_below _ _ _⟩
            · have HQ : Hid (d = 1 ∧ ∀ j (hj : j < s.size), j < pos + 1 → 33 ≤ (s[j]'hj).toNat ∧ (s[j]'hj).toNat ≤ 126) := Lib.hid (by
                have hh := hV.out.1 (by omega)
                refine ⟨hh.2, fun j hj h3 => ?_⟩
                rcases Nat.lt_or_ge j pos with h4 | h4
                · exact HP.out j hj h4
                · obtain rfl : j = pos := by omega
                  rw [hh.1]; omega)
              obtain rfl := HQ.out.1
              go_wp2
              go_roundw
              case rel => exact ⟨pos + 1, rfl, by omega, Lib.hid HQ.out.2⟩
              case measure => simp; omega
        · have hnx : ∀ ty, (Instr.next (.pointer (some ⟨w.heap.size, 0, none⟩)) true ty).run Tryd.prog (w.iter s pos) = _ := fun ty => run_next_end w s pos ty hps
          obtain rfl : pos = s.size := by omega
          go_wp2
          go_ret
          exact ⟨NameTold.yes ⟨by omega, by omega, fun j hj => HP.out j hj hj⟩, iter_below _ _ _⟩
end Go.Proofs.YtacaempcbdekaaaDoor

namespace Go.Proofs.YtacaempcbdekaaaDoor
open Go.RowKit
set_option linter.unusedVariables false

/-- A call under way that goes along a reader: what is there, a cell for its result (block w0's next), and how far it is. -/
def StG (w0 : World) (g q : Nat) (e : TypeId) (z : List Value) (bs : List UInt8) (w : World) : Prop := g < w0.heap.size ∧ Rdr w g q bs ∧ w0.grownBy w (some g) ∧ BlkV w w0.heap.size e z
theorem StG.start {w0 : World} {g q : Nat} {bs : List UInt8} (h : Rdr w0 g q bs) (e : TypeId) (z : List Value) (C : Array Value) (hC : C = z.toArray) : StG w0 g q e z bs (w0.alloc (.cells C e)) := by
  subst hC
  exact ⟨h.lt, h.alloc _, grown_alloc _ _ _, BlkV.new _ _ _⟩
theorem StG.only {w0 w w' : World} {g q : Nat} {e : TypeId} {z : List Value} {bs bs' : List UInt8} (h : StG w0 g q e z bs w) (hr : Rdr w' g q bs') (ho : Only g w w') : StG w0 g q e z bs' w' :=
  ⟨h.1, hr, grown_then h.2.2.1 ho.grown (fun p hp => .inr (by injection hp with hp; exact hp.symm)), h.2.2.2.only ho (by have := h.1; omega)⟩
theorem StG.grow {w0 w w' : World} {g q : Nat} {e : TypeId} {z : List Value} {bs bs' : List UInt8} (h : StG w0 g q e z bs w) (hr : Rdr w' g q bs') (ho : w.grownBy w' (some g)) : StG w0 g q e z bs' w' :=
  ⟨h.1, hr, grown_then h.2.2.1 ho (fun p hp => .inr (by injection hp with hp; exact hp.symm)), h.2.2.2.grown ho (by have := h.1; intro e; injection e with e; omega)⟩
theorem StG.below {w0 w w' : World} {g q : Nat} {e : TypeId} {z : List Value} {bs : List UInt8} (h : StG w0 g q e z bs w) (hb : Below w.heap.size w w') : StG w0 g q e z bs w' :=
  ⟨h.1, h.2.1.below hb, grown_then h.2.2.1 (grown_of_below hb none) (fun p hp => by cases hp), h.2.2.2.below hb h.2.2.2.lt⟩
/-- The result laid, the call is over. -/
theorem StG.over {w0 w w' : World} {g q : Nat} {e : TypeId} {z : List Value} {bs : List UInt8} (h : StG w0 g q e z bs w) (ho : Only w0.heap.size w w') : Rdr w' g q bs ∧ w0.grownBy w' (some g) :=
  ⟨h.2.1.grown ho.grown (fun p hp => by injection hp with hp; have := h.1; omega), grown_then h.2.2.1 ho.grown (fun p hp => .inl (by injection hp with hp; omega))⟩
theorem wordS {w0 w : World} {g q x : Nat} {e : TypeId} {z : List Value} {tl : List UInt8} (hx : x < 4294967296) (h : StG w0 g q e z (beb 4 x ++ tl) w) :
    Calls Tryd.prog 64 #[.pointer (some ⟨g, 0, none⟩)] w fun r w' => r = .returned (.int .u32 (x : Int)) ∧ StG w0 g q e z tl w' :=
  (wordB g q x tl w hx h.2.1).mono fun r w' hh => ⟨hh.1, h.only hh.2.1 hh.2.2⟩
theorem numberS {w0 w : World} {g q x : Nat} {e : TypeId} {z : List Value} {tl : List UInt8} (m : Nat) (mi : Int) (hmi : mi = m) (h1 : 1 ≤ m) (h8 : m ≤ 8) (hx : x < 256 ^ m) (h : StG w0 g q e z (beb m x ++ tl) w) :
    Calls Tryd.prog 65 #[.pointer (some ⟨g, 0, none⟩), .int .i64 mi] w fun r w' => r = .returned (.int .u64 (x : Int)) ∧ StG w0 g q e z tl w' := by
  subst hmi
  exact (numberB g q m x tl w h1 h8 hx h.2.1).mono fun r w' hh => ⟨hh.1, h.only hh.2.1 hh.2.2⟩
theorem zerosI (g q n : Nat) (tl : List UInt8) (w : World) (mi : Int) (hmi : mi = n) (h : Rdr w g q (List.replicate n 0 ++ tl)) :
    Calls Tryd.prog 73 #[.pointer (some ⟨g, 0, none⟩), .int .i64 mi] w fun e w' => e = .returned (.tuple #[]) ∧ Rdr w' g q tl ∧ Only g w w' := by
  subst hmi; exact zerosB g q n tl w h
theorem zerosS {w0 w : World} {g q n : Nat} {e : TypeId} {z : List Value} {tl : List UInt8} (mi : Int) (hmi : mi = n) (h : StG w0 g q e z (List.replicate n 0 ++ tl) w) :
    Calls Tryd.prog 73 #[.pointer (some ⟨g, 0, none⟩), .int .i64 mi] w fun r w' => r = .returned (.tuple #[]) ∧ StG w0 g q e z tl w' := by
  subst hmi
  exact (zerosB g q n tl w h.2.1).mono fun r w' hh => ⟨hh.1, h.only hh.2.1 hh.2.2⟩
theorem bytesS {w0 w : World} {g q : Nat} {e : TypeId} {z : List Value} {bs tl : List UInt8} (mi : Int) (hmi : mi = bs.length) (h : StG w0 g q e z (bs ++ tl) w) :
    Calls Tryd.prog 76 #[.pointer (some ⟨g, 0, none⟩), .int .i64 mi] w fun r w' => ∃ A c, r = .returned (.slice A bs.length c) ∧ RdS w' A bs.length c bs ∧ StG w0 g q e z tl w' :=
  (bytesB g q bs tl w h.2.1 mi hmi).mono fun r w' ⟨A, c, h1, h2, h3, h4, h5⟩ => ⟨A, c, h1, h2, h.only h3 h5⟩
theorem refuseS (b : Bool) (c : Int) (w : World) (hb : b = false) : Calls Tryd.prog 24 #[.bool b, .int .i64 c] w fun e w' => e = .returned (.tuple #[]) ∧ w = w' := refuse_no b c w hb

def cRep (x : Rep) : List Value := [.int .u32 (x.so : Int), .int .u8 (x.fr : Int), .int .i32 x.lo, .int .u32 (x.hi : Int), .int .u32 (x.ji : Int), .int .u32 (x.la : Int), .int .u32 (x.de : Int)]
theorem cRep_one (x : Rep) : ∀ v ∈ cRep x, v.oneCell' = true := by intro v hv; simp [cRep] at hv; rcases hv with rfl | rfl | rfl | rfl | rfl | rfl | rfl <;> rfl
abbrev zRep : List Value := [.int .u32 0, .int .u8 0, .int .i32 0, .int .u32 0, .int .u32 0, .int .u32 0, .int .u32 0]
theorem elRep : ElT 74 45 7 := elT (z := .agg #[.int .u32 0, .int .u8 0, .int .i32 0, .int .u32 0, .int .u32 0, .int .u32 0, .int .u32 0]) (by8 := 28) (by kernel_rfl) (by kernel_rfl) (by decide) rfl (by decide)
theorem rowRep {cs : List Value} (h : cs.length = 7) : RowTy Tryd.prog 74 cs.length := by
  rw [h]; exact ⟨_, Tryd.underlying74, rfl, by kernel_rfl⟩
theorem zeroRep (w : World) : (zeroValue 74).run Tryd.prog w = .ok (.agg #[.int .u32 0, .int .u8 0, .int .i32 0, .int .u32 0, .int .u32 0, .int .u32 0, .int .u32 0]) w := by kernel_rfl
def cNam (x : (Nat × List UInt8)) : List Value := [.int .u32 (x.1 : Int), .string (txt x.2)]
theorem cNam_one (x : (Nat × List UInt8)) : ∀ v ∈ cNam x, v.oneCell' = true := by intro v hv; simp [cNam] at hv; rcases hv with rfl | rfl <;> rfl
abbrev zNam : List Value := [.int .u32 0, .string ⟨#[]⟩]
theorem elNam : ElT 52 46 2 := elT (z := .agg #[.int .u32 0, .string ⟨#[]⟩]) (by8 := 24) (by kernel_rfl) (by kernel_rfl) (by decide) rfl (by decide)
theorem rowNam {cs : List Value} (h : cs.length = 2) : RowTy Tryd.prog 52 cs.length := by
  rw [h]; exact ⟨_, Tryd.underlying52, rfl, by kernel_rfl⟩
theorem zeroNam (w : World) : (zeroValue 52).run Tryd.prog w = .ok (.agg #[.int .u32 0, .string ⟨#[]⟩]) w := by kernel_rfl
def cLos (x : (Nat × Nat)) : List Value := [.int .u16 (x.1 : Int), .int .u16 (x.2 : Int)]
theorem cLos_one (x : (Nat × Nat)) : ∀ v ∈ cLos x, v.oneCell' = true := by intro v hv; simp [cLos] at hv; rcases hv with rfl | rfl <;> rfl
abbrev zLos : List Value := [.int .u16 0, .int .u16 0]
theorem elLos : ElT 41 35 2 := elT (z := .agg #[.int .u16 0, .int .u16 0]) (by8 := 4) (by kernel_rfl) (by kernel_rfl) (by decide) rfl (by decide)
theorem rowLos {cs : List Value} (h : cs.length = 2) : RowTy Tryd.prog 41 cs.length := by
  rw [h]; exact ⟨_, Tryd.underlying41, rfl, by kernel_rfl⟩
theorem zeroLos (w : World) : (zeroValue 41).run Tryd.prog w = .ok (.agg #[.int .u16 0, .int .u16 0]) w := by kernel_rfl
def cFir (x : (Nat × Nat)) : List Value := [.int .u32 (x.1 : Int), .int .u8 (x.2 : Int)]
theorem cFir_one (x : (Nat × Nat)) : ∀ v ∈ cFir x, v.oneCell' = true := by intro v hv; simp [cFir] at hv; rcases hv with rfl | rfl <;> rfl
abbrev zFir : List Value := [.int .u32 0, .int .u8 0]
theorem elFir : ElT 76 48 2 := elT (z := .agg #[.int .u32 0, .int .u8 0]) (by8 := 8) (by kernel_rfl) (by kernel_rfl) (by decide) rfl (by decide)
theorem rowFir {cs : List Value} (h : cs.length = 2) : RowTy Tryd.prog 76 cs.length := by
  rw [h]; exact ⟨_, Tryd.underlying76, rfl, by kernel_rfl⟩
theorem zeroFir (w : World) : (zeroValue 76).run Tryd.prog w = .ok (.agg #[.int .u32 0, .int .u8 0]) w := by kernel_rfl
def cSrc (x : Nat) : List Value := [.int .u32 (x : Int)]
theorem cSrc_one (x : Nat) : ∀ v ∈ cSrc x, v.oneCell' = true := by intro v hv; simp [cSrc] at hv; rcases hv with rfl <;> rfl
abbrev zSrc : List Value := [.int .u32 0]
theorem elSrc : ElT 43 47 1 := elT (z := .int .u32 0) (by8 := 4) (by kernel_rfl) (by kernel_rfl) (by decide) rfl (by decide)
set_option maxRecDepth 100000 in
set_option maxHeartbeats 400000 in
theorem rep_next (g q : Nat) (x : Rep) (tl : List UInt8) (w : World) (hx : x.fit ∧ x.ok) (h : Rdr w g q (repB x ++ tl)) :
    Calls Tryd.prog 67 #[.pointer (some ⟨g, 0, none⟩)] w fun r w' => r = .returned (.agg (cRep x).toArray) ∧ Rdr w' g q tl ∧ w.grownBy w' (some g) := by
  obtain ⟨so, fr, lo, hi, ji, la, de⟩ := x
  obtain ⟨⟨l1, l2, _, l4, l5, l6, l7⟩, h1, h2⟩ := hx
  simp only at l1 l2 l4 l5 l6 l7 h1 h2
  have l3 : lo24 lo < 256 ^ 3 := lo24_lt lo h1 h2
  have l3b := lo24_is lo h1 h2
  have h2 : lo < 8388608 := by omega
  have L3 := Lib.hid l3b
  clear l3b
  have e1 : IntKind.u8.wrap (fr : Int) = (fr : Int) := by rw [IntKind.wrap_u8]; omega
  have hz := zeroRep
  have S0 := Lib.hid (StG.start h 74 zRep #[.int .u32 0, .int .u8 0, .int .i32 0, .int .u32 0, .int .u32 0, .int .u32 0, .int .u32 0] rfl)
  simp only [repB, List.append_assoc] at S0
  generalize lo24 lo = L at S0 l3 L3
  clear h
  go_enter Tryd.func67, Tryd.ntmps67
  go_wp2_with (first
    | (go_at_call 64; ((with_reducible refine (wordS l1 S0.out).mono ?_); rintro e w1 ⟨rfl, hs⟩; have S1 := Lib.hid hs; clear hs))
    | (go_at_call 65; ((with_reducible refine (numberS 1 _ (by omega) (by omega) (by omega) l2 S1.out).mono ?_); rintro e w2 ⟨rfl, hs⟩; have S2 := Lib.hid hs; clear hs))
    | (go_at_call 65; ((with_reducible refine (numberS 3 _ (by omega) (by omega) (by omega) l3 S2.out).mono ?_); rintro e w3 ⟨rfl, hs⟩; have S3 := Lib.hid hs; clear hs))
    | (go_at_call 78; ((with_reducible refine (signed_ok _ lo _ h1 h2 L3.out).mono ?_); rintro e w3b ⟨rfl, rfl⟩))
    | (go_at_call 64; ((with_reducible refine (wordS l4 S3.out).mono ?_); rintro e w4 ⟨rfl, hs⟩; have S4 := Lib.hid hs; clear hs))
    | (go_at_call 64; ((with_reducible refine (wordS l5 S4.out).mono ?_); rintro e w5 ⟨rfl, hs⟩; have S5 := Lib.hid hs; clear hs))
    | (go_at_call 64; ((with_reducible refine (wordS l6 S5.out).mono ?_); rintro e w6 ⟨rfl, hs⟩; have S6 := Lib.hid hs; clear hs))
    | (go_at_call 64; ((with_reducible refine (wordS l7 S6.out).mono ?_); rintro e w7 ⟨rfl, hs⟩; have S7 := Lib.hid hs; clear hs))
    | ((refine wpList_st rfl 74 (.tmp 2) (.tmp 19) rfl w.heap.size 0 (cRep ⟨so, fr, lo, hi, ji, la, de⟩) rfl (by with_unfolding_all rfl) 74 zRep S7.out.2.2.2 (Nat.le_refl 7) (rowRep rfl) (cRep_one _) ?_); intro w9 hB9 ho9; rw [splice_all _ _ (by rfl)] at hB9))
  refine ret_row rfl rfl hB9 (rowRep rfl) rfl ?_
  exact ⟨rfl, S7.out.over ho9⟩

set_option maxRecDepth 100000 in
set_option maxHeartbeats 400000 in
theorem los_next (g q : Nat) (x : (Nat × Nat)) (tl : List UInt8) (w : World) (hx : x.1 < 65536 ∧ x.2 < 65536) (h : Rdr w g q (lossB x ++ tl)) :
    Calls Tryd.prog 72 #[.pointer (some ⟨g, 0, none⟩)] w fun r w' => r = .returned (.agg (cLos x).toArray) ∧ Rdr w' g q tl ∧ w.grownBy w' (some g) := by
  obtain ⟨s, b⟩ := x
  obtain ⟨l1, l2⟩ := hx
  simp only at l1 l2
  have e1 : IntKind.u16.wrap (s : Int) = (s : Int) := by rw [IntKind.wrap_u16]; omega
  have e2 : IntKind.u16.wrap (b : Int) = (b : Int) := by rw [IntKind.wrap_u16]; omega
  have hz := zeroLos
  have S0 := Lib.hid (StG.start h 41 zLos #[.int .u16 0, .int .u16 0] rfl)
  simp only [lossB, List.append_assoc] at S0
  clear h
  go_enter Tryd.func72, Tryd.ntmps72
  go_wp2_with (first
    | (go_at_call 65; ((with_reducible refine (numberS 2 _ (by omega) (by omega) (by omega) l1 S0.out).mono ?_); rintro e w1 ⟨rfl, hs⟩; have S1 := Lib.hid hs; clear hs))
    | (go_at_call 65; ((with_reducible refine (numberS 2 _ (by omega) (by omega) (by omega) l2 S1.out).mono ?_); rintro e w2 ⟨rfl, hs⟩; have S2 := Lib.hid hs; clear hs))
    | ((refine wpList_st rfl 41 (.tmp 2) (.tmp 9) rfl w.heap.size 0 (cLos (s, b)) rfl (by with_unfolding_all rfl) 41 zLos S2.out.2.2.2 (Nat.le_refl 2) (rowLos rfl) (cLos_one _) ?_); intro w9 hB9 ho9; rw [splice_all _ _ (by rfl)] at hB9))
  refine ret_row rfl rfl hB9 (rowLos rfl) rfl ?_
  exact ⟨rfl, S2.out.over ho9⟩

theorem NameTold.yes_of {s : ByteArray} {e : Ending} (h : NameTold s e) (hn : nameP s) : e = .returned (.bool true) := by
  obtain ⟨b, rfl, hb⟩ := h
  rw [hb.2 hn]
theorem zerosBehind_any (t : List UInt8) (w : World) (ht : t.length ≤ 1000) : Calls Tryd.prog 55 #[.string (txt t)] w fun e w' => e = .returned (.int .i64 (zb t.length : Nat)) ∧ w = w' := by
  have hsz : (txt t).size = t.length := by simp [txt, ByteArray.size]
  have e1 : IntKind.i64.wrap (6 + (t.length : Int)) = ((6 + t.length : Nat) : Int) := by rw [IntKind.wrap_i64]; omega
  obtain ⟨n, hn⟩ : ∃ n, n = t.length := ⟨_, rfl⟩
  obtain ⟨s, hs⟩ : ∃ s, s = txt t := ⟨_, rfl⟩
  rw [← hn] at hsz ht e1 ⊢
  rw [← hs] at hsz ⊢
  have e4 : (4 - ((6 + n : Nat) : Int) % 4) = (zb n : Int) := by unfold zb; omega
  generalize 6 + n = m at e1 e4
  generalize zb n = z at e4 ⊢
  clear hn hs
  go_enter Tryd.func55, Tryd.ntmps55
  go_wp2
  go_ret
  exact ⟨rfl, rfl⟩
set_option maxRecDepth 100000 in
set_option maxHeartbeats 400000 in
theorem nam_next (g q : Nat) (x : (Nat × List UInt8)) (tl : List UInt8) (w : World) (hx : x.1 < 4294967296 ∧ nameP (txt x.2)) (h : Rdr w g q (namB x ++ tl)) :
    Calls Tryd.prog 69 #[.pointer (some ⟨g, 0, none⟩)] w fun r w' => r = .returned (.agg (cNam x).toArray) ∧ Rdr w' g q tl ∧ w.grownBy w' (some g) := by
  obtain ⟨s, t⟩ := x
  obtain ⟨l1, hn⟩ := hx
  simp only at l1 hn
  have hN := hn
  obtain ⟨n1, n2, _⟩ := hn
  have hsz : (txt t).size = t.length := by simp [txt, ByteArray.size]
  rw [hsz] at n1 n2
  have l2 : t.length < 256 ^ 1 := by omega
  have HN := Lib.hid hN
  have HSZ := Lib.hid hsz
  obtain ⟨T, hT⟩ : ∃ T, T = t.length := ⟨_, rfl⟩
  have HT := Lib.hid hT
  have HT2 : Hid (t.length ≤ 1000) := Lib.hid (by omega)
  have hz := zeroNam
  have S0 := Lib.hid (StG.start h 52 zNam #[.int .u32 0, .string ⟨#[]⟩] rfl)
  simp only [namB, List.append_assoc] at S0
  clear h
  go_enter Tryd.func69, Tryd.ntmps69
  go_wp2_with (first
    | (go_at_call 64; ((with_reducible refine (wordS l1 S0.out).mono ?_); rintro e w1 ⟨rfl, hs⟩; have S1 := Lib.hid hs; clear hs))
    | (go_at_call 65; ((with_reducible refine (numberS 1 _ (by omega) (by omega) (by omega) (show 1 < 256 ^ 1 by omega) S1.out).mono ?_); rintro e w2 ⟨rfl, hs⟩; have S2 := Lib.hid hs; clear hs))
    | (go_at_call 24; ((with_reducible refine (refuse_no _ _ _ ?_).mono ?_); (first | rfl | simp); rintro e wx ⟨rfl, rfl⟩))
    | (go_at_call 65; ((with_reducible refine (numberS 1 _ (by omega) (by omega) (by omega) l2 S2.out).mono ?_); rintro e w3 ⟨rfl, hs⟩; have S3 := Lib.hid hs; clear hs))
    | (go_at_call 76; ((with_reducible refine (bytesS _ (by first | rfl | omega) S3.out).mono ?_); rintro e w4 ⟨A4, c4, rfl, hr4, hs⟩; have S4 := Lib.hid hs; have v1 := run_conv hr4 25 9 5 Tryd.underlying25 Tryd.underlying5 Tryd.underlying9; clear hs hr4))
    | (go_at_call 12; ((with_reducible refine (isname_any _ _).mono ?_); rintro e w5 ⟨hq, hb⟩; obtain rfl := hq.yes_of HN.out; have S5 := Lib.hid (S4.out.below hb); clear hq hb v1))
    | (go_at_call 55; ((with_reducible refine (zerosBehind_any t _ HT2.out).mono ?_); rintro e wy ⟨rfl, rfl⟩))
    | (go_at_call 73; ((with_reducible refine (zerosS _ (by first | rfl | omega) S5.out).mono ?_); rintro e w6 ⟨rfl, hs⟩; have S6 := Lib.hid hs; clear hs))
    | ((refine wpList_st rfl 52 (.tmp 2) (.tmp 27) rfl w.heap.size 0 (cNam (s, t)) rfl (by with_unfolding_all rfl) 52 zNam S6.out.2.2.2 (Nat.le_refl 2) (rowNam rfl) (cNam_one _) ?_); intro w9 hB9 ho9; rw [splice_all _ _ (by rfl)] at hB9))
  refine ret_row rfl rfl hB9 (rowNam rfl) rfl ?_
  exact ⟨rfl, S6.out.over ho9⟩

theorem new_fir (w : World) : BlkV (w.alloc (.cells #[.int .u32 0, .int .u8 0] 76)) w.heap.size 76 zFir := BlkV.new _ _ _
set_option maxRecDepth 100000 in
set_option maxHeartbeats 400000 in
theorem fir_next (g q : Nat) (x : (Nat × Nat)) (tl : List UInt8) (w : World) (hx : x.1 < 4294967296 ∧ x.2 < 256) (h : Rdr w g q (firB x ++ tl)) :
    Calls Tryd.prog 75 #[.pointer (some ⟨g, 0, none⟩)] w fun r w' => r = .returned (.agg (cFir x).toArray) ∧ Rdr w' g q tl ∧ w.grownBy w' (some g) := by
  obtain ⟨s, b⟩ := x
  obtain ⟨l1, l2⟩ := hx
  simp only at l1 l2
  have e1 : IntKind.u8.wrap (b : Int) = (b : Int) := by rw [IntKind.wrap_u8]; omega
  have hz := zeroFir
  have S0 := Lib.hid (StG.start h 76 zFir #[.int .u32 0, .int .u8 0] rfl)
  simp only [firB, List.append_assoc] at S0
  clear h
  go_enter Tryd.func75, Tryd.ntmps75
  go_wp2_with (first
    | (go_at_call 64; ((with_reducible refine (wordS l1 S0.out).mono ?_); rintro e w1 ⟨rfl, hs⟩; have S1 := Lib.hid hs; clear hs))
    | (go_at_call 65; ((with_reducible refine (numberS 1 _ (by omega) (by omega) (by omega) l2 S1.out).mono ?_); rintro e w2 ⟨rfl, hs⟩; have S2 := Lib.hid hs; clear hs))
    | ((refine wpList_st rfl 76 (.tmp 3) (.tmp 9) rfl w2.heap.size 0 (cFir (s, b)) rfl (by with_unfolding_all rfl) 76 zFir (BlkV.new w2 _ _) (Nat.le_refl 2) (rowFir rfl) (cFir_one _) ?_); intro w3 hB3 ho3; rw [splice_all _ _ (by rfl)] at hB3; have S3 := Lib.hid (S2.out.below (((Below.refl _ _).alloc (Nat.le_refl _) _).trans (ho3.below (Nat.le_refl _)))); have B3 := Lib.hid hB3; have R3 := Lib.hid (show Rdr w3 g q (List.replicate 3 0 ++ tl) from S3.out.2.1); clear hB3 ho3)
    | (go_at_call 73; ((with_reducible refine (zerosI g q 3 tl _ _ (by omega) R3.out).mono ?_); rintro e w4 ⟨rfl, hr4, ho4⟩; have S4 := Lib.hid (S3.out.only hr4 ho4); have B4 := Lib.hid (B3.out.only ho4 (by have := S2.out.1; have := S2.out.2.2.2.lt; omega)); clear hr4 ho4))
    | (with_reducible refine wpList_ld rfl 76 (.tmp 3) rfl w2.heap.size 0 rfl (cFir (s, b)) (B4.out.range 0 _ (fun i _ => by rw [Nat.zero_add])) (rowFir rfl) ?_)
    | ((refine wpList_st rfl 76 (.tmp 2) (.tmp 12) rfl w.heap.size 0 (cFir (s, b)) rfl rfl 76 zFir S4.out.2.2.2 (Nat.le_refl 2) (rowFir rfl) (cFir_one _) ?_); intro w9 hB9 ho9; rw [splice_all _ _ (by rfl)] at hB9))
  refine ret_row rfl rfl hB9 (rowFir rfl) rfl ?_
  exact ⟨rfl, S4.out.over ho9⟩
set_option maxRecDepth 100000 in
set_option maxHeartbeats 400000 in
theorem rep_list (g q n : Nat) (L : List Rep) (tl : List UInt8) (w : World) (hn : L.length = n) (h16 : n ≤ 16) (hL : ∀ x ∈ L, x.fit ∧ x.ok) (h : Rdr w g q (L.flatMap repB ++ tl)) :
    Calls Tryd.prog 66 #[.int .i64 (n : Int), .func (.func 67) #[.pointer (some ⟨g, 0, none⟩)] #[]] w fun r w' => ∃ A c, r = .returned (.slice A n c) ∧ w'.ownsRow w.heap.size 74 7 (.slice A n c) n (L.flatMap cRep) ∧ Rdr w' g q tl ∧ w.grownBy w' (some g) := by
  have H0 := Lib.hid h
  have HF := Lib.hid hL
  have HN := Lib.hid hn
  have hg := h.lt
  clear h hL hn
  go_enter Tryd.func66, Tryd.ntmps66
  go_wp2_with (go_at_call 24; ((with_reducible refine (refuse_no _ _ _ ?_).mono ?_); (first | rfl | (simp; omega)); rintro e wx ⟨rfl, rfl⟩))
  go_loopw [5, 10] (fun v i wr => ∃ (k : Nat) (A : Option Addr) (c : Nat), k ≤ n ∧ i = .int .i64 k ∧ v = .slice A k c ∧ Hid (wr.ownsRow w.heap.size 74 7 (.slice A k c) k ((L.take k).flatMap cRep) ∧ Rdr wr g q ((L.drop k).flatMap repB ++ tl) ∧ w.grownBy wr (some g))) (fun _ i _ => n - (intOf i).toNat)
  case atStart => exact ⟨0, none, 0, by omega, rfl, rfl, Lib.hid ⟨World.ownsRow_nil w _ _ _, H0.out, grown_self _ _⟩⟩
  case round =>
    obtain ⟨k, A1, c1, hk, rfl, rfl, HL⟩ := hrel
    by_cases hkn : k < n
    · have hkl : k < L.length := by rw [HN.out]; exact hkn
      have hxf := HF.out _ (List.getElem_mem hkl)
      have HV := Lib.hid (vals_at cRep hkl)
      rw [flat_at _ hkl] at HL
      obtain ⟨x, hx⟩ : ∃ x, x = L[k] := ⟨_, rfl⟩
      rw [← hx] at hxf HV HL
      have C1 := Lib.hid ((rep_next g q x _ _ hxf HL.out.2.1))
      have hsz := HL.out.2.2.size
      clear hx
      have C2 : Hid (Calls Tryd.prog 67 #[.pointer (some ⟨g, 0, none⟩)] wr fun r w1 => r = .returned (.agg (cRep x).toArray) ∧ Rdr w1 g q ((L.drop (k + 1)).flatMap repB ++ tl) ∧ wr.grownBy w1 (some g)) := C1
      clear C1 hxf
      obtain ⟨so, fr, lo, hi, ji, la, de⟩ := x
      have C3 : Hid (Calls Tryd.prog 67 #[.pointer (some ⟨g, 0, none⟩)] wr fun r w1 => r = .returned (.agg #[.int .u32 (so : Int), .int .u8 (fr : Int), .int .i32 lo, .int .u32 (hi : Int), .int .u32 (ji : Int), .int .u32 (la : Int), .int .u32 (de : Int)]) ∧ Rdr w1 g q ((L.drop (k + 1)).flatMap repB ++ tl) ∧ wr.grownBy w1 (some g)) := C2
      clear C2
      go_wp2_with (first
        | (go_at_call 67; ((with_reducible refine (Hid.out C3).mono ?_); rintro e w1 ⟨rfl, hr1, hg1⟩; have G1 := Lib.hid (And.intro hr1 hg1); have hsz1 := hg1.size; clear hr1 hg1))
        | (at_builtin; refine wpList_appV rfl (.tmp 12) (.tmp 15) elRep rfl w.heap.size (.slice A1 k c1) k ((L.take k).flatMap cRep) rfl ((HL.out.1.kept G1.out.2 (.inr (fun e => by have := (HL.out.1.lt _ e).1; omega))).alloc _) w1.heap.size rfl (cRep ⟨so, fr, lo, hi, ji, la, de⟩) rfl (cRep_one _) (BlkV.new w1 74 (cRep ⟨so, fr, lo, hi, ji, la, de⟩)) (by omega) (by simp; omega) ?_; intro v2 w2 hown2 hg2 _; obtain ⟨A2, c2, hv2⟩ := own_formN hown2; subst hv2))
      have hlo : ∀ p, (Value.slice A1 k c1).ownBlock = some p → w.heap.size ≤ p := fun p hp => (HL.out.1.lt p hp).1
      go_roundw
      case rel => exact ⟨k + 1, A2, c2, by omega, by go_num, rfl, Lib.hid ⟨by rw [HV.out]; exact hown2, (G1.out.1.alloc _).grown hg2 (fun p hp => by have := hlo p hp; omega), grown_then (grown_then (grown_then HL.out.2.2 G1.out.2 (fun p hp => .inr (by injection hp with hp; exact hp.symm))) (grown_alloc _ _ none) (fun p hp => by cases hp)) hg2 (fun p hp => .inl (hlo p hp))⟩⟩
      case measure => simp [intOf]; omega
    · obtain rfl : k = n := by omega
      rw [show L.take k = L by rw [← HN.out, List.take_length], show L.drop k = [] by rw [← HN.out, List.drop_length]] at HL
      go_wp2
      go_ret
      exact ⟨A1, c1, rfl, HL.out.1, HL.out.2.1, HL.out.2.2⟩

set_option maxRecDepth 100000 in
set_option maxHeartbeats 400000 in
theorem nam_list (g q n : Nat) (L : List (Nat × List UInt8)) (tl : List UInt8) (w : World) (hn : L.length = n) (h16 : n ≤ 16) (hL : ∀ x ∈ L, x.1 < 4294967296 ∧ nameP (txt x.2)) (h : Rdr w g q (L.flatMap namB ++ tl)) :
    Calls Tryd.prog 68 #[.int .i64 (n : Int), .func (.func 69) #[.pointer (some ⟨g, 0, none⟩)] #[]] w fun r w' => ∃ A c, r = .returned (.slice A n c) ∧ w'.ownsRow w.heap.size 52 2 (.slice A n c) n (L.flatMap cNam) ∧ Rdr w' g q tl ∧ w.grownBy w' (some g) := by
  have H0 := Lib.hid h
  have HF := Lib.hid hL
  have HN := Lib.hid hn
  have hg := h.lt
  clear h hL hn
  go_enter Tryd.func68, Tryd.ntmps68
  go_wp2_with (go_at_call 24; ((with_reducible refine (refuse_no _ _ _ ?_).mono ?_); (first | rfl | (simp; omega)); rintro e wx ⟨rfl, rfl⟩))
  go_loopw [5, 10] (fun v i wr => ∃ (k : Nat) (A : Option Addr) (c : Nat), k ≤ n ∧ i = .int .i64 k ∧ v = .slice A k c ∧ Hid (wr.ownsRow w.heap.size 52 2 (.slice A k c) k ((L.take k).flatMap cNam) ∧ Rdr wr g q ((L.drop k).flatMap namB ++ tl) ∧ w.grownBy wr (some g))) (fun _ i _ => n - (intOf i).toNat)
  case atStart => exact ⟨0, none, 0, by omega, rfl, rfl, Lib.hid ⟨World.ownsRow_nil w _ _ _, H0.out, grown_self _ _⟩⟩
  case round =>
    obtain ⟨k, A1, c1, hk, rfl, rfl, HL⟩ := hrel
    by_cases hkn : k < n
    · have hkl : k < L.length := by rw [HN.out]; exact hkn
      have hxf := HF.out _ (List.getElem_mem hkl)
      have HV := Lib.hid (vals_at cNam hkl)
      rw [flat_at _ hkl] at HL
      obtain ⟨x, hx⟩ : ∃ x, x = L[k] := ⟨_, rfl⟩
      rw [← hx] at hxf HV HL
      have C1 := Lib.hid ((nam_next g q x _ _ hxf HL.out.2.1))
      have hsz := HL.out.2.2.size
      clear hx
      have C2 : Hid (Calls Tryd.prog 69 #[.pointer (some ⟨g, 0, none⟩)] wr fun r w1 => r = .returned (.agg (cNam x).toArray) ∧ Rdr w1 g q ((L.drop (k + 1)).flatMap namB ++ tl) ∧ wr.grownBy w1 (some g)) := C1
      clear C1 hxf
      obtain ⟨s, t⟩ := x
      have C3 : Hid (Calls Tryd.prog 69 #[.pointer (some ⟨g, 0, none⟩)] wr fun r w1 => r = .returned (.agg #[.int .u32 (s : Int), .string (txt t)]) ∧ Rdr w1 g q ((L.drop (k + 1)).flatMap namB ++ tl) ∧ wr.grownBy w1 (some g)) := C2
      clear C2
      go_wp2_with (first
        | (go_at_call 69; ((with_reducible refine (Hid.out C3).mono ?_); rintro e w1 ⟨rfl, hr1, hg1⟩; have G1 := Lib.hid (And.intro hr1 hg1); have hsz1 := hg1.size; clear hr1 hg1))
        | (at_builtin; refine wpList_appV rfl (.tmp 12) (.tmp 15) elNam rfl w.heap.size (.slice A1 k c1) k ((L.take k).flatMap cNam) rfl ((HL.out.1.kept G1.out.2 (.inr (fun e => by have := (HL.out.1.lt _ e).1; omega))).alloc _) w1.heap.size rfl (cNam ⟨s, t⟩) rfl (cNam_one _) (BlkV.new w1 52 (cNam ⟨s, t⟩)) (by omega) (by simp; omega) ?_; intro v2 w2 hown2 hg2 _; obtain ⟨A2, c2, hv2⟩ := own_formN hown2; subst hv2))
      have hlo : ∀ p, (Value.slice A1 k c1).ownBlock = some p → w.heap.size ≤ p := fun p hp => (HL.out.1.lt p hp).1
      go_roundw
      case rel => exact ⟨k + 1, A2, c2, by omega, by go_num, rfl, Lib.hid ⟨by rw [HV.out]; exact hown2, (G1.out.1.alloc _).grown hg2 (fun p hp => by have := hlo p hp; omega), grown_then (grown_then (grown_then HL.out.2.2 G1.out.2 (fun p hp => .inr (by injection hp with hp; exact hp.symm))) (grown_alloc _ _ none) (fun p hp => by cases hp)) hg2 (fun p hp => .inl (hlo p hp))⟩⟩
      case measure => simp [intOf]; omega
    · obtain rfl : k = n := by omega
      rw [show L.take k = L by rw [← HN.out, List.take_length], show L.drop k = [] by rw [← HN.out, List.drop_length]] at HL
      go_wp2
      go_ret
      exact ⟨A1, c1, rfl, HL.out.1, HL.out.2.1, HL.out.2.2⟩

set_option maxRecDepth 100000 in
set_option maxHeartbeats 400000 in
theorem los_list (g q n : Nat) (L : List (Nat × Nat)) (tl : List UInt8) (w : World) (hn : L.length = n) (h16 : n ≤ 16) (hL : ∀ x ∈ L, x.1 < 65536 ∧ x.2 < 65536) (h : Rdr w g q (L.flatMap lossB ++ tl)) :
    Calls Tryd.prog 79 #[.int .i64 (n : Int), .func (.func 72) #[.pointer (some ⟨g, 0, none⟩)] #[]] w fun r w' => ∃ A c, r = .returned (.slice A n c) ∧ w'.ownsRow w.heap.size 41 2 (.slice A n c) n (L.flatMap cLos) ∧ Rdr w' g q tl ∧ w.grownBy w' (some g) := by
  have H0 := Lib.hid h
  have HF := Lib.hid hL
  have HN := Lib.hid hn
  have hg := h.lt
  clear h hL hn
  go_enter Tryd.func79, Tryd.ntmps79
  go_wp2_with (go_at_call 24; ((with_reducible refine (refuse_no _ _ _ ?_).mono ?_); (first | rfl | (simp; omega)); rintro e wx ⟨rfl, rfl⟩))
  go_loopw [5, 10] (fun v i wr => ∃ (k : Nat) (A : Option Addr) (c : Nat), k ≤ n ∧ i = .int .i64 k ∧ v = .slice A k c ∧ Hid (wr.ownsRow w.heap.size 41 2 (.slice A k c) k ((L.take k).flatMap cLos) ∧ Rdr wr g q ((L.drop k).flatMap lossB ++ tl) ∧ w.grownBy wr (some g))) (fun _ i _ => n - (intOf i).toNat)
  case atStart => exact ⟨0, none, 0, by omega, rfl, rfl, Lib.hid ⟨World.ownsRow_nil w _ _ _, H0.out, grown_self _ _⟩⟩
  case round =>
    obtain ⟨k, A1, c1, hk, rfl, rfl, HL⟩ := hrel
    by_cases hkn : k < n
    · have hkl : k < L.length := by rw [HN.out]; exact hkn
      have hxf := HF.out _ (List.getElem_mem hkl)
      have HV := Lib.hid (vals_at cLos hkl)
      rw [flat_at _ hkl] at HL
      obtain ⟨x, hx⟩ : ∃ x, x = L[k] := ⟨_, rfl⟩
      rw [← hx] at hxf HV HL
      have C1 := Lib.hid ((los_next g q x _ _ hxf HL.out.2.1))
      have hsz := HL.out.2.2.size
      clear hx
      have C2 : Hid (Calls Tryd.prog 72 #[.pointer (some ⟨g, 0, none⟩)] wr fun r w1 => r = .returned (.agg (cLos x).toArray) ∧ Rdr w1 g q ((L.drop (k + 1)).flatMap lossB ++ tl) ∧ wr.grownBy w1 (some g)) := C1
      clear C1 hxf
      obtain ⟨s, b⟩ := x
      have C3 : Hid (Calls Tryd.prog 72 #[.pointer (some ⟨g, 0, none⟩)] wr fun r w1 => r = .returned (.agg #[.int .u16 (s : Int), .int .u16 (b : Int)]) ∧ Rdr w1 g q ((L.drop (k + 1)).flatMap lossB ++ tl) ∧ wr.grownBy w1 (some g)) := C2
      clear C2
      go_wp2_with (first
        | (go_at_call 72; ((with_reducible refine (Hid.out C3).mono ?_); rintro e w1 ⟨rfl, hr1, hg1⟩; have G1 := Lib.hid (And.intro hr1 hg1); have hsz1 := hg1.size; clear hr1 hg1))
        | (at_builtin; refine wpList_appV rfl (.tmp 12) (.tmp 15) elLos rfl w.heap.size (.slice A1 k c1) k ((L.take k).flatMap cLos) rfl ((HL.out.1.kept G1.out.2 (.inr (fun e => by have := (HL.out.1.lt _ e).1; omega))).alloc _) w1.heap.size rfl (cLos ⟨s, b⟩) rfl (cLos_one _) (BlkV.new w1 41 (cLos ⟨s, b⟩)) (by omega) (by simp; omega) ?_; intro v2 w2 hown2 hg2 _; obtain ⟨A2, c2, hv2⟩ := own_formN hown2; subst hv2))
      have hlo : ∀ p, (Value.slice A1 k c1).ownBlock = some p → w.heap.size ≤ p := fun p hp => (HL.out.1.lt p hp).1
      go_roundw
      case rel => exact ⟨k + 1, A2, c2, by omega, by go_num, rfl, Lib.hid ⟨by rw [HV.out]; exact hown2, (G1.out.1.alloc _).grown hg2 (fun p hp => by have := hlo p hp; omega), grown_then (grown_then (grown_then HL.out.2.2 G1.out.2 (fun p hp => .inr (by injection hp with hp; exact hp.symm))) (grown_alloc _ _ none) (fun p hp => by cases hp)) hg2 (fun p hp => .inl (hlo p hp))⟩⟩
      case measure => simp [intOf]; omega
    · obtain rfl : k = n := by omega
      rw [show L.take k = L by rw [← HN.out, List.take_length], show L.drop k = [] by rw [← HN.out, List.drop_length]] at HL
      go_wp2
      go_ret
      exact ⟨A1, c1, rfl, HL.out.1, HL.out.2.1, HL.out.2.2⟩

set_option maxRecDepth 100000 in
set_option maxHeartbeats 400000 in
theorem fir_list (g q n : Nat) (L : List (Nat × Nat)) (tl : List UInt8) (w : World) (hn : L.length = n) (h16 : n ≤ 16) (hL : ∀ x ∈ L, x.1 < 4294967296 ∧ x.2 < 256) (h : Rdr w g q (L.flatMap firB ++ tl)) :
    Calls Tryd.prog 80 #[.int .i64 (n : Int), .func (.func 75) #[.pointer (some ⟨g, 0, none⟩)] #[]] w fun r w' => ∃ A c, r = .returned (.slice A n c) ∧ w'.ownsRow w.heap.size 76 2 (.slice A n c) n (L.flatMap cFir) ∧ Rdr w' g q tl ∧ w.grownBy w' (some g) := by
  have H0 := Lib.hid h
  have HF := Lib.hid hL
  have HN := Lib.hid hn
  have hg := h.lt
  clear h hL hn
  go_enter Tryd.func80, Tryd.ntmps80
  go_wp2_with (go_at_call 24; ((with_reducible refine (refuse_no _ _ _ ?_).mono ?_); (first | rfl | (simp; omega)); rintro e wx ⟨rfl, rfl⟩))
  go_loopw [5, 10] (fun v i wr => ∃ (k : Nat) (A : Option Addr) (c : Nat), k ≤ n ∧ i = .int .i64 k ∧ v = .slice A k c ∧ Hid (wr.ownsRow w.heap.size 76 2 (.slice A k c) k ((L.take k).flatMap cFir) ∧ Rdr wr g q ((L.drop k).flatMap firB ++ tl) ∧ w.grownBy wr (some g))) (fun _ i _ => n - (intOf i).toNat)
  case atStart => exact ⟨0, none, 0, by omega, rfl, rfl, Lib.hid ⟨World.ownsRow_nil w _ _ _, H0.out, grown_self _ _⟩⟩
  case round =>
    obtain ⟨k, A1, c1, hk, rfl, rfl, HL⟩ := hrel
    by_cases hkn : k < n
    · have hkl : k < L.length := by rw [HN.out]; exact hkn
      have hxf := HF.out _ (List.getElem_mem hkl)
      have HV := Lib.hid (vals_at cFir hkl)
      rw [flat_at _ hkl] at HL
      obtain ⟨x, hx⟩ : ∃ x, x = L[k] := ⟨_, rfl⟩
      rw [← hx] at hxf HV HL
      have C1 := Lib.hid ((fir_next g q x _ _ hxf HL.out.2.1))
      have hsz := HL.out.2.2.size
      clear hx
      have C2 : Hid (Calls Tryd.prog 75 #[.pointer (some ⟨g, 0, none⟩)] wr fun r w1 => r = .returned (.agg (cFir x).toArray) ∧ Rdr w1 g q ((L.drop (k + 1)).flatMap firB ++ tl) ∧ wr.grownBy w1 (some g)) := C1
      clear C1 hxf
      obtain ⟨s, b⟩ := x
      have C3 : Hid (Calls Tryd.prog 75 #[.pointer (some ⟨g, 0, none⟩)] wr fun r w1 => r = .returned (.agg #[.int .u32 (s : Int), .int .u8 (b : Int)]) ∧ Rdr w1 g q ((L.drop (k + 1)).flatMap firB ++ tl) ∧ wr.grownBy w1 (some g)) := C2
      clear C2
      go_wp2_with (first
        | (go_at_call 75; ((with_reducible refine (Hid.out C3).mono ?_); rintro e w1 ⟨rfl, hr1, hg1⟩; have G1 := Lib.hid (And.intro hr1 hg1); have hsz1 := hg1.size; clear hr1 hg1))
        | (at_builtin; refine wpList_appV rfl (.tmp 12) (.tmp 15) elFir rfl w.heap.size (.slice A1 k c1) k ((L.take k).flatMap cFir) rfl ((HL.out.1.kept G1.out.2 (.inr (fun e => by have := (HL.out.1.lt _ e).1; omega))).alloc _) w1.heap.size rfl (cFir ⟨s, b⟩) rfl (cFir_one _) (BlkV.new w1 76 (cFir ⟨s, b⟩)) (by omega) (by simp; omega) ?_; intro v2 w2 hown2 hg2 _; obtain ⟨A2, c2, hv2⟩ := own_formN hown2; subst hv2))
      have hlo : ∀ p, (Value.slice A1 k c1).ownBlock = some p → w.heap.size ≤ p := fun p hp => (HL.out.1.lt p hp).1
      go_roundw
      case rel => exact ⟨k + 1, A2, c2, by omega, by go_num, rfl, Lib.hid ⟨by rw [HV.out]; exact hown2, (G1.out.1.alloc _).grown hg2 (fun p hp => by have := hlo p hp; omega), grown_then (grown_then (grown_then HL.out.2.2 G1.out.2 (fun p hp => .inr (by injection hp with hp; exact hp.symm))) (grown_alloc _ _ none) (fun p hp => by cases hp)) hg2 (fun p hp => .inl (hlo p hp))⟩⟩
      case measure => simp [intOf]; omega
    · obtain rfl : k = n := by omega
      rw [show L.take k = L by rw [← HN.out, List.take_length], show L.drop k = [] by rw [← HN.out, List.drop_length]] at HL
      go_wp2
      go_ret
      exact ⟨A1, c1, rfl, HL.out.1, HL.out.2.1, HL.out.2.2⟩

set_option maxRecDepth 100000 in
set_option maxHeartbeats 400000 in
theorem src_list (g q n : Nat) (L : List Nat) (tl : List UInt8) (w : World) (hn : L.length = n) (h16 : n ≤ 16) (hL : ∀ x ∈ L, x < 4294967296) (h : Rdr w g q (L.flatMap (beb 4) ++ tl)) :
    Calls Tryd.prog 70 #[.int .i64 (n : Int), .func (.func 64) #[.pointer (some ⟨g, 0, none⟩)] #[]] w fun r w' => ∃ A c, r = .returned (.slice A n c) ∧ w'.ownsRow w.heap.size 43 1 (.slice A n c) n (L.flatMap cSrc) ∧ Rdr w' g q tl ∧ w.grownBy w' (some g) := by
  have H0 := Lib.hid h
  have HF := Lib.hid hL
  have HN := Lib.hid hn
  have hg := h.lt
  clear h hL hn
  go_enter Tryd.func70, Tryd.ntmps70
  go_wp2_with (go_at_call 24; ((with_reducible refine (refuse_no _ _ _ ?_).mono ?_); (first | rfl | (simp; omega)); rintro e wx ⟨rfl, rfl⟩))
  go_loopw [5, 10] (fun v i wr => ∃ (k : Nat) (A : Option Addr) (c : Nat), k ≤ n ∧ i = .int .i64 k ∧ v = .slice A k c ∧ Hid (wr.ownsRow w.heap.size 43 1 (.slice A k c) k ((L.take k).flatMap cSrc) ∧ Rdr wr g q ((L.drop k).flatMap (beb 4) ++ tl) ∧ w.grownBy wr (some g))) (fun _ i _ => n - (intOf i).toNat)
  case atStart => exact ⟨0, none, 0, by omega, rfl, rfl, Lib.hid ⟨World.ownsRow_nil w _ _ _, H0.out, grown_self _ _⟩⟩
  case round =>
    obtain ⟨k, A1, c1, hk, rfl, rfl, HL⟩ := hrel
    by_cases hkn : k < n
    · have hkl : k < L.length := by rw [HN.out]; exact hkn
      have hxf := HF.out _ (List.getElem_mem hkl)
      have HV := Lib.hid (vals_at cSrc hkl)
      rw [flat_at _ hkl] at HL
      obtain ⟨x, hx⟩ : ∃ x, x = L[k] := ⟨_, rfl⟩
      rw [← hx] at hxf HV HL
      have C1 := Lib.hid ((wordB g q x _ _ hxf HL.out.2.1).mono fun r w1 hh => (⟨hh.1, hh.2.1, hh.2.2.grown⟩ : r = .returned (.int .u32 (x : Int)) ∧ Rdr w1 g q _ ∧ wr.grownBy w1 (some g)))
      have hsz := HL.out.2.2.size
      clear hx
      have C2 : Hid (Calls Tryd.prog 64 #[.pointer (some ⟨g, 0, none⟩)] wr fun r w1 => r = .returned (.int .u32 (x : Int)) ∧ Rdr w1 g q ((L.drop (k + 1)).flatMap (beb 4) ++ tl) ∧ wr.grownBy w1 (some g)) := C1
      clear C1 hxf
      obtain x := x
      have C3 : Hid (Calls Tryd.prog 64 #[.pointer (some ⟨g, 0, none⟩)] wr fun r w1 => r = .returned (.int .u32 (x : Int)) ∧ Rdr w1 g q ((L.drop (k + 1)).flatMap (beb 4) ++ tl) ∧ wr.grownBy w1 (some g)) := C2
      clear C2
      go_wp2_with (first
        | (go_at_call 64; ((with_reducible refine (Hid.out C3).mono ?_); rintro e w1 ⟨rfl, hr1, hg1⟩; have G1 := Lib.hid (And.intro hr1 hg1); have hsz1 := hg1.size; clear hr1 hg1))
        | (at_builtin; refine wpList_appV rfl (.tmp 12) (.tmp 15) elSrc rfl w.heap.size (.slice A1 k c1) k ((L.take k).flatMap cSrc) rfl ((HL.out.1.kept G1.out.2 (.inr (fun e => by have := (HL.out.1.lt _ e).1; omega))).alloc _) w1.heap.size rfl (cSrc x) rfl (cSrc_one _) (BlkV.new w1 43 (cSrc x)) (by omega) (by simp; omega) ?_; intro v2 w2 hown2 hg2 _; obtain ⟨A2, c2, hv2⟩ := own_formN hown2; subst hv2))
      have hlo : ∀ p, (Value.slice A1 k c1).ownBlock = some p → w.heap.size ≤ p := fun p hp => (HL.out.1.lt p hp).1
      go_roundw
      case rel => exact ⟨k + 1, A2, c2, by omega, by go_num, rfl, Lib.hid ⟨by rw [HV.out]; exact hown2, (G1.out.1.alloc _).grown hg2 (fun p hp => by have := hlo p hp; omega), grown_then (grown_then (grown_then HL.out.2.2 G1.out.2 (fun p hp => .inr (by injection hp with hp; exact hp.symm))) (grown_alloc _ _ none) (fun p hp => by cases hp)) hg2 (fun p hp => .inl (hlo p hp))⟩⟩
      case measure => simp [intOf]; omega
    · obtain rfl : k = n := by omega
      rw [show L.take k = L by rw [← HN.out, List.take_length], show L.drop k = [] by rw [← HN.out, List.drop_length]] at HL
      go_wp2
      go_ret
      exact ⟨A1, c1, rfl, HL.out.1, HL.out.2.1, HL.out.2.2⟩

end Go.Proofs.YtacaempcbdekaaaDoor

namespace Go.Proofs.YtacaempcbdekaaaDoor
open Go.RowKit
set_option linter.unusedVariables false

section
variable {P : Program} {md : Region.Mode} {ops : Array Oper} {Q : Exit → Act → World → Prop} {S : World → Prop}
theorem anyH_one {i : Nat} {op : Oper} {fuel : Nat} {listed : Array Bool} {a : Act} {w : World} (hr : Region.ready md ops listed = [i]) (ho : ops[i]? = some op) (hgd : op.guard = none)
    (h : ∀ K : Act → World → Prop, (∀ a w, S w → wpAnyH P md ops Q S fuel (listed.setIfInBounds i true) a w → K a w) → op.wp P a w K Q) : wpAnyH P md ops Q S (fuel + 1) listed a w := by
  refine wpAnyH_all hr (by simp) fun j hj => ?_
  simp only [List.mem_singleton] at hj
  subst hj
  unfold wpOp
  simp only [ho]
  rw [if_pos (by simp [Region.wanted, hgd])]
  exact Or.inl (h _ fun a w h1 h2 => ⟨h1, h2⟩)
end
/-- A packet's cells. -/
def ctlC (k : Int) (so me ti st pa oc : Nat) (vR vN vS vL vF : Value) (ra : Nat) : List Value := [.int .i64 k, .int .u32 (so : Int), .int .u32 (me : Int), .int .u64 (ti : Int), .int .u32 (st : Int), .int .u32 (pa : Int), .int .u32 (oc : Int), vR, vN, vS, vL, vF, .int .u64 (ra : Int)]
abbrev zCtl : List Value := [.int .i64 0, .int .u32 0, .int .u32 0, .int .u64 0, .int .u32 0, .int .u32 0, .int .u32 0, .slice none 0 0, .slice none 0 0, .slice none 0 0, .slice none 0 0, .slice none 0 0, .int .u64 0]
theorem ctlC_one (k : Int) (so me ti st pa oc : Nat) (A : Option Addr) (n a : Nat) (B : Option Addr) (m b : Nat) (C : Option Addr) (l c : Nat) (D : Option Addr) (p d : Nat) (E : Option Addr) (q e ra : Nat) : ∀ v ∈ ctlC k so me ti st pa oc (.slice A n a) (.slice B m b) (.slice C l c) (.slice D p d) (.slice E q e) ra, v.oneCell' = true := by
  intro v hv
  simp [ctlC] at hv
  rcases hv with rfl | rfl | rfl | rfl | rfl | rfl | rfl | rfl | rfl | rfl | rfl | rfl | rfl <;> rfl
theorem zeroCtl (w : World) : (zeroValue 50).run Tryd.prog w = .ok (.agg #[.int .i64 0, .int .u32 0, .int .u32 0, .int .u64 0, .int .u32 0, .int .u32 0, .int .u32 0, .slice none 0 0, .slice none 0 0, .slice none 0 0, .slice none 0 0, .slice none 0 0, .int .u64 0]) w := by kernel_rfl
theorem rowCtl {cs : List Value} (h : cs.length = 13) : RowTy Tryd.prog 50 cs.length := by
  rw [h]; exact ⟨_, Tryd.underlying50, rfl, by kernel_rfl⟩
/-- The cells are this packet's; its lists are the call's own. -/
def OwnC (w : World) (b : Nat) (cs : List Value) (c : Ctl) : Prop := ∃ (A : Option Addr) (a : Nat) (B : Option Addr) (b' : Nat) (C : Option Addr) (c' : Nat) (D : Option Addr) (d : Nat) (E : Option Addr) (e : Nat),
  cs = ctlC c.k c.so c.me c.ti c.st c.pa c.oc (.slice A c.reps.length a) (.slice B c.nams.length b') (.slice C c.srcs.length c') (.slice D c.loss.length d) (.slice E c.firs.length e) c.ra ∧
  w.ownsRow b 74 7 (.slice A c.reps.length a) c.reps.length (c.reps.flatMap cRep) ∧
  w.ownsRow b 52 2 (.slice B c.nams.length b') c.nams.length (c.nams.flatMap cNam) ∧
  w.ownsRow b 43 1 (.slice C c.srcs.length c') c.srcs.length (c.srcs.flatMap cSrc) ∧
  w.ownsRow b 41 2 (.slice D c.loss.length d) c.loss.length (c.loss.flatMap cLos) ∧
  w.ownsRow b 76 2 (.slice E c.firs.length e) c.firs.length (c.firs.flatMap cFir)
theorem own_moN {w : World} {base base' n s : Nat} {e : TypeId} {v : Value} {xs : List Value} (h : w.ownsRow base e s v n xs) (hb : base' ≤ base) : w.ownsRow base' e s v n xs := by
  refine ⟨h.1, ?_⟩
  rcases h.2 with h2 | ⟨g, cap, cur, hv, hb2, h3⟩
  · exact .inl h2
  · exact .inr ⟨g, cap, cur, hv, Nat.le_trans hb hb2, h3⟩
theorem own_thN {w w' : World} {base n s : Nat} {e : TypeId} {v : Value} {xs : List Value} (h : w.ownsRow base e s v n xs) {row : Option Nat} (hg : w.grownBy w' row) (hr : ∀ p, row = some p → p < base ∨ ∃ (cur : Array Value) (e' : TypeId) (fz : Nat × Nat), w.heap[p]? = some (.cells cur e' fz) ∧ e ≠ e') : w'.ownsRow base e s v n xs := by
  refine h.kept hg ?_
  rcases hq : v.ownBlock with _ | p
  · exact .inl rfl
  · refine .inr fun hp => ?_
    rcases hr p hp.symm with h1 | ⟨cur, e', fz, h2, h3⟩
    · have := (h.lt p hq).1; omega
    · rcases h.2 with ⟨rfl, _⟩ | ⟨g, cap, cu2, rfl, _, hg2, _⟩
      · simp [Value.ownBlock] at hq
      · simp [Value.ownBlock] at hq
        subst hq
        rw [h2] at hg2
        simp at hg2
        exact h3 hg2.2.1.symm
theorem OwnC.mono {w : World} {b b2 : Nat} {cs : List Value} {c : Ctl} (h : OwnC w b cs c) (hb : b2 ≤ b) : OwnC w b2 cs c := by
  obtain ⟨A, a, B, b', C, c', D, d, E, e, h0, h1, h2, h3, h4, h5⟩ := h
  exact ⟨A, a, B, b', C, c', D, d, E, e, h0, own_moN h1 hb, own_moN h2 hb, own_moN h3 hb, own_moN h4 hb, own_moN h5 hb⟩
/-- It stays so where other blocks are written: those ahead of it, or of another type. -/
theorem OwnC.th {w w' : World} {b : Nat} {cs : List Value} {c : Ctl} (h : OwnC w b cs c) {row : Option Nat} (hg : w.grownBy w' row) (hr : ∀ p, row = some p → p < b ∨ ∃ (cur : Array Value) (fz : Nat × Nat), w.heap[p]? = some (.cells cur 50 fz)) : OwnC w' b cs c := by
  obtain ⟨A, a, B, b', C, c', D, d, E, e, h0, h1, h2, h3, h4, h5⟩ := h
  have key : ∀ e' : TypeId, e' ≠ 50 → ∀ p, row = some p → p < b ∨ ∃ (cur : Array Value) (e2 : TypeId) (fz : Nat × Nat), w.heap[p]? = some (.cells cur e2 fz) ∧ e' ≠ e2 := by
    intro e' he p hp
    rcases hr p hp with h | ⟨cur, fz, h⟩
    · exact .inl h
    · exact .inr ⟨cur, _, fz, h, he⟩
  exact ⟨A, a, B, b', C, c', D, d, E, e, h0, own_thN h1 hg (key _ (by decide)), own_thN h2 hg (key _ (by decide)), own_thN h3 hg (key _ (by decide)), own_thN h4 hg (key _ (by decide)), own_thN h5 hg (key _ (by decide))⟩
theorem OwnC.below {w w' : World} {b : Nat} {cs : List Value} {c : Ctl} (h : OwnC w b cs c) (hb : Below w.heap.size w w') : OwnC w' b cs c := h.th (grown_of_below hb none) (fun p hp => by cases hp)
theorem OwnC.one {w : World} {b : Nat} {cs : List Value} {c : Ctl} (h : OwnC w b cs c) : ∀ v ∈ cs, v.oneCell' = true := by
  obtain ⟨A, a, B, b', C, c', D, d, E, e, h0, _⟩ := h
  subst h0
  exact ctlC_one _ _ _ _ _ _ _ _ _ _ _ _ _ _ _ _ _ _ _ _ _ _ _
theorem OwnC.len {w : World} {b : Nat} {cs : List Value} {c : Ctl} (h : OwnC w b cs c) : cs.length = 13 := by
  obtain ⟨A, a, B, b', C, c', D, d, E, e, h0, _⟩ := h
  subst h0; rfl
theorem nilN (w : World) (b : Nat) (e : TypeId) (s : Nat) : w.ownsRow b e s (.slice none 0 0) 0 [] := World.ownsRow_nil w _ _ _

theorem Rdr.cnt {w : World} {g q : Nat} {bs : List UInt8} (h : Rdr w g q bs) : w.cell? ⟨g, 0, none⟩ = some (.int .i64 (q : Int)) := by
  obtain ⟨A, n, c, h1, _⟩ := h
  exact (h1.cell 0).trans rfl
theorem StG.cnt {w0 w : World} {g q : Nat} {e : TypeId} {z : List Value} {bs : List UInt8} (h : StG w0 g q e z bs w) : w.cell? ⟨g, 0, none⟩ = some (.int .i64 (q : Int)) := h.2.1.cnt
theorem StG.drew {w0 w : World} {g q : Nat} {e : TypeId} {z : List Value} {bs : List UInt8} (h : StG w0 g q e z bs w) : StG w0 g q e z bs w.drew :=
  ⟨h.1, h.2.1, ⟨h.2.2.1.os, h.2.2.1.tape, h.2.2.1.output, h.2.2.1.size, h.2.2.1.block⟩, h.2.2.2⟩
theorem StG.cell {w0 w : World} {g q : Nat} {e : TypeId} {z : List Value} {bs : List UInt8} (h : StG w0 g q e z bs w) : BlkV w w0.heap.size e z := h.2.2.2
theorem StG.rdr {w0 w : World} {g q : Nat} {e : TypeId} {z : List Value} {bs : List UInt8} (h : StG w0 g q e z bs w) : Rdr w g q bs := h.2.1
theorem StG.sz {w0 w : World} {g q : Nat} {e : TypeId} {z : List Value} {bs : List UInt8} (h : StG w0 g q e z bs w) : w0.heap.size ≤ w.heap.size := h.2.2.1.size
abbrev zA : Array Value := #[.int .i64 0, .int .u32 0, .int .u32 0, .int .u64 0, .int .u32 0, .int .u32 0, .int .u32 0, .slice none 0 0, .slice none 0 0, .slice none 0 0, .slice none 0 0, .slice none 0 0, .int .u64 0]

set_option maxRecDepth 100000 in
set_option maxHeartbeats 1000000 in
theorem received_any (g q : Nat) (so : Nat) (L : List Rep) (w : World) (hso : so < 4294967296) (hL : ∀ x ∈ L, x.fit ∧ x.ok) (hq : L.length = q) (h16 : q ≤ 16) (h : Rdr w g q (bRR so L)) :
    Calls Tryd.prog 57 #[.pointer (some ⟨g, 0, none⟩)] w fun r w' => ∃ cs, r = .returned (.agg cs.toArray) ∧ OwnC w' w.heap.size cs (mkRR 0 so L) ∧ Rdr w' g q [] ∧ w.grownBy w' (some g) := by
  have hz := zeroCtl
  have S0 := Lib.hid (StG.start h 50 zCtl #[.int .i64 0, .int .u32 0, .int .u32 0, .int .u64 0, .int .u32 0, .int .u32 0, .int .u32 0, .slice none 0 0, .slice none 0 0, .slice none 0 0, .slice none 0 0, .slice none 0 0, .int .u64 0] rfl)
  simp only [bRR] at S0
  rw [← List.append_nil (L.flatMap repB)] at S0
  clear h
  go_enter Tryd.func57, Tryd.ntmps57
  go_wp2
  have SD := Lib.hid S0.out.drew
  have c0 := SD.out.cnt
  refine wp_region_noPanic ?_
  refine wp_region_held (S := fun wz => wz.cell? ⟨g, 0, none⟩ = some (.int .i64 (q : Int))) (by kernel_rfl) ?_
  change wpAnyH _ _ _ _ _ _ _ _ (World.drew _)
  generalize (w.alloc (.cells #[.int .i64 0, .int .u32 0, .int .u32 0, .int .u64 0, .int .u32 0, .int .u32 0, .int .u32 0, .slice none 0 0, .slice none 0 0, .slice none 0 0, .slice none 0 0, .slice none 0 0, .int .u64 0] 50)).drew = w0 at SD c0 ⊢
  refine wpAnyH_take (i := 0) (v := ?_) rfl (by kernel_rfl) (by kernel_rfl) (by kernel_rfl) (fun _ _ _ h => h) (Or.inl ⟨by rfl, ?_⟩) c0 ?_
  case refine_2 => (intro wz hz; go_simp; with_reducible rfl)
  simp only [Act.put, List.getElem_toArray, List.getElem_cons_zero, List.setIfInBounds_toArray, List.set_cons_succ, List.set_cons_zero]
  refine wpAnyH_take (i := 2) (v := ?_) rfl (by kernel_rfl) (by kernel_rfl) (by kernel_rfl) (fun _ _ _ h => h) (Or.inl ⟨by rfl, ?_⟩) c0 ?_
  case refine_2 => (intro wz hz; go_simp; with_reducible rfl)
  simp only [Act.put, List.getElem_toArray, List.getElem_cons_succ, List.getElem_cons_zero, List.setIfInBounds_toArray, List.set_cons_succ, List.set_cons_zero]
  refine wpAnyH_take (i := 3) (v := ?_) rfl (by kernel_rfl) (by kernel_rfl) (by kernel_rfl) (fun _ _ _ h => h) (Or.inl ⟨by rfl, ?_⟩) c0 ?_
  case refine_2 => (intro wz hz; go_simp; with_reducible rfl)
  simp only [Act.put, List.getElem_toArray, List.getElem_cons_succ, List.getElem_cons_zero, List.setIfInBounds_toArray, List.set_cons_succ, List.set_cons_zero]
  refine wpAnyH_take (i := 4) (v := ?_) rfl (by kernel_rfl) (by kernel_rfl) (by kernel_rfl) (fun _ _ _ h => h) (Or.inl ⟨by rfl, ?_⟩) c0 ?_
  case refine_2 => (intro wz hz; go_simp; with_reducible rfl)
  simp only [Act.put, List.getElem_toArray, List.getElem_cons_succ, List.getElem_cons_zero, List.setIfInBounds_toArray, List.set_cons_succ, List.set_cons_zero]
  refine wpAnyH_take (i := 5) (v := ?_) rfl (by kernel_rfl) (by kernel_rfl) (by kernel_rfl) (fun _ _ _ h => h) (Or.inl ⟨by rfl, ?_⟩) c0 ?_
  case refine_2 => (intro wz hz; go_simp; with_reducible rfl)
  simp only [Act.put, List.getElem_toArray, List.getElem_cons_succ, List.getElem_cons_zero, List.setIfInBounds_toArray, List.set_cons_succ, List.set_cons_zero]
  refine wpAnyH_take (i := 6) (v := ?_) rfl (by kernel_rfl) (by kernel_rfl) (by kernel_rfl) (fun _ _ _ h => h) (Or.inl ⟨by rfl, ?_⟩) c0 ?_
  case refine_2 => (intro wz hz; go_simp; with_reducible rfl)
  simp only [Act.put, List.getElem_toArray, List.getElem_cons_succ, List.getElem_cons_zero, List.setIfInBounds_toArray, List.set_cons_succ, List.set_cons_zero]
  refine wpAnyH_take (i := 7) (v := ?_) rfl (by kernel_rfl) (by kernel_rfl) (by kernel_rfl) (fun _ _ _ h => h) (Or.inl ⟨by rfl, ?_⟩) c0 ?_
  case refine_2 => (intro wz hz; go_simp; with_reducible rfl)
  simp only [Act.put, List.getElem_toArray, List.getElem_cons_succ, List.getElem_cons_zero, List.setIfInBounds_toArray, List.set_cons_succ, List.set_cons_zero]
  refine anyH_one (i := 1) (by kernel_rfl) rfl rfl (fun H hH => ?_)
  simp only [List.getElem_toArray, List.getElem_cons_succ, List.getElem_cons_zero]
  go_simp
  refine (wordS hso SD.out).mono ?_
  rintro e w1 ⟨rfl, hs⟩
  have S1 := Lib.hid hs
  clear hs
  have c1 := S1.out.cnt
  refine hH _ _ c1 ?_
  clear hH H
  refine anyH_one (i := 8) (by kernel_rfl) rfl rfl (fun H hH => ?_)
  simp only [List.getElem_toArray, List.getElem_cons_succ, List.getElem_cons_zero]
  go_simp
  refine (rep_list g q q L [] w1 hq h16 hL S1.out.rdr).mono ?_
  rintro e w2 ⟨AL, cL, rfl, hown, hr, hg⟩
  have S2 := Lib.hid (S1.out.grow hr hg)
  have HO := Lib.hid (own_moN hown S1.out.sz)
  clear hown hr hg
  have c2 := S2.out.cnt
  refine hH _ _ c2 ?_
  clear hH H
  refine wpAnyH_take (i := 9) (v := ?_) rfl (by kernel_rfl) (by kernel_rfl) (by kernel_rfl) (fun _ _ _ h => h) (Or.inl ⟨by rfl, ?_⟩) c2 ?_
  case refine_2 => (intro wz hz; go_simp; with_reducible rfl)
  simp only [Act.put, List.getElem_toArray, List.getElem_cons_succ, List.getElem_cons_zero, List.setIfInBounds_toArray, List.set_cons_succ, List.set_cons_zero]
  refine anyH_one (i := 10) (by kernel_rfl) rfl rfl (fun H hH => ?_)
  simp only [List.getElem_toArray, List.getElem_cons_succ, List.getElem_cons_zero]
  refine wp_st 50 (.tmp 2) (.tmp 12) rfl w.heap.size 0 (ctlC 0 so 0 0 0 0 0 (.slice AL q cL) (.slice none 0 0) (.slice none 0 0) (.slice none 0 0) (.slice none 0 0) 0) (by rfl) (by with_unfolding_all rfl) 50 zCtl S2.out.cell (Nat.le_refl 13) (rowCtl rfl) (ctlC_one _ _ _ _ _ _ _ _ _ _ _ _ _ _ _ _ _ _ _ _ _ _ _) ?_
  intro w9 hB9 ho9
  rw [splice_all _ _ (by rfl)] at hB9
  have hov := S2.out.over ho9
  have c9 := hov.1.cnt
  refine hH _ _ c9 ?_
  clear hH H
  refine wpAnyH_done (by kernel_rfl) ?_ _
  refine NoPanic.normal ?_
  go_wp2
  refine ret_row rfl rfl hB9 (rowCtl rfl) rfl ?_
  exact ⟨_, rfl, ⟨AL, cL, none, 0, none, 0, none, 0, none, 0, by rw [show (mkRR 0 so L).reps.length = q from hq]; rfl, by
      show w9.ownsRow _ _ _ (.slice AL L.length cL) L.length _
      rw [hq]
      exact own_thN HO.out ho9.grown (fun p hp => .inr ⟨_, _, _, by injection hp with hp; subst hp; exact S2.out.cell, by decide⟩), nilN _ _ _ _, nilN _ _ _ _, nilN _ _ _ _, nilN _ _ _ _⟩, hov.1, hov.2⟩
set_option maxRecDepth 100000 in
set_option maxHeartbeats 1000000 in
theorem sent_any (g q : Nat) (so ti st pa oc : Nat) (L : List Rep) (w : World) (hso : so < 4294967296) (hti : ti < 18446744073709551616) (hst : st < 4294967296) (hpa : pa < 4294967296) (hoc : oc < 4294967296) (hL : ∀ x ∈ L, x.fit ∧ x.ok) (hq : L.length = q) (h16 : q ≤ 16) (h : Rdr w g q (bSR so ti st pa oc L)) :
    Calls Tryd.prog 56 #[.pointer (some ⟨g, 0, none⟩)] w fun r w' => ∃ cs, r = .returned (.agg cs.toArray) ∧ OwnC w' w.heap.size cs (mkSR 0 so ti st pa oc L) ∧ Rdr w' g q [] ∧ w.grownBy w' (some g) := by
  have hz := zeroCtl
  have S0 := Lib.hid (StG.start h 50 zCtl #[.int .i64 0, .int .u32 0, .int .u32 0, .int .u64 0, .int .u32 0, .int .u32 0, .int .u32 0, .slice none 0 0, .slice none 0 0, .slice none 0 0, .slice none 0 0, .slice none 0 0, .int .u64 0] rfl)
  simp only [bSR] at S0
  rw [← List.append_nil (L.flatMap repB)] at S0
  clear h
  go_enter Tryd.func56, Tryd.ntmps56
  go_wp2
  have SD := Lib.hid S0.out.drew
  have c0 := SD.out.cnt
  refine wp_region_noPanic ?_
  refine wp_region_held (S := fun wz => wz.cell? ⟨g, 0, none⟩ = some (.int .i64 (q : Int))) (by kernel_rfl) ?_
  change wpAnyH _ _ _ _ _ _ _ _ (World.drew _)
  generalize (w.alloc (.cells #[.int .i64 0, .int .u32 0, .int .u32 0, .int .u64 0, .int .u32 0, .int .u32 0, .int .u32 0, .slice none 0 0, .slice none 0 0, .slice none 0 0, .slice none 0 0, .slice none 0 0, .int .u64 0] 50)).drew = w0 at SD c0 ⊢
  refine wpAnyH_take (i := 0) (v := ?_) rfl (by kernel_rfl) (by kernel_rfl) (by kernel_rfl) (fun _ _ _ h => h) (Or.inl ⟨by rfl, ?_⟩) c0 ?_
  case refine_2 => (intro wz hz; go_simp; with_reducible rfl)
  simp only [Act.put, List.getElem_toArray, List.getElem_cons_zero, List.setIfInBounds_toArray, List.set_cons_succ, List.set_cons_zero]
  refine wpAnyH_take (i := 2) (v := ?_) rfl (by kernel_rfl) (by kernel_rfl) (by kernel_rfl) (fun _ _ _ h => h) (Or.inl ⟨by rfl, ?_⟩) c0 ?_
  case refine_2 => (intro wz hz; go_simp; with_reducible rfl)
  simp only [Act.put, List.getElem_toArray, List.getElem_cons_succ, List.getElem_cons_zero, List.setIfInBounds_toArray, List.set_cons_succ, List.set_cons_zero]
  refine wpAnyH_take (i := 4) (v := ?_) rfl (by kernel_rfl) (by kernel_rfl) (by kernel_rfl) (fun _ _ _ h => h) (Or.inl ⟨by rfl, ?_⟩) c0 ?_
  case refine_2 => (intro wz hz; go_simp; with_reducible rfl)
  simp only [Act.put, List.getElem_toArray, List.getElem_cons_succ, List.getElem_cons_zero, List.setIfInBounds_toArray, List.set_cons_succ, List.set_cons_zero]
  refine wpAnyH_take (i := 6) (v := ?_) rfl (by kernel_rfl) (by kernel_rfl) (by kernel_rfl) (fun _ _ _ h => h) (Or.inl ⟨by rfl, ?_⟩) c0 ?_
  case refine_2 => (intro wz hz; go_simp; with_reducible rfl)
  simp only [Act.put, List.getElem_toArray, List.getElem_cons_succ, List.getElem_cons_zero, List.setIfInBounds_toArray, List.set_cons_succ, List.set_cons_zero]
  refine wpAnyH_take (i := 8) (v := ?_) rfl (by kernel_rfl) (by kernel_rfl) (by kernel_rfl) (fun _ _ _ h => h) (Or.inl ⟨by rfl, ?_⟩) c0 ?_
  case refine_2 => (intro wz hz; go_simp; with_reducible rfl)
  simp only [Act.put, List.getElem_toArray, List.getElem_cons_succ, List.getElem_cons_zero, List.setIfInBounds_toArray, List.set_cons_succ, List.set_cons_zero]
  refine wpAnyH_take (i := 10) (v := ?_) rfl (by kernel_rfl) (by kernel_rfl) (by kernel_rfl) (fun _ _ _ h => h) (Or.inl ⟨by rfl, ?_⟩) c0 ?_
  case refine_2 => (intro wz hz; go_simp; with_reducible rfl)
  simp only [Act.put, List.getElem_toArray, List.getElem_cons_succ, List.getElem_cons_zero, List.setIfInBounds_toArray, List.set_cons_succ, List.set_cons_zero]
  refine wpAnyH_take (i := 11) (v := ?_) rfl (by kernel_rfl) (by kernel_rfl) (by kernel_rfl) (fun _ _ _ h => h) (Or.inl ⟨by rfl, ?_⟩) c0 ?_
  case refine_2 => (intro wz hz; go_simp; with_reducible rfl)
  simp only [Act.put, List.getElem_toArray, List.getElem_cons_succ, List.getElem_cons_zero, List.setIfInBounds_toArray, List.set_cons_succ, List.set_cons_zero]
  refine wpAnyH_take (i := 12) (v := ?_) rfl (by kernel_rfl) (by kernel_rfl) (by kernel_rfl) (fun _ _ _ h => h) (Or.inl ⟨by rfl, ?_⟩) c0 ?_
  case refine_2 => (intro wz hz; go_simp; with_reducible rfl)
  simp only [Act.put, List.getElem_toArray, List.getElem_cons_succ, List.getElem_cons_zero, List.setIfInBounds_toArray, List.set_cons_succ, List.set_cons_zero]
  refine wpAnyH_take (i := 13) (v := ?_) rfl (by kernel_rfl) (by kernel_rfl) (by kernel_rfl) (fun _ _ _ h => h) (Or.inl ⟨by rfl, ?_⟩) c0 ?_
  case refine_2 => (intro wz hz; go_simp; with_reducible rfl)
  simp only [Act.put, List.getElem_toArray, List.getElem_cons_succ, List.getElem_cons_zero, List.setIfInBounds_toArray, List.set_cons_succ, List.set_cons_zero]
  refine wpAnyH_take (i := 14) (v := ?_) rfl (by kernel_rfl) (by kernel_rfl) (by kernel_rfl) (fun _ _ _ h => h) (Or.inl ⟨by rfl, ?_⟩) c0 ?_
  case refine_2 => (intro wz hz; go_simp; with_reducible rfl)
  simp only [Act.put, List.getElem_toArray, List.getElem_cons_succ, List.getElem_cons_zero, List.setIfInBounds_toArray, List.set_cons_succ, List.set_cons_zero]
  refine wpAnyH_take (i := 15) (v := ?_) rfl (by kernel_rfl) (by kernel_rfl) (by kernel_rfl) (fun _ _ _ h => h) (Or.inl ⟨by rfl, ?_⟩) c0 ?_
  case refine_2 => (intro wz hz; go_simp; with_reducible rfl)
  simp only [Act.put, List.getElem_toArray, List.getElem_cons_succ, List.getElem_cons_zero, List.setIfInBounds_toArray, List.set_cons_succ, List.set_cons_zero]
  refine anyH_one (i := 1) (by kernel_rfl) rfl rfl (fun H hH => ?_)
  simp only [List.getElem_toArray, List.getElem_cons_succ, List.getElem_cons_zero]
  go_simp
  refine (wordS hso SD.out).mono ?_
  rintro e w1 ⟨rfl, hs⟩
  have S1 := Lib.hid hs
  clear hs
  have c1 := S1.out.cnt
  refine hH _ _ c1 ?_
  clear hH H
  refine anyH_one (i := 3) (by kernel_rfl) rfl rfl (fun H hH => ?_)
  simp only [List.getElem_toArray, List.getElem_cons_succ, List.getElem_cons_zero]
  go_simp
  refine (numberS 8 _ (by omega) (by omega) (by omega) hti S1.out).mono ?_
  rintro e w2 ⟨rfl, hs⟩
  have S2 := Lib.hid hs
  clear hs
  have c2 := S2.out.cnt
  refine hH _ _ c2 ?_
  clear hH H
  refine anyH_one (i := 5) (by kernel_rfl) rfl rfl (fun H hH => ?_)
  simp only [List.getElem_toArray, List.getElem_cons_succ, List.getElem_cons_zero]
  go_simp
  refine (wordS hst S2.out).mono ?_
  rintro e w3 ⟨rfl, hs⟩
  have S3 := Lib.hid hs
  clear hs
  have c3 := S3.out.cnt
  refine hH _ _ c3 ?_
  clear hH H
  refine anyH_one (i := 7) (by kernel_rfl) rfl rfl (fun H hH => ?_)
  simp only [List.getElem_toArray, List.getElem_cons_succ, List.getElem_cons_zero]
  go_simp
  refine (wordS hpa S3.out).mono ?_
  rintro e w4 ⟨rfl, hs⟩
  have S4 := Lib.hid hs
  clear hs
  have c4 := S4.out.cnt
  refine hH _ _ c4 ?_
  clear hH H
  refine anyH_one (i := 9) (by kernel_rfl) rfl rfl (fun H hH => ?_)
  simp only [List.getElem_toArray, List.getElem_cons_succ, List.getElem_cons_zero]
  go_simp
  refine (wordS hoc S4.out).mono ?_
  rintro e w5 ⟨rfl, hs⟩
  have S5 := Lib.hid hs
  clear hs
  have c5 := S5.out.cnt
  refine hH _ _ c5 ?_
  clear hH H
  refine anyH_one (i := 16) (by kernel_rfl) rfl rfl (fun H hH => ?_)
  simp only [List.getElem_toArray, List.getElem_cons_succ, List.getElem_cons_zero]
  go_simp
  refine (rep_list g q q L [] w5 hq h16 hL S5.out.rdr).mono ?_
  rintro e w6 ⟨AL, cL, rfl, hown, hr, hg⟩
  have S6 := Lib.hid (S5.out.grow hr hg)
  have HO := Lib.hid (own_moN hown S5.out.sz)
  clear hown hr hg
  have c6 := S6.out.cnt
  refine hH _ _ c6 ?_
  clear hH H
  refine wpAnyH_take (i := 17) (v := ?_) rfl (by kernel_rfl) (by kernel_rfl) (by kernel_rfl) (fun _ _ _ h => h) (Or.inl ⟨by rfl, ?_⟩) c6 ?_
  case refine_2 => (intro wz hz; go_simp; with_reducible rfl)
  simp only [Act.put, List.getElem_toArray, List.getElem_cons_succ, List.getElem_cons_zero, List.setIfInBounds_toArray, List.set_cons_succ, List.set_cons_zero]
  refine anyH_one (i := 18) (by kernel_rfl) rfl rfl (fun H hH => ?_)
  simp only [List.getElem_toArray, List.getElem_cons_succ, List.getElem_cons_zero]
  refine wp_st 50 (.tmp 2) (.tmp 20) rfl w.heap.size 0 (ctlC 0 so 0 ti st pa oc (.slice AL q cL) (.slice none 0 0) (.slice none 0 0) (.slice none 0 0) (.slice none 0 0) 0) (by rfl) (by with_unfolding_all rfl) 50 zCtl S6.out.cell (Nat.le_refl 13) (rowCtl rfl) (ctlC_one _ _ _ _ _ _ _ _ _ _ _ _ _ _ _ _ _ _ _ _ _ _ _) ?_
  intro w9 hB9 ho9
  rw [splice_all _ _ (by rfl)] at hB9
  have hov := S6.out.over ho9
  have c9 := hov.1.cnt
  refine hH _ _ c9 ?_
  clear hH H
  refine wpAnyH_done (by kernel_rfl) ?_ _
  refine NoPanic.normal ?_
  go_wp2
  refine ret_row rfl rfl hB9 (rowCtl rfl) rfl ?_
  exact ⟨_, rfl, ⟨AL, cL, none, 0, none, 0, none, 0, none, 0, by rw [show (mkSR 0 so ti st pa oc L).reps.length = q from hq]; rfl, by
      show w9.ownsRow _ _ _ (.slice AL L.length cL) L.length _
      rw [hq]
      exact own_thN HO.out ho9.grown (fun p hp => .inr ⟨_, _, _, by injection hp with hp; subst hp; exact S6.out.cell, by decide⟩), nilN _ _ _ _, nilN _ _ _ _, nilN _ _ _ _, nilN _ _ _ _⟩, hov.1, hov.2⟩
end Go.Proofs.YtacaempcbdekaaaDoor
