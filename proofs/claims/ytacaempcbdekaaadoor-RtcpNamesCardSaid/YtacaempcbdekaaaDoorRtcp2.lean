/- Contracts of package rtcp: numbers that a reader goes along, and what is behind them; one element more behind a slice of the call's own. No statement is proved here. -/
import Derived.Test.YtacaempcbdekaaaDoorRtcp1
import Derived.Test.YtacaempcbdekaaaDoorRtcpNum2
import Derived.Maps.AppendAt
namespace Go.Proofs.YtacaempcbdekaaaDoor
open Go.RowKit
set_option linter.unusedVariables false

theorem grown_then {w w2 w3 : World} {g : Nat} {row : Option Nat} (h : w.grownBy w2 (some g)) (k : w2.grownBy w3 row) (hr : ∀ p, row = some p → w.heap.size ≤ p ∨ p = g) : w.grownBy w3 (some g) :=
  ⟨k.os.trans h.os, k.tape.trans h.tape, k.output.trans h.output, Nat.le_trans h.size k.size, fun i hi hne => (k.block i (Nat.lt_of_lt_of_le hi h.size) (fun e => by
    rcases hr i e.symm with h2 | h2
    · omega
    · exact hne (by rw [h2]))).trans (h.block i hi hne)⟩
theorem grown_self (w : World) (r : Option Nat) : w.grownBy w r := grown_of_below (Below.refl _ _) r
theorem grown_alloc (w : World) (o : Obj) (r : Option Nat) : w.grownBy (w.alloc o) r := grown_of_below ((Below.refl _ _).alloc (Nat.le_refl _) _) r
theorem Rdr.alloc {w : World} {g q : Nat} {bs : List UInt8} (h : Rdr w g q bs) (o : Obj) : Rdr (w.alloc o) g q bs := h.below ((Below.refl _ _).alloc (Nat.le_refl _) _)

/-- What a slice of e, of the type t, is told of: an element has sz cells. -/
def ElT (e t : TypeId) (sz : Nat) : Prop := ∃ (i : TypeInfo) (z : Value), Tryd.prog.underlying t = some (.slice e) ∧ Tryd.prog.info? e = some i ∧ i.zero = some z ∧ i.size = sz ∧ i.bytes ≤ 400 ∧ z.cells.size = sz ∧ 0 < sz
theorem elT {e t : TypeId} {sz by8 : Nat} {z : Value} (hu : Tryd.prog.underlying t = some (.slice e)) (h : (Tryd.prog.info? e).map (fun i => (i.zero, i.size, i.bytes)) = some (some z, sz, by8)) (h8 : by8 ≤ 400) (hz : z.cells.size = sz) (h0 : 0 < sz) : ElT e t sz := by
  generalize hp : Tryd.prog.info? e = p at h
  cases p with
  | none => cases h
  | some i =>
    simp only [Option.map_some, Option.some.injEq, Prod.mk.injEq] at h
    exact ⟨i, z, hu, hp, h.1, h.2.1, by omega, hz, h0⟩
/-- One element is put behind elements of the call's own. -/
theorem wpList_appV {w : World} {ops : Array Oper} {rest : List Oper} {o : Oper} {a : Act} {Q : Exit → Act → World → Prop} (hgd : o.guard = none) (s y : Operand) {t e : TypeId} {sz : Nat} (hE : ElT e t sz)
    (ho : o.op = .call { callee := .builtin .append, args := #[s, y], argTypes := #[t, t] })
    (base : Nat) (v : Value) (n : Nat) (xs : List Value) (hs : a.eval s = v) (hown : w.ownsRow base e sz v n xs) (g : Nat) (hy : a.eval y = .slice (some ⟨g, 0, none⟩) 1 1) (row : List Value) (hrow : row.length = sz) (h1 : ∀ u ∈ row, u.oneCell' = true) {e' : TypeId} (hB : BlkV w g e' row) (hn : n ≤ 1000000) (hbase : base ≤ w.heap.size)
    (h : ∀ v' w', w'.ownsRow base e sz v' (n + 1) (xs ++ row) → w.grownBy w' v.ownBlock → (v'.ownBlock = v.ownBlock ∨ v'.ownBlock = some w.heap.size) → wpList Tryd.prog ops Q rest (a.put o.dst v') w') : wpList Tryd.prog ops Q (o :: rest) a w := by
  obtain ⟨i, z, hu, hi, hz, hsz, hby, hzs, h0⟩ := hE
  refine wpList_append_own_at w hgd s y t ho base e i z sz i.bytes hu hi hz hsz rfl hzs h0 v n xs hs hown ⟨g, 0, none⟩ 1 1 row hy (by omega) ?_ h1 (by simp [maxLen]; omega) ?_ hbase (fun v' w' h1 h2 _ h4 => h v' w' h1 h2 h4)
  · intro j u hj
    rw [add_lit, Nat.zero_add, hB.cell j]
    exact hj
  · have : (n + 1) * i.bytes ≤ 1000001 * 400 := Nat.mul_le_mul (by omega) hby
    omega
theorem own_formN {w : World} {base : Nat} {e : TypeId} {sz : Nat} {v : Value} {n : Nat} {xs : List Value} (h : w.ownsRow base e sz v n xs) : ∃ A c, v = .slice A n c := by
  rcases h.2 with ⟨rfl, rfl⟩ | ⟨g, cap, cur, rfl, _⟩
  · exact ⟨none, 0, rfl⟩
  · exact ⟨_, cap, rfl⟩

/-- A number of m bytes, and what is behind it. -/
theorem numberB (g q m x : Nat) (tl : List UInt8) (w : World) (h1 : 1 ≤ m) (h8 : m ≤ 8) (hx : x < 256 ^ m) (h : Rdr w g q (beb m x ++ tl)) :
    Calls Tryd.prog 65 #[.pointer (some ⟨g, 0, none⟩), .int .i64 (m : Int)] w fun e w' => e = .returned (.int .u64 (x : Int)) ∧ Rdr w' g q tl ∧ Only g w w' := by
  refine (number_ok g q m _ w h h1 h8 (by simp [length_beb])).mono ?_
  rintro e w' ⟨rfl, h2, h3⟩
  rw [List.take_left' (length_beb m x), numb_beb, Nat.mod_eq_of_lt hx]
  rw [List.drop_left' (length_beb m x)] at h2
  exact ⟨rfl, h2, h3⟩
theorem wordB (g q x : Nat) (tl : List UInt8) (w : World) (hx : x < 4294967296) (h : Rdr w g q (beb 4 x ++ tl)) :
    Calls Tryd.prog 64 #[.pointer (some ⟨g, 0, none⟩)] w fun e w' => e = .returned (.int .u32 (x : Int)) ∧ Rdr w' g q tl ∧ Only g w w' := by
  refine (word_ok g q _ w h (by simp [length_beb])).mono ?_
  rintro e w' ⟨rfl, h2, h3⟩
  rw [List.take_left' (length_beb 4 x), numb_beb, Nat.mod_eq_of_lt (show x < 256 ^ 4 from hx)]
  rw [List.drop_left' (length_beb 4 x)] at h2
  exact ⟨rfl, h2, h3⟩
theorem bytesB (g q : Nat) (bs tl : List UInt8) (w : World) (h : Rdr w g q (bs ++ tl)) (m : Int) (hm : m = bs.length) :
    Calls Tryd.prog 76 #[.pointer (some ⟨g, 0, none⟩), .int .i64 m] w fun e w' => ∃ A c, e = .returned (.slice A bs.length c) ∧ RdS w' A bs.length c bs ∧ Rdr w' g q tl ∧ LoN A bs.length g ∧ Only g w w' := by
  subst hm
  refine (bytes_ok g q bs.length _ w h (by simp)).mono ?_
  rintro e w' ⟨A, c, rfl, h1, h2, h3, h4⟩
  rw [List.take_left] at h1
  rw [List.drop_left] at h2
  exact ⟨A, c, rfl, h1, h2, h3, h4⟩

set_option maxRecDepth 100000 in
set_option maxHeartbeats 400000 in
theorem zerosB (g q n : Nat) (tl : List UInt8) (w : World) (h : Rdr w g q (List.replicate n 0 ++ tl)) :
    Calls Tryd.prog 73 #[.pointer (some ⟨g, 0, none⟩), .int .i64 (n : Int)] w fun e w' => e = .returned (.tuple #[]) ∧ Rdr w' g q tl ∧ Only g w w' := by
  have hb := bytesB g q (List.replicate n 0) tl w h n (by simp)
  rw [List.length_replicate] at hb
  have HB := Lib.hid hb
  have hs := h.small
  rw [List.length_append, List.length_replicate] at hs
  clear hb h
  go_enter Tryd.func73, Tryd.ntmps73
  go_wp2_with (go_at_call 76; ((with_reducible refine (Hid.out HB).mono ?_); rintro e w1 ⟨A, c, rfl, h1, h2, h3, h4⟩; have R1 := Lib.hid h1; have D1 := Lib.hid (And.intro h2 h4); clear h1 h2 h3 h4))
  go_loopw [10] (fun i wx => ∃ k : Nat, k ≤ n ∧ i = .int .i64 k ∧ wx = w1) (fun i _ => n - (intOf i).toNat)
  case atStart => exact ⟨0, by omega, rfl, rfl⟩
  case round =>
    obtain ⟨k, hk, rfl, rfl⟩ := hrel
    by_cases hkn : k < n
    · have hr := R1.out.2.2.2.2
      obtain ⟨b, off, rfl, hlt, hc⟩ := hr (by omega)
      have c1 := hc k hkn
      have e0 : (List.replicate n (0 : UInt8)).getD k 0 = 0 := by simp [List.getD, hkn]
      rw [e0] at c1
      have c2 : wr.cell? ⟨b, off + k, none⟩ = some (.int .u8 0) := c1
      clear hr hc c1 e0
      go_wp2_with (go_at_call 24; ((with_reducible refine (refuse_no _ _ _ ?_).mono ?_); (first | rfl | simp); rintro e w' ⟨rfl, rfl⟩))
      go_roundw
      case rel => exact ⟨k + 1, by omega, by go_num, by trivial⟩
      case measure => simp [intOf]; omega
    · go_wp2
      go_end0
      exact ⟨rfl, D1.out.1, D1.out.2⟩
end Go.Proofs.YtacaempcbdekaaaDoor
