/- Contracts of package rtcp: how a reader goes along bytes. No statement is proved here. -/
import Derived.Test.YtacaempcbdekaaaDoorOct
import Derived.Test.YtacaempcbdekaaaDoorMem
import Derived.WalkLawsBesides
namespace Go.Proofs.YtacaempcbdekaaaDoor
open Go.RowKit
set_option linter.unusedVariables false

theorem undB : Tryd.prog.underlying 25 = some (.slice (Tryd.prog.elem 25)) := by kernel_rfl
theorem szB : ∀ w, (sizeOf (Tryd.prog.elem 25)).run Tryd.prog w = .ok 1 w := fun w => by kernel_rfl

theorem refuse_no (b : Bool) (c : Int) (w : World) (hb : b = false) : Calls Tryd.prog 24 #[.bool b, .int .i64 c] w fun e w' => e = .returned (.tuple #[]) ∧ w = w' := by
  subst hb
  go_enter Tryd.func24, Tryd.ntmps24
  go_wp2
  go_end0
  exact ⟨rfl, rfl⟩

/-- The first bytes of a slice that reads. -/
theorem RdS.headR {w : World} {A : Option Addr} {n c : Nat} {bs : List UInt8} (h : RdS w A n c bs) (m : Nat) (hm : m ≤ n) : RdS w A m c (bs.take m) := by
  obtain ⟨h1, h2, h3, h4, h5⟩ := h
  refine ⟨by rw [List.length_take]; omega, by omega, h3, h4, fun hn => ?_⟩
  obtain ⟨b, off, hA, hlt, hc⟩ := h5 (by omega)
  refine ⟨b, off, hA, hlt, fun j hj => ?_⟩
  rw [hc j (by omega)]
  simp [List.getD, hj]
theorem RdS.only {w w' : World} {A : Option Addr} {n c g : Nat} {bs : List UInt8} (h : RdS w A n c bs) (ho : Only g w w') (hg : OffN A n g) : RdS w' A n c bs :=
  h.keep ho.grown fun p hp => by injection hp with hp; subst hp; exact hg

/-- A slice of bytes that lie in a block ahead of g, if there are any. -/
def LoN (A : Option Addr) (n g : Nat) : Prop := 0 < n → ∀ ad, A = some ad → ad.block < g
theorem LoN.off {A : Option Addr} {n g p : Nat} (h : LoN A n g) (hp : g ≤ p) : OffN A n p := fun h0 ad hA e => by have := h h0 ad hA; omega
theorem LoN.of_off {A A2 : Option Addr} {n m g : Nat} (h : LoN A n g) (h2 : ∀ p, Off A p → Off A2 p) (hm : m ≤ n) : LoN A2 m g := by
  intro h0 ad hA
  refine Nat.lt_of_not_le fun hle => ?_
  exact h2 ad.block (fun ad' hA' e => by have := h (by omega) ad' hA'; omega) ad hA rfl
theorem RdS.lo {w : World} {A : Option Addr} {n c : Nat} {bs : List UInt8} (h : RdS w A n c bs) {g : Nat} (hg : w.heap.size ≤ g) : LoN A n g := by
  intro h0 ad hA
  obtain ⟨b, off, hA', hlt, _⟩ := h.2.2.2.2 h0
  rw [hA] at hA'
  injection hA' with hA'
  subst hA'
  show b < g
  omega
/-- Block g is a reader with a count q that hasn't gone along bs yet. -/
def Rdr (w : World) (g q : Nat) (bs : List UInt8) : Prop := ∃ A n c, BlkV w g 99 [.int .i64 (q : Int), .slice A n c] ∧ RdS w A n c bs ∧ LoN A n g
theorem Rdr.grown {w w' : World} {g q : Nat} {bs : List UInt8} (h : Rdr w g q bs) {row : Option Nat} (hg : w.grownBy w' row) (hr : ∀ p, row = some p → g < p) : Rdr w' g q bs := by
  obtain ⟨A, n, c, h1, h2, h3⟩ := h
  exact ⟨A, n, c, h1.grown hg (fun e => by have := hr g e.symm; omega), h2.keep hg (fun p hp => h3.off (by have := hr p hp; omega)), h3⟩
theorem Rdr.below {w w' : World} {g q : Nat} {bs : List UInt8} (h : Rdr w g q bs) (hb : Below w.heap.size w w') : Rdr w' g q bs := by
  obtain ⟨A, n, c, h1, h2, h3⟩ := h
  exact ⟨A, n, c, h1.below hb h1.lt, h2.below hb, h3⟩
theorem Rdr.lt {w : World} {g q : Nat} {bs : List UInt8} (h : Rdr w g q bs) : g < w.heap.size := by
  obtain ⟨A, n, c, h1, h2, h3⟩ := h
  exact h1.lt
theorem Rdr.drew {w : World} {g q : Nat} {bs : List UInt8} (h : Rdr w g q bs) : Rdr w.drew g q bs := h
theorem Rdr.small {w : World} {g q : Nat} {bs : List UInt8} (h : Rdr w g q bs) : bs.length ≤ 9223372036854775807 := by
  obtain ⟨A, n, c, h1, h2, h3⟩ := h
  rw [h2.len]; exact h2.small.1

set_option maxRecDepth 100000 in
theorem bytes_ok (g q m : Nat) (bs : List UInt8) (w : World) (h : Rdr w g q bs) (hm : m ≤ bs.length) :
    Calls Tryd.prog 76 #[.pointer (some ⟨g, 0, none⟩), .int .i64 m] w fun e w' => ∃ A c, e = .returned (.slice A m c) ∧ RdS w' A m c (bs.take m) ∧ Rdr w' g q (bs.drop m) ∧ LoN A m g ∧ Only g w w' := by
  obtain ⟨A, n, c, hB, hR, hL⟩ := h
  have hO := hL.off (Nat.le_refl g)
  have hl := hR.len
  have hs := hR.small
  have hmn : m ≤ n := by omega
  have hle := hR.le
  have hc : w.cell? ⟨g, 1, none⟩ = some (.slice A n c) := (hB.cell 1).trans rfl
  have hf := hB.frozen 1
  have hHead := Lib.hid (hR.headR m hmn)
  have HR := Lib.hid hR
  have HO := Lib.hid hO
  have HLo := Lib.hid hL
  have HB := Lib.hid hB
  clear hR hO hB hL
  go_enter Tryd.func76, Tryd.ntmps76
  go_wp2_with (first
    | (go_at_call 24; ((with_reducible refine (refuse_no _ _ _ ?_).mono ?_); (simp; omega); rintro e w' ⟨rfl, rfl⟩))
    | ((with_reducible refine wpList_cut rfl 25 (.tmp 24) (.tmp 25) rfl undB szB A n c bs rfl m _ rfl rfl HR.out hmn ?_); intro A2 hR2 hO2))
  go_ret
  have hS := Lib.hid (HB.out.set_ 1 (.slice A2 (n - m) (c - m)))
  have ho := Only.set w g 1 (.slice A2 (n - m) (c - m))
  refine ⟨A, c, rfl, hHead.out.only ho (fun h0 => HO.out (by omega)), ⟨A2, n - m, c - m, hS.out, hR2.only ho (fun h0 => hO2 g (HO.out (by omega))), HLo.out.of_off hO2 (by omega)⟩, HLo.out.of_off (fun _ h => h) hmn, ho⟩

set_option maxRecDepth 100000 in
theorem number_ok (g q m : Nat) (bs : List UInt8) (w : World) (h : Rdr w g q bs) (h1 : 1 ≤ m) (h8 : m ≤ 8) (hm : m ≤ bs.length) :
    Calls Tryd.prog 65 #[.pointer (some ⟨g, 0, none⟩), .int .i64 m] w fun e w' => e = .returned (.int .u64 (numb (bs.take m))) ∧ Rdr w' g q (bs.drop m) ∧ Only g w w' := by
  have H := Lib.hid h
  have HN : Hid (∀ A1 c1 W, RdS W A1 m c1 (bs.take m) → Calls Tryd.prog 50 #[.slice A1 m c1, .int .i64 0, .int .i64 m] W fun e w' => e = .returned (.tuple #[.int .u64 (numb (bs.take m)), .bool true]) ∧ W = w') := Lib.hid fun A1 c1 W hr => by
    have := num_yes A1 m c1 (bs.take m) 0 m W hr h1 h8 (by omega)
    rw [List.drop_zero, List.take_take, Nat.min_self] at this
    exact this
  clear h
  go_enter Tryd.func65, Tryd.ntmps65
  go_wp2_with (first
    | (go_at_call 76; ((with_reducible refine (bytes_ok g q m bs _ H.out hm).mono ?_); rintro e w1 ⟨A1, c1, rfl, hr1, hd1, hl1, ho1⟩; have R1 := Lib.hid hr1; have D1 := Lib.hid (And.intro hd1 ho1); clear hr1 hd1 hl1 ho1))
    | (go_at_call 50; ((with_reducible refine (Hid.out HN A1 c1 _ R1.out).mono ?_); rintro e w2 ⟨rfl, rfl⟩)))
  go_ret
  exact ⟨rfl, D1.out.1, D1.out.2⟩

set_option maxRecDepth 100000 in
theorem word_ok (g q : Nat) (bs : List UInt8) (w : World) (h : Rdr w g q bs) (hm : 4 ≤ bs.length) :
    Calls Tryd.prog 64 #[.pointer (some ⟨g, 0, none⟩)] w fun e w' => e = .returned (.int .u32 (numb (bs.take 4))) ∧ Rdr w' g q (bs.drop 4) ∧ Only g w w' := by
  have HN : Hid (∀ W, Rdr W g q bs → Calls Tryd.prog 65 #[.pointer (some ⟨g, 0, none⟩), .int .i64 4] W fun e w' => e = .returned (.int .u64 (numb (bs.take 4))) ∧ Rdr w' g q (bs.drop 4) ∧ Only g W w') := Lib.hid fun W hW => number_ok g q 4 bs W hW (by omega) (by omega) hm
  have H := Lib.hid h
  have hlt : numb (bs.take 4) < 4294967296 := by have h2 := numb_lt (bs.take 4); rw [List.length_take, Nat.min_eq_left hm] at h2; exact h2
  obtain ⟨x, hx⟩ : ∃ x, x = numb (bs.take 4) := ⟨_, rfl⟩
  rw [← hx] at HN hlt ⊢
  have e1 : IntKind.u32.wrap (x : Int) = (x : Int) := by rw [IntKind.wrap_u32]; omega
  clear h hx
  go_enter Tryd.func64, Tryd.ntmps64
  go_wp2_with (go_at_call 65; ((with_reducible refine (Hid.out HN _ H.out).mono ?_); rintro e w1 ⟨rfl, hd1⟩; have D1 := Lib.hid hd1; clear hd1))
  go_ret
  exact ⟨rfl, D1.out.1, D1.out.2⟩

theorem signed_ok (x : Nat) (z : Int) (w : World) (h1 : -8388608 ≤ z) (h2 : z < 8388608) (hx : (x : Int) = if z < 0 then z + 16777216 else z) :
    Calls Tryd.prog 78 #[.int .u64 (x : Int)] w fun e w' => e = .returned (.int .i32 z) ∧ w = w' := by
  have hx2 : x < 16777216 := by split at hx <;> omega
  have e1 : IntKind.u32.wrap (x : Int) = (x : Int) := by rw [IntKind.wrap_u32]; omega
  have e2 : wrap32 ((x : Int) * 256) / 256 = z := by
    unfold wrap32; split at hx <;> omega
  clear hx
  go_enter Tryd.func78, Tryd.ntmps78
  go_wp2
  go_ret
  exact ⟨rfl, rfl⟩
end Go.Proofs.YtacaempcbdekaaaDoor
