/- Contracts of package rtp: how a reader gives up, and how it goes along bytes. No statement is proved here. -/
import Derived.Test.YticbajagccemoaaOct
import Derived.Test.YticbajagccemoaaMem
import Derived.WalkLawsBesides
namespace Go.Proofs.Yticbajagccemoaa
open Go.RowKit
set_option linter.unusedVariables false

theorem undB : Try.prog.underlying 22 = some (.slice (Try.prog.elem 22)) := by kernel_rfl
theorem szB : ∀ w, (sizeOf (Try.prog.elem 22)).run Try.prog w = .ok 1 w := fun w => by kernel_rfl

/-- How a reader gives up. -/
def gone (c : Int) : List PanicEntry := [{ v := .iface 44 (.agg #[.int .i64 c]), recovered := false }]

theorem refuse_no (b : Bool) (c : Int) (w : World) (hb : b = false) : Calls Try.prog 15 #[.bool b, .int .i64 c] w fun e w' => e = .returned (.tuple #[]) ∧ w = w' := by
  subst hb
  go_enter Try.func15, Try.ntmps15
  go_wp2
  go_end0
  exact ⟨rfl, rfl⟩
theorem refuse_yes (b : Bool) (c : Int) (w : World) (hb : b = true) : Calls Try.prog 15 #[.bool b, .int .i64 c] w fun e w' => e = .panicked (gone c) ∧ w = w' := by
  subst hb
  go_enter Try.func15, Try.ntmps15
  go_wp2
  exact ⟨rfl, rfl, rfl⟩

/-- The first bytes of a slice that reads. -/
theorem RdS.headR {w : World} {A : Option Addr} {n c : Nat} {bs : List UInt8} (h : RdS w A n c bs) (m : Nat) (hm : m ≤ n) : RdS w A m c (bs.take m) := by
  obtain ⟨h1, h2, h3, h4, h5⟩ := h
  refine ⟨by rw [List.length_take]; omega, by omega, h3, h4, fun hn => ?_⟩
  obtain ⟨b, off, hA, hlt, hc⟩ := h5 (by omega)
  refine ⟨b, off, hA, hlt, fun j hj => ?_⟩
  rw [hc j (by omega)]
  simp [List.getD, hj]
theorem RdS.only {w w' : World} {A : Option Addr} {n c g : Nat} {bs : List UInt8} (h : RdS w A n c bs) (ho : Only g w w') (hg : OffN A n g) : RdS w' A n c bs :=
  h.keep ho.grown fun p hp => by injection hp with hp; subst hp; exact hg

/-- A slice of bytes that lie in a block ahead of g, if there are any. -/
def LoN (A : Option Addr) (n g : Nat) : Prop := 0 < n → ∀ ad, A = some ad → ad.block < g
theorem LoN.off {A : Option Addr} {n g p : Nat} (h : LoN A n g) (hp : g ≤ p) : OffN A n p := fun h0 ad hA e => by have := h h0 ad hA; omega
theorem LoN.of_off {A A2 : Option Addr} {n m g : Nat} (h : LoN A n g) (h2 : ∀ p, Off A p → Off A2 p) (hm : m ≤ n) : LoN A2 m g := by
  intro h0 ad hA
  refine Nat.lt_of_not_le fun hle => ?_
  exact h2 ad.block (fun ad' hA' e => by have := h (by omega) ad' hA'; omega) ad hA rfl
theorem RdS.lo {w : World} {A : Option Addr} {n c : Nat} {bs : List UInt8} (h : RdS w A n c bs) {g : Nat} (hg : w.heap.size ≤ g) : LoN A n g := by
  intro h0 ad hA
  obtain ⟨b, off, hA', hlt, _⟩ := h.2.2.2.2 h0
  rw [hA] at hA'
  injection hA' with hA'
  subst hA'
  show b < g
  omega
/-- Block g is a reader that hasn't gone along bs yet; n: how many they are. -/
def Rdr (w : World) (g : Nat) (bs : List UInt8) : Prop := ∃ A n c, BlkV w g 48 [.slice A n c] ∧ RdS w A n c bs ∧ LoN A n g
theorem Rdr.grown {w w' : World} {g : Nat} {bs : List UInt8} (h : Rdr w g bs) {row : Option Nat} (hg : w.grownBy w' row) (hr : ∀ p, row = some p → g < p) : Rdr w' g bs := by
  obtain ⟨A, n, c, h1, h2, h3⟩ := h
  exact ⟨A, n, c, h1.grown hg (fun e => by have := hr g e.symm; omega), h2.keep hg (fun p hp => h3.off (by have := hr p hp; omega)), h3⟩
theorem Rdr.below {w w' : World} {g : Nat} {bs : List UInt8} (h : Rdr w g bs) (hb : Below w.heap.size w w') : Rdr w' g bs := by
  obtain ⟨A, n, c, h1, h2, h3⟩ := h
  exact ⟨A, n, c, h1.below hb h1.lt, h2.below hb, h3⟩
theorem Rdr.lt {w : World} {g : Nat} {bs : List UInt8} (h : Rdr w g bs) : g < w.heap.size := by
  obtain ⟨A, n, c, h1, h2, h3⟩ := h
  exact h1.lt
theorem Rdr.drew {w : World} {g : Nat} {bs : List UInt8} (h : Rdr w g bs) : Rdr w.drew g bs := h

set_option maxRecDepth 100000 in
theorem bytes_ok (g m : Nat) (bs : List UInt8) (w : World) (h : Rdr w g bs) (hm : m ≤ bs.length) :
    Calls Try.prog 32 #[.pointer (some ⟨g, 0, none⟩), .int .i64 m] w fun e w' => ∃ A c, e = .returned (.slice A m c) ∧ RdS w' A m c (bs.take m) ∧ Rdr w' g (bs.drop m) ∧ Only g w w' := by
  obtain ⟨A, n, c, hB, hR, hL⟩ := h
  have hO := hL.off (Nat.le_refl g)
  have hl := hR.len
  have hs := hR.small
  have hmn : m ≤ n := by omega
  have hle := hR.le
  have hc := hB.cell 0
  have hf := hB.frozen 0
  simp only [List.getElem?_cons_zero] at hc
  have hHead := Lib.hid (hR.headR m hmn)
  have HR := Lib.hid hR
  have HO := Lib.hid hO
  have HLo := Lib.hid hL
  have HB := Lib.hid hB
  clear hR hO hB hL
  go_enter Try.func32, Try.ntmps32
  go_wp2_with (first
    | (go_at_call 15; ((with_reducible refine (refuse_no _ _ _ ?_).mono ?_); (simp; omega); rintro e w' ⟨rfl, rfl⟩))
    | ((with_reducible refine wpList_cut rfl 22 (.tmp 24) (.tmp 25) rfl undB szB A n c bs rfl m _ rfl rfl HR.out hmn ?_); intro A2 hR2 hO2))
  go_ret
  have hS := Lib.hid (HB.out.set_ 0 (.slice A2 (n - m) (c - m)))
  have ho := Only.set w g 0 (.slice A2 (n - m) (c - m))
  refine ⟨A, c, rfl, hHead.out.only ho (fun h0 => HO.out (by omega)), ⟨A2, n - m, c - m, hS.out, hR2.only ho (fun h0 => hO2 g (HO.out (by omega))), HLo.out.of_off hO2 (by omega)⟩, ho⟩

set_option maxRecDepth 100000 in
theorem bytes_no (g : Nat) (m : Int) (bs : List UInt8) (w : World) (h : Rdr w g bs) (hm : (bs.length : Int) < m) :
    Calls Try.prog 32 #[.pointer (some ⟨g, 0, none⟩), .int .i64 m] w fun e w' => e = .panicked (gone 2) ∧ w = w' := by
  obtain ⟨A, n, c, hB, hR, hO⟩ := h
  have hl := hR.len
  have hs := hR.small
  have hc := hB.cell 0
  simp only [List.getElem?_cons_zero] at hc
  clear hR hO hB
  go_enter Try.func32, Try.ntmps32
  go_wp2_with (go_at_call 15; ((with_reducible refine (refuse_yes _ _ _ ?_).mono ?_); (simp; omega); rintro e w' ⟨rfl, rfl⟩))
  exact ⟨rfl, rfl, rfl⟩
end Go.Proofs.Yticbajagccemoaa
