/- What the document's answer for layer 11 tells of a packet's bytes: its own put, and what stays. No statement is proved here. -/
import Derived.Test.YtacaempcbdekaaaDoorZRtcpM6
namespace Go.Proofs.YtacaempcbdekaaaDoor
open Go.RowKit
set_option linter.unusedVariables false

set_option maxRecDepth 100000 in
theorem rput11 (w0 W : World) (A : Option Addr) (n c N : Nat) (bs : List UInt8) (m x : Nat) (mi xi : Int) (hmi : mi = m) (hxi : xi = x) (hN : N = n + m) (hb : Below w0.heap.size w0 W) (hr : RdS W A n c bs) (h1 : 1 ≤ m) (h8 : m ≤ 8) (hx : x < 18446744073709551616) (hs : n ≤ 1000000) :
    Calls Tryd.prog 35 #[.slice A n c, .int .i64 mi, .int .u64 xi] W fun e w' => ∃ A' c', e = .returned (.slice A' N c') ∧ BO w0 w' A' N c' (bs ++ beb m x) ∧ Below W.heap.size W w' := by
  subst hmi; subst hxi; subst hN
  have HP := Lib.hid (rput_some A n c bs m x W hr h1 h8 hx (by omega))
  have hl : (bs ++ beb m x).length = n + m := by rw [List.length_append, hr.len, length_beb]
  have HL := Lib.hid hl
  have HB := Lib.hid hb
  clear hr hx hl hb
  go_enter Tryd.func35, Tryd.ntmps35
  go_wp2_with (go_at_call 49; ((with_reducible refine (Hid.out HP).mono ?_); rintro e w1 ⟨v, rfl, ho, hb1⟩; have HO := Lib.hid ho; have HB1 := Lib.hid hb1; clear ho hb1))
  go_ret
  have ho := HO.out
  rw [HL.out] at ho
  obtain ⟨A', c', rfl⟩ := own_formN ho
  exact ⟨A', c', rfl, ⟨own_moN ho HB.out.size, HB.out.trans (HB1.out.mono HB.out.size)⟩, HB1.out⟩
def OneS (w : World) (cs : List Value) (wz : World) : Prop := Below w.heap.size w wz ∧ BlkV wz w.heap.size 50 cs
theorem OneS.drew {w : World} {cs : List Value} {wz : World} (h : OneS w cs wz) : OneS w cs wz.drew := ⟨h.1.drew, h.2⟩
theorem OneS.on {w : World} {cs : List Value} {wz wy : World} (h : OneS w cs wz) (hb : Below wz.heap.size wz wy) : OneS w cs wy := ⟨h.1.trans (hb.mono h.1.size), h.2.below hb h.2.lt⟩
theorem OneS.al {w : World} {cs : List Value} {wz : World} (h : OneS w cs wz) (o : Obj) : OneS w cs (wz.alloc o) := h.on ((Below.refl _ _).alloc (Nat.le_refl _) _)
def OneR (w : World) (cs : List Value) (g : Nat) (x : Rep) (wz : World) : Prop := OneS w cs wz ∧ BlkV wz g 74 (cRep x)
theorem OneR.drew {w : World} {cs : List Value} {g : Nat} {x : Rep} {wz : World} (h : OneR w cs g x wz) : OneR w cs g x wz.drew := ⟨h.1.drew, h.2⟩
theorem OneR.on {w : World} {cs : List Value} {g : Nat} {x : Rep} {wz wy : World} (h : OneR w cs g x wz) (hb : Below wz.heap.size wz wy) : OneR w cs g x wy := ⟨h.1.on hb, h.2.below hb h.2.lt⟩
/-- Two bytes, as a slice of the call's own. -/
theorem rd_tq (w : World) (p q : Nat) (P Q : Int) (hP : P = p) (hQ : Q = q) (h1 : p < 256) (h : q < 256) : RdS (w.alloc (.cells #[.int .u8 P, .int .u8 Q] 5)) (some ⟨w.heap.size, 0, none⟩) 2 2 (beb 1 p ++ beb 1 q) := by
  subst hP; subst hQ
  have e : beb 1 p ++ beb 1 q = [UInt8.ofNat p, UInt8.ofNat q] := by rw [beb_succ 0 q, beb_succ 0 p]; rfl
  rw [e]
  have hB : Blk (w.alloc (.cells #[.int .u8 (p : Int), .int .u8 (q : Int)] 5)) w.heap.size 5 [UInt8.ofNat p, UInt8.ofNat q] := Blk.new_at _ _ _ _ _ rfl (by simp [cells]; omega)
  exact hB.rd rfl (by omega) (by simp [maxLen])
theorem rd_five (w : World) (q : Nat) (h : q < 256) : RdS (w.alloc (.cells #[.int .u8 82, .int .u8 69, .int .u8 77, .int .u8 66, .int .u8 (q : Int)] 5)) (some ⟨w.heap.size, 0, none⟩) 5 5 (letB ++ beb 1 q) := by
  have e : letB ++ beb 1 q = [82, 69, 77, 66, UInt8.ofNat q] := by rw [beb_succ 0 q]; rfl
  rw [e]
  have hB : Blk (w.alloc (.cells #[.int .u8 82, .int .u8 69, .int .u8 77, .int .u8 66, .int .u8 (q : Int)] 5)) w.heap.size 5 [82, 69, 77, 66, UInt8.ofNat q] := Blk.new_at _ _ _ _ _ rfl (by simp [cells]; omega)
  exact hB.rd rfl (by omega) (by simp [maxLen])
theorem lo_more (z : Int) (h1 : -8388608 ≤ z) (h2 : z ≤ 8388607) : beb 3 ((z + 16777216).toNat) = beb 3 (lo24 z) := by
  apply beb_congr
  unfold lo24
  simp only [Nat.reducePow]
  split <;> omega
/-- What One tells. -/
def OneTold (c : Ctl) (w : World) (e : Ending) (w' : World) : Prop := ∃ A' c' N, N = (wr1 c).length ∧ e = .returned (.slice A' N c') ∧ RdS w' A' N c' (wr1 c) ∧ Below w.heap.size w w'
end Go.Proofs.YtacaempcbdekaaaDoor
