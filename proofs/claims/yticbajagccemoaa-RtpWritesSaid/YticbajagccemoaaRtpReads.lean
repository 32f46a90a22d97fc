/- The walk of the statement RtpReads: whatever the bytes, it is true. Conditions: none. -/
import Derived.Test.YticbajagccemoaaRtpLaw
namespace Go.Proofs.Yticbajagccemoaa
open Go.RowKit
set_option linter.unusedVariables false

/-- A whole row is read, wherever it lies, by a load that a guard lets by. -/
theorem wpList_ldR {P : Program} {w : World} {ops : Array Oper} {rest : List Oper} {op : Oper} {a : Act} {Q : Exit → Act → World → Prop} (hw : Region.wanted op (yielded ops a.tmps) = true) (ty : TypeId) (x : Operand) (ho : op.op = .load ty x) (b o : Nat) (hx : a.eval x = .pointer (some ⟨b, o, none⟩)) (cs : List Value) (hc : w.rangeAt b o cs) (hT : RowTy P ty cs.length)
    (h : wpList P ops Q rest (a.put op.dst (.agg cs.toArray)) w) : wpList P ops Q (op :: rest) a w := by
  obtain ⟨d, h1, h2, h3⟩ := hT
  exact wpList_step fun K hK => by rw [if_pos hw]; exact wp_load_mid ty x ho b o hx cs d hc h1 h2 h3 (hK _ _ h)

def zeroP : Pkt := ⟨false, 0, 0, 0, 0, [], false, 0, [], [], 0⟩
/-- The packet that is told of bytes, whether they are one or not. -/
def pktA (bs : List UInt8) : Pkt := if whyR bs = 0 then pktR bs else zeroP
def hdA (bs : List UInt8) : Nat := if whyR bs = 0 then at1 bs else 0
theorem zero_own (w : World) (b : Nat) : PkOwn w b zeroC zeroP := ⟨none, 0, none, 0, none, 0, rfl, World.ownsRow_nil _ _ _ _, World.ownsRow_nil _ _ _ _, World.ownsRow_nil _ _ _ _⟩

theorem read_all (A : Option Addr) (n c : Nat) (bs : List UInt8) (w : World) (hr : RdS w A n c bs) :
    Calls Try.prog 8 #[.slice A n c] w fun e w' => ∃ cs, e = .returned (.tuple #[.agg cs.toArray, .int .i64 (whyR bs)]) ∧ PkOwn w' w.heap.size cs (pktA bs) ∧ Below w.heap.size w w' := by
  by_cases hy : whyR bs = 0
  · rw [show pktA bs = pktR bs by simp [pktA, hy], hy]
    exact read_any_ok A n c bs w hr hy
  · rw [show pktA bs = zeroP by simp [pktA, hy]]
    exact (read_any_no A n c bs w hr hy).mono fun e w' h => ⟨zeroC, h.1, zero_own _ _, h.2⟩
theorem rread_all (A : Option Addr) (n c : Nat) (bs : List UInt8) (w : World) (hr : RdS w A n c bs) :
    Calls Try.prog 9 #[.slice A n c] w fun e w' => ∃ cs, e = .returned (.tuple #[.agg cs.toArray, .int .i64 (hdA bs : Nat), .int .i64 (whyR bs)]) ∧ PkOwn w' w.heap.size cs (pktA bs) ∧ Below w.heap.size w w' := by
  by_cases hy : whyR bs = 0
  · rw [show pktA bs = pktR bs by simp [pktA, hy], show hdA bs = at1 bs by simp [hdA, hy], hy]
    exact rread_ok A n c bs w hr hy
  · rw [show pktA bs = zeroP by simp [pktA, hy], show hdA bs = 0 by simp [hdA, hy]]
    exact (rread_no A n c bs w hr hy).mono fun e w' h => ⟨zeroC, h.1, zero_own _ _, h.2⟩
theorem head_all (A : Option Addr) (n c : Nat) (bs : List UInt8) (w : World) (hr : RdS w A n c bs) :
    Calls Try.prog 10 #[.slice A n c] w fun e w' => e = .returned (.tuple #[.int .i64 (hdA bs : Nat), .bool (whyR bs == 0)]) ∧ Below w.heap.size w w' := by
  by_cases hy : whyR bs = 0
  · rw [show hdA bs = at1 bs by simp [hdA, hy], hy]
    exact head_ok A n c bs w hr hy
  · rw [show hdA bs = 0 by simp [hdA, hy], show (whyR bs == 0) = false by simpa using hy]
    exact head_no A n c bs w hr hy

/-- A packet that was told is laid into a new box, and read there. -/
theorem boxed {w w1 w2 : World} {cs : List Value} {p : Pkt} {b : Nat} (h : PkOwn w1 b cs p) (ho : Only w1.heap.size (w1.alloc (.cells zeroC.toArray 28)) w2) : Below w1.heap.size w1 w2 ∧ PkOwn w2 b cs p := by
  have hb : Below w1.heap.size w1 w2 := ((Below.refl _ _).alloc (Nat.le_refl _) _).trans (ho.below (Nat.le_refl _))
  exact ⟨hb, h.below hb⟩

set_option maxRecDepth 100000 in
set_option maxHeartbeats 2000000 in
theorem rtpReads_walk (a0 : Option Addr) (len0 cap0 : Nat) (bs : List UInt8) (w : World) (hr : RdS w a0 len0 cap0 bs) :
    Calls Try.prog 3 #[.slice a0 len0 cap0] w fun e w' => e = .returned (.bool true) ∧ Below w.heap.size w w' := by
  have hz := zero28
  have hs := hr.small
  have HA := Lib.hid (alive_any w)
  have HR := Lib.hid hr
  obtain ⟨y, hy⟩ : ∃ y, y = whyR bs := ⟨_, rfl⟩
  obtain ⟨P, hP⟩ : ∃ P, P = pktA bs := ⟨_, rfl⟩
  obtain ⟨H, hH⟩ : ∃ H, H = hdA bs := ⟨_, rfl⟩
  have R1 := Lib.hid (fun wx hx => read_all a0 len0 cap0 bs wx hx)
  have R2 := Lib.hid (fun wx hx => rread_all a0 len0 cap0 bs wx hx)
  have R3 := Lib.hid (fun wx hx => head_all a0 len0 cap0 bs wx hx)
  simp only [← hy, ← hP, ← hH] at R1 R2 R3
  clear hr hy hP hH
  by_cases hbig : 3000 < len0
  · go_enter Try.func3, Try.ntmps3
    go_wp2_with (go_at_call 7; ((with_reducible refine (Hid.out HA).mono ?_); rintro e w1 ⟨rfl, hb1⟩))
    go_ret
    exact ⟨rfl, hb1⟩
  · go_enter Try.func3, Try.ntmps3
    go_wp2_with (first
      | (go_at_call 7; ((with_reducible refine (Hid.out HA).mono ?_); rintro e w1 ⟨rfl, hb1⟩; have g1 := Lib.hid hb1; clear hb1))
      | (go_at_call 8; ((with_reducible refine (Hid.out R1 _ (HR.out.below g1.out)).mono ?_); rintro e w2 ⟨cs, rfl, hpk, hb2⟩; have g2 := Lib.hid (g1.out.trans (hb2.mono g1.out.size)); have k2 := Lib.hid hpk; have l2 : Hid (0 + cs.length ≤ zeroC.length) := Lib.hid (by rw [hpk.len]; exact Nat.le_refl 11); clear hb2 hpk))
      | ((with_reducible refine wpList_st rfl 28 (.tmp 3) (.tmp 18) rfl w2.heap.size 0 cs rfl rfl 28 zeroC (BlkV.new w2 _ _) l2.out (row11 k2.out.len) k2.out.one ?_); intro w3 hB3 ho3; rw [splice_all _ _ (zlen.trans k2.out.len.symm)] at hB3; obtain ⟨hb3, hk3⟩ := boxed (w := w) k2.out ho3; have g3 := Lib.hid (g2.out.trans (hb3.mono g2.out.size)); have k3 := Lib.hid hk3; have B3 := Lib.hid hB3; clear hb3 hk3 hB3 ho3)
      | (go_at_call 9; ((with_reducible refine (Hid.out R2 _ (HR.out.below g3.out)).mono ?_); rintro e w4 ⟨cs4, rfl, hpk, hb4⟩; have g4 := Lib.hid (g3.out.trans (hb4.mono g3.out.size)); have k4 := Lib.hid hpk; have k3' := Lib.hid (k3.out.below hb4); have B4 := Lib.hid (B3.out.below hb4 B3.out.lt); have l4 : Hid (0 + cs4.length ≤ zeroC.length) := Lib.hid (by rw [hpk.len]; exact Nat.le_refl 11); clear hb4 hpk))
      | ((with_reducible refine wpList_st rfl 28 (.tmp 5) (.tmp 23) rfl w4.heap.size 0 cs4 rfl rfl 28 zeroC (BlkV.new w4 _ _) l4.out (row11 k4.out.len) k4.out.one ?_); intro w5 hB5 ho5; rw [splice_all _ _ (zlen.trans k4.out.len.symm)] at hB5; obtain ⟨hb5, hk5⟩ := boxed (w := w) k4.out ho5; have g5 := Lib.hid (g4.out.trans (hb5.mono g4.out.size)); have k5 := Lib.hid hk5; have k5' := Lib.hid (k3'.out.below hb5); have B5 := Lib.hid hB5; have B5' := Lib.hid (B4.out.below hb5 B4.out.lt); clear hb5 hk5 hB5 ho5)
      | (go_at_call 10; ((with_reducible refine (Hid.out R3 _ (HR.out.below g5.out)).mono ?_); rintro e w6 ⟨rfl, hb6⟩; have g6 := Lib.hid (g5.out.trans (hb6.mono g5.out.size)); have k6 := Lib.hid ((k5.out.below hb6).rd); have k6' := Lib.hid ((k5'.out.below hb6).rd); have B6 := Lib.hid (B5.out.below hb6 B5.out.lt); have B6' := Lib.hid (B5'.out.below hb6 B5'.out.lt); clear hb6))
      | (with_reducible refine wpList_ldR (by with_unfolding_all rfl) 28 (.tmp 3) rfl w2.heap.size 0 rfl cs (B6'.out.range 0 _ (fun i _ => by rw [Nat.zero_add])) (row11 k2.out.len) ?_)
      | (with_reducible refine wpList_ldR (by with_unfolding_all rfl) 28 (.tmp 5) rfl w4.heap.size 0 rfl cs4 (B6.out.range 0 _ (fun i _ => by rw [Nat.zero_add])) (row11 k4.out.len) ?_)
      | (go_at_call 11; ((with_reducible refine (same_any cs cs4 P _ k6'.out k6.out).mono ?_); rintro e w7 ⟨rfl, hb7⟩; have g7 := Lib.hid (g6.out.trans (hb7.mono g6.out.size)); clear hb7)))
    go_ret
    exact ⟨rfl, g7.out⟩
end Go.Proofs.Yticbajagccemoaa
