/- The document's examples for layer 10 hold: contract of tenaillelaw10.alive. No statement is proved here. -/
import Derived.Test.YticbajagccemoaaRtpH
namespace Go.Proofs.Yticbajagccemoaa
open Go.RowKit
set_option linter.unusedVariables false

def exZ : List UInt8 := List.replicate 12 0
def exL : List UInt8 := ((exZ.set 0 128).set 1 96).set 3 1
theorem exZ_why : whyR exZ = 3 := by decide +kernel
theorem exL_why : whyR exL = 0 := by decide +kernel
theorem exL_pkt : pktR exL = ⟨false, 96, 1, 0, 0, [], false, 0, [], [], 0⟩ := by
  have e : pktR exL = ⟨(pktR exL).m, (pktR exL).ty, (pktR exL).sq, (pktR exL).st, (pktR exL).so, (pktR exL).ot, (pktR exL).x, (pktR exL).pf, (pktR exL).xt, (pktR exL).pl, (pktR exL).pd⟩ := rfl
  rw [e, show (pktR exL).m = false by decide +kernel, show (pktR exL).ty = 96 by decide +kernel, show (pktR exL).sq = 1 by decide +kernel, show (pktR exL).st = 0 by decide +kernel, show (pktR exL).so = 0 by decide +kernel,
    show (pktR exL).ot = [] by decide +kernel, show (pktR exL).x = false by decide +kernel, show (pktR exL).pf = 0 by decide +kernel, show (pktR exL).xt = [] by decide +kernel, show (pktR exL).pl = [] by decide +kernel, show (pktR exL).pd = 0 by decide +kernel]

set_option maxRecDepth 100000 in
set_option maxHeartbeats 2000000 in
theorem alive_any (w : World) : Calls Try.prog 7 #[] w fun e w' => e = .returned (.bool true) ∧ Below w.heap.size w w' := by
  have hz := zero28
  have hmk := run_makeB (P := Try.prog) Try.underlying22 u8_info .i64 .i64 12 12 12 rfl rfl (by omega)
  have hB0 : Hid (Blk (w.alloc (.cells (cells exZ).toArray 5)) w.heap.size 5 exZ) := Lib.hid (Blk.new w _ _)
  have hb0 : Hid (Below w.heap.size w (w.alloc (.cells (cells exZ).toArray 5))) := Lib.hid ((Below.refl _ _).alloc (Nat.le_refl _) _)
  have R0 : Hid (∀ wx, Blk wx w.heap.size 5 exZ → Calls Try.prog 8 #[.slice (some ⟨w.heap.size, 0, none⟩) 12 12] wx fun e w' => e = .returned (.tuple #[.agg zeroC.toArray, .int .i64 3]) ∧ Below wx.heap.size wx w') := Lib.hid fun wx hB => by
    have := read_any_no (some ⟨w.heap.size, 0, none⟩) 12 12 exZ wx (hB.rd rfl (Nat.le_refl _) (by simp [maxLen])) (by rw [exZ_why]; decide)
    rw [exZ_why] at this
    exact this
  have R1 : Hid (∀ wx, Blk wx w.heap.size 5 exL → Calls Try.prog 8 #[.slice (some ⟨w.heap.size, 0, none⟩) 12 12] wx fun e w' => ∃ cs, e = .returned (.tuple #[.agg cs.toArray, .int .i64 0]) ∧ PkOwn w' wx.heap.size cs ⟨false, 96, 1, 0, 0, [], false, 0, [], [], 0⟩ ∧ Below wx.heap.size wx w') := Lib.hid fun wx hB => by
    have := read_any_ok (some ⟨w.heap.size, 0, none⟩) 12 12 exL wx (hB.rd rfl (Nat.le_refl _) (by simp [maxLen])) exL_why
    rw [exL_pkt] at this
    exact this
  change (∀ w : World, (Instr.makeSlice 22 (.int .i64 12) (.int .i64 12)).run Try.prog w = .ok (.slice (some ⟨w.heap.size, 0, none⟩) 12 12) (w.alloc (.cells (cells exZ).toArray 5))) at hmk
  go_enter Try.func7, Try.ntmps7
  go_wp2_with (first
    | (go_at_call 8; ((with_reducible refine (Hid.out R0 _ hB0.out).mono ?_); rintro e w1 ⟨rfl, hb1⟩; have h1 := Lib.hid (hB0.out.below hb1 hB0.out.lt); have g1 := Lib.hid (hb0.out.trans (hb1.mono hb0.out.size)); clear hb1))
    | ((with_reducible refine wpList_st rfl 28 (.tmp 2) (.tmp 10) rfl w1.heap.size 0 zeroC rfl rfl 28 zeroC (BlkV.new w1 _ _) fitz (row11 zlen) zone ?_); intro w2 hB2 ho2; have g2 := Lib.hid ((g1.out.alloc g1.out.size (.cells zeroC.toArray 28)).trans (ho2.below g1.out.size)); have hlt1 := h1.out.lt; have h2 : Hid (Blk w2 w.heap.size 5 exZ) := Lib.hid ((h1.out.alloc (.cells zeroC.toArray 28)).v.only ho2 (by omega)); have c0 := h2.out.cell (j := 0) (by decide); have c1 := h2.out.cell (j := 1) (by decide); have c3 := h2.out.cell (j := 3) (by decide); have f0 := h2.out.frozen 0; have f1 := h2.out.frozen 1; have f3 := h2.out.frozen 3; have h5 : Hid (Blk (((w2.setCell ⟨w.heap.size, 0, none⟩ (.int .u8 128)).setCell ⟨w.heap.size, 1, none⟩ (.int .u8 96)).setCell ⟨w.heap.size, 3, none⟩ (.int .u8 1)) w.heap.size 5 exL) := Lib.hid (((h2.out.set_ 0 128).set_ 1 96).set_ 3 1); have g5 := Lib.hid (((g2.out.setCell (p := ⟨w.heap.size, 0, none⟩) (Nat.le_refl _) (.int .u8 128)).setCell (p := ⟨w.heap.size, 1, none⟩) (Nat.le_refl _) (.int .u8 96)).setCell (p := ⟨w.heap.size, 3, none⟩) (Nat.le_refl _) (.int .u8 1)); clear hB2 ho2)
    | (go_at_call 8; ((with_reducible refine (Hid.out R1 _ h5.out).mono ?_); rintro e w6 ⟨cs, rfl, hpk, hb6⟩; have g6 := Lib.hid (g5.out.trans (hb6.mono g5.out.size)); have HPK := Lib.hid hpk; have hfit : Hid (0 + cs.length ≤ zeroC.length) := Lib.hid (by rw [hpk.len]; exact Nat.le_refl 11); clear hb6 hpk))
    | ((with_reducible refine wpList_st rfl 28 (.tmp 4) (.tmp 21) rfl w6.heap.size 0 cs rfl rfl 28 zeroC (BlkV.new w6 _ _) hfit.out (row11 HPK.out.len) HPK.out.one ?_); intro w7 hB7 ho7; rw [splice_all _ _ (zlen.trans HPK.out.len.symm)] at hB7; have g7 := Lib.hid ((g6.out.alloc g6.out.size (.cells zeroC.toArray 28)).trans (ho7.below g6.out.size)); obtain ⟨A, a, B, b, D, d, hcs, _⟩ := HPK.out; have p0 : w7.cell? ⟨w6.heap.size, 0, none⟩ = some (.bool false) := (hB7.cell 0).trans ((congrArg (fun l : List Value => l[0]?) hcs).trans rfl); have p1 : w7.cell? ⟨w6.heap.size, 1, none⟩ = some (.int .u8 96) := (hB7.cell 1).trans ((congrArg (fun l : List Value => l[1]?) hcs).trans rfl); have p2 : w7.cell? ⟨w6.heap.size, 2, none⟩ = some (.int .u16 1) := (hB7.cell 2).trans ((congrArg (fun l : List Value => l[2]?) hcs).trans rfl); clear hcs hB7 ho7))
  go_ret
  exact ⟨rfl, g7.out⟩
end Go.Proofs.Yticbajagccemoaa
