/- The walk of the statement RtpWrites: whatever the packet, it is true. Conditions: its numbers fit their fields. -/
import Derived.Test.YticbajagccemoaaRtpV3
import Derived.Test.YticbajagccemoaaRtpReads
namespace Go.Proofs.Yticbajagccemoaa
open Go.RowKit
set_option linter.unusedVariables false

set_option maxRecDepth 100000 in
set_option maxHeartbeats 2000000 in
/-- The longer packets, that the law lets by. -/
theorem rtpWrites_big (cs : List Value) (p : Pkt) (w : World) (h : PkRd w cs p) (hbig : ¬ (p.ot.length ≤ 100 ∧ p.xt.length ≤ 2000 ∧ p.pl.length ≤ 2000)) :
    Calls Try.prog 4 #[.agg cs.toArray] w fun e w' => e = .returned (.bool true) ∧ Below w.heap.size w w' := by
  have HW : Hid (Below w.heap.size w (w.alloc (.cells cs.toArray 28))) := Lib.hid ((Below.refl _ _).alloc (Nat.le_refl _) _)
  have HB := Lib.hid (BlkV.new w 28 cs)
  have HA := Lib.hid (alive_any (w.alloc (.cells cs.toArray 28)))
  obtain ⟨A1, a1, B1, b1, D1, d1, e1, u1, x1, y1⟩ := h
  have s1 := u1.2.1
  have s2 := x1.small
  have s3 := y1.small
  have C5 : Hid (cs[5]? = some (.slice A1 p.ot.length a1)) := Lib.hid (by rw [e1]; rfl)
  have C8 : Hid (cs[8]? = some (.slice B1 p.xt.length b1)) := Lib.hid (by rw [e1]; rfl)
  have C9 : Hid (cs[9]? = some (.slice D1 p.pl.length d1)) := Lib.hid (by rw [e1]; rfl)
  obtain ⟨K, hK⟩ : ∃ K, K = p.ot.length := ⟨_, rfl⟩
  obtain ⟨M, hM⟩ : ∃ M, M = p.xt.length := ⟨_, rfl⟩
  obtain ⟨L, hL⟩ : ∃ L, L = p.pl.length := ⟨_, rfl⟩
  rw [← hK, ← hM, ← hL] at hbig
  rw [← hK] at s1 C5
  rw [← hM] at s2 C8
  rw [← hL] at s3 C9
  clear e1 u1 x1 y1 hK hM hL
  have hway : 100 < K ∨ (K ≤ 100 ∧ 2000 < M) ∨ (K ≤ 100 ∧ M ≤ 2000 ∧ 2000 < L) := by omega
  clear hbig
  rcases hway with g1 | ⟨g1, g2⟩ | ⟨g1, g2, g3⟩
  · go_enter Try.func4, Try.ntmps4
    go_wp2_with (go_at_call 7; ((with_reducible refine (Hid.out HA).mono ?_); rintro e w1 ⟨rfl, hb1⟩; have g := Lib.hid (HW.out.trans (hb1.mono HW.out.size)); have k5 := ((HB.out.below hb1 HB.out.lt).cell 5).trans C5.out; have k8 := ((HB.out.below hb1 HB.out.lt).cell 8).trans C8.out; have k9 := ((HB.out.below hb1 HB.out.lt).cell 9).trans C9.out; clear hb1))
    go_ret
    exact ⟨rfl, g.out⟩
  · go_enter Try.func4, Try.ntmps4
    go_wp2_with (go_at_call 7; ((with_reducible refine (Hid.out HA).mono ?_); rintro e w1 ⟨rfl, hb1⟩; have g := Lib.hid (HW.out.trans (hb1.mono HW.out.size)); have k5 := ((HB.out.below hb1 HB.out.lt).cell 5).trans C5.out; have k8 := ((HB.out.below hb1 HB.out.lt).cell 8).trans C8.out; have k9 := ((HB.out.below hb1 HB.out.lt).cell 9).trans C9.out; clear hb1))
    go_ret
    exact ⟨rfl, g.out⟩
  · go_enter Try.func4, Try.ntmps4
    go_wp2_with (go_at_call 7; ((with_reducible refine (Hid.out HA).mono ?_); rintro e w1 ⟨rfl, hb1⟩; have g := Lib.hid (HW.out.trans (hb1.mono HW.out.size)); have k5 := ((HB.out.below hb1 HB.out.lt).cell 5).trans C5.out; have k8 := ((HB.out.below hb1 HB.out.lt).cell 8).trans C8.out; have k9 := ((HB.out.below hb1 HB.out.lt).cell 9).trans C9.out; clear hb1))
    go_ret
    exact ⟨rfl, g.out⟩

set_option maxRecDepth 100000 in
set_option maxHeartbeats 2000000 in
/-- A packet that may not be written. -/
theorem rtpWrites_no (cs : List Value) (p : Pkt) (w : World) (h : PkRd w cs p) (hf : fits p) (hm : ¬ mayB p) (g1 : p.ot.length ≤ 100) (g2 : p.xt.length ≤ 2000) (g3 : p.pl.length ≤ 2000) :
    Calls Try.prog 4 #[.agg cs.toArray] w fun e w' => e = .returned (.bool true) ∧ Below w.heap.size w w' := by
  have HW : Hid (Below w.heap.size w (w.alloc (.cells cs.toArray 28))) := Lib.hid ((Below.refl _ _).alloc (Nat.le_refl _) _)
  have HB := Lib.hid (BlkV.new w 28 cs)
  have HA := Lib.hid (alive_any (w.alloc (.cells cs.toArray 28)))
  have HP := Lib.hid h
  have hlen := Lib.hid h.len
  have R1 := Lib.hid (fun wx hx => write_no cs p wx hx hm (by omega) (by omega) (by omega) hf.2.2.2.2.2)
  have R2 := Lib.hid (fun wx hx => rwrite_no cs p wx hx hm hf (by omega) (by omega) (by omega))
  obtain ⟨A1, a1, B1, b1, D1, d1, e1, u1, x1, y1⟩ := h
  have C5 : Hid (cs[5]? = some (.slice A1 p.ot.length a1)) := Lib.hid (by rw [e1]; rfl)
  have C8 : Hid (cs[8]? = some (.slice B1 p.xt.length b1)) := Lib.hid (by rw [e1]; rfl)
  have C9 : Hid (cs[9]? = some (.slice D1 p.pl.length d1)) := Lib.hid (by rw [e1]; rfl)
  obtain ⟨K, hK⟩ : ∃ K, K = p.ot.length := ⟨_, rfl⟩
  obtain ⟨M, hM⟩ : ∃ M, M = p.xt.length := ⟨_, rfl⟩
  obtain ⟨L, hL⟩ : ∃ L, L = p.pl.length := ⟨_, rfl⟩
  rw [← hK] at g1 C5
  rw [← hM] at g2 C8
  rw [← hL] at g3 C9
  clear e1 u1 x1 y1 hK hM hL hf hm
  go_enter Try.func4, Try.ntmps4
  go_wp2_with (first
    | (go_at_call 7; ((with_reducible refine (Hid.out HA).mono ?_); rintro e w1 ⟨rfl, hb1⟩; have f1 := Lib.hid (HW.out.trans (hb1.mono HW.out.size)); have B1_ := Lib.hid (HB.out.below hb1 HB.out.lt); have k5 := (B1_.out.cell 5).trans C5.out; have k8 := (B1_.out.cell 8).trans C8.out; have k9 := (B1_.out.cell 9).trans C9.out; clear hb1))
    | (go_at_call 12; ((with_reducible refine (Hid.out R1 _ (HP.out.below f1.out)).mono ?_); rintro e w2 ⟨rfl, hb2⟩; have f2 := Lib.hid (f1.out.trans (hb2.mono f1.out.size)); have B2_ := Lib.hid (B1_.out.below hb2 B1_.out.lt); clear hb2))
    | (go_at_call 13; ((with_reducible refine (Hid.out R2 _ (HP.out.below f2.out)).mono ?_); rintro e w3 ⟨rfl, hb3⟩; have f3 := Lib.hid (f2.out.trans (hb3.mono f2.out.size)); clear hb3))
    | (with_reducible refine wpList_ld rfl 28 (.tmp 1) rfl w.heap.size 0 rfl cs (B2_.out.range 0 _ (fun i _ => by rw [Nat.zero_add])) (row11 hlen.out) ?_)
    | (with_reducible refine wpList_ld rfl 28 (.tmp 1) rfl w.heap.size 0 rfl cs (B1_.out.range 0 _ (fun i _ => by rw [Nat.zero_add])) (row11 hlen.out) ?_))
  go_ret
  exact ⟨rfl, f3.out⟩

set_option maxRecDepth 100000 in
set_option maxHeartbeats 2000000 in
/-- A packet that may be written. -/
theorem rtpWrites_yes (cs : List Value) (p : Pkt) (w : World) (h : PkRd w cs p) (hf : fits p) (hm : mayB p) (g1 : p.ot.length ≤ 100) (g2 : p.xt.length ≤ 2000) (g3 : p.pl.length ≤ 2000) :
    Calls Try.prog 4 #[.agg cs.toArray] w fun e w' => e = .returned (.bool true) ∧ Below w.heap.size w w' := by
  have hz := zero28
  have HW : Hid (Below w.heap.size w (w.alloc (.cells cs.toArray 28))) := Lib.hid ((Below.refl _ _).alloc (Nat.le_refl _) _)
  have HB := Lib.hid (BlkV.new w 28 cs)
  have HA := Lib.hid (alive_any (w.alloc (.cells cs.toArray 28)))
  have HP := Lib.hid h
  have hlen := Lib.hid h.len
  have R1 := Lib.hid (fun wx hx => write_ok cs p wx hx hm hf)
  have R2 := Lib.hid (fun wx hx => rwrite_ok cs p wx hx hm hf)
  obtain ⟨hwy, hpk⟩ := read_wr p hm hf
  obtain ⟨T, hT⟩ : ∃ T, T = wrB p := ⟨_, rfl⟩
  obtain ⟨N, hN⟩ : ∃ N, N = T.length := ⟨_, rfl⟩
  have hN2 : N ≤ 1200 := by
    have h1 := wrB_len p
    have h2 := hm.2.2.2.2.2
    rw [hN, hT]; omega
  have R3 : Hid (∀ wx A c, RdS wx A N c T → Calls Try.prog 8 #[.slice A N c] wx fun e w' => ∃ cs, e = .returned (.tuple #[.agg cs.toArray, .int .i64 0]) ∧ PkOwn w' wx.heap.size cs p ∧ Below wx.heap.size wx w') := Lib.hid fun wx A c hx => by
    have := read_any_ok A N c T wx hx (by rw [hT]; exact hwy)
    rw [hT, hpk] at this
    exact this
  rw [← hT] at R1 R2
  rw [← hN] at R1 R2
  obtain ⟨A1, a1, B1, b1, D1, d1, e1, u1, x1, y1⟩ := h
  have C5 : Hid (cs[5]? = some (.slice A1 p.ot.length a1)) := Lib.hid (by rw [e1]; rfl)
  have C8 : Hid (cs[8]? = some (.slice B1 p.xt.length b1)) := Lib.hid (by rw [e1]; rfl)
  have C9 : Hid (cs[9]? = some (.slice D1 p.pl.length d1)) := Lib.hid (by rw [e1]; rfl)
  obtain ⟨K, hK⟩ : ∃ K, K = p.ot.length := ⟨_, rfl⟩
  obtain ⟨M, hM⟩ : ∃ M, M = p.xt.length := ⟨_, rfl⟩
  obtain ⟨L, hL⟩ : ∃ L, L = p.pl.length := ⟨_, rfl⟩
  rw [← hK] at g1 C5
  rw [← hM] at g2 C8
  rw [← hL] at g3 C9
  clear e1 u1 x1 y1 hK hM hL hf hm hwy hpk hT hN
  go_enter Try.func4, Try.ntmps4
  go_wp2_with (first
    | (go_at_call 7; ((with_reducible refine (Hid.out HA).mono ?_); rintro e w1 ⟨rfl, hb1⟩; have f1 := Lib.hid (HW.out.trans (hb1.mono HW.out.size)); have B1_ := Lib.hid (HB.out.below hb1 HB.out.lt); have k5 := (B1_.out.cell 5).trans C5.out; have k8 := (B1_.out.cell 8).trans C8.out; have k9 := (B1_.out.cell 9).trans C9.out; clear hb1))
    | (go_at_call 12; ((with_reducible refine (Hid.out R1 _ (HP.out.below f1.out)).mono ?_); rintro e w2 ⟨A2, q2, rfl, hr2, hb2⟩; have r2 := Lib.hid hr2; have f2 := Lib.hid (f1.out.trans (hb2.mono f1.out.size)); have B2_ := Lib.hid (B1_.out.below hb2 B1_.out.lt); clear hb2 hr2))
    | (go_at_call 13; ((with_reducible refine (Hid.out R2 _ (HP.out.below f2.out)).mono ?_); rintro e w3 ⟨A3, q3, rfl, hr3, hb3⟩; have r3 := Lib.hid hr3; have r23 := Lib.hid (r2.out.below hb3); have f3 := Lib.hid (f2.out.trans (hb3.mono f2.out.size)); have B3_ := Lib.hid (B2_.out.below hb3 B2_.out.lt); clear hb3 hr3))
    | (go_at_call 8; ((with_reducible refine (Hid.out R3 _ _ _ r23.out).mono ?_); rintro e w4 ⟨cs4, rfl, hpk, hb4⟩; have k4 := Lib.hid hpk; have r34 := Lib.hid (r3.out.below hb4); have r24 := Lib.hid (r23.out.below hb4); have f4 := Lib.hid (f3.out.trans (hb4.mono f3.out.size)); have B4_ := Lib.hid (B3_.out.below hb4 B3_.out.lt); have l4 : Hid (0 + cs4.length ≤ zeroC.length) := Lib.hid (by rw [hpk.len]; exact Nat.le_refl 11); clear hb4 hpk))
    | ((with_reducible refine wpList_st rfl 28 (.tmp 7) (.tmp 49) rfl w4.heap.size 0 cs4 rfl rfl 28 zeroC (BlkV.new w4 _ _) l4.out (row11 k4.out.len) k4.out.one ?_); intro w5 hB5 ho5; rw [splice_all _ _ (zlen.trans k4.out.len.symm)] at hB5; obtain ⟨hb5, hk5⟩ := boxed (w := w) k4.out ho5; have k5_ := Lib.hid hk5.rd; have f5 := Lib.hid (f4.out.trans (hb5.mono f4.out.size)); have B5 := Lib.hid hB5; have B5_ := Lib.hid (B4_.out.below hb5 B4_.out.lt); have v1 : (convert 22 9 (.slice A2 N q2)).run Try.prog w5 = .ok (.string (txt T)) w5 := run_conv (r24.out.below hb5) _ _ 5 Try.underlying22 Try.underlying5 Try.underlying9; have v2 : (convert 22 9 (.slice A3 N q3)).run Try.prog w5 = .ok (.string (txt T)) w5 := run_conv (r34.out.below hb5) _ _ 5 Try.underlying22 Try.underlying5 Try.underlying9; clear hb5 hk5 hB5 ho5)
    | (go_at_call 11; ((with_reducible refine (same_any cs cs4 p _ (HP.out.below f5.out) k5_.out).mono ?_); rintro e w7 ⟨rfl, hb7⟩; have f7 := Lib.hid (f5.out.trans (hb7.mono f5.out.size)); clear hb7))
    | (with_reducible refine wpList_ldR (by with_unfolding_all rfl) 28 (.tmp 7) rfl w4.heap.size 0 rfl cs4 (B5.out.range 0 _ (fun i _ => by rw [Nat.zero_add])) (row11 k4.out.len) ?_)
    | (with_reducible refine wpList_ldR (by with_unfolding_all rfl) 28 (.tmp 1) rfl w.heap.size 0 rfl cs (B5_.out.range 0 _ (fun i _ => by rw [Nat.zero_add])) (row11 hlen.out) ?_)
    | (with_reducible refine wpList_ld rfl 28 (.tmp 1) rfl w.heap.size 0 rfl cs (B2_.out.range 0 _ (fun i _ => by rw [Nat.zero_add])) (row11 hlen.out) ?_)
    | (with_reducible refine wpList_ld rfl 28 (.tmp 1) rfl w.heap.size 0 rfl cs (B1_.out.range 0 _ (fun i _ => by rw [Nat.zero_add])) (row11 hlen.out) ?_))
  go_ret
  exact ⟨rfl, f7.out⟩

theorem rtpWrites_walk (cs : List Value) (p : Pkt) (w : World) (h : PkRd w cs p) (hf : fits p) :
    Calls Try.prog 4 #[.agg cs.toArray] w fun e w' => e = .returned (.bool true) ∧ Below w.heap.size w w' := by
  by_cases hb : p.ot.length ≤ 100 ∧ p.xt.length ≤ 2000 ∧ p.pl.length ≤ 2000
  · by_cases hm : mayB p
    · exact rtpWrites_yes cs p w h hf hm hb.1 hb.2.1 hb.2.2
    · exact rtpWrites_no cs p w h hf hm hb.1 hb.2.1 hb.2.2
  · exact rtpWrites_big cs p w h hb
end Go.Proofs.Yticbajagccemoaa
