/- The walk of the statement RtpBack: whatever the bytes, it is true. Conditions: none. -/
import Derived.Test.YticbajagccemoaaRtpReads
import Derived.Test.YticbajagccemoaaRtpW2
import Derived.BigQuiet
namespace Go.Proofs.Yticbajagccemoaa
open Go.RowKit
set_option linter.unusedVariables false

theorem back_len (bs : List UInt8) (h : whyR bs = 0) : (wrB (pktR bs)).length = bs.length := by
  obtain ⟨h1, h2, h3, h4, h5, h6, h7, h8⟩ := why_parts bs h
  rw [body_of bs h, List.length_append, padB_len, List.length_take]
  omega
theorem back_take (bs : List UInt8) (h : whyR bs = 0) : (wrB (pktR bs)).take (bs.length - padN bs) = bs.take (bs.length - padN bs) := by
  obtain ⟨h1, h2, h3, h4, h5, h6, h7, h8⟩ := why_parts bs h
  rw [body_of bs h]
  exact take_pre (by rw [List.length_take]; omega)
theorem back_zero (bs : List UInt8) (h : whyR bs = 0) (j : Nat) (h9 : bs.length - padN bs ≤ j) (h10 : j + 1 < bs.length) : (wrB (pktR bs)).getD j 0 = 0 := by
  obtain ⟨h1, h2, h3, h4, h5, h6, h7, h8⟩ := why_parts bs h
  rw [body_of bs h]
  have hp : padN bs ≠ 0 := by omega
  have ht : (bs.take (bs.length - padN bs)).length = bs.length - padN bs := by rw [List.length_take]; omega
  unfold padB
  rw [if_neg hp]
  simp only [List.getD]
  rw [List.getElem?_append_right (by omega), List.getElem?_append_left (by rw [List.length_replicate]; omega)]
  rw [List.getElem?_replicate, if_pos (by omega)]
  rfl
theorem back_last (bs : List UInt8) (h : whyR bs = 0) (h9 : 0 < padN bs) (h10 : padN bs < 256) : ((wrB (pktR bs)).getD (bs.length - 1) 0).toNat = padN bs := by
  have hl := back_len bs h
  have := last_pad (bs.take (bs.length - padN bs)) (padN bs) h9 h10
  rw [← body_of bs h, hl] at this
  exact this

set_option maxRecDepth 100000 in
set_option maxHeartbeats 2000000 in
theorem rtpBack_no (a0 : Option Addr) (len0 cap0 : Nat) (bs : List UInt8) (w : World) (hr : RdS w a0 len0 cap0 bs) (hy : whyR bs ≠ 0) :
    Calls Try.prog 5 #[.slice a0 len0 cap0] w fun e w' => e = .returned (.bool true) ∧ Below w.heap.size w w' := by
  have hz := zero28
  have hs := hr.small
  have HA := Lib.hid (alive_any w)
  have HR := Lib.hid hr
  have R1 := Lib.hid (fun wx hx => read_any_no a0 len0 cap0 bs wx hx hy)
  have hye : (whyR bs == 0) = false := by simpa using hy
  obtain ⟨y, hyy⟩ : ∃ y, y = whyR bs := ⟨_, rfl⟩
  simp only [← hyy] at R1 hye
  clear hr hy hyy
  by_cases hbig : 3000 < len0
  · go_enter Try.func5, Try.ntmps5
    go_wp2_with (go_at_call 7; ((with_reducible refine (Hid.out HA).mono ?_); rintro e w1 ⟨rfl, hb1⟩))
    go_ret
    exact ⟨rfl, hb1⟩
  · go_enter Try.func5, Try.ntmps5
    go_wp2_with (first
      | (go_at_call 7; ((with_reducible refine (Hid.out HA).mono ?_); rintro e w1 ⟨rfl, hb1⟩; have g1 := Lib.hid hb1; clear hb1))
      | (go_at_call 8; ((with_reducible refine (Hid.out R1 _ (HR.out.below g1.out)).mono ?_); rintro e w2 ⟨rfl, hb2⟩; have g2 := Lib.hid (g1.out.trans (hb2.mono g1.out.size)); clear hb2))
      | ((with_reducible refine wpList_st rfl 28 (.tmp 3) (.tmp 17) rfl w2.heap.size 0 zeroC rfl rfl 28 zeroC (BlkV.new w2 _ _) fitz (row11 zlen) zone ?_); intro w3 hB3 ho3; have g3 := Lib.hid ((g2.out.alloc g2.out.size (.cells zeroC.toArray 28)).trans (ho3.below g2.out.size))))
    go_ret
    exact ⟨rfl, g3.out⟩

set_option maxRecDepth 100000 in
set_option maxHeartbeats 4000000 in
theorem rtpBack_ok (a0 : Option Addr) (len0 cap0 : Nat) (bs : List UInt8) (w : World) (hr : RdS w a0 len0 cap0 bs) (hy : whyR bs = 0) :
    Calls Try.prog 5 #[.slice a0 len0 cap0] w fun e w' => e = .returned (.bool true) ∧ Below w.heap.size w w' := by
  have hz := zero28
  have hs := hr.small
  have hl := hr.len
  obtain ⟨h1, h2, _, h4, _, _, h7, _⟩ := why_parts bs hy
  have HA := Lib.hid (alive_any w)
  have HR := Lib.hid hr
  have R1 := Lib.hid (fun wx hx => read_any_ok a0 len0 cap0 bs wx hx hy)
  obtain ⟨hm, hf⟩ := may_of bs hy
  have W1 := Lib.hid (fun cs wx hx => write_ok cs (pktR bs) wx hx hm hf)
  have t1 := back_take bs hy
  have t2 := back_zero bs hy
  have t3 := back_last bs hy
  have t4 := back_len bs hy
  have hpd : (pktR bs).pd = padN bs := rfl
  have lp : padN bs < 256 := hf.2.2.2.2.2
  rw [hl] at h1 h2 h4 h7 t1 t2 t3 t4
  simp only [t4] at W1
  obtain ⟨C, hC⟩ : ∃ C, C = wrB (pktR bs) := ⟨_, rfl⟩
  obtain ⟨P, hP⟩ : ∃ P, P = pktR bs := ⟨_, rfl⟩
  obtain ⟨d, hd⟩ : ∃ d, d = padN bs := ⟨_, rfl⟩
  rw [← hC] at t1 t2 t3 t4
  simp only [← hC] at W1
  simp only [← hP] at R1 W1 hpd
  rw [← hd] at h7 t1 t2 t3 hpd lp
  obtain ⟨n, hn⟩ : ∃ n, n = len0 - d := ⟨_, rfl⟩
  rw [← hn] at t1 t2
  have en : ((len0 : Int) - (d : Int)) = (n : Int) := by omega
  have ln : n ≤ len0 := by omega
  have T1 := Lib.hid t1
  have T2 := Lib.hid t2
  have T3 := Lib.hid t3
  have HN := Lib.hid hn
  have HPD := Lib.hid hpd
  clear t1 t2 t3 hr hy hm hf hC hP hd hn hpd
  go_enter Try.func5, Try.ntmps5
  go_wp2_with (first
    | (go_at_call 7; ((with_reducible refine (Hid.out HA).mono ?_); rintro e w1 ⟨rfl, hb1⟩; have g1 := Lib.hid hb1; clear hb1))
    | (go_at_call 8; ((with_reducible refine (Hid.out R1 _ (HR.out.below g1.out)).mono ?_); rintro e w2 ⟨cs, rfl, hpk, hb2⟩; have g2 := Lib.hid (g1.out.trans (hb2.mono g1.out.size)); have k2 := Lib.hid hpk; have l2 : Hid (0 + cs.length ≤ zeroC.length) := Lib.hid (by rw [hpk.len]; exact Nat.le_refl 11); clear hb2 hpk))
    | ((with_reducible refine wpList_st rfl 28 (.tmp 3) (.tmp 17) rfl w2.heap.size 0 cs rfl rfl 28 zeroC (BlkV.new w2 _ _) l2.out (row11 k2.out.len) k2.out.one ?_); intro w3 hB3 ho3; rw [splice_all _ _ (zlen.trans k2.out.len.symm)] at hB3; obtain ⟨hb3, hk3⟩ := boxed (w := w) k2.out ho3; have g3 := Lib.hid (g2.out.trans (hb3.mono g2.out.size)); have k3 := Lib.hid hk3.rd; have B3 := Lib.hid hB3; clear hb3 hk3 hB3 ho3)
    | (with_reducible refine wpList_ld rfl 28 (.tmp 3) rfl w2.heap.size 0 rfl cs (B3.out.range 0 _ (fun i _ => by rw [Nat.zero_add])) (row11 k2.out.len) ?_)
    | (go_at_call 12; ((with_reducible refine (Hid.out W1 cs _ k3.out).mono ?_); rintro e w4 ⟨A4, q4, rfl, hr4, hb4⟩; have g4 := Lib.hid (g3.out.trans (hb4.mono g3.out.size)); have r4 := Lib.hid hr4; have B4 := Lib.hid (B3.out.below hb4 B3.out.lt); have c10 : w4.cell? ⟨w2.heap.size, 10, none⟩ = some (.int .u8 (d : Int)) := (by obtain ⟨_, _, _, _, _, _, e1, _⟩ := k2.out; rw [B4.out.cell, e1, ← HPD.out] <;> rfl); clear hb4 hr4)))
  have v1 : ∀ k, (convert 22 9 (.slice A4 n q4)).run Try.prog (w4.drewN k) = .ok (.string (txt (bs.take n))) (w4.drewN k) := fun k => by
    rw [← T1.out]
    exact run_conv (show RdS (w4.drewN k) A4 n q4 (C.take n) from r4.out.headR n ln) _ _ 5 Try.underlying22 Try.underlying5 Try.underlying9
  have v2 : ∀ k, (convert 22 9 (.slice a0 n cap0)).run Try.prog (w4.drewN k) = .ok (.string (txt (bs.take n))) (w4.drewN k) := fun k =>
    run_conv (show RdS (w4.drewN k) a0 n cap0 (bs.take n) from (HR.out.below g4.out).headR n ln) _ _ 5 Try.underlying22 Try.underlying5 Try.underlying9
  have hc4 := r4.out.le
  have hc0 := HR.out.le
  have e0 : ((len0 : Int) != (len0 : Int)) = false := by simp
  go_quiet (fail)
  have g5 : Hid (Below w.heap.size w (w4.drewN nq)) := Lib.hid ⟨g4.out.os, g4.out.tape, g4.out.output, g4.out.size, g4.out.block⟩
  have r5 : Hid (RdS (w4.drewN nq) A4 len0 q4 C) := Lib.hid r4.out
  have d10 : (w4.drewN nq).cell? ⟨w2.heap.size, 10, none⟩ = some (.int .u8 (d : Int)) := c10
  clear v1 v2 c10
  generalize w4.drewN nq = w5 at g5 r5 d10 ⊢
  go_wp2
  obtain ⟨b4, o4, rfl, _, hc⟩ := r5.out.2.2.2.2 (by omega)
  have HC := Lib.hid hc
  clear hc
  go_loop [8] (fun i => ∃ k : Nat, n ≤ k ∧ k ≤ len0 ∧ i = .int .i64 k) (fun i => len0 - (intOf i).toNat)
  case atStart => exact ⟨n, Nat.le_refl _, ln, rfl⟩
  case round =>
    obtain ⟨k, hnk, hkl, rfl⟩ := hrel
    by_cases hkn : k + 1 < len0
    · have hcell : w5.cell? ⟨b4, o4 + k, none⟩ = some (.int .u8 0) := by
        rw [HC.out k (by omega), T2.out k hnk (by omega)]
        rfl
      go_wp2
      go_round
      case rel => exact ⟨k + 1, by omega, by omega, by go_num⟩
      case measure => simp [intOf]; omega
    · have e3 : ((len0 : Int) - 1) = ((len0 - 1 : Nat) : Int) := by omega
      by_cases hd0 : d = 0
      · subst hd0
        go_wp2
        go_quiet (fail)
        go_wp2
        go_ret
        exact ⟨rfl, ⟨g5.out.os, g5.out.tape, g5.out.output, g5.out.size, g5.out.block⟩⟩
      · have hlast : w5.cell? ⟨b4, o4 + (len0 - 1), none⟩ = some (.int .u8 (d : Int)) := by
          rw [HC.out (len0 - 1) (by omega), T3.out (by omega) lp]
        have ed : ((d : Int) == 0) = false := by simp; omega
        have ed2 : ((d : Int) == (d : Int)) = true := by simp
        clear hd0
        go_wp2
        go_quiet (fail)
        go_wp2
        go_ret
        exact ⟨rfl, ⟨g5.out.os, g5.out.tape, g5.out.output, g5.out.size, g5.out.block⟩⟩

theorem rtpBack_walk (a0 : Option Addr) (len0 cap0 : Nat) (bs : List UInt8) (w : World) (hr : RdS w a0 len0 cap0 bs) :
    Calls Try.prog 5 #[.slice a0 len0 cap0] w fun e w' => e = .returned (.bool true) ∧ Below w.heap.size w w' := by
  by_cases hy : whyR bs = 0
  · exact rtpBack_ok a0 len0 cap0 bs w hr hy
  · exact rtpBack_no a0 len0 cap0 bs w hr hy
end Go.Proofs.Yticbajagccemoaa
