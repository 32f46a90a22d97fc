/- The walk of the statement StunWrites, over what package stun's functions tell. No statement is proved here. -/
import Derived.Test.YthoiebjndchobaaStunL2
namespace Go.Proofs.Ythoiebjndchobaa
open Go.RowKit
set_option linter.unusedVariables false

/-- What Great tells. -/
def Great12 (s : Stn) (w : World) (e : Ending) (w' : World) : Prop := (∃ b : Bool, e = .returned (.bool b) ∧ (b = false → s.av.length ≤ 60 ∧ ∀ x ∈ s.av, x.2.length ≤ 600)) ∧ Below w.heap.size w w'
theorem Great12.yes {s : Stn} {w w' : World} (h : Below w.heap.size w w') : Great12 s w (.returned (.bool true)) w' := ⟨⟨true, rfl, fun h => by cases h⟩, h⟩
set_option maxRecDepth 100000 in
set_option maxHeartbeats 2000000 in
theorem great12_any (cs : List Value) (s : Stn) (w : World) (h : StnRd w cs s) (hf : s.tx.length = 12) (hs : s.av.length ≤ 9223372036854775807) :
    Calls Try.prog 12 #[.agg cs.toArray] w (Great12 s w) := by
  obtain ⟨A, c, h0, hA⟩ := h
  obtain ⟨ty, tx, L⟩ := s
  simp only at h0 hA hf hs
  have HA := Lib.hid hA
  have HB := Lib.hid (BoxS.new 28 w cs)
  obtain ⟨K, hK⟩ : ∃ K, K = L.length := ⟨_, rfl⟩
  rw [← hK] at h0 hs
  have HK := Lib.hid hK
  have C13 : Hid (∀ wz, BoxS 28 w cs wz → wz.cell? ⟨w.heap.size, 13, none⟩ = some (.slice A K c)) := Lib.hid (fun wz hz => (hz.2.cell 13).trans (by rw [h0]; exact sC_at13 _ _ _ hf))
  clear hA hK h0 hf
  go_enter Try.func12, Try.ntmps12
  go_wp2
  go_loopw [3] (fun i wx => ∃ k : Nat, k ≤ K ∧ i = .int .i64 k ∧ Hid (BoxS 28 w cs wx) ∧ Hid (∀ x ∈ L.take k, x.2.length ≤ 600)) (fun i _ => K - (intOf i).toNat)
  case atStart => exact ⟨0, by omega, rfl, HB, Lib.hid (by simp)⟩
  case round =>
    obtain ⟨k, hk, rfl, HE, HQ⟩ := hrel
    have q13 := C13.out wr HE.out
    by_cases hkn : k < K
    · have hkl : k < L.length := by rw [← HK.out]; exact hkn
      obtain ⟨gb, go, D, d, rfl, hat, hrd⟩ := HA.out.at_ hkl
      obtain ⟨z0, z1⟩ := hat wr HE.out.1
      have HQ2 := Lib.hid (fun hy => takeA_snoc (P := fun x : Nat × List UInt8 => x.2.length ≤ 600) hkl HQ.out hy)
      obtain ⟨N, hN⟩ : ∃ N, N = L[k].2.length := ⟨_, rfl⟩
      rw [← hN] at z1 HQ2
      clear hat hrd hN z0
      by_cases hbig : (600 : Int) < (N : Int)
      · go_wp2
        go_ret
        exact Great12.yes HE.out.1
      · have HQ3 := Lib.hid (HQ2.out (by omega))
        clear HQ2
        go_wp2
        go_roundw
        case rel => exact ⟨k + 1, by omega, by go_num, HE, HQ3⟩
        case measure => simp [intOf]; omega
    · obtain rfl : K = k := by omega
      rw [show L.take K = L by rw [HK.out, List.take_length]] at HQ
      clear hk hkn
      by_cases hbig : (60 : Int) < (K : Int)
      · go_wp2
        go_ret
        exact Great12.yes HE.out.1
      · go_wp2
        go_ret
        exact ⟨⟨false, rfl, fun _ => ⟨by simp only [← HK.out]; omega, HQ.out⟩⟩, HE.out.1⟩
set_option maxRecDepth 100000 in
set_option maxHeartbeats 2000000 in
theorem stunWrites_walkP {T : World → Prop} (H : Tells12 T) (cs : List Value) (s : Stn) (w : World) (hw : T w) (h : StnRd w cs s) (hf : s.fit) (hs : s.av.length ≤ 9223372036854775807) :
    Calls Try.prog 4 #[.agg cs.toArray] w fun e w' => e = .returned (.bool true) ∧ Below w.heap.size w w' := by
  have hz := zeroStn
  have b0 := BoxS.new 28 w cs
  have HB := Lib.hid b0
  have HB1 := Lib.hid b0.1
  have HB2 := Lib.hid b0.2
  have HA := Lib.hid (alive12 H _ (H.keep w _ hw b0.1))
  have HK := Lib.hid (fun W hb => H.keep w W hw hb)
  have HD := Lib.hid (fun W hb => StnRd.below (w' := W) h hb)
  have HL := Lib.hid (h.len hf.2.1)
  have HG : Hid (∀ W, Below w.heap.size w W → Calls Try.prog 12 #[.agg cs.toArray] W (Great12 s W)) := Lib.hid (fun W hb => great12_any cs s W (HD.out W hb) hf.2.1 hs)
  have HX := Lib.hid (fun (x : s.av.length ≤ 60 ∧ ∀ x ∈ s.av, x.2.length ≤ 600) W hb => H.write cs s W (HK.out W hb) (HD.out W hb) hf x.1 x.2)
  obtain ⟨TT, hT⟩ : ∃ TT, TT = wrS s := ⟨_, rfl⟩
  obtain ⟨N, hN⟩ : ∃ N, N = TT.length := ⟨_, rfl⟩
  by_cases hmay : mayS s
  · have hmsg : isMsg TT s := ⟨hT, hf, hmay⟩
    have hN5 : N ≤ 5000 := by have := hmsg.small; omega
    have HP : Hid (∀ W, Below w.heap.size w W → (s.av.length ≤ 60 ∧ ∀ x ∈ s.av, x.2.length ≤ 600) → Calls Try.prog 13 #[.agg cs.toArray] W fun e w' => ∃ A' c', e = .returned (.tuple #[.slice A' N c', .int .i64 0]) ∧ RdS w' A' N c' TT ∧ Below W.heap.size W w') := Lib.hid (fun W hb hx => (HX.out hx W hb).mono (fun e w' ⟨h1, _, h3⟩ => by
      obtain ⟨A', c', N', hN', rfl, h4⟩ := h1 hmay
      rw [← hT] at hN' h4
      rw [← hN] at hN'
      subst hN'
      exact ⟨A', c', rfl, h4, h3⟩))
    have HQ : Hid (∀ W, Below w.heap.size w W → Calls Try.prog 14 #[.agg cs.toArray] W fun e w' => ∃ A' c', e = .returned (.tuple #[.slice A' N c', .bool true]) ∧ RdS w' A' N c' TT ∧ Below W.heap.size W w') := Lib.hid (fun W hb => (rwrite12_any cs s W (HD.out W hb) hf hs).mono (fun e w' ⟨h1, _⟩ => by
      obtain ⟨A', c', N', hN', rfl, h4, h5⟩ := h1 hmay
      rw [← hT] at hN' h4
      rw [← hN] at hN'
      subst hN'
      exact ⟨A', c', rfl, h4, h5⟩))
    have HR : Hid (∀ W A' c', Below w.heap.size w W → RdS W A' N c' TT → Calls Try.prog 7 #[.slice A' N c'] W fun e w' => ∃ cs2, e = .returned (.tuple #[.agg cs2.toArray, .int .i64 0]) ∧ StnRd w' cs2 s ∧ Below W.heap.size W w') := Lib.hid (fun W A' c' hb hr => (H.read A' N c' TT W (HK.out W hb) hr hN5).mono (fun e w' ⟨h1, _, h3⟩ => by
      obtain ⟨cs2, h4, h5⟩ := h1 s hmsg
      exact ⟨cs2, h4, h5, h3⟩))
    have HS : Hid (∀ W cs2, Below w.heap.size w W → StnRd W cs2 s → Calls Try.prog 9 #[.agg cs.toArray, .agg cs2.toArray] W fun r w' => r = .returned (.bool true) ∧ Below W.heap.size W w') := Lib.hid (fun W cs2 hb h2 => rsame12_yes cs cs2 s W (HD.out W hb) h2 hf.2.1 (by have := hmay.2.1; omega))
    have HT := Lib.hid hf.2.1
    have s1 : ((txt TT).toList == (txt TT).toList) = true := by simp
    clear H HX h hf hs hT hN hmay hmsg hw b0
    go_enter Try.func4, Try.ntmps4
    go_wp2_with (first
      | (go_at_call 6; ((with_reducible refine (Hid.out HA).mono ?_); rintro e w1 ⟨rfl, hb1⟩; have f1 := Lib.hid (HB1.out.trans (hb1.mono HB1.out.size)); have V1 := Lib.hid (HB2.out.below hb1 HB2.out.lt); clear hb1))
      | (with_reducible refine wpList_ld rfl 28 (.tmp 1) rfl w.heap.size 0 rfl cs (V1.out.range 0 _ (fun i _ => by rw [Nat.zero_add])) (rowStn HL.out) ?_)
      | (go_at_call 12; ((with_reducible refine (Hid.out HG _ f1.out).mono ?_); rintro e w2 ⟨⟨b, rfl, hbf⟩, hb2⟩; have BF := Lib.hid hbf; have f2 := Lib.hid (f1.out.trans (hb2.mono f1.out.size)); have V2 := Lib.hid (V1.out.below hb2 V1.out.lt); clear hb2 hbf))
      | (with_reducible refine wpList_ld rfl 28 (.tmp 1) rfl w.heap.size 0 rfl cs (V2.out.range 0 _ (fun i _ => by rw [Nat.zero_add])) (rowStn HL.out) ?_)
      | (go_at_call 13; have BG := Lib.hid (BF.out (by first | rfl | assumption | simp_all)); ((with_reducible refine (Hid.out HP _ f2.out BG.out).mono ?_); rintro e w3 ⟨A3, c3, rfl, hr, hb3⟩; have r3 := Lib.hid hr; have f3 := Lib.hid (f2.out.trans (hb3.mono f2.out.size)); have V3 := Lib.hid (V2.out.below hb3 V2.out.lt); clear hb3 hr))
      | (with_reducible refine wpList_ld rfl 28 (.tmp 1) rfl w.heap.size 0 rfl cs (V3.out.range 0 _ (fun i _ => by rw [Nat.zero_add])) (rowStn HL.out) ?_)
      | (go_at_call 14; ((with_reducible refine (Hid.out HQ _ f3.out).mono ?_); rintro e w4 ⟨A4, c4, rfl, hr, hb4⟩; have r4 := Lib.hid hr; have r34 := Lib.hid (r3.out.below hb4); have f4 := Lib.hid (f3.out.trans (hb4.mono f3.out.size)); have V4 := Lib.hid (V3.out.below hb4 V3.out.lt); clear hb4 hr))
      | (go_at_call 7; ((with_reducible refine (Hid.out HR _ _ _ f4.out r34.out).mono ?_); rintro e w5 ⟨cs5, rfl, hc5, hb5⟩; have d5 := Lib.hid hc5; have l5 := Lib.hid (hc5.len HT.out); have o5 := Lib.hid hc5.one; have i5 := Lib.hid (fitC (hc5.len HT.out)); have q3 := Lib.hid (r34.out.below hb5); have q4 := Lib.hid (r4.out.below hb5); have f5 := Lib.hid (f4.out.trans (hb5.mono f4.out.size)); have V5 := Lib.hid (V4.out.below hb5 V4.out.lt); clear hb5 hc5))
      | ((with_reducible refine wpList_st rfl 28 (.tmp 7) (.tmp 35) rfl w5.heap.size 0 cs5 rfl rfl 28 zStn (BlkV.new w5 _ _) i5.out (rowStn l5.out) o5.out ?_); intro w6 hB6 ho6; rw [splice_all _ _ (by rw [l5.out]; rfl)] at hB6; have b56 := ((Below.refl w5.heap.size w5).alloc (Nat.le_refl _) (.cells zStn.toArray 28)).trans (ho6.below (Nat.le_refl _)); have d6 := Lib.hid (d5.out.below b56); have f6 := Lib.hid (f5.out.trans (b56.mono f5.out.size)); have U6 := Lib.hid hB6; have V6 := Lib.hid (V5.out.below b56 V5.out.lt); have v1 : (convert 22 9 (.slice A3 N c3)).run Try.prog w6 = .ok (.string (txt TT)) w6 := run_conv (q3.out.below b56) _ _ 5 Try.underlying22 Try.underlying5 Try.underlying9; have v2 : (convert 22 9 (.slice A4 N c4)).run Try.prog w6 = .ok (.string (txt TT)) w6 := run_conv (q4.out.below b56) _ _ 5 Try.underlying22 Try.underlying5 Try.underlying9; clear hB6 ho6 b56)
      | (with_reducible refine wpList_ldg (by with_unfolding_all rfl) 28 (.tmp 1) rfl w.heap.size 0 rfl cs (V6.out.range 0 _ (fun i _ => by rw [Nat.zero_add])) (rowStn HL.out) ?_)
      | (with_reducible refine wpList_ldg (by with_unfolding_all rfl) 28 (.tmp 7) rfl w5.heap.size 0 rfl cs5 (U6.out.range 0 _ (fun i _ => by rw [Nat.zero_add])) (rowStn l5.out) ?_)
      | (go_at_call 9; ((with_reducible refine (Hid.out HS _ _ f6.out d6.out).mono ?_); rintro e w7 ⟨rfl, hb7⟩; have f7 := Lib.hid (f6.out.trans (hb7.mono f6.out.size)); clear hb7)))
    all_goals go_ret
    all_goals first | exact ⟨rfl, f7.out⟩ | exact ⟨rfl, f2.out⟩
  · have HP : Hid (∀ W, Below w.heap.size w W → (s.av.length ≤ 60 ∧ ∀ x ∈ s.av, x.2.length ≤ 600) → Calls Try.prog 13 #[.agg cs.toArray] W fun e w' => e = .returned (.tuple #[.slice none 0 0, .int .i64 1]) ∧ Below W.heap.size W w') := Lib.hid (fun W hb hx => (HX.out hx W hb).mono (fun e w' ⟨_, h2, h3⟩ => ⟨h2 hmay, h3⟩))
    have HQ : Hid (∀ W, Below w.heap.size w W → Calls Try.prog 14 #[.agg cs.toArray] W fun e w' => e = .returned (.tuple #[.slice none 0 0, .bool false]) ∧ Below W.heap.size W w') := Lib.hid (fun W hb => (rwrite12_any cs s W (HD.out W hb) hf hs).mono (fun e w' ⟨_, h2⟩ => h2 hmay))
    clear H HX h hf hs hT hN hmay hw b0
    go_enter Try.func4, Try.ntmps4
    go_wp2_with (first
      | (go_at_call 6; ((with_reducible refine (Hid.out HA).mono ?_); rintro e w1 ⟨rfl, hb1⟩; have f1 := Lib.hid (HB1.out.trans (hb1.mono HB1.out.size)); have V1 := Lib.hid (HB2.out.below hb1 HB2.out.lt); clear hb1))
      | (with_reducible refine wpList_ld rfl 28 (.tmp 1) rfl w.heap.size 0 rfl cs (V1.out.range 0 _ (fun i _ => by rw [Nat.zero_add])) (rowStn HL.out) ?_)
      | (go_at_call 12; ((with_reducible refine (Hid.out HG _ f1.out).mono ?_); rintro e w2 ⟨⟨b, rfl, hbf⟩, hb2⟩; have BF := Lib.hid hbf; have f2 := Lib.hid (f1.out.trans (hb2.mono f1.out.size)); have V2 := Lib.hid (V1.out.below hb2 V1.out.lt); clear hb2 hbf))
      | (with_reducible refine wpList_ld rfl 28 (.tmp 1) rfl w.heap.size 0 rfl cs (V2.out.range 0 _ (fun i _ => by rw [Nat.zero_add])) (rowStn HL.out) ?_)
      | (go_at_call 13; have BG := Lib.hid (BF.out (by first | rfl | assumption | simp_all)); ((with_reducible refine (Hid.out HP _ f2.out BG.out).mono ?_); rintro e w3 ⟨rfl, hb3⟩; have f3 := Lib.hid (f2.out.trans (hb3.mono f2.out.size)); have V3 := Lib.hid (V2.out.below hb3 V2.out.lt); clear hb3))
      | (with_reducible refine wpList_ld rfl 28 (.tmp 1) rfl w.heap.size 0 rfl cs (V3.out.range 0 _ (fun i _ => by rw [Nat.zero_add])) (rowStn HL.out) ?_)
      | (go_at_call 14; ((with_reducible refine (Hid.out HQ _ f3.out).mono ?_); rintro e w4 ⟨rfl, hb4⟩; have f4 := Lib.hid (f3.out.trans (hb4.mono f3.out.size)); clear hb4)))
    all_goals go_ret
    all_goals first | exact ⟨rfl, f4.out⟩ | exact ⟨rfl, f2.out⟩
end Go.Proofs.Ythoiebjndchobaa
