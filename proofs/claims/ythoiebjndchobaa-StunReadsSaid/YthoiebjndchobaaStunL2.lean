/- The walk of the statement StunReads, over what package stun's functions tell. No statement is proved here. -/
import Derived.Test.YthoiebjndchobaaStunL1
namespace Go.Proofs.Ythoiebjndchobaa
open Go.RowKit
set_option linter.unusedVariables false

theorem fitC {cs : List Value} (h : cs.length = 14) : 0 + cs.length ≤ zStn.length := by rw [h, zS_len]; omega
theorem StnRd.one {w : World} {cs : List Value} {s : Stn} (h : StnRd w cs s) : ∀ v ∈ cs, v.oneCell' = true := by
  obtain ⟨A, c, h1, _⟩ := h
  rw [h1]; exact sC_one _ _ _ _ _
set_option maxRecDepth 100000 in
set_option maxHeartbeats 2000000 in
theorem stunReads_core {T : World → Prop} (H : Tells12 T) (A : Option Addr) (n c : Nat) (bs : List UInt8) (w : World) (hw : T w) (hr : RdS w A n c bs) (hn : n ≤ 3000) (s : Stn) (q : Int) (htx : s.tx.length = 12) (hav : s.av.length ≤ 1000000) (t : Bool) (ht : t = true ↔ isB bs) (hqt : ¬ q = 0 ∨ (q = 0 ∧ t = true))
    (hR : ∀ e W W', R12 bs W e W' → ∃ cs, e = .returned (.tuple #[.agg cs.toArray, .int .i64 q]) ∧ StnRd W' cs s ∧ Below W.heap.size W W') :
    Calls Try.prog 3 #[.slice A n c] w fun e w' => e = .returned (.bool true) ∧ Below w.heap.size w w' := by
  have hz := zeroStn
  have HA := Lib.hid (alive12 H w hw)
  have HK := Lib.hid (fun W hb => H.keep w W hw hb)
  have HP : Hid (∀ W, Below w.heap.size w W → Calls Try.prog 7 #[.slice A n c] W fun e w' => ∃ cs, e = .returned (.tuple #[.agg cs.toArray, .int .i64 q]) ∧ StnRd w' cs s ∧ Below W.heap.size W w') := Lib.hid (fun W hb => (H.read A n c bs W (HK.out W hb) (hr.below hb) (by omega)).mono (fun e w' h => hR e W w' h))
  have HQ : Hid (∀ W, Below w.heap.size w W → Calls Try.prog 8 #[.slice A n c] W fun e w' => ∃ cs, e = .returned (.tuple #[.agg cs.toArray, .int .i64 q]) ∧ StnRd w' cs s ∧ Below W.heap.size W w') := Lib.hid (fun W hb => (rread12_any A n c bs W (hr.below hb) (by omega)).mono (fun e w' h => hR e W w' h))
  have HI : Hid (∀ W, Below w.heap.size w W → Calls Try.prog 10 #[.slice A n c] W fun e w' => e = .returned (.bool t) ∧ Below W.heap.size W w') := Lib.hid (fun W hb => H.is A n c bs W t (HK.out W hb) (hr.below hb) (by omega) ht)
  have HJ : Hid (∀ W, Below w.heap.size w W → Calls Try.prog 11 #[.slice A n c] W fun e w' => e = .returned (.bool t) ∧ W = w') := Lib.hid (fun W hb => ris_any A n c bs W (hr.below hb) t ht)
  have HS : Hid (∀ W cs1 cs2, StnRd W cs1 s → StnRd W cs2 s → Calls Try.prog 9 #[.agg cs1.toArray, .agg cs2.toArray] W fun r w' => r = .returned (.bool true) ∧ Below W.heap.size W w') := Lib.hid (fun W cs1 cs2 h1 h2 => rsame12_yes cs1 cs2 s W h1 h2 htx hav)
  have HT := Lib.hid htx
  have e1 : ((q : Int) == q) = true := by simp
  have e2 : (t == t) = true := by cases t <;> rfl
  clear H hR hr ht hav htx hw
  rcases hqt with hq | ⟨hq, htt⟩
  · go_enter Try.func3, Try.ntmps3
    go_wp2_with (first
      | (go_at_call 6; ((with_reducible refine (Hid.out HA).mono ?_); rintro e w1 ⟨rfl, hb1⟩; have f1 := Lib.hid hb1; clear hb1))
      | (go_at_call 7; ((with_reducible refine (Hid.out HP _ f1.out).mono ?_); rintro e w2 ⟨cs2, rfl, hc2, hb2⟩; have d2 := Lib.hid hc2; have l2 := Lib.hid (hc2.len HT.out); have o2 := Lib.hid hc2.one; have i2 := Lib.hid (fitC (hc2.len HT.out)); have f2 := Lib.hid (f1.out.trans (hb2.mono f1.out.size)); clear hc2 hb2))
      | ((with_reducible refine wpList_st rfl 28 (.tmp 3) (.tmp 15) rfl w2.heap.size 0 cs2 rfl rfl 28 zStn (BlkV.new w2 _ _) i2.out (rowStn l2.out) o2.out ?_); intro w3 hB3 ho3; rw [splice_all _ _ (by rw [l2.out]; rfl)] at hB3; have b23 := ((Below.refl w2.heap.size w2).alloc (Nat.le_refl _) (.cells zStn.toArray 28)).trans (ho3.below (Nat.le_refl _)); have d3 := Lib.hid (d2.out.below b23); have f3 := Lib.hid (f2.out.trans (b23.mono f2.out.size)); have V3 := Lib.hid hB3; clear hB3 ho3 b23)
      | (go_at_call 8; ((with_reducible refine (Hid.out HQ _ f3.out).mono ?_); rintro e w4 ⟨cs4, rfl, hc4, hb4⟩; have d4 := Lib.hid hc4; have l4 := Lib.hid (hc4.len HT.out); have o4 := Lib.hid hc4.one; have i4 := Lib.hid (fitC (hc4.len HT.out)); have V4 := Lib.hid (V3.out.below hb4 V3.out.lt); have d34 := Lib.hid (d3.out.below hb4); have f4 := Lib.hid (f3.out.trans (hb4.mono f3.out.size)); clear hc4 hb4))
      | ((with_reducible refine wpList_st rfl 28 (.tmp 5) (.tmp 20) rfl w4.heap.size 0 cs4 rfl rfl 28 zStn (BlkV.new w4 _ _) i4.out (rowStn l4.out) o4.out ?_); intro w5 hB5 ho5; rw [splice_all _ _ (by rw [l4.out]; rfl)] at hB5; have b45 := ((Below.refl w4.heap.size w4).alloc (Nat.le_refl _) (.cells zStn.toArray 28)).trans (ho5.below (Nat.le_refl _)); have d5 := Lib.hid (d4.out.below b45); have d35 := Lib.hid (d34.out.below b45); have f5 := Lib.hid (f4.out.trans (b45.mono f4.out.size)); have V5 := Lib.hid hB5; have U5 := Lib.hid (V4.out.below b45 V4.out.lt); clear hB5 ho5 b45)
      | (with_reducible refine wpList_ldg (by with_unfolding_all rfl) 28 (.tmp 3) rfl w2.heap.size 0 rfl cs2 (U5.out.range 0 _ (fun i _ => by rw [Nat.zero_add])) (rowStn l2.out) ?_)
      | (with_reducible refine wpList_ldg (by with_unfolding_all rfl) 28 (.tmp 5) rfl w4.heap.size 0 rfl cs4 (V5.out.range 0 _ (fun i _ => by rw [Nat.zero_add])) (rowStn l4.out) ?_)
      | (go_at_call 9; ((with_reducible refine (Hid.out HS _ _ _ d35.out d5.out).mono ?_); rintro e w6 ⟨rfl, hb6⟩; have f6 := Lib.hid (f5.out.trans (hb6.mono f5.out.size)); clear hb6))
      | (go_at_call 10; ((with_reducible refine (Hid.out HI _ f6.out).mono ?_); rintro e w7 ⟨rfl, hb7⟩; have f7 := Lib.hid (f6.out.trans (hb7.mono f6.out.size)); clear hb7))
      | (go_at_call 11; ((with_reducible refine (Hid.out HJ _ f7.out).mono ?_); rintro e w8 ⟨rfl, rfl⟩)))
    go_ret
    exact ⟨rfl, f7.out⟩
  · subst hq
    subst htt
    go_enter Try.func3, Try.ntmps3
    go_wp2_with (first
      | (go_at_call 6; ((with_reducible refine (Hid.out HA).mono ?_); rintro e w1 ⟨rfl, hb1⟩; have f1 := Lib.hid hb1; clear hb1))
      | (go_at_call 7; ((with_reducible refine (Hid.out HP _ f1.out).mono ?_); rintro e w2 ⟨cs2, rfl, hc2, hb2⟩; have d2 := Lib.hid hc2; have l2 := Lib.hid (hc2.len HT.out); have o2 := Lib.hid hc2.one; have i2 := Lib.hid (fitC (hc2.len HT.out)); have f2 := Lib.hid (f1.out.trans (hb2.mono f1.out.size)); clear hc2 hb2))
      | ((with_reducible refine wpList_st rfl 28 (.tmp 3) (.tmp 15) rfl w2.heap.size 0 cs2 rfl rfl 28 zStn (BlkV.new w2 _ _) i2.out (rowStn l2.out) o2.out ?_); intro w3 hB3 ho3; rw [splice_all _ _ (by rw [l2.out]; rfl)] at hB3; have b23 := ((Below.refl w2.heap.size w2).alloc (Nat.le_refl _) (.cells zStn.toArray 28)).trans (ho3.below (Nat.le_refl _)); have d3 := Lib.hid (d2.out.below b23); have f3 := Lib.hid (f2.out.trans (b23.mono f2.out.size)); have V3 := Lib.hid hB3; clear hB3 ho3 b23)
      | (go_at_call 8; ((with_reducible refine (Hid.out HQ _ f3.out).mono ?_); rintro e w4 ⟨cs4, rfl, hc4, hb4⟩; have d4 := Lib.hid hc4; have l4 := Lib.hid (hc4.len HT.out); have o4 := Lib.hid hc4.one; have i4 := Lib.hid (fitC (hc4.len HT.out)); have V4 := Lib.hid (V3.out.below hb4 V3.out.lt); have d34 := Lib.hid (d3.out.below hb4); have f4 := Lib.hid (f3.out.trans (hb4.mono f3.out.size)); clear hc4 hb4))
      | ((with_reducible refine wpList_st rfl 28 (.tmp 5) (.tmp 20) rfl w4.heap.size 0 cs4 rfl rfl 28 zStn (BlkV.new w4 _ _) i4.out (rowStn l4.out) o4.out ?_); intro w5 hB5 ho5; rw [splice_all _ _ (by rw [l4.out]; rfl)] at hB5; have b45 := ((Below.refl w4.heap.size w4).alloc (Nat.le_refl _) (.cells zStn.toArray 28)).trans (ho5.below (Nat.le_refl _)); have d5 := Lib.hid (d4.out.below b45); have d35 := Lib.hid (d34.out.below b45); have f5 := Lib.hid (f4.out.trans (b45.mono f4.out.size)); have V5 := Lib.hid hB5; have U5 := Lib.hid (V4.out.below b45 V4.out.lt); clear hB5 ho5 b45)
      | (with_reducible refine wpList_ldg (by with_unfolding_all rfl) 28 (.tmp 3) rfl w2.heap.size 0 rfl cs2 (U5.out.range 0 _ (fun i _ => by rw [Nat.zero_add])) (rowStn l2.out) ?_)
      | (with_reducible refine wpList_ldg (by with_unfolding_all rfl) 28 (.tmp 5) rfl w4.heap.size 0 rfl cs4 (V5.out.range 0 _ (fun i _ => by rw [Nat.zero_add])) (rowStn l4.out) ?_)
      | (go_at_call 9; ((with_reducible refine (Hid.out HS _ _ _ d35.out d5.out).mono ?_); rintro e w6 ⟨rfl, hb6⟩; have f6 := Lib.hid (f5.out.trans (hb6.mono f5.out.size)); clear hb6))
      | (go_at_call 10; ((with_reducible refine (Hid.out HI _ f6.out).mono ?_); rintro e w7 ⟨rfl, hb7⟩; have f7 := Lib.hid (f6.out.trans (hb7.mono f6.out.size)); clear hb7))
      | (go_at_call 11; ((with_reducible refine (Hid.out HJ _ f7.out).mono ?_); rintro e w8 ⟨rfl, rfl⟩))
      | (go_at_call 10; ((with_reducible refine (Hid.out HI _ f7.out).mono ?_); rintro e w9 ⟨rfl, hb9⟩; have f9 := Lib.hid (f7.out.trans (hb9.mono f7.out.size)); clear hb9)))
    go_ret
    exact ⟨rfl, f9.out⟩
set_option maxRecDepth 100000 in
theorem stunReads_long {T : World → Prop} (H : Tells12 T) (A : Option Addr) (n c : Nat) (w : World) (hw : T w) (hn : 3000 < n) :
    Calls Try.prog 3 #[.slice A n c] w fun e w' => e = .returned (.bool true) ∧ Below w.heap.size w w' := by
  have HA := Lib.hid (alive12 H w hw)
  clear H hw
  go_enter Try.func3, Try.ntmps3
  go_wp2_with (go_at_call 6; ((with_reducible refine (Hid.out HA).mono ?_); rintro e w1 ⟨rfl, hb1⟩; have f1 := Lib.hid hb1; clear hb1))
  go_ret
  exact ⟨rfl, f1.out⟩
theorem stunReads_walkP {T : World → Prop} (H : Tells12 T) (A : Option Addr) (n c : Nat) (bs : List UInt8) (w : World) (hw : T w) (hr : RdS w A n c bs) :
    Calls Try.prog 3 #[.slice A n c] w fun e w' => e = .returned (.bool true) ∧ Below w.heap.size w w' := by
  by_cases hn : n ≤ 3000
  case neg => exact stunReads_long H A n c w hw (by omega)
  have hl := hr.len
  obtain ⟨t, ht⟩ : ∃ t : Bool, t = true ↔ isB bs := by
    by_cases h : isB bs
    · exact ⟨true, by simp [h]⟩
    · exact ⟨false, by simp [h]⟩
  by_cases hm : ∃ s, isMsg bs s
  · obtain ⟨s, hs⟩ := hm
    refine stunReads_core H A n c bs w hw hr hn s 0 hs.2.1.2.1 (by have := hs.2.2.2.1; omega) t ht (.inr ⟨rfl, ht.2 hs.isB⟩) (fun e W W' ⟨h1, _, h3⟩ => ?_)
    obtain ⟨cs, h4, h5⟩ := h1 s hs
    exact ⟨cs, h4, h5, h3⟩
  · refine stunReads_core H A n c bs w hw hr hn ⟨0, Z12, []⟩ (if bs.length < 20 then 2 else 3) rfl (by simp) t ht (.inl (by split <;> omega)) (fun e W W' ⟨_, h2, h3⟩ => ?_)
    obtain ⟨cs, h4, h5⟩ := h2 (fun s hs => hm ⟨s, hs⟩)
    exact ⟨cs, h4, h5, h3⟩
end Go.Proofs.Ythoiebjndchobaa
