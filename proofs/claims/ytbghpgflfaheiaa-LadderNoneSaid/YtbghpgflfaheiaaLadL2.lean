/- LadderGood's and LadderDecays' walks. -/
import Derived.Test.YtbghpgflfaheiaaLadL1
namespace Go.Proofs.Ytbghpgflfaheiaa
open Go.RowKit
set_option linter.unusedVariables false

set_option maxRecDepth 100000 in
theorem ladderGood_walk {T : World → Value → Ldr → (Nat → Prop) → Prop} (hT : Tells21 T) (S H0 D t : Int) (w : World) (hD : D ≤ 9223372036854775807) (ht : (Lit.int .u8 t).wf = true) :
    Calls Try.prog 4 #[.agg #[.int .i64 S, .int .i64 H0, .int .i64 D], .int .u8 t] w fun e w' => e = .returned (.bool true) ∧ Below w.heap.size w w' := by
  have H := Lib.hid hT
  have HAL := Lib.hid (fun wx => alive_any21 hT wx)
  have bt := bounds_u8 ht
  have hb1 : Below w.heap.size w (w.alloc (.cells #[.int .i64 S, .int .i64 H0, .int .i64 D] 23)) := (Below.refl _ _).alloc (Nat.le_refl _) _
  have hz1 : w.heap.size < (w.alloc (.cells #[.int .i64 S, .int .i64 H0, .int .i64 D] 23)).heap.size := by simp
  have HR1 := Lib.hid (BlkV.new w 23 [.int .i64 S, .int .i64 H0, .int .i64 D])
  have HC : Hid (∀ W, BlkV W w.heap.size 23 [.int .i64 S, .int .i64 H0, .int .i64 D] → W.cell? ⟨w.heap.size, 0, none⟩ = some (.int .i64 S) ∧ W.cell? ⟨w.heap.size, 1, none⟩ = some (.int .i64 H0) ∧ W.cell? ⟨w.heap.size, 2, none⟩ = some (.int .i64 D)) := Lib.hid fun W h => ⟨(h.cell 0).trans rfl, (h.cell 1).trans rfl, (h.cell 2).trans rfl⟩
  obtain ⟨W1, hW1⟩ : ∃ W1, W1 = w.alloc (.cells #[.int .i64 S, .int .i64 H0, .int .i64 D] 23) := ⟨_, rfl⟩
  rw [← hW1] at hb1 hz1 HR1
  have HB1 := Lib.hid (And.intro hb1 hz1)
  have HW1 := Lib.hid hW1
  clear ht hb1 hz1 hW1
  by_cases hm : mayR S H0 D
  · have HN := Lib.hid (fun wx => hT.new_ok S H0 D wx hm hD)
    have O1 := Lib.hid (newR_ok hm hD)
    clear hT hm
    go_enter Try.func4, Try.ntmps4
    go_wp2_with (first
      | (go_at_call 7; (rw [← HW1.out]; (with_reducible refine (Hid.out HAL _).mono ?_); rintro e w2 ⟨rfl, hb2⟩; have HB2 := Lib.hid (HB1.out.1.trans (hb2.mono (Nat.le_of_lt HB1.out.2))); obtain ⟨r0, r1, r2⟩ := HC.out w2 (HR1.out.below hb2 HR1.out.lt); clear hb2))
      | (go_at_call 8; ((with_reducible refine (Hid.out HN _).mono ?_); rintro e w3 ⟨q, F, rfl, HK⟩; have HO := Lib.hid (OnK.new HB2.out HK.out); clear HK)))
    go_loopw [6] (fun vj wr => ∃ (j : Nat) (s : Ldr), (j : Int) ≤ t ∧ vj = .int .i64 j ∧ Hid (OnK T w (fun _ => False) (.pointer (some q)) s wr ∧ OkR s ∧ s.sh = false ∧ s.k = 0)) (fun j _ => 256 - (intOf j).toNat)
    case atStart => exact ⟨0, newR S H0 D, by omega, rfl, Lib.hid ⟨HO.out, O1.out, rfl, rfl⟩⟩
    case round =>
      clear HO r0 r1 r2
      obtain ⟨j, s, hj, rfl, HJ⟩ := hrel
      by_cases hjt : (j : Int) < t
      · obtain ⟨g1, g2, g3⟩ := good_tik HJ.out.2.1 HJ.out.2.2.1 HJ.out.2.2.2
        have HG := Lib.hid (And.intro g1 (And.intro g2 g3))
        have ok2 := Lib.hid (tikR_ok HJ.out.2.1)
        have P1 := Lib.hid (Lad.tick H.out HJ.out.1 HJ.out.2.1)
        clear g1 g2 g3
        go_wp2_with (first
          | (go_at_call 16; ((with_reducible refine (Hid.out P1).mono ?_); rintro e w4 ⟨rfl, HK4⟩; have P2 := Lib.hid (Lad.strike H.out HK4.out.1 ok2.out 0 (by decide))))
          | (go_at_call 13; ((with_reducible refine (Hid.out P2).mono ?_); rintro e w5 ⟨rfl, HK5⟩; have HK6 := Lib.hid HK5.out.1; rw [str_zero] at HK6; have P3 := Lib.hid (Lad.state H.out HK6.out ok2.out 0 HG.out.2.2)))
          | (go_at_call 18; ((with_reducible refine (Hid.out P3).mono ?_); rintro e w6 ⟨rfl, m6, hm6⟩; have HK7 := Lib.hid (HK6.out.on H.out.lone (hm6 ▸ drewN_bel w5 m6)).1; clear hm6; have P4 := Lib.hid (Lad.strikes H.out HK7.out ok2.out 0 HG.out.2.1)))
          | (go_at_call 12; ((with_reducible refine (Hid.out P4).mono ?_); rintro e w7 ⟨rfl, m7, hm7⟩; have HK8 := Lib.hid (HK7.out.on H.out.lone (hm7 ▸ drewN_bel w6 m7)).1; clear hm7)))
        go_roundw
        case rel => exact ⟨j + 1, tikR s, by omega, by go_num, Lib.hid ⟨HK8.out, ok2.out, HG.out.1, HG.out.2.1⟩⟩
        case measure => simp [intOf]; omega
      · have hjt2 : t ≤ (j : Int) := by omega
        go_wp2
        go_ret
        exact ⟨rfl, HJ.out.1.below⟩
  · have HN := Lib.hid (fun wx => hT.new_no S H0 D wx hm)
    have HM := Lib.hid (fun wx => rmay_no21 S H0 D wx hm)
    clear hT hm
    go_enter Try.func4, Try.ntmps4
    go_wp2_with (first
      | (go_at_call 7; (rw [← HW1.out]; (with_reducible refine (Hid.out HAL _).mono ?_); rintro e w2 ⟨rfl, hb2⟩; have HB2 := Lib.hid (HB1.out.1.trans (hb2.mono (Nat.le_of_lt HB1.out.2))); have HR2 := Lib.hid (HR1.out.below hb2 HR1.out.lt); obtain ⟨r0, r1, r2⟩ := HC.out w2 HR2.out; clear hb2))
      | (go_at_call 8; ((with_reducible refine (Hid.out HN _).mono ?_); rintro e w3 ⟨rfl, HK⟩; have HB3 := Lib.hid (HB2.out.trans (HK.out.mono HB2.out.size)); obtain ⟨q0, q1, q2⟩ := HC.out w3 (HR2.out.below HK.out HR2.out.lt)))
      | (go_at_call 9; ((with_reducible refine (Hid.out HM _).mono ?_); rintro e w4 ⟨rfl, hb4⟩)))
    go_ret
    exact ⟨rfl, HB3.out.trans (hb4.mono HB3.out.size)⟩
theorem addR_zero {n : Int} (h : n ≤ 1000) : addR 0 n = n := by unfold addR; split <;> omega
/-- What there is behind the first strikes. -/
theorem str_new (S H D n : Int) (hn : 0 ≤ n) (hn1 : n ≤ 255) : (strR (newR S H D) n).k = n ∧ (strR (newR S H D) n).l = D ∧ (strR (newR S H D) n).D = D ∧ (strR (newR S H D) n).sh = (decide (1 ≤ n) && decide (H ≤ n)) := by
  unfold strR
  by_cases h : n < 1
  · rw [if_pos h]
    have : n = 0 := by omega
    subst this
    exact ⟨rfl, rfl, rfl, rfl⟩
  · rw [if_neg h]
    have e : addR (newR S H D).k n = n := addR_zero (by omega)
    refine ⟨e, rfl, rfl, ?_⟩
    have h1 : decide (1 ≤ n) = true := by simp; omega
    show (false || decide (H ≤ addR (newR S H D).k n)) = _
    rw [e, h1]; simp

set_option maxRecDepth 100000 in
theorem ladderDecays_walk {T : World → Value → Ldr → (Nat → Prop) → Prop} (hT : Tells21 T) (a b c n t : Int) (w : World) (ha : (Lit.int .u8 a).wf = true) (hb : (Lit.int .u8 b).wf = true) (hc : (Lit.int .u8 c).wf = true) (hn : (Lit.int .u8 n).wf = true) (ht : (Lit.int .u8 t).wf = true) :
    Calls Try.prog 5 #[.int .u8 a, .int .u8 b, .int .u8 c, .int .u8 n, .int .u8 t] w fun e w' => e = .returned (.bool true) ∧ Below w.heap.size w w' := by
  have H := Lib.hid hT
  have HAL := Lib.hid (fun wx => alive_any21 hT wx)
  have ba := bounds_u8 ha
  have bb := bounds_u8 hb
  have bc := bounds_u8 hc
  have bn := bounds_u8 hn
  have bt := bounds_u8 ht
  have hm : mayR (a + 1) (a + 2 + b) (c + 1) := ⟨by omega, by omega, by omega, by omega⟩
  have HN := Lib.hid (fun wx => hT.new_ok (a + 1) (a + 2 + b) (c + 1) wx hm (by omega))
  have O1 := Lib.hid (newR_ok hm (show c + 1 ≤ 9223372036854775807 by omega))
  have O2 := Lib.hid (strR_ok O1.out n)
  have HSN := Lib.hid (str_new (a + 1) (a + 2 + b) (c + 1) n bn.1 bn.2)
  obtain ⟨s0, hs0⟩ : ∃ s0, s0 = newR (a + 1) (a + 2 + b) (c + 1) := ⟨_, rfl⟩
  obtain ⟨s1, hs1⟩ : ∃ s1, s1 = strR s0 n := ⟨_, rfl⟩
  rw [← hs0] at HN O1 O2 HSN
  rw [← hs1] at O2 HSN
  have HS1 := Lib.hid hs1
  have hzr : ∀ wx : World, (zeroValue 23).run Try.prog wx = .ok (.agg #[.int .i64 0, .int .i64 0, .int .i64 0]) wx := fun wx => by kernel_rfl
  have HC : Hid (∀ W ob, BlkV W ob 23 [.int .i64 (a + 1), .int .i64 (a + 2 + b), .int .i64 (c + 1)] → W.cell? ⟨ob, 0, none⟩ = some (.int .i64 (a + 1)) ∧ W.cell? ⟨ob, 1, none⟩ = some (.int .i64 (a + 2 + b)) ∧ W.cell? ⟨ob, 2, none⟩ = some (.int .i64 (c + 1))) := Lib.hid fun W ob h => ⟨(h.cell 0).trans rfl, (h.cell 1).trans rfl, (h.cell 2).trans rfl⟩
  clear hT hm ha hb hc hn ht hs0 hs1
  go_enter Try.func5, Try.ntmps5
  go_wp2_with (first
    | (go_at_call 7; ((with_reducible refine (Hid.out HAL _).mono ?_); rintro e w2 ⟨rfl, hb2⟩; have HB2 := Lib.hid hb2; clear hb2))
    | (go_at_call 8; ((with_reducible refine (Hid.out HN _).mono ?_); rintro e w3 ⟨q, F, rfl, HK⟩; have HO := Lib.hid (OnK.newK (K := fun k => k = w2.heap.size) (HB2.out.alloc HB2.out.size (.cells #[.int .i64 (a + 1), .int .i64 (a + 2 + b), .int .i64 (c + 1)] 23)) (fun k hk => by rw [hk]; simp) HK.out); have HR3 := Lib.hid ((BlkV.new w2 23 [.int .i64 (a + 1), .int .i64 (a + 2 + b), .int .i64 (c + 1)]).samK HO.out.2 rfl); have P1 := Lib.hid (Lad.strike H.out HO.out.1 O1.out n (by omega))))
    | (go_at_call 13; ((with_reducible refine (Hid.out P1).mono ?_); rintro e w4 ⟨rfl, HK4⟩; have HK4' := HK4; rw [← HS1.out] at HK4'; have P2 := Lib.hid (Lad.strikes H.out HK4'.out.1 O2.out n HSN.out.1)))
    | (go_at_call 12; ((with_reducible refine (Hid.out P2).mono ?_); rintro e w5 ⟨rfl, m5, hm5⟩; have HK5 := Lib.hid (HK4'.out.1.on H.out.lone (hm5 ▸ drewN_bel w4 m5)); have HR5 := Lib.hid ((HR3.out.samK HK4'.out.2 rfl).samK HK5.out.2 rfl); clear hm5)))
  obtain ⟨ob, hob⟩ : ∃ ob, ob = w2.heap.size := ⟨_, rfl⟩
  have HK5' : Hid (OnK T w (fun k => k = ob) (.pointer (some q)) s1 w5 ∧ BlkV w5 ob 23 [.int .i64 (a + 1), .int .i64 (a + 2 + b), .int .i64 (c + 1)]) := Lib.hid (by rw [hob]; exact ⟨HK5.out.1, HR5.out⟩)
  rw [← hob]
  clear hob HK5 HR5 HK4 HK4' HR3 HO HK HB2 HN O1 HS1 HAL
  go_loopw [14] (fun vj wr => ∃ j : Nat, (j : Int) ≤ t ∧ vj = .int .i64 j ∧ Hid (OnK T w (fun k => k = ob) (.pointer (some q)) (tksR s1 j) wr ∧ BlkV wr ob 23 [.int .i64 (a + 1), .int .i64 (a + 2 + b), .int .i64 (c + 1)])) (fun j _ => 256 - (intOf j).toNat)
  case atStart => exact ⟨0, by omega, rfl, HK5'⟩
  case round =>
    clear HK5'
    obtain ⟨j, hj, rfl, HJ⟩ := hrel
    by_cases hjt : (j : Int) < t
    · have P3 := Lib.hid (Lad.tick H.out HJ.out.1 (tksR_ok O2.out j))
      go_wp2_with (go_at_call 16; ((with_reducible refine (Hid.out P3).mono ?_); rintro e w6 ⟨rfl, HK6⟩))
      go_roundw
      case rel => exact ⟨j + 1, by omega, by go_num, Lib.hid ⟨HK6.out.1, HJ.out.2.samK HK6.out.2 rfl⟩⟩
      case measure => simp [intOf]; omega
    · have hjt2 : t ≤ (j : Int) := by omega
      have hje : (j : Int) = t := by omega
      have okj := Lib.hid (tksR_ok O2.out j)
      obtain ⟨kk, hkk⟩ : ∃ kk, kk = (tksR s1 j).k := ⟨_, rfl⟩
      have P4 := Lib.hid (Lad.strikes H.out HJ.out.1 okj.out kk hkk.symm)
      have kk0 : 0 ≤ kk := by have := okj.out.k0; omega
      have kk1 : kk ≤ 1000 := by have := okj.out.k1; omega
      by_cases hq : a + 2 + b ≤ n
      · have hsh : s1.sh = true := by rw [HSN.out.2.2.2]; simp; omega
        have hst := tksR_shut hsh j
        have hkn : kk = n := by rw [hkk, hst]; exact HSN.out.1
        have HST : Hid (staR (tksR s1 j) = 2) := Lib.hid (by rw [hst]; simp [staR, hsh])
        subst hkn
        clear hkk hsh hst hje
        go_wp2_with (first
          | (go_at_call 12; ((with_reducible refine (Hid.out P4).mono ?_); rintro e w7 ⟨rfl, m7, hm7⟩; have HK7 := Lib.hid (HJ.out.1.on H.out.lone (hm7 ▸ drewN_bel _ m7)); obtain ⟨r0, r1, r2⟩ := HC.out w7 ob (HJ.out.2.samK HK7.out.2 rfl); clear hm7; have P5 := Lib.hid (Lad.state H.out HK7.out.1 okj.out 2 HST.out)))
          | (go_at_call 18; ((with_reducible refine (Hid.out P5).mono ?_); rintro e w8 ⟨rfl, m8, hm8⟩; have HK8 := Lib.hid (HK7.out.1.on H.out.lone (hm8 ▸ drewN_bel w7 m8)); clear hm8)))
        go_ret
        exact ⟨rfl, HK8.out.1.below⟩
      · have hq2 : n < a + 2 + b := by omega
        have hsh : s1.sh = false := by rw [HSN.out.2.2.2]; simp; omega
        have hd := decay_le O2.out hsh (by rw [HSN.out.2.1, HSN.out.2.2.1]) j
        rw [HSN.out.1, HSN.out.2.2.1, ← hkk, hje] at hd
        obtain ⟨x, hx⟩ : ∃ x, x = t / (c + 1) := ⟨_, rfl⟩
        rw [← hx] at hd
        have hxw : t / (c + 1) = x := hx.symm
        have hx0 : 0 ≤ x := by rw [hx]; exact Int.ediv_nonneg bt.1 (by omega)
        have hx1 : x ≤ 255 := by rw [hx]; exact Int.le_trans (Int.ediv_le_self _ bt.1) bt.2
        have hd0 := hd.1
        have hd1 := hd.2
        clear hkk hsh hje hx hd
        go_wp2_with (first
          | (go_at_call 12; ((with_reducible refine (Hid.out P4).mono ?_); rintro e w7 ⟨rfl, m7, hm7⟩; have HK7 := Lib.hid (HJ.out.1.on H.out.lone (hm7 ▸ drewN_bel _ m7)); obtain ⟨r0, r1, r2⟩ := HC.out w7 ob (HJ.out.2.samK HK7.out.2 rfl); clear hm7)))
        go_ret
        exact ⟨rfl, HK7.out.1.below⟩
end Go.Proofs.Ytbghpgflfaheiaa
