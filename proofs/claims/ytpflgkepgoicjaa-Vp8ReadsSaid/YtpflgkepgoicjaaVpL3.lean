/- The walk of the law tenaillelaw13.Vp8Turns, over what package vp8 tells. No statement is proved here. -/
import Derived.Test.YtpflgkepgoicjaaVpL1
import Derived.Test.YtpflgkepgoicjaaVpNum2
import Derived.Test.YtpflgkepgoicjaaOpen
namespace Go.Proofs.Ytpflgkepgoicjaa
open Go.RowKit Go.ChangeShapes Go.WideShapes
set_option linter.unusedVariables false

set_option maxRecDepth 100000 in
theorem vp8Turns_long {T : World → Prop} (H : Tells13 T) (A : Option Addr) (n c : Nat) (p : Nat) (w : World) (hw : T w) (hn : 2000 < n) :
    Calls Try.prog 4 #[.slice A n c, .int .u16 (p : Int)] w fun e w' => e = .returned (.bool true) ∧ Below w.heap.size w w' := by
  have HA := Lib.hid (alive13 H w hw)
  clear H hw
  go_enter Try.func4, Try.ntmps4
  go_wp2_with (go_at_call 5; ((with_reducible refine (Hid.out HA).mono ?_); rintro e w1 ⟨rfl, hb1⟩; have f1 := Lib.hid hb1; clear hb1))
  go_ret
  exact ⟨rfl, f1.out⟩
set_option maxRecDepth 100000 in
set_option maxHeartbeats 2000000 in
theorem vp8Turns_no {T : World → Prop} (H : Tells13 T) (A : Option Addr) (n c : Nat) (bs : List UInt8) (p : Nat) (w : World) (hw : T w) (hr : RdS w A n c bs) (hn : n ≤ 2000) (hp : p < 65536) (hy : ¬ (whyV bs = 0 ∧ hasV bs = true)) :
    Calls Try.prog 4 #[.slice A n c, .int .u16 (p : Int)] w fun e w' => e = .returned (.bool true) ∧ Below w.heap.size w w' := by
  have hn2 : (n : Int) ≤ 2000 := by omega
  have HA := Lib.hid (alive13 H w hw)
  have HTU : Hid (∀ W, T W → RdS W A n c bs → Calls Try.prog 8 #[.slice A n c, .int .u16 (p : Int)] W fun e w' => e = .returned (.tuple #[.slice none 0 0, .bool false]) ∧ Below W.heap.size W w') := Lib.hid (fun W hW h => (H.turn A n c bs p W hW h (by omega) hp).mono (fun e w' ⟨_, h2, h3⟩ => ⟨h2 hy, h3⟩))
  have HRU : Hid (∀ W, RdS W A n c bs → Calls Try.prog 9 #[.slice A n c, .int .u16 (p : Int)] W fun e w' => e = .returned (.tuple #[.slice none 0 0, .bool false]) ∧ Below W.heap.size W w') := Lib.hid (fun W h => (rturn13_any A n c bs p W h hp (by omega)).mono (fun e w' ⟨_, h2, h3⟩ => ⟨h2 hy, h3⟩))
  have HK := Lib.hid H.keep
  have HTW := Lib.hid hw
  have HRD := Lib.hid hr
  have v0 : ∀ wx, (convert 22 9 (.slice none 0 0)).run Try.prog wx = .ok (.string (txt [])) wx := fun wx => run_conv (RdS.nil wx) _ _ 5 Try.underlying22 Try.underlying5 Try.underlying9
  have s1 : ((txt []).toList == (txt []).toList) = true := by simp
  have s2 : ((txt bs).toList == (txt bs).toList) = true := by simp
  clear H hw hr hy
  go_enter Try.func4, Try.ntmps4
  go_wp2_with (first
    | (go_at_call 5; ((with_reducible refine (Hid.out HA).mono ?_); rintro e w1 ⟨rfl, hb1⟩; have f1 := Lib.hid hb1; have t1 := Lib.hid (HK.out _ _ HTW.out hb1); have r1 := Lib.hid (HRD.out.below hb1); have v1 : (convert 22 9 (.slice A n c)).run Try.prog w1 = .ok (.string (txt bs)) w1 := run_conv r1.out _ _ 5 Try.underlying22 Try.underlying5 Try.underlying9; clear hb1))
    | (go_at_call 8; ((with_reducible refine (Hid.out HTU _ t1.out r1.out).mono ?_); rintro e w2 ⟨rfl, hb2⟩; have f2 := Lib.hid (f1.out.trans (hb2.mono f1.out.size)); have r2 := Lib.hid (HRD.out.below f2.out); clear hb2))
    | (go_at_call 9; ((with_reducible refine (Hid.out HRU _ r2.out).mono ?_); rintro e w3 ⟨rfl, hb3⟩; have f3 := Lib.hid (f2.out.trans (hb3.mono f2.out.size)); have r3 := Lib.hid (HRD.out.below f3.out); have v4 : (convert 22 9 (.slice A n c)).run Try.prog w3 = .ok (.string (txt bs)) w3 := run_conv r3.out _ _ 5 Try.underlying22 Try.underlying5 Try.underlying9; clear hb3)))
  go_ret
  exact ⟨rfl, f3.out⟩

set_option maxRecDepth 100000 in
set_option maxHeartbeats 2000000 in
theorem vp8Turns_true {T : World → Prop} (H : Tells13 T) (A : Option Addr) (n c : Nat) (bs : List UInt8) (p : Nat) (w : World) (hw : T w) (hr : RdS w A n c bs) (hn : n ≤ 2000) (hp : p < 65536) (hy : whyV bs = 0 ∧ hasV bs = true) (hwd : wideV bs = true) :
    Calls Try.prog 4 #[.slice A n c, .int .u16 (p : Int)] w fun e w' => e = .returned (.bool true) ∧ Below w.heap.size w w' := by
  have hn2 : (n : Int) ≤ 2000 := by omega
  have hl := hr.len
  have HA := Lib.hid (alive13 H w hw)
  obtain ⟨TT, hT⟩ : ∃ TT, TT = trnV bs p := ⟨_, rfl⟩
  have htl : TT.length = n := by rw [hT, trnV_len, hl]
  obtain ⟨hy2, hv2⟩ := trn_read p hy.1 hy.2
  rw [← hT] at hy2 hv2
  have hwant : wantV bs p = p % 32768 := by unfold wantV; rw [hwd]; rfl
  have hv : (vpV bs).has = true ∧ (vpV bs).wide = true := by unfold vpV; rw [if_pos hy.1]; exact ⟨hy.2, hwd⟩
  have HTU : Hid (∀ W, T W → RdS W A n c bs → Calls Try.prog 8 #[.slice A n c, .int .u16 (p : Int)] W fun e w' => ∃ A' c', e = .returned (.tuple #[.slice A' n c', .bool true]) ∧ RdS w' A' n c' TT ∧ Below W.heap.size W w') := Lib.hid (fun W hW h => (H.turn A n c bs p W hW h (by omega) hp).mono (fun e w' ⟨h1, _, h3⟩ => by
    obtain ⟨A', c', N, hN, he, h4⟩ := h1 hy
    rw [hl] at hN
    subst hN
    rw [← hT] at h4
    exact ⟨A', c', he, h4, h3⟩))
  have HRU : Hid (∀ W, RdS W A n c bs → Calls Try.prog 9 #[.slice A n c, .int .u16 (p : Int)] W fun e w' => ∃ A' c', e = .returned (.tuple #[.slice A' n c', .bool true]) ∧ RdS w' A' n c' TT ∧ Below W.heap.size W w') := Lib.hid (fun W h => (rturn13_any A n c bs p W h hp (by omega)).mono (fun e w' ⟨h1, _, h3⟩ => by
    obtain ⟨A', c', N, hN, he, h4⟩ := h1 hy
    rw [hl] at hN
    subst hN
    rw [← hT] at h4
    exact ⟨A', c', he, h4, h3⟩))
  have hP1 : ∀ W, T W → RdS W A n c bs → Calls Try.prog 6 #[.slice A n c] W (P13 bs W) := fun W hW h => H.read A n c bs W hW h (by omega)
  have hP2 : ∀ W B d, T W → RdS W B n d TT → Calls Try.prog 6 #[.slice B n d] W (P13 TT W) := fun W B d hW h => H.read B n d TT W hW h (by omega)
  unfold P13 vC at hP1 hP2
  rw [hv2, hy2, hwant] at hP2
  rw [hy.1] at hP1
  generalize vpV bs = v at hP1 hP2 hv
  obtain ⟨st, part, has, wide, pic, key, head⟩ := v
  obtain ⟨h1, h2⟩ := hv
  simp only at h1 h2
  subst h1
  subst h2
  have HP1 : Hid (∀ W, T W → RdS W A n c bs → Calls Try.prog 6 #[.slice A n c] W fun e w' => e = .returned (.tuple #[.agg #[.bool st, .int .u8 (part : Int), .bool true, .bool true, .int .u16 (pic : Int), .bool key, .int .i64 (head : Int)], .int .i64 0]) ∧ Below W.heap.size W w') := Lib.hid hP1
  have HP2 : Hid (∀ W B d, T W → RdS W B n d TT → Calls Try.prog 6 #[.slice B n d] W fun e w' => e = .returned (.tuple #[.agg #[.bool st, .int .u8 (part : Int), .bool true, .bool true, .int .u16 ((p : Int) % 32768), .bool key, .int .i64 (head : Int)], .int .i64 0]) ∧ Below W.heap.size W w') := Lib.hid (fun W B d hW h => (hP2 W B d hW h).mono (fun e w' ⟨h1, h2⟩ => ⟨h1, h2⟩))
  have HK := Lib.hid H.keep
  have HTW := Lib.hid hw
  have HRD := Lib.hid hr
  have s1 : ((txt TT).toList == (txt TT).toList) = true := by simp
  have s2 : ((txt bs).toList == (txt bs).toList) = true := by simp
  clear H hw hr hP1 hP2 hy hwd hT htl hy2 hv2 hwant hl
  go_enter Try.func4, Try.ntmps4
  go_wp2_with (first
    | (go_at_call 5; ((with_reducible refine (Hid.out HA).mono ?_); rintro e w1 ⟨rfl, hb1⟩; have f1 := Lib.hid hb1; have t1 := Lib.hid (HK.out _ _ HTW.out hb1); have r1 := Lib.hid (HRD.out.below hb1); have v1 : (convert 22 9 (.slice A n c)).run Try.prog w1 = .ok (.string (txt bs)) w1 := run_conv r1.out _ _ 5 Try.underlying22 Try.underlying5 Try.underlying9; clear hb1))
    | (go_at_call 8; ((with_reducible refine (Hid.out HTU _ t1.out r1.out).mono ?_); rintro e w2 ⟨A2, c2, rfl, hr2, hb2⟩; have f2 := Lib.hid (f1.out.trans (hb2.mono f1.out.size)); have d2 := Lib.hid hr2; have r2 := Lib.hid (HRD.out.below f2.out); clear hb2 hr2))
    | (go_at_call 9; ((with_reducible refine (Hid.out HRU _ r2.out).mono ?_); rintro e w3 ⟨A3, c3, rfl, hr3, hb3⟩; have f3 := Lib.hid (f2.out.trans (hb3.mono f2.out.size)); have t3 := Lib.hid (HK.out _ _ HTW.out f3.out); have d3 := Lib.hid (d2.out.below hb3); have r3 := Lib.hid (HRD.out.below f3.out); have v2 : (convert 22 9 (.slice A2 n c2)).run Try.prog w3 = .ok (.string (txt TT)) w3 := run_conv d3.out _ _ 5 Try.underlying22 Try.underlying5 Try.underlying9; have v3 : (convert 22 9 (.slice A3 n c3)).run Try.prog w3 = .ok (.string (txt TT)) w3 := run_conv hr3 _ _ 5 Try.underlying22 Try.underlying5 Try.underlying9; have v4 : (convert 22 9 (.slice A n c)).run Try.prog w3 = .ok (.string (txt bs)) w3 := run_conv r3.out _ _ 5 Try.underlying22 Try.underlying5 Try.underlying9; clear hb3 hr3))
    | (go_at_call 6; ((with_reducible refine (Hid.out HP1 _ t3.out r3.out).mono ?_); rintro e w4 ⟨rfl, hb4⟩; have f4 := Lib.hid (f3.out.trans (hb4.mono f3.out.size)); have x4 := Lib.hid (f4.out.alloc f4.out.size (.cells #[.bool st, .int .u8 (part : Int), .bool true, .bool true, .int .u16 (pic : Int), .bool key, .int .i64 (head : Int)] 26)); have t4 := Lib.hid (HK.out _ _ HTW.out x4.out); have d4 := Lib.hid (d3.out.below (hb4.alloc hb4.size (.cells #[.bool st, .int .u8 (part : Int), .bool true, .bool true, .int .u16 (pic : Int), .bool key, .int .i64 (head : Int)] 26))); clear hb4))
    | (go_at_call 6; ((with_reducible refine (Hid.out HP2 _ _ _ t4.out d4.out).mono ?_); rintro e w5 ⟨rfl, hb5⟩; have f5 := Lib.hid (x4.out.trans (hb5.mono x4.out.size)); have x5 := Lib.hid (f5.out.alloc f5.out.size (.cells #[.bool st, .int .u8 (part : Int), .bool true, .bool true, .int .u16 (pic : Int), .bool key, .int .i64 (head : Int)] 26)); have k0 : ∀ X, (w5.alloc X).cell? ⟨w4.heap.size, 0, none⟩ = some (.bool st) := fun X => (kept1 hb5 X 0).trans (by rfl); have k1 : ∀ X, (w5.alloc X).cell? ⟨w4.heap.size, 1, none⟩ = some (.int .u8 (part : Int)) := fun X => (kept1 hb5 X 1).trans (by rfl); have k2 : ∀ X, (w5.alloc X).cell? ⟨w4.heap.size, 2, none⟩ = some (.bool true) := fun X => (kept1 hb5 X 2).trans (by rfl); have k3 : ∀ X, (w5.alloc X).cell? ⟨w4.heap.size, 3, none⟩ = some (.bool true) := fun X => (kept1 hb5 X 3).trans (by rfl); have k4 : ∀ X, (w5.alloc X).cell? ⟨w4.heap.size, 4, none⟩ = some (.int .u16 (pic : Int)) := fun X => (kept1 hb5 X 4).trans (by rfl); have k5 : ∀ X, (w5.alloc X).cell? ⟨w4.heap.size, 5, none⟩ = some (.bool key) := fun X => (kept1 hb5 X 5).trans (by rfl); have k6 : ∀ X, (w5.alloc X).cell? ⟨w4.heap.size, 6, none⟩ = some (.int .i64 (head : Int)) := fun X => (kept1 hb5 X 6).trans (by rfl); clear hb5)))
  go_ret
  exact ⟨rfl, x5.out⟩

set_option maxRecDepth 100000 in
set_option maxHeartbeats 2000000 in
theorem vp8Turns_false {T : World → Prop} (H : Tells13 T) (A : Option Addr) (n c : Nat) (bs : List UInt8) (p : Nat) (w : World) (hw : T w) (hr : RdS w A n c bs) (hn : n ≤ 2000) (hp : p < 65536) (hy : whyV bs = 0 ∧ hasV bs = true) (hwd : wideV bs = false) :
    Calls Try.prog 4 #[.slice A n c, .int .u16 (p : Int)] w fun e w' => e = .returned (.bool true) ∧ Below w.heap.size w w' := by
  have hn2 : (n : Int) ≤ 2000 := by omega
  have hl := hr.len
  have HA := Lib.hid (alive13 H w hw)
  obtain ⟨TT, hT⟩ : ∃ TT, TT = trnV bs p := ⟨_, rfl⟩
  have htl : TT.length = n := by rw [hT, trnV_len, hl]
  obtain ⟨hy2, hv2⟩ := trn_read p hy.1 hy.2
  rw [← hT] at hy2 hv2
  have hwant : wantV bs p = p % 128 := by unfold wantV; rw [hwd]; rfl
  have hv : (vpV bs).has = true ∧ (vpV bs).wide = false := by unfold vpV; rw [if_pos hy.1]; exact ⟨hy.2, hwd⟩
  have HTU : Hid (∀ W, T W → RdS W A n c bs → Calls Try.prog 8 #[.slice A n c, .int .u16 (p : Int)] W fun e w' => ∃ A' c', e = .returned (.tuple #[.slice A' n c', .bool true]) ∧ RdS w' A' n c' TT ∧ Below W.heap.size W w') := Lib.hid (fun W hW h => (H.turn A n c bs p W hW h (by omega) hp).mono (fun e w' ⟨h1, _, h3⟩ => by
    obtain ⟨A', c', N, hN, he, h4⟩ := h1 hy
    rw [hl] at hN
    subst hN
    rw [← hT] at h4
    exact ⟨A', c', he, h4, h3⟩))
  have HRU : Hid (∀ W, RdS W A n c bs → Calls Try.prog 9 #[.slice A n c, .int .u16 (p : Int)] W fun e w' => ∃ A' c', e = .returned (.tuple #[.slice A' n c', .bool true]) ∧ RdS w' A' n c' TT ∧ Below W.heap.size W w') := Lib.hid (fun W h => (rturn13_any A n c bs p W h hp (by omega)).mono (fun e w' ⟨h1, _, h3⟩ => by
    obtain ⟨A', c', N, hN, he, h4⟩ := h1 hy
    rw [hl] at hN
    subst hN
    rw [← hT] at h4
    exact ⟨A', c', he, h4, h3⟩))
  have hP1 : ∀ W, T W → RdS W A n c bs → Calls Try.prog 6 #[.slice A n c] W (P13 bs W) := fun W hW h => H.read A n c bs W hW h (by omega)
  have hP2 : ∀ W B d, T W → RdS W B n d TT → Calls Try.prog 6 #[.slice B n d] W (P13 TT W) := fun W B d hW h => H.read B n d TT W hW h (by omega)
  unfold P13 vC at hP1 hP2
  rw [hv2, hy2, hwant] at hP2
  rw [hy.1] at hP1
  generalize vpV bs = v at hP1 hP2 hv
  obtain ⟨st, part, has, wide, pic, key, head⟩ := v
  obtain ⟨h1, h2⟩ := hv
  simp only at h1 h2
  subst h1
  subst h2
  have HP1 : Hid (∀ W, T W → RdS W A n c bs → Calls Try.prog 6 #[.slice A n c] W fun e w' => e = .returned (.tuple #[.agg #[.bool st, .int .u8 (part : Int), .bool true, .bool false, .int .u16 (pic : Int), .bool key, .int .i64 (head : Int)], .int .i64 0]) ∧ Below W.heap.size W w') := Lib.hid hP1
  have HP2 : Hid (∀ W B d, T W → RdS W B n d TT → Calls Try.prog 6 #[.slice B n d] W fun e w' => e = .returned (.tuple #[.agg #[.bool st, .int .u8 (part : Int), .bool true, .bool false, .int .u16 ((p : Int) % 128), .bool key, .int .i64 (head : Int)], .int .i64 0]) ∧ Below W.heap.size W w') := Lib.hid (fun W B d hW h => (hP2 W B d hW h).mono (fun e w' ⟨h1, h2⟩ => ⟨h1, h2⟩))
  have HK := Lib.hid H.keep
  have HTW := Lib.hid hw
  have HRD := Lib.hid hr
  have s1 : ((txt TT).toList == (txt TT).toList) = true := by simp
  have s2 : ((txt bs).toList == (txt bs).toList) = true := by simp
  clear H hw hr hP1 hP2 hy hwd hT htl hy2 hv2 hwant hl
  go_enter Try.func4, Try.ntmps4
  go_wp2_with (first
    | (go_at_call 5; ((with_reducible refine (Hid.out HA).mono ?_); rintro e w1 ⟨rfl, hb1⟩; have f1 := Lib.hid hb1; have t1 := Lib.hid (HK.out _ _ HTW.out hb1); have r1 := Lib.hid (HRD.out.below hb1); have v1 : (convert 22 9 (.slice A n c)).run Try.prog w1 = .ok (.string (txt bs)) w1 := run_conv r1.out _ _ 5 Try.underlying22 Try.underlying5 Try.underlying9; clear hb1))
    | (go_at_call 8; ((with_reducible refine (Hid.out HTU _ t1.out r1.out).mono ?_); rintro e w2 ⟨A2, c2, rfl, hr2, hb2⟩; have f2 := Lib.hid (f1.out.trans (hb2.mono f1.out.size)); have d2 := Lib.hid hr2; have r2 := Lib.hid (HRD.out.below f2.out); clear hb2 hr2))
    | (go_at_call 9; ((with_reducible refine (Hid.out HRU _ r2.out).mono ?_); rintro e w3 ⟨A3, c3, rfl, hr3, hb3⟩; have f3 := Lib.hid (f2.out.trans (hb3.mono f2.out.size)); have t3 := Lib.hid (HK.out _ _ HTW.out f3.out); have d3 := Lib.hid (d2.out.below hb3); have r3 := Lib.hid (HRD.out.below f3.out); have v2 : (convert 22 9 (.slice A2 n c2)).run Try.prog w3 = .ok (.string (txt TT)) w3 := run_conv d3.out _ _ 5 Try.underlying22 Try.underlying5 Try.underlying9; have v3 : (convert 22 9 (.slice A3 n c3)).run Try.prog w3 = .ok (.string (txt TT)) w3 := run_conv hr3 _ _ 5 Try.underlying22 Try.underlying5 Try.underlying9; have v4 : (convert 22 9 (.slice A n c)).run Try.prog w3 = .ok (.string (txt bs)) w3 := run_conv r3.out _ _ 5 Try.underlying22 Try.underlying5 Try.underlying9; clear hb3 hr3))
    | (go_at_call 6; ((with_reducible refine (Hid.out HP1 _ t3.out r3.out).mono ?_); rintro e w4 ⟨rfl, hb4⟩; have f4 := Lib.hid (f3.out.trans (hb4.mono f3.out.size)); have x4 := Lib.hid (f4.out.alloc f4.out.size (.cells #[.bool st, .int .u8 (part : Int), .bool true, .bool false, .int .u16 (pic : Int), .bool key, .int .i64 (head : Int)] 26)); have t4 := Lib.hid (HK.out _ _ HTW.out x4.out); have d4 := Lib.hid (d3.out.below (hb4.alloc hb4.size (.cells #[.bool st, .int .u8 (part : Int), .bool true, .bool false, .int .u16 (pic : Int), .bool key, .int .i64 (head : Int)] 26))); clear hb4))
    | (go_at_call 6; ((with_reducible refine (Hid.out HP2 _ _ _ t4.out d4.out).mono ?_); rintro e w5 ⟨rfl, hb5⟩; have f5 := Lib.hid (x4.out.trans (hb5.mono x4.out.size)); have x5 := Lib.hid (f5.out.alloc f5.out.size (.cells #[.bool st, .int .u8 (part : Int), .bool true, .bool false, .int .u16 (pic : Int), .bool key, .int .i64 (head : Int)] 26)); have k0 : ∀ X, (w5.alloc X).cell? ⟨w4.heap.size, 0, none⟩ = some (.bool st) := fun X => (kept1 hb5 X 0).trans (by rfl); have k1 : ∀ X, (w5.alloc X).cell? ⟨w4.heap.size, 1, none⟩ = some (.int .u8 (part : Int)) := fun X => (kept1 hb5 X 1).trans (by rfl); have k2 : ∀ X, (w5.alloc X).cell? ⟨w4.heap.size, 2, none⟩ = some (.bool true) := fun X => (kept1 hb5 X 2).trans (by rfl); have k3 : ∀ X, (w5.alloc X).cell? ⟨w4.heap.size, 3, none⟩ = some (.bool false) := fun X => (kept1 hb5 X 3).trans (by rfl); have k4 : ∀ X, (w5.alloc X).cell? ⟨w4.heap.size, 4, none⟩ = some (.int .u16 (pic : Int)) := fun X => (kept1 hb5 X 4).trans (by rfl); have k5 : ∀ X, (w5.alloc X).cell? ⟨w4.heap.size, 5, none⟩ = some (.bool key) := fun X => (kept1 hb5 X 5).trans (by rfl); have k6 : ∀ X, (w5.alloc X).cell? ⟨w4.heap.size, 6, none⟩ = some (.int .i64 (head : Int)) := fun X => (kept1 hb5 X 6).trans (by rfl); clear hb5)))
  go_ret
  exact ⟨rfl, x5.out⟩

theorem vp8Turns_walkP {T : World → Prop} (H : Tells13 T) (A : Option Addr) (n c : Nat) (bs : List UInt8) (p : Nat) (w : World) (hw : T w) (hr : RdS w A n c bs) (hp : p < 65536) :
    Calls Try.prog 4 #[.slice A n c, .int .u16 (p : Int)] w fun e w' => e = .returned (.bool true) ∧ Below w.heap.size w w' := by
  by_cases hn : n ≤ 2000
  case neg => exact vp8Turns_long H A n c p w hw (by omega)
  by_cases hy : whyV bs = 0 ∧ hasV bs = true
  case neg => exact vp8Turns_no H A n c bs p w hw hr hn hp hy
  cases hwd : wideV bs with
  | true => exact vp8Turns_true H A n c bs p w hw hr hn hp hy hwd
  | false => exact vp8Turns_false H A n c bs p w hw hr hn hp hy hwd
theorem vp8Turns_walkI {T : World → Prop} (H : Tells13 T) (A : Option Addr) (n c : Nat) (bs : List UInt8) (p : Int) (w : World) (hw : T w) (hr : RdS w A n c bs) (hp : (Lit.int .u16 p).wf = true) :
    Calls Try.prog 4 #[.slice A n c, .int .u16 p] w fun e w' => e = .returned (.bool true) ∧ Below w.heap.size w w' := by
  have hb := bounds_u16 hp
  obtain ⟨q, rfl⟩ : ∃ q : Nat, p = (q : Int) := ⟨p.toNat, by omega⟩
  exact vp8Turns_walkP H A n c bs q w hw hr (by omega)
end Go.Proofs.Ytpflgkepgoicjaa
