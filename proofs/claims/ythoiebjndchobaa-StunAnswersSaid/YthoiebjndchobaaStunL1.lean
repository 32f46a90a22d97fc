/- The law's examples of layer 12 (tenaillelaw12), over what package stun's functions tell. No statement is proved here. -/
import Derived.Test.YthoiebjndchobaaStunR5
namespace Go.Proofs.Ythoiebjndchobaa
open Go.RowKit
set_option linter.unusedVariables false

/-- What the program's Write tells. -/
def PW12 (s : Stn) (w : World) (e : Ending) (w' : World) : Prop :=
  (mayS s → ∃ A' c' N, N = (wrS s).length ∧ e = .returned (.tuple #[.slice A' N c', .int .i64 0]) ∧ RdS w' A' N c' (wrS s)) ∧ (¬ mayS s → e = .returned (.tuple #[.slice none 0 0, .int .i64 1])) ∧ Below w.heap.size w w'
/-- What package stun's functions tell, in worlds of which T holds. -/
structure Tells12 (T : World → Prop) : Prop where
  keep : ∀ w w', T w → Below w.heap.size w w' → T w'
  read : ∀ A n c bs w, T w → RdS w A n c bs → n ≤ 5000 → Calls Try.prog 7 #[.slice A n c] w (R12 bs w)
  write : ∀ cs s w, T w → StnRd w cs s → s.fit → s.av.length ≤ 60 → (∀ x ∈ s.av, x.2.length ≤ 600) → Calls Try.prog 13 #[.agg cs.toArray] w (PW12 s w)
  is : ∀ A n c bs w (t : Bool), T w → RdS w A n c bs → n ≤ 5000 → (t = true ↔ isB bs) → Calls Try.prog 10 #[.slice A n c] w fun e w' => e = .returned (.bool t) ∧ Below w.heap.size w w'
  answer : ∀ A n c bs (port addr : Nat) w, T w → RdS w A n c bs → n ≤ 5000 → port < 65536 → addr < 4294967296 → Calls Try.prog 15 #[.slice A n c, .agg #[.int .u32 (addr : Int), .int .u16 (port : Int)]] w (A12 bs port addr w)
def exS1 : Stn := ⟨1, Z12, []⟩
def exS2 : Stn := ⟨1, Z12, [(9, List.replicate 8 0)]⟩
theorem exS1_may : mayS exS1 := ⟨by decide, by decide, by simp [exS1]⟩
theorem exS2_may : mayS exS2 := ⟨by decide, by decide, by simp [exS2]⟩
theorem exS1_fit : exS1.fit := ⟨by decide, rfl, by simp [exS1]⟩
theorem exS2_fit : exS2.fit := ⟨by decide, rfl, by simp [exS2]⟩
theorem exS1_len : (wrS exS1).length = 20 := by rw [wrS_len _ exS1_fit]; rfl
theorem exS2_len : (wrS exS2).length = 32 := by rw [wrS_len _ exS2_fit]; simp [exS2, bodS, attB_len]
theorem exS1_no : ∀ tx, ¬ askB (wrS exS1) tx := fun tx ⟨s, _, _, h, _⟩ => by rw [exS1_len] at h; omega
theorem exS2_ask : askB (wrS exS2) Z12 := ⟨exS2, ⟨rfl, exS2_fit, exS2_may⟩, rfl, by rw [exS2_len]; omega, rfl⟩
theorem ex1_rd (w : World) : StnRd w (zStn.set 0 (.int .u16 1)) exS1 := ⟨none, 0, rfl, AvRd.nil _⟩
theorem ex2_rd (w : World) (D : Option Addr) (d : Nat) (h : RdS w D 8 d (List.replicate 8 0)) : StnRd (w.alloc (.cells #[.int .u16 9, .slice D 8 d] 47)) ((zStn.set 0 (.int .u16 1)).set 13 (.slice (some ⟨w.heap.size, 0, none⟩) 1 1)) exS2 :=
  ⟨some ⟨w.heap.size, 0, none⟩, 1, sC_set13 1 Z12 _ _ rfl, av_one w none D d 9 8 _ (by simp) h⟩
def Z8 : List UInt8 := List.replicate 8 0
abbrev exW (w : World) : World := (w.alloc (.cells (cells Z8).toArray 5)).alloc (.cells #[.int .u16 9, .slice (some ⟨w.heap.size, 0, none⟩) 8 8] 47)
theorem ex2_in (w : World) : StnRd (exW w) ((zStn.set 0 (.int .u16 1)).set 13 (.slice (some ⟨w.heap.size + 1, 0, none⟩) 1 1)) exS2 ∧ Below w.heap.size w (exW w) := by
  have h := ex2_rd (w.alloc (.cells (cells Z8).toArray 5)) (some ⟨w.heap.size, 0, none⟩) 8 ((Blk.new w 5 Z8).rd rfl (by omega) (by simp [maxLen]))
  have e : (w.alloc (.cells (cells Z8).toArray 5)).heap.size = w.heap.size + 1 := by show (w.heap.push _).size = _; simp
  rw [e] at h
  exact ⟨h, ((Below.refl _ _).alloc (Nat.le_refl _) _).alloc (by rw [e]; omega) _⟩
set_option maxRecDepth 100000 in
set_option maxHeartbeats 2000000 in
theorem alive12 {T : World → Prop} (H : Tells12 T) (w : World) (hw : T w) : Calls Try.prog 6 #[] w fun e w' => e = .returned (.bool true) ∧ Below w.heap.size w w' := by
  have hz := zeroStn
  have z14 := zS_len
  have hmk : ∀ wx : World, (Instr.makeSlice 22 (.int .i64 8) (.int .i64 8)).run Try.prog wx = .ok (.slice (some ⟨wx.heap.size, 0, none⟩) 8 8) (wx.alloc (.cells (cells Z8).toArray 5)) := fun wx => run_makeB Try.underlying22 u8_infoR .i64 .i64 8 8 8 rfl rfl (by omega) wx
  obtain ⟨X1, hX1⟩ : ∃ X1, X1 = wrS exS1 := ⟨_, rfl⟩
  obtain ⟨X2, hX2⟩ : ∃ X2, X2 = wrS exS2 := ⟨_, rfl⟩
  have hl1 : X1.length = 20 := by rw [hX1, exS1_len]
  have hl2 : X2.length = 32 := by rw [hX2, exS2_len]
  have HW1 := Lib.hid ((H.write _ exS1 w hw (ex1_rd w) exS1_fit (by decide) (by simp [exS1])).mono (R' := fun e w' => ∃ A' c', e = .returned (.tuple #[.slice A' 20 c', .int .i64 0]) ∧ RdS w' A' 20 c' X1 ∧ Below w.heap.size w w') (fun e w' ⟨h1, _, h3⟩ => by
    obtain ⟨A', c', N, hN, rfl, h4⟩ := h1 exS1_may
    rw [← hX1] at hN h4
    rw [hl1] at hN
    subst hN
    exact ⟨A', c', rfl, h4, h3⟩))
  have HW2 : Hid (∀ W cs, T W → StnRd W cs exS2 → Calls Try.prog 13 #[.agg cs.toArray] W fun e w' => ∃ A' c', e = .returned (.tuple #[.slice A' 32 c', .int .i64 0]) ∧ RdS w' A' 32 c' X2 ∧ Below W.heap.size W w') := Lib.hid (fun W cs hW hcs => (H.write cs exS2 W hW hcs exS2_fit (by decide) (by simp [exS2])).mono (fun e w' ⟨h1, _, h3⟩ => by
    obtain ⟨A', c', N, hN, rfl, h4⟩ := h1 exS2_may
    rw [← hX2] at hN h4
    rw [hl2] at hN
    subst hN
    exact ⟨A', c', rfl, h4, h3⟩))
  have HA1 : Hid (∀ W A c, T W → RdS W A 20 c X1 → Calls Try.prog 15 #[.slice A 20 c, .agg #[.int .u32 0, .int .u16 0]] W fun e w' => e = .returned (.tuple #[.slice none 0 0, .bool false]) ∧ Below W.heap.size W w') := Lib.hid (fun W A c hW hr => (H.answer A 20 c X1 0 0 W hW hr (by omega) (by omega) (by omega)).mono (fun e w' ⟨_, h2, h3⟩ => ⟨h2 (by rw [hX1]; exact exS1_no), h3⟩))
  have HA2 : Hid (∀ W A c, T W → RdS W A 32 c X2 → Calls Try.prog 15 #[.slice A 32 c, .agg #[.int .u32 1, .int .u16 2]] W fun e w' => ∃ A' c', e = .returned (.tuple #[.slice A' 32 c', .bool true]) ∧ Below W.heap.size W w') := Lib.hid (fun W A c hW hr => (H.answer A 32 c X2 2 1 W hW hr (by omega) (by omega) (by omega)).mono (fun e w' ⟨h1, _, h3⟩ => by
    obtain ⟨A', c', rfl, _⟩ := h1 Z12 (by rw [hX2]; exact exS2_ask)
    exact ⟨A', c', rfl, h3⟩))
  have HK := Lib.hid H.keep
  have HTW := Lib.hid hw
  clear H hX1 hX2 hl1 hl2 hw
  go_enter Try.func6, Try.ntmps6
  go_wp2_with (first
    | (go_at_call 13; ((with_reducible refine (Hid.out HW1).mono ?_); rintro e w1 ⟨A1, c1, rfl, hr1, hb1⟩; have r1 := Lib.hid hr1; have f1 := Lib.hid hb1; have g1 := Lib.hid (HK.out _ _ HTW.out hb1); have e2 := Lib.hid (ex2_in w1).1; have b3 := Lib.hid (ex2_in w1).2; have g3 := Lib.hid (HK.out _ _ g1.out (ex2_in w1).2); have r3 := Lib.hid (hr1.below (ex2_in w1).2); have f3 := Lib.hid (hb1.trans ((ex2_in w1).2.mono hb1.size)); clear hr1 hb1))
    | (go_at_call 13; ((with_reducible refine (Hid.out HW2 _ _ g3.out e2.out).mono ?_); rintro e w4 ⟨A4, c4, rfl, hr4, hb4⟩; have r4 := Lib.hid hr4; have r14 := Lib.hid (r3.out.below hb4); have f4 := Lib.hid (f3.out.trans (hb4.mono f3.out.size)); have g4 := Lib.hid (HK.out _ _ g3.out hb4); clear hr4 hb4))
    | (go_at_call 15; ((with_reducible refine (Hid.out HA1 _ _ _ g4.out r14.out).mono ?_); rintro e w5 ⟨rfl, hb5⟩; have r45 := Lib.hid (r4.out.below hb5); have f5 := Lib.hid (f4.out.trans (hb5.mono f4.out.size)); have g5 := Lib.hid (HK.out _ _ g4.out hb5); clear hb5))
    | (go_at_call 15; ((with_reducible refine (Hid.out HA2 _ _ _ g5.out r45.out).mono ?_); rintro e w6 ⟨A6, c6, rfl, hb6⟩; have f6 := Lib.hid (f5.out.trans (hb6.mono f5.out.size)); clear hb6)))
  go_ret
  exact ⟨rfl, f6.out⟩
end Go.Proofs.Ythoiebjndchobaa
