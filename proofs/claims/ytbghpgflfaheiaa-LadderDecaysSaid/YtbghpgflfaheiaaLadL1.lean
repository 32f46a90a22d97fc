/- What the laws of layer 21 ask of package ladder, as one structure; the document's example; LadderNone's, LadderGood's and LadderDecays' walks. -/
import Derived.Test.YtbghpgflfaheiaaLadR
namespace Go.Proofs.Ytbghpgflfaheiaa
open Go.RowKit
set_option linter.unusedVariables false

/-- What the laws ask of package ladder, T being what is said of one. -/
structure Tells21 (T : World → Value → Ldr → (Nat → Prop) → Prop) : Prop where
  lone : Lone T
  new_no : ∀ (S H D : Int) (w : World), ¬ mayR S H D → Calls Try.prog 8 #[.agg #[.int .i64 S, .int .i64 H, .int .i64 D]] w fun e w' => e = .returned (.pointer none) ∧ Hid (Below w.heap.size w w')
  new_ok : ∀ (S H D : Int) (w : World), mayR S H D → D ≤ 9223372036854775807 → Calls Try.prog 8 #[.agg #[.int .i64 S, .int .i64 H, .int .i64 D]] w fun e w' => ∃ q F, e = .returned (.pointer (some q)) ∧ Hid (T w' (.pointer (some q)) (newR S H D) F ∧ (∀ k, F k → w.heap.size ≤ k) ∧ Below w.heap.size w w')
  state : ∀ (w : World) (q : Addr) (s : Ldr) (F : Nat → Prop), T w (.pointer (some q)) s F → OkR s → Calls Try.prog 18 #[.pointer (some q)] w fun e w' => e = .returned (.int .i64 (staR s)) ∧ ∃ m, w' = w.drewN m
  strikes : ∀ (w : World) (q : Addr) (s : Ldr) (F : Nat → Prop), T w (.pointer (some q)) s F → OkR s → Calls Try.prog 12 #[.pointer (some q)] w fun e w' => e = .returned (.int .i64 s.k) ∧ ∃ m, w' = w.drewN m
  strike : ∀ (w : World) (q : Addr) (s : Ldr) (F : Nat → Prop) (n : Int), T w (.pointer (some q)) s F → OkR s → -9223372036854775808 ≤ n ∧ n ≤ 9223372036854775807 → Calls Try.prog 13 #[.pointer (some q), .int .i64 n] w fun e w' => e = .returned (.tuple #[]) ∧ Hid (StpK T (.pointer (some q)) (strR s n) F w w')
  tick : ∀ (w : World) (q : Addr) (s : Ldr) (F : Nat → Prop), T w (.pointer (some q)) s F → OkR s → Calls Try.prog 16 #[.pointer (some q)] w fun e w' => e = .returned (.tuple #[]) ∧ Hid (StpK T (.pointer (some q)) (tikR s) F w w')
  reset : ∀ (w : World) (q : Addr) (s : Ldr) (F : Nat → Prop), T w (.pointer (some q)) s F → OkR s → Calls Try.prog 15 #[.pointer (some q)] w fun e w' => e = .returned (.tuple #[]) ∧ Hid (StpK T (.pointer (some q)) (newR s.S s.H s.D) F w w')
  copy : ∀ (w : World) (q : Addr) (s : Ldr) (F : Nat → Prop), T w (.pointer (some q)) s F → OkR s → Calls Try.prog 11 #[.pointer (some q)] w fun e w' => ∃ q2 F2, e = .returned (.pointer (some q2)) ∧ Hid (T w' (.pointer (some q2)) s F2 ∧ (∀ k, F2 k → w.heap.size ≤ k) ∧ Below w.heap.size w w')
  stateNil : ∀ (w : World), Calls Try.prog 18 #[.pointer none] w fun e w' => e = .returned (.int .i64 2) ∧ Hid (Below w.heap.size w w')
  strikesNil : ∀ (w : World), Calls Try.prog 12 #[.pointer none] w fun e w' => e = .returned (.int .i64 0) ∧ Hid (Below w.heap.size w w')
  strikeNil : ∀ (w : World) (n : Int), Calls Try.prog 13 #[.pointer none, .int .i64 n] w fun e w' => e = .returned (.tuple #[]) ∧ Hid (Below w.heap.size w w')
  tickNil : ∀ (w : World), Calls Try.prog 16 #[.pointer none] w fun e w' => e = .returned (.tuple #[]) ∧ Hid (Below w.heap.size w w')
  resetNil : ∀ (w : World), Calls Try.prog 15 #[.pointer none] w fun e w' => e = .returned (.tuple #[]) ∧ Hid (Below w.heap.size w w')
  copyNil : ∀ (w : World), Calls Try.prog 11 #[.pointer none] w fun e w' => e = .returned (.pointer none) ∧ Hid (Below w.heap.size w w')

section
variable {T : World → Value → Ldr → (Nat → Prop) → Prop} {w0 wx : World} {K : Nat → Prop} {q : Addr} {s s2 : Ldr}
theorem Lad.strike (hT : Tells21 T) (h : OnK T w0 K (.pointer (some q)) s wx) (ok : OkR s) (n : Int) (hn : -9223372036854775808 ≤ n ∧ n ≤ 9223372036854775807) :
    Calls Try.prog 13 #[.pointer (some q), .int .i64 n] wx fun e w' => e = .returned (.tuple #[]) ∧ Hid (OnK T w0 K (.pointer (some q)) (strR s n) w' ∧ SamK K wx w') := by
  obtain ⟨F, h1, h2⟩ := h.ex
  refine (hT.strike wx q s F n h1 ok hn).mono ?_
  rintro e w' ⟨rfl, hk⟩
  exact ⟨rfl, Lib.hid (h.stp h2 hk.out)⟩
theorem Lad.tick (hT : Tells21 T) (h : OnK T w0 K (.pointer (some q)) s wx) (ok : OkR s) :
    Calls Try.prog 16 #[.pointer (some q)] wx fun e w' => e = .returned (.tuple #[]) ∧ Hid (OnK T w0 K (.pointer (some q)) (tikR s) w' ∧ SamK K wx w') := by
  obtain ⟨F, h1, h2⟩ := h.ex
  refine (hT.tick wx q s F h1 ok).mono ?_
  rintro e w' ⟨rfl, hk⟩
  exact ⟨rfl, Lib.hid (h.stp h2 hk.out)⟩
theorem Lad.reset (hT : Tells21 T) (h : OnK T w0 K (.pointer (some q)) s wx) (ok : OkR s) :
    Calls Try.prog 15 #[.pointer (some q)] wx fun e w' => e = .returned (.tuple #[]) ∧ Hid (OnK T w0 K (.pointer (some q)) (newR s.S s.H s.D) w' ∧ SamK K wx w') := by
  obtain ⟨F, h1, h2⟩ := h.ex
  refine (hT.reset wx q s F h1 ok).mono ?_
  rintro e w' ⟨rfl, hk⟩
  exact ⟨rfl, Lib.hid (h.stp h2 hk.out)⟩
theorem Lad.state (hT : Tells21 T) (h : OnK T w0 K (.pointer (some q)) s wx) (ok : OkR s) (z : Int) (hz : staR s = z) :
    Calls Try.prog 18 #[.pointer (some q)] wx fun e w' => e = .returned (.int .i64 z) ∧ ∃ m, w' = wx.drewN m := by
  obtain ⟨F, h1, h2⟩ := h.ex
  subst hz
  exact hT.state wx q s F h1 ok
theorem Lad.strikes (hT : Tells21 T) (h : OnK T w0 K (.pointer (some q)) s wx) (ok : OkR s) (z : Int) (hz : s.k = z) :
    Calls Try.prog 12 #[.pointer (some q)] wx fun e w' => e = .returned (.int .i64 z) ∧ ∃ m, w' = wx.drewN m := by
  obtain ⟨F, h1, h2⟩ := h.ex
  subst hz
  exact hT.strikes wx q s F h1 ok
theorem drewN_bel (w : World) (m : Nat) : Below w.heap.size w (w.drewN m) := ⟨rfl, rfl, rfl, Nat.le_refl _, fun _ _ => rfl⟩
end

theorem tksR_ex : staR (tksR (strR (newR 2 4 10) 2) 10) = 0 ∧ strR (tksR (strR (newR 2 4 10) 2) 10) 4 = ⟨2, 4, 10, 5, 10, true⟩ := ⟨by kernel_rfl, by kernel_rfl⟩
set_option maxRecDepth 100000 in
theorem alive_any21 {T : World → Value → Ldr → (Nat → Prop) → Prop} (hT : Tells21 T) (w : World) : Calls Try.prog 7 #[] w fun e w' => e = .returned (.bool true) ∧ Below w.heap.size w w' := by
  have H := Lib.hid hT
  have hm : mayR 2 4 10 := ⟨by decide, by decide, by decide, by decide⟩
  have HN := Lib.hid (fun wx => hT.new_ok 2 4 10 wx hm (by decide))
  have O1 := newR_ok hm (by decide)
  have O2 := strR_ok O1 2
  have HO := Lib.hid (And.intro O1 O2)
  have hzr : ∀ wx : World, (zeroValue 23).run Try.prog wx = .ok (.agg #[.int .i64 0, .int .i64 0, .int .i64 0]) wx := fun wx => by kernel_rfl
  have HEX := Lib.hid tksR_ex
  clear hT hm O1 O2
  go_enter Try.func7, Try.ntmps7
  go_wp2_with (first
    | (go_at_call 8; ((with_reducible refine (Hid.out HN _).mono ?_); rintro e w1 ⟨q, F, rfl, HK⟩; have HO1 := Lib.hid (OnK.new (Below.refl w.heap.size w) HK.out); have P1 := Lib.hid (Lad.strike H.out HO1.out HO.out.1 2 (by decide))))
    | (go_at_call 13; ((with_reducible refine (Hid.out P1).mono ?_); rintro e w2 ⟨rfl, HK2⟩; have P2 := Lib.hid (Lad.state H.out HK2.out.1 HO.out.2 1 (by decide +kernel))))
    | (go_at_call 18; ((with_reducible refine (Hid.out P2).mono ?_); rintro e w3 ⟨rfl, m3, hm3⟩; have HK3 := Lib.hid (HK2.out.1.on H.out.lone (hm3 ▸ drewN_bel w2 m3)).1; clear hm3)))
  go_loopw [3] (fun vj wr => ∃ j : Nat, j ≤ 10 ∧ vj = .int .i64 j ∧ Hid (OnK T w (fun _ => False) (.pointer (some q)) (tksR (strR (newR 2 4 10) 2) j) wr)) (fun j _ => 10 - (intOf j).toNat)
  case atStart => exact ⟨0, by omega, rfl, HK3⟩
  case round =>
    clear HK3
    obtain ⟨j, hj, rfl, HJ⟩ := hrel
    by_cases hjl : j < 10
    · have hji : (j : Int) < 10 := by omega
      have P3 := Lib.hid (Lad.tick H.out HJ.out (tksR_ok HO.out.2 j))
      go_wp2_with (go_at_call 16; ((with_reducible refine (Hid.out P3).mono ?_); rintro e w4 ⟨rfl, HK4⟩))
      go_roundw
      case rel => exact ⟨j + 1, by omega, by go_num, Lib.hid HK4.out.1⟩
      case measure => simp [intOf]; omega
    · obtain rfl : j = 10 := by omega
      have P3 := Lib.hid (Lad.state H.out HJ.out (tksR_ok HO.out.2 10) 0 HEX.out.1)
      go_wp2_with (first
        | (go_at_call 18; ((with_reducible refine (Hid.out P3).mono ?_); rintro e w4 ⟨rfl, m4, hm4⟩; have HK4 := Lib.hid (HJ.out.on H.out.lone (hm4 ▸ drewN_bel wr m4)).1; clear hm4; have P4 := Lib.hid (Lad.strike H.out HK4.out (tksR_ok HO.out.2 10) 4 (by decide))))
        | (go_at_call 13; ((with_reducible refine (Hid.out P4).mono ?_); rintro e w5 ⟨rfl, HK5⟩; have HK6 : Hid (OnK T w (fun _ => False) (.pointer (some q)) ⟨2, 4, 10, 5, 10, true⟩ w5) := Lib.hid (by have h9 := HK5.out.1; rw [HEX.out.2] at h9; exact h9))))
      have HO6 : Hid (OkR ⟨2, 4, 10, 5, 10, true⟩) := Lib.hid (by have := strR_ok (tksR_ok HO.out.2 10) 4; rw [HEX.out.2] at this; exact this)
      go_loopw [5] (fun vi wx => ∃ i : Nat, i ≤ 100 ∧ vi = .int .i64 i ∧ Hid (OnK T w (fun _ => False) (.pointer (some q)) ⟨2, 4, 10, 5, 10, true⟩ wx)) (fun i _ => 100 - (intOf i).toNat)
      case atStart => exact ⟨0, by omega, rfl, HK6⟩
      case round =>
        clear HK6 HJ
        obtain ⟨i, hi, rfl, HJ⟩ := hrel
        by_cases hil : i < 100
        · have hii : (i : Int) < 100 := by omega
          have P5 := Lib.hid (Lad.tick H.out HJ.out HO6.out)
          go_wp2_with (go_at_call 16; ((with_reducible refine (Hid.out P5).mono ?_); rintro e w7 ⟨rfl, HK7⟩))
          go_roundw
          case rel => exact ⟨i + 1, by omega, by go_num, Lib.hid HK7.out.1⟩
          case measure => simp [intOf]; omega
        · obtain rfl : i = 100 := by omega
          have P6 := Lib.hid (Lad.state H.out HJ.out HO6.out 2 rfl)
          go_wp2_with (go_at_call 18; ((with_reducible refine (Hid.out P6).mono ?_); rintro e w8 ⟨rfl, m8, hm8⟩; have HK8 := Lib.hid (HJ.out.on H.out.lone (hm8 ▸ drewN_bel _ m8)).1; clear hm8))
          go_ret
          exact ⟨rfl, HK8.out.below⟩

theorem ladderNone_walk {T : World → Value → Ldr → (Nat → Prop) → Prop} (hT : Tells21 T) (n : Int) (w : World) :
    Calls Try.prog 6 #[.int .i64 n] w fun e w' => e = .returned (.bool true) ∧ Below w.heap.size w w' := by
  have HA := Lib.hid (alive_any21 hT w)
  have H := Lib.hid hT
  clear hT
  go_enter Try.func6, Try.ntmps6
  go_wp2_with (first
    | (go_at_call 7; ((with_reducible refine (Hid.out HA).mono ?_); rintro e w1 ⟨rfl, hb1⟩; have HB := Lib.hid hb1; clear hb1))
    | (go_at_call 13; ((with_reducible refine (H.out.strikeNil _ _).mono ?_); rintro e w2 ⟨rfl, hb2⟩))
    | (go_at_call 16; ((with_reducible refine (H.out.tickNil _).mono ?_); rintro e w3 ⟨rfl, hb3⟩))
    | (go_at_call 15; ((with_reducible refine (H.out.resetNil _).mono ?_); rintro e w4 ⟨rfl, hb4⟩))
    | (go_at_call 18; ((with_reducible refine (H.out.stateNil _).mono ?_); rintro e w5 ⟨rfl, hb5⟩))
    | (go_at_call 12; ((with_reducible refine (H.out.strikesNil _).mono ?_); rintro e w6 ⟨rfl, hb6⟩))
    | (go_at_call 11; ((with_reducible refine (H.out.copyNil _).mono ?_); rintro e w7 ⟨rfl, hb7⟩)))
  go_ret
  have b1 := HB.out
  have b2 := b1.trans (hb2.out.mono b1.size)
  have b3 := b2.trans (hb3.out.mono b2.size)
  have b4 := b3.trans (hb4.out.mono b3.size)
  have b5 := b4.trans (hb5.out.mono b4.size)
  have b6 := b5.trans (hb6.out.mono b5.size)
  have b7 := b6.trans (hb7.out.mono b6.size)
  exact ⟨rfl, b7⟩
end Go.Proofs.Ytbghpgflfaheiaa
