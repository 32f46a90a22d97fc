/- The walk of the statement StunAnswers, over what package stun's functions tell. No statement is proved here. -/
import Derived.Test.YthoiebjndchobaaStunL2
namespace Go.Proofs.Ythoiebjndchobaa
open Go.RowKit
set_option linter.unusedVariables false

theorem askB.long {bs tx : List UInt8} (h : askB bs tx) : 32 ≤ bs.length ∧ tx.length = 12 := by
  obtain ⟨s, h1, _, h3, h4⟩ := h
  exact ⟨h3, by rw [← h4]; exact h1.2.1.2.1⟩
theorem rowTup : RowTy Try.prog 43 2 := ⟨_, Try.underlying43, rfl, by kernel_rfl⟩
set_option maxRecDepth 100000 in
set_option maxHeartbeats 2000000 in
theorem stunAnswers_walkP {T : World → Prop} (H : Tells12 T) (A : Option Addr) (n c : Nat) (bs : List UInt8) (port addr : Nat) (w : World) (hw : T w) (hr : RdS w A n c bs) (hp : port < 65536) (ha : addr < 4294967296) :
    Calls Try.prog 5 #[.slice A n c, .agg #[.int .u32 (addr : Int), .int .u16 (port : Int)]] w fun e w' => e = .returned (.bool true) ∧ Below w.heap.size w w' := by
  have b0 := BoxS.new 43 w [.int .u32 (addr : Int), .int .u16 (port : Int)]
  have HB1 : Hid (Below w.heap.size w (w.alloc (.cells #[.int .u32 (addr : Int), .int .u16 (port : Int)] 43))) := Lib.hid b0.1
  have HB2 : Hid (BlkV (w.alloc (.cells #[.int .u32 (addr : Int), .int .u16 (port : Int)] 43)) w.heap.size 43 [.int .u32 (addr : Int), .int .u16 (port : Int)]) := Lib.hid b0.2
  have HRT : Hid (RowTy Try.prog 43 [Value.int .u32 (addr : Int), Value.int .u16 (port : Int)].length) := Lib.hid rowTup
  have HA := Lib.hid (alive12 H (w.alloc (.cells #[.int .u32 (addr : Int), .int .u16 (port : Int)] 43)) (H.keep w _ hw b0.1))
  by_cases hn : (3000 : Int) < (n : Int)
  · clear H hr hw b0
    go_enter Try.func5, Try.ntmps5
    go_wp2_with (go_at_call 6; ((with_reducible refine (Hid.out HA).mono ?_); rintro e w1 ⟨rfl, hb1⟩; have f1 := Lib.hid (HB1.out.trans (hb1.mono HB1.out.size)); clear hb1))
    go_ret
    exact ⟨rfl, f1.out⟩
  have hl := hr.len
  have HK := Lib.hid (fun W hb => H.keep w W hw hb)
  by_cases hm : ∃ tx, askB bs tx
  · obtain ⟨tx, hx⟩ := hm
    obtain ⟨h32, htl⟩ := hx.long
    obtain ⟨TT, hT⟩ : ∃ TT, TT = wrS (ansS tx port addr) := ⟨_, rfl⟩
    have h32n : (32 : Int) ≤ (n : Int) := by omega
    have HP : Hid (∀ W, Below w.heap.size w W → Calls Try.prog 15 #[.slice A n c, .agg #[.int .u32 (addr : Int), .int .u16 (port : Int)]] W fun e w' => ∃ A' c', e = .returned (.tuple #[.slice A' 32 c', .bool true]) ∧ RdS w' A' 32 c' TT ∧ Below W.heap.size W w') := Lib.hid (fun W hb => (H.answer A n c bs port addr W (HK.out W hb) (hr.below hb) (by omega) hp ha).mono (fun e w' ⟨h1, _, h3⟩ => by
      obtain ⟨A', c', rfl, h4⟩ := h1 tx hx
      rw [← hT] at h4
      exact ⟨A', c', rfl, h4, h3⟩))
    have HQ : Hid (∀ W, Below w.heap.size w W → Calls Try.prog 16 #[.slice A n c, .agg #[.int .u32 (addr : Int), .int .u16 (port : Int)]] W fun e w' => ∃ A' c', e = .returned (.tuple #[.slice A' 32 c', .bool true]) ∧ RdS w' A' 32 c' TT ∧ Below W.heap.size W w') := Lib.hid (fun W hb => (ranswer12_any A n c bs port addr W (hr.below hb) (by omega) hp ha).mono (fun e w' ⟨h1, _, h3⟩ => by
      obtain ⟨A', c', rfl, h4⟩ := h1 tx hx
      rw [← hT] at h4
      exact ⟨A', c', rfl, h4, h3⟩))
    have s1 : ((txt TT).toList == (txt TT).toList) = true := by simp
    clear H hr hw b0 hx hT h32 htl hl
    go_enter Try.func5, Try.ntmps5
    go_wp2_with (first
      | (go_at_call 6; ((with_reducible refine (Hid.out HA).mono ?_); rintro e w1 ⟨rfl, hb1⟩; have f1 := Lib.hid (HB1.out.trans (hb1.mono HB1.out.size)); have V1 := Lib.hid (HB2.out.below hb1 HB2.out.lt); clear hb1))
      | (with_reducible refine wpList_ld rfl 43 (.tmp 3) rfl w.heap.size 0 rfl [.int .u32 (addr : Int), .int .u16 (port : Int)] (V1.out.range 0 _ (fun i _ => by rw [Nat.zero_add])) HRT.out ?_)
      | (go_at_call 15; ((with_reducible refine (Hid.out HP _ f1.out).mono ?_); rintro e w2 ⟨A2, c2, rfl, hr2, hb2⟩; have r2 := Lib.hid hr2; have f2 := Lib.hid (f1.out.trans (hb2.mono f1.out.size)); have V2 := Lib.hid (V1.out.below hb2 V1.out.lt); clear hb2 hr2))
      | (with_reducible refine wpList_ld rfl 43 (.tmp 3) rfl w.heap.size 0 rfl [.int .u32 (addr : Int), .int .u16 (port : Int)] (V2.out.range 0 _ (fun i _ => by rw [Nat.zero_add])) HRT.out ?_)
      | (go_at_call 16; ((with_reducible refine (Hid.out HQ _ f2.out).mono ?_); rintro e w3 ⟨A3, c3, rfl, hr3, hb3⟩; have f3 := Lib.hid (f2.out.trans (hb3.mono f2.out.size)); have v1 : (convert 22 9 (.slice A2 32 c2)).run Try.prog w3 = .ok (.string (txt TT)) w3 := run_conv (r2.out.below hb3) _ _ 5 Try.underlying22 Try.underlying5 Try.underlying9; have v2 : (convert 22 9 (.slice A3 32 c3)).run Try.prog w3 = .ok (.string (txt TT)) w3 := run_conv hr3 _ _ 5 Try.underlying22 Try.underlying5 Try.underlying9; clear hb3 hr3)))
    go_ret
    exact ⟨rfl, f3.out⟩
  · have HP : Hid (∀ W, Below w.heap.size w W → Calls Try.prog 15 #[.slice A n c, .agg #[.int .u32 (addr : Int), .int .u16 (port : Int)]] W fun e w' => e = .returned (.tuple #[.slice none 0 0, .bool false]) ∧ Below W.heap.size W w') := Lib.hid (fun W hb => (H.answer A n c bs port addr W (HK.out W hb) (hr.below hb) (by omega) hp ha).mono (fun e w' ⟨_, h2, h3⟩ => ⟨h2 (fun tx hx => hm ⟨tx, hx⟩), h3⟩))
    have HQ : Hid (∀ W, Below w.heap.size w W → Calls Try.prog 16 #[.slice A n c, .agg #[.int .u32 (addr : Int), .int .u16 (port : Int)]] W fun e w' => e = .returned (.tuple #[.slice none 0 0, .bool false]) ∧ Below W.heap.size W w') := Lib.hid (fun W hb => (ranswer12_any A n c bs port addr W (hr.below hb) (by omega) hp ha).mono (fun e w' ⟨_, h2, h3⟩ => ⟨h2 (fun tx hx => hm ⟨tx, hx⟩), h3⟩))
    have v0 : ∀ wx, (convert 22 9 (.slice none 0 0)).run Try.prog wx = .ok (.string (txt [])) wx := fun wx => run_conv (RdS.nil wx) _ _ 5 Try.underlying22 Try.underlying5 Try.underlying9
    have s1 : ((txt []).toList == (txt []).toList) = true := by simp
    clear H hr hw b0 hm hl
    go_enter Try.func5, Try.ntmps5
    go_wp2_with (first
      | (go_at_call 6; ((with_reducible refine (Hid.out HA).mono ?_); rintro e w1 ⟨rfl, hb1⟩; have f1 := Lib.hid (HB1.out.trans (hb1.mono HB1.out.size)); have V1 := Lib.hid (HB2.out.below hb1 HB2.out.lt); clear hb1))
      | (with_reducible refine wpList_ld rfl 43 (.tmp 3) rfl w.heap.size 0 rfl [.int .u32 (addr : Int), .int .u16 (port : Int)] (V1.out.range 0 _ (fun i _ => by rw [Nat.zero_add])) HRT.out ?_)
      | (go_at_call 15; ((with_reducible refine (Hid.out HP _ f1.out).mono ?_); rintro e w2 ⟨rfl, hb2⟩; have f2 := Lib.hid (f1.out.trans (hb2.mono f1.out.size)); have V2 := Lib.hid (V1.out.below hb2 V1.out.lt); clear hb2))
      | (with_reducible refine wpList_ld rfl 43 (.tmp 3) rfl w.heap.size 0 rfl [.int .u32 (addr : Int), .int .u16 (port : Int)] (V2.out.range 0 _ (fun i _ => by rw [Nat.zero_add])) HRT.out ?_)
      | (go_at_call 16; ((with_reducible refine (Hid.out HQ _ f2.out).mono ?_); rintro e w3 ⟨rfl, hb3⟩; have f3 := Lib.hid (f2.out.trans (hb3.mono f2.out.size)); clear hb3)))
    go_ret
    exact ⟨rfl, f3.out⟩
end Go.Proofs.Ythoiebjndchobaa
