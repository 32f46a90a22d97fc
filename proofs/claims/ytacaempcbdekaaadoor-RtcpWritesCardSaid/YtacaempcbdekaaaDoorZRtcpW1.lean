/- What the document's answer for layer 11 tells of compounds: One of any kind, Write. No statement is proved here. -/
import Derived.Test.YtacaempcbdekaaaDoorZRtcpOk1
import Derived.Test.YtacaempcbdekaaaDoorZRtcpOk2
import Derived.Test.YtacaempcbdekaaaDoorZRtcpOk3
import Derived.Test.YtacaempcbdekaaaDoorZRtcpOk4
import Derived.Test.YtacaempcbdekaaaDoorZRtcpOk200
import Derived.Test.YtacaempcbdekaaaDoorZRtcpOk201
import Derived.Test.YtacaempcbdekaaaDoorZRtcpOk202
import Derived.Test.YtacaempcbdekaaaDoorZRtcpOk203
namespace Go.Proofs.YtacaempcbdekaaaDoor
open Go.RowKit
set_option linter.unusedVariables false

theorem rrate_is (x : Nat) (w : World) (hx : x < 18446744073709551616) : Calls Tryd.prog 21 #[.int .u64 (x : Int)] w fun r w' => r = .returned (.tuple #[.int .u64 (rM x : Int), .int .i64 (rE x : Int)]) ∧ w = w' := (rrate_any x w hx).mono (by
  rintro r w' ⟨⟨e, rfl, h1, h2⟩, rfl⟩
  obtain rfl := rE_unique x e hx h1 h2
  exact ⟨rfl, rfl⟩)
theorem one_any (cs : List Value) (c : Ctl) (w : World) (h : CtRd w cs c) (hf : c.fit) (hm : mayC c) :
    Calls Tryd.prog 22 #[.agg cs.toArray, .int .u64 (rM c.ra : Int), .int .i64 (rE c.ra : Int)] w (OneTold c w) := by
  obtain ⟨f0, f1, f2, f3, f4, f5, f6, f7, f8, f9, f10, f11, f12⟩ := hf
  rcases hm with ⟨so, ti, st, pa, oc, L, rfl, h16, hk⟩ | ⟨so, L, rfl, h16, hk⟩ | ⟨L, rfl, h16, hk⟩ | ⟨L, rfl, h16⟩ | ⟨so, me, L, rfl, h1, h16⟩ | ⟨so, me, rfl⟩ | ⟨so, L, rfl, h1, h16⟩ | ⟨so, L, ra, rfl, h16, hra, hex⟩
  · exact one_200 cs so ti st pa oc L L.length _ _ w h rfl h16 f1 f3 f4 f5 f6 (fun y hy => ⟨f7 y hy, hk y hy⟩)
  · exact one_201 cs so L L.length _ _ w h rfl h16 f1 (fun y hy => ⟨f7 y hy, hk y hy⟩)
  · exact one_202 cs L L.length _ _ w h rfl h16 (fun y hy => ⟨f8 y hy, hk y hy⟩)
  · exact one_203 cs L L.length _ _ w h rfl h16 f9
  · exact one_1 cs so me L L.length _ _ w h rfl h16 f1 f2 f10
  · exact one_2 cs so me _ _ w h f1 f2
  · exact one_3 cs so L L.length _ _ w h rfl h16 f1 f11
  · exact one_4 cs so ra L L.length (rM ra) (rE ra) w h rfl h16 f1 f9 (rM_lt ra f12) (rE_lt ra f12) rfl rfl
/-- What Write tells. -/
def RWTold (l : List Ctl) (w : World) (e : Ending) (w' : World) : Prop :=
  (wOK l → ∃ A' c' N, N = (wrL l).length ∧ e = .returned (.tuple #[.slice A' N c', .bool true]) ∧ RdS w' A' N c' (wrL l) ∧ Below w.heap.size w w') ∧ (¬ wOK l → ∃ v, e = .returned (.tuple #[v, .bool false]) ∧ Below w.heap.size w w')
theorem RWTold.no {l : List Ctl} {w w' : World} {v : Value} (h : ¬ wOK l) (hb : Below w.heap.size w w') : RWTold l w (.returned (.tuple #[v, .bool false])) w' := ⟨fun h2 => absurd h2 h, fun _ => ⟨v, rfl, hb⟩⟩

set_option maxRecDepth 100000 in
set_option maxHeartbeats 1000000 in
theorem rwrite_short (A : Option Addr) (n c : Nat) (l : List Ctl) (w : World) (hn : l.length = n) (hl : ¬ (1 ≤ n ∧ n ≤ 8)) :
    Calls Tryd.prog 9 #[.slice A n c] w (RWTold l w) := by
  have HNO : Hid (¬ wOK l) := Lib.hid (fun h => hl (by rw [← hn]; exact h.1))
  have hw : n = 0 ∨ 8 < n := by omega
  clear hn hl
  rcases hw with rfl | h8
  · go_enter Tryd.func9, Tryd.ntmps9
    go_wp2
    go_ret2
    exact RWTold.no HNO.out (Below.refl _ _)
  · go_enter Tryd.func9, Tryd.ntmps9
    go_wp2
    go_ret2
    exact RWTold.no HNO.out (Below.refl _ _)
/-- A packet's rate, among its cells. -/
theorem CtRd.rate {w : World} {cs : List Value} {c : Ctl} (h : CtRd w cs c) : cs[12]? = some (.int .u64 (c.ra : Int)) := by
  obtain ⟨A, a, B, b', C, c', D, d, E, e, h0, _⟩ := h
  subst h0; rfl

set_option maxRecDepth 100000 in
set_option maxHeartbeats 2000000 in
theorem rwrite_long (A : Option Addr) (n c : Nat) (l : List Ctl) (w : World) (h : CtRds w A l) (hn : l.length = n) (hf : ∀ c ∈ l, c.fit) (h1 : 1 ≤ n) (h8 : n ≤ 8) :
    Calls Tryd.prog 9 #[.slice A n c] w (RWTold l w) := by
  have HR := Lib.hid h
  have HN := Lib.hid hn
  have HF := Lib.hid hf
  clear h hn hf
  go_enter Tryd.func9, Tryd.ntmps9
  go_wp2
  go_loopw [4, 5] (fun v i wr => ∃ (k M : Nat) (A' : Option Addr) (c' : Nat), k ≤ n ∧ i = .int .i64 k ∧ v = .slice A' M c' ∧ Hid (M ≤ 262148 * k ∧ BO w wr A' M c' (wrL (l.take k)) ∧ ∀ c ∈ l.take k, mayC c)) (fun _ i _ => n - (intOf i).toNat)
  case atStart => exact ⟨0, 0, none, 0, by omega, rfl, rfl, Lib.hid ⟨by omega, BO.nil w, by simp⟩⟩
  case round =>
    obtain ⟨k, M, A1, c1, hk, rfl, rfl, HL⟩ := hrel
    by_cases hkn : k < n
    · have hkl : k < l.length := by rw [HN.out]; exact hkn
      obtain ⟨b, off, cs, rfl, hC, hat⟩ := HR.out.at_ hkl
      have hxf := HF.out _ (List.getElem_mem hkl)
      have HV := Lib.hid (wrL_snoc hkl)
      have HAT := Lib.hid hat
      have HG := Lib.hid (hat wr HL.out.2.1.2)
      have HCr := Lib.hid (hC.below HL.out.2.1.2)
      have HB := Lib.hid HL.out.2.1.2
      by_cases hm : mayC l[k]
      · have HS : Hid (∀ c ∈ l.take (k + 1), mayC c) := Lib.hid (takeP_snoc hkl HL.out.2.2 hm)
        obtain ⟨x, hx⟩ : ∃ x, x = l[k] := ⟨_, rfl⟩
        rw [← hx] at hxf HV HCr hm
        clear hC
        have hxr : x.ra < 18446744073709551616 := hxf.2.2.2.2.2.2.2.2.2.2.2.2
        have HM : Hid (∀ W, CtRd W cs x → Calls Tryd.prog 20 #[.agg cs.toArray] W fun r w' => r = .returned (.bool true) ∧ Below W.heap.size W w') := Lib.hid (fun W hW => rmay_any cs x W hW hxf true ⟨fun _ => hm, fun _ => rfl⟩)
        have HRA : Hid (∀ W, Calls Tryd.prog 21 #[.int .u64 (x.ra : Int)] W fun r w' => r = .returned (.tuple #[.int .u64 (rM x.ra : Int), .int .i64 (rE x.ra : Int)]) ∧ W = w') := Lib.hid (fun W => rrate_is x.ra W hxr)
        obtain ⟨N, hN⟩ : ∃ N, N = (wr1 x).length := ⟨_, rfl⟩
        have hNle : N ≤ 262148 := by have h1 := body_small x hxf hm; have h2 := wr1_len x; omega
        have HP : Hid (∀ W, CtRd W cs x → Calls Tryd.prog 22 #[.agg cs.toArray, .int .u64 (rM x.ra : Int), .int .i64 (rE x.ra : Int)] W fun e w' => ∃ A' c', e = .returned (.slice A' N c') ∧ RdS w' A' N c' (wr1 x) ∧ Below W.heap.size W w') := Lib.hid (fun W hW => (one_any cs x W hW hxf hm).mono (by
          rintro e w' ⟨A', c', N', hN', rfl, h1, h2⟩
          rw [← hN] at hN'
          subst hN'
          exact ⟨A', c', rfl, h1, h2⟩))
        have HNL := Lib.hid hNle
        obtain ⟨T, hT⟩ : ∃ T, T = wrL (l.take k) := ⟨_, rfl⟩
        have O0 : Hid (BO w wr A1 M c1 T) := Lib.hid (by rw [hT]; exact HL.out.2.1)
        have HML := Lib.hid HL.out.1
        rw [← hT] at HV
        have HMM : Hid (M + N ≤ 1000000000) := Lib.hid (by have := HML.out; omega)
        obtain ⟨ra, hra⟩ : ∃ ra, ra = x.ra := ⟨_, rfl⟩
        have H12 : Hid (cs[12]? = some (.int .u64 (ra : Int))) := Lib.hid (by rw [hra]; exact HCr.out.rate)
        rw [← hra] at HRA HP
        clear HL hx hT hN hNle hat hxf hm hxr hra
        go_wp2_with (first
          | (with_reducible refine wpList_ld rfl 50 (.tmp 24) rfl b (off + k * 13) rfl cs HG.out (rowCtl HCr.out.len) ?_)
          | (go_at_call 20; ((with_reducible refine (Hid.out HM _ HCr.out).mono ?_); rintro r w2 ⟨rfl, hb⟩; have O2 := Lib.hid (O0.out.below hb); have G2 := Lib.hid (HAT.out w2 O2.out.2); have C2 := Lib.hid (HCr.out.below hb); have z12 : w2.cell? ⟨b, off + k * 13 + 12, none⟩ = some (.int .u64 (ra : Int)) := G2.out 12 _ H12.out; clear hb))
          | (go_at_call 21; ((with_reducible refine (Hid.out HRA _).mono ?_); rintro r w3 ⟨rfl, hw3⟩; subst hw3))
          | (with_reducible refine wpList_ld rfl 50 (.tmp 40) rfl b (off + k * 13) rfl cs G2.out (rowCtl C2.out.len) ?_)
          | (go_at_call 22; ((with_reducible refine (Hid.out HP _ C2.out).mono ?_); rintro r w4 ⟨A3, c3, rfl, hr, hb⟩; have R3 := Lib.hid hr; have O3 := Lib.hid (O2.out.below hb); clear hr hb))
          | (at_builtin; refine wpList_append_rd _ rfl (.tmp 37) (.tmp 44) rfl Tryd.underlying25 u8_info w.heap.size (.slice A1 M c1) M T rfl O3.out.1 A3 N c3 (wr1 x) rfl R3.out (by have := HMM.out; omega) O3.out.2.size ?_; intro v6 w6 hown6 hg6 _; obtain ⟨A6, c6, hv6⟩ := own_formN hown6; subst hv6; have O6 := Lib.hid (O3.out.more hown6 hg6); clear hown6 hg6))
        go_roundw
        case rel => exact ⟨k + 1, M + N, A6, c6, by omega, by go_num, rfl, Lib.hid ⟨by have h1 := HML.out; have h2 := HNL.out; omega, by rw [HV.out]; exact O6.out, HS.out⟩⟩
        case measure => simp [intOf]; omega
      · have HNO : Hid (¬ wOK l) := Lib.hid (fun h => hm (h.2.1 _ (List.getElem_mem hkl)))
        obtain ⟨x, hx⟩ : ∃ x, x = l[k] := ⟨_, rfl⟩
        rw [← hx] at hxf HCr hm
        have HM : Hid (∀ W, CtRd W cs x → Calls Tryd.prog 20 #[.agg cs.toArray] W fun r w' => r = .returned (.bool false) ∧ Below W.heap.size W w') := Lib.hid (fun W hW => rmay_any cs x W hW hxf false ⟨fun h => absurd h (by decide), fun h => absurd h hm⟩)
        clear HL hx hat hxf hm hC HV
        go_wp2_with (first
          | (with_reducible refine wpList_ld rfl 50 (.tmp 24) rfl b (off + k * 13) rfl cs HG.out (rowCtl HCr.out.len) ?_)
          | (go_at_call 20; ((with_reducible refine (Hid.out HM _ HCr.out).mono ?_); rintro r w2 ⟨rfl, hb⟩; have b2 := Lib.hid (HB.out.trans (hb.mono HB.out.size)); clear hb)))
        go_ret2
        exact RWTold.no HNO.out b2.out
    · obtain rfl : k = n := by omega
      rw [show l.take k = l by rw [← HN.out, List.take_length]] at HL
      have hM : M = (wrL l).length := HL.out.2.1.len.symm
      by_cases hbig : (M : Int) ≤ (1200 : Int)
      · have HOK : Hid (wOK l) := Lib.hid ⟨by rw [HN.out]; exact ⟨h1, h8⟩, HL.out.2.2, by omega⟩
        have HM := Lib.hid hM
        have HO := Lib.hid HL.out.2.1
        clear HL hM
        go_wp2
        go_ret2
        exact ⟨fun _ => ⟨A1, c1, M, HM.out, rfl, HO.out.rd, HO.out.2⟩, fun h => absurd HOK.out h⟩
      · have HNO : Hid (¬ wOK l) := Lib.hid (fun h => by have := h.2.2; omega)
        have HB := Lib.hid HL.out.2.1.2
        clear HL hM
        go_wp2
        go_ret2
        exact RWTold.no HNO.out HB.out

theorem rwrite_any (A : Option Addr) (n c : Nat) (l : List Ctl) (w : World) (h : CtRds w A l) (hn : l.length = n) (hf : ∀ c ∈ l, c.fit) :
    Calls Tryd.prog 9 #[.slice A n c] w (RWTold l w) := by
  by_cases hl : 1 ≤ n ∧ n ≤ 8
  · exact rwrite_long A n c l w h hn hf hl.1 hl.2
  · exact rwrite_short A n c l w hn hl
end Go.Proofs.YtacaempcbdekaaaDoor
