/- Several texts in one: Contracts of package rtcp: a packet's bytes. Contracts of package rtcp: Write. What the document's answer for layer 11 tells of two lists of packets that are the same. The law's guard of layer 11: whether lists are more than statements look at. No statement is proved here. -/
import Derived.Test.YtacaempcbdekaaaDoorZRtcp31
import Derived.Test.YtacaempcbdekaaaDoorZF
import Derived.Test.YtacaempcbdekaaaDoorZRtcp24
import Derived.Test.YtacaempcbdekaaaDoorZRtcpS2
import Derived.BigQuiet
namespace Go.Proofs.YtacaempcbdekaaaDoor
open Go.RowKit
set_option linter.unusedVariables false

theorem or_128 : ∀ Q : Nat, Q < 32 → 128 ||| Q = 128 + Q := by decide
theorem head_may (c : Ctl) (hm : mayC c) : ∃ S Q : Nat, typC c = S ∧ cntC c = Q ∧ S < 256 ∧ Q < 32 ∧ ∀ (cs : List Value) (W : World), CtRd W cs c → Tab W → 0 < W.heap.size → Calls Tryd.prog 32 #[.agg cs.toArray] W fun r w' => r = .returned (.tuple #[.int .i64 (S : Int), .int .i64 (Q : Int)]) ∧ Below W.heap.size W w' := by
  rcases hm with ⟨so, ti, st, pa, oc, L, rfl, h16, hk⟩ | ⟨so, L, rfl, h16, hk⟩ | ⟨L, rfl, h16, hk⟩ | ⟨L, rfl, h16⟩ | ⟨so, me, L, rfl, h1, h16⟩ | ⟨so, me, rfl⟩ | ⟨so, L, rfl, h1, h16⟩ | ⟨so, L, ra, rfl, h16, hra, hex⟩
  · exact ⟨200, L.length, rfl, rfl, by omega, by omega, fun cs W h ht hw => head_big cs _ W h ht hw 200 rfl L.length (by simp [longN, mkSR]) (by decide) (by decide) (by decide) (by decide)⟩
  · exact ⟨201, L.length, rfl, rfl, by omega, by omega, fun cs W h ht hw => head_big cs _ W h ht hw 201 rfl L.length (by simp [longN, mkRR]) (by decide) (by decide) (by decide) (by decide)⟩
  · exact ⟨202, L.length, rfl, by simp [cntC, mkSD], by omega, by omega, fun cs W h ht hw => head_big cs _ W h ht hw 202 rfl L.length (by simp [longN, mkSD]) (by decide) (by decide) (by decide) (by decide)⟩
  · exact ⟨203, L.length, rfl, by simp [cntC, mkBY], by omega, by omega, fun cs W h ht hw => head_big cs _ W h ht hw 203 rfl L.length (by simp [longN, mkBY]) (by decide) (by decide) (by decide) (by decide)⟩
  · exact ⟨205, 1, rfl, rfl, by omega, by omega, fun cs W h ht hw => head_1 cs _ W h ht hw rfl⟩
  · exact ⟨206, 1, rfl, rfl, by omega, by omega, fun cs W h ht hw => head_2 cs _ W h ht hw rfl⟩
  · exact ⟨206, 4, rfl, rfl, by omega, by omega, fun cs W h ht hw => head_3 cs _ W h ht hw rfl⟩
  · exact ⟨206, 15, rfl, rfl, by omega, by omega, fun cs W h ht hw => head_4 cs _ W h ht hw rfl⟩
theorem body_may (c : Ctl) (hf : c.fit) (hm : mayC c) (cs : List Value) (w : World) (h : CtRd w cs c) : Calls Tryd.prog 33 #[.agg cs.toArray] w (BodyTold w (bodyC c)) := by
  rcases hm with ⟨so, ti, st, pa, oc, L, rfl, h16, hk⟩ | ⟨so, L, rfl, h16, hk⟩ | ⟨L, rfl, h16, hk⟩ | ⟨L, rfl, h16⟩ | ⟨so, me, L, rfl, h1, h16⟩ | ⟨so, me, rfl⟩ | ⟨so, L, rfl, h1, h16⟩ | ⟨so, L, ra, rfl, h16, hra, hex⟩
  · exact body_200 cs _ w h rfl hf h16 hk
  · exact body_201 cs _ w h rfl hf h16 hk
  · exact body_202 cs _ w h rfl hf h16 hk
  · exact body_203 cs _ w h rfl hf h16
  · exact body_1 cs _ w h rfl hf h16
  · exact body_2 cs _ w h rfl hf
  · exact body_3 cs _ w h rfl hf h16
  · exact body_4 cs _ w h rfl hf h16
theorem wr1_len (c : Ctl) : (wr1 c).length = 4 + (bodyC c).length := by simp [wr1, length_beb]; omega
theorem body_small (c : Ctl) (hf : c.fit) (hm : mayC c) : (bodyC c).length ≤ 262144 := by
  obtain ⟨⟨m, h1, h2⟩, _⟩ := pk_any c hf hm
  have h3 := numb_lt (((wr1 c).drop 2).take 2)
  rw [h1] at h3
  have h4 : (((wr1 c).drop 2).take 2).length ≤ 2 := by rw [List.length_take]; omega
  have h5 : 256 ^ (((wr1 c).drop 2).take 2).length ≤ 256 ^ 2 := Nat.pow_le_pow_right (by omega) h4
  have h6 := wr1_len c
  omega

set_option maxRecDepth 100000 in
set_option maxHeartbeats 1000000 in
theorem packetBytes_any (cs : List Value) (c : Ctl) (w : World) (h : CtRd w cs c) (ht : Tab w) (hw : 0 < w.heap.size) (hf : c.fit) (hm : mayC c) (N : Nat) (hN : N = (wr1 c).length) :
    Calls Tryd.prog 19 #[.agg cs.toArray] w fun e w' => ∃ A' c', e = .returned (.slice A' N c') ∧ RdS w' A' N c' (wr1 c) ∧ Below w.heap.size w w' := by
  obtain ⟨S, Q, hS, hQ, lS, lQ, hH⟩ := head_may c hm
  have hBd := body_may c hf hm
  have hle := body_small c hf hm
  have hT0 : wr1 c = beb 1 (128 + Q) ++ beb 1 S ++ beb 2 ((bodyC c).length / 4) ++ bodyC c := by unfold wr1; rw [hS, hQ]; simp
  obtain ⟨T, hT⟩ : ∃ T, T = bodyC c := ⟨_, rfl⟩
  unfold BodyTold at hBd
  rw [← hT] at hBd hle hT0
  obtain ⟨M, hM⟩ : ∃ M, M = T.length := ⟨_, rfl⟩
  rw [← hM] at hBd hle hT0
  obtain ⟨Z, hZ⟩ : ∃ Z, Z = M / 4 := ⟨_, rfl⟩
  rw [← hZ] at hT0
  have hNM : N = M + 4 := by rw [hN, wr1_len, ← hT, ← hM]; omega
  have HT := Lib.hid hT0
  obtain ⟨hB0, hC0, b0⟩ := box_facts w cs c h
  have ht0 := ht.below b0 hw
  have hw0 : 0 < (w.alloc (.cells cs.toArray 50)).heap.size := Nat.lt_of_lt_of_le hw b0.size
  have HH : Hid (Calls Tryd.prog 32 #[.agg cs.toArray] (w.alloc (.cells cs.toArray 50)) fun r w' => r = .returned (.tuple #[.int .i64 (S : Int), .int .i64 (Q : Int)]) ∧ Below (w.alloc (.cells cs.toArray 50)).heap.size (w.alloc (.cells cs.toArray 50)) w') := Lib.hid (hH cs _ hC0 ht0 hw0)
  have HB : Hid (∀ W, CtRd W cs c → Calls Tryd.prog 33 #[.agg cs.toArray] W fun e w' => ∃ A' c', e = .returned (.slice A' M c') ∧ RdS w' A' M c' T ∧ Below W.heap.size W w') := Lib.hid (fun W hW => hBd cs W hW)
  obtain ⟨A, a, B, b', C, c', D, d, E, e, h0, -⟩ := h
  subst h0
  unfold ctlC at hC0 hB0 b0 HH HB ⊢
  have C0 := Lib.hid hC0
  have V0 := Lib.hid hB0
  have B0 := Lib.hid b0
  clear hC0 hB0 b0 ht0 hw0 ht hw hH hBd hf hm hS hQ hT hM hT0
  have e1 : IntKind.u64.wrap (Q : Int) = (Q : Int) := by rw [IntKind.wrap_u64]; omega
  have e2 : bits BinOp.or IntKind.u64 128 (Q : Int) = ((128 + Q : Nat) : Int) := by rw [← or_128 Q lQ]; exact u64_or_nat 128 Q (by omega) (by omega)
  obtain ⟨Y, hY⟩ : ∃ Y, Y = 128 + Q := ⟨_, rfl⟩
  rw [← hY] at e2 HT
  have e3 : IntKind.u64.wrap (S : Int) = (S : Int) := by rw [IntKind.wrap_u64]; omega
  have e4 : IntKind.i64.wrap ((M : Int) / 4) = (Z : Int) := by rw [IntKind.wrap_i64]; omega
  have e5 : IntKind.u64.wrap (Z : Int) = (Z : Int) := by rw [IntKind.wrap_u64]; omega
  have e7 : IntKind.i64.wrap (Z : Int) = (Z : Int) := by rw [IntKind.wrap_i64]; omega
  have HP1 : Hid (∀ W, Calls Tryd.prog 34 #[.slice none 0 0, .int .i64 1, .int .u64 (Y : Int)] W fun e w' => ∃ A' c', e = .returned (.slice A' 1 c') ∧ BO W w' A' 1 c' (beb 1 Y) ∧ Below W.heap.size W w') := Lib.hid (fun W => putNil_bo W 1 Y _ _ rfl rfl (by omega) (by omega) (by omega))
  have HP2 : Hid (∀ W0 W A c, BO W0 W A 1 c (beb 1 Y) → Calls Tryd.prog 34 #[.slice A 1 c, .int .i64 1, .int .u64 (S : Int)] W fun e w' => ∃ A' c', e = .returned (.slice A' 2 c') ∧ BO W0 w' A' 2 c' (beb 1 Y ++ beb 1 S) ∧ Below W.heap.size W w') := Lib.hid (fun W0 W A c hb => put_bo W0 W A 1 c 2 _ 1 S _ _ rfl rfl rfl hb (by omega) (by omega) (by omega) (by omega))
  have HP3 : Hid (∀ W0 W A c, BO W0 W A 2 c (beb 1 Y ++ beb 1 S) → Calls Tryd.prog 34 #[.slice A 2 c, .int .i64 2, .int .u64 (Z : Int)] W fun e w' => ∃ A' c', e = .returned (.slice A' 4 c') ∧ BO W0 w' A' 4 c' (beb 1 Y ++ beb 1 S ++ beb 2 Z) ∧ Below W.heap.size W w') := Lib.hid (fun W0 W A c hb => put_bo W0 W A 2 c 4 _ 2 Z _ _ rfl rfl rfl hb (by omega) (by omega) (by omega) (by omega))
  have LM : Hid (M ≤ 262144) := Lib.hid hle
  have hM62 : (M : Int) ≤ 262144 := by omega
  clear hZ hY lS lQ
  go_enter Tryd.func19, Tryd.ntmps19
  go_wp2_with (first
    | (go_at_call 32; ((with_reducible refine (Hid.out HH).mono ?_); rintro r w1 ⟨rfl, hb⟩; have B1 := Lib.hid (B0.out.trans (hb.mono B0.out.size)); have V1 := Lib.hid (V0.out.below hb V0.out.lt); have C1 := Lib.hid (C0.out.below hb); have G1 := Lib.hid (V1.out.range 0 [.int .i64 c.k, .int .u32 (c.so : Int), .int .u32 (c.me : Int), .int .u64 (c.ti : Int), .int .u32 (c.st : Int), .int .u32 (c.pa : Int), .int .u32 (c.oc : Int), .slice A c.reps.length a, .slice B c.nams.length b', .slice C c.srcs.length c', .slice D c.loss.length d, .slice E c.firs.length e, .int .u64 (c.ra : Int)] (fun i _ => by rw [Nat.zero_add])); clear hb))
    | (with_reducible refine wpList_ld rfl 50 (.tmp 1) rfl w.heap.size 0 rfl [.int .i64 c.k, .int .u32 (c.so : Int), .int .u32 (c.me : Int), .int .u64 (c.ti : Int), .int .u32 (c.st : Int), .int .u32 (c.pa : Int), .int .u32 (c.oc : Int), .slice A c.reps.length a, .slice B c.nams.length b', .slice C c.srcs.length c', .slice D c.loss.length d, .slice E c.firs.length e, .int .u64 (c.ra : Int)] G1.out (rowCtl rfl) ?_)
    | (go_at_call 33; ((with_reducible refine (Hid.out HB _ C1.out).mono ?_); rintro r w2 ⟨A2, c2, rfl, hr, hb⟩; have B2 := Lib.hid (B1.out.trans (hb.mono B1.out.size)); have R2 := Lib.hid hr; clear hb hr))
    | (go_at_call 34; ((with_reducible refine (Hid.out HP1 _).mono ?_); rintro r w3 ⟨A3, c3, rfl, hbo, hb⟩; have O3 := Lib.hid hbo; have R3 := Lib.hid (R2.out.below hb); clear hbo hb))
    | (go_at_call 34; ((with_reducible refine (Hid.out HP2 _ _ _ _ O3.out).mono ?_); rintro r w4 ⟨A4, c4, rfl, hbo, hb⟩; have O4 := Lib.hid hbo; have R4 := Lib.hid (R3.out.below hb); clear hbo hb))
    | (go_at_call 34; ((with_reducible refine (Hid.out HP3 _ _ _ _ O4.out).mono ?_); rintro r w5 ⟨A5, c5, rfl, hbo, hb⟩; have O5 := Lib.hid hbo; have R5 := Lib.hid (R4.out.below hb); clear hbo hb))
    | (at_builtin; refine wpList_append_rd _ rfl (.tmp 28) (.tmp 29) rfl Tryd.underlying25 u8_info w2.heap.size (.slice A5 4 c5) 4 (beb 1 Y ++ beb 1 S ++ beb 2 Z) rfl O5.out.1 A2 M c2 T rfl R5.out (by omega) O5.out.2.size ?_; intro v6 w6 hown6 hg6 _; obtain ⟨A6, c6, hv6⟩ := own_formN hown6; subst hv6; have O6 := Lib.hid (O5.out.more hown6 hg6); clear hown6 hg6))
  go_ret
  have h4 : 4 + M = N := by omega
  rw [HT.out]
  rw [h4] at O6
  exact ⟨A6, c6, by rw [← h4]; rfl, O6.out.rd, B2.out.trans (O6.out.2.mono B2.out.size)⟩
end Go.Proofs.YtacaempcbdekaaaDoor

namespace Go.Proofs.YtacaempcbdekaaaDoor
open Go.RowKit
set_option linter.unusedVariables false

/-- A slice of packets that reads as these. -/
def CtRds (w : World) (A : Option Addr) (l : List Ctl) : Prop := ∃ css : List (List Value), css.length = l.length ∧ RdG 13 w A (css.map id) ∧ ∀ (i : Nat) (cs : List Value) (c : Ctl), css[i]? = some cs → l[i]? = some c → CtRd w cs c
theorem CtRds.below {w w' : World} {A : Option Addr} {l : List Ctl} (h : CtRds w A l) (hb : Below w.heap.size w w') : CtRds w' A l := by
  obtain ⟨css, h1, h2, h3⟩ := h
  exact ⟨css, h1, h2.below hb, fun i cs c hi hj => (h3 i cs c hi hj).below hb⟩
theorem CtRds.at_ {w : World} {A : Option Addr} {l : List Ctl} (h : CtRds w A l) {k : Nat} (hk : k < l.length) : ∃ b off cs, A = some ⟨b, off, none⟩ ∧ CtRd w cs l[k] ∧ ∀ wx, Below w.heap.size w wx → wx.rangeAt b (off + k * 13) cs := by
  obtain ⟨css, h1, h2, h3⟩ := h
  have hkl : k < css.length := by omega
  obtain ⟨b, off, hA, hr⟩ := h2.at_ hkl
  exact ⟨b, off, css[k], hA, h3 k css[k] l[k] (List.getElem?_eq_getElem hkl) (List.getElem?_eq_getElem hk), hr⟩
theorem OwnCs.rds {w : World} {b n c : Nat} {A : Option Addr} {l : List Ctl} (h : OwnCs w b (.slice A n c) l) (hn : l.length = n) : CtRds w A l := by
  obtain ⟨css, h1, h2, h3⟩ := h
  have hx : ∀ i cs c, css[i]? = some cs → l[i]? = some c → CtRd w cs c := fun i cs c hi hj => (h3 i cs c hi hj).rd
  refine ⟨css, h2, RdG.of_own (e := 50) (base := b) (n := n) (c := c) (by rw [show css.flatMap id = css.flatten from by simp [List.flatMap]]; rw [hn] at h1; exact h1) (by rw [h2, hn]) (fun x hxm => ?_), hx⟩
  obtain ⟨i, hi, rfl⟩ := List.getElem_of_mem hxm
  have hil : i < l.length := by omega
  exact (hx i css[i] l[i] (List.getElem?_eq_getElem hi) (List.getElem?_eq_getElem hil)).len
/-- These may be written. -/
def wOK (l : List Ctl) : Prop := (1 ≤ l.length ∧ l.length ≤ 8) ∧ (∀ c ∈ l, mayC c) ∧ (wrL l).length ≤ 1200
/-- What Write tells. -/
def WTold (l : List Ctl) (w : World) (e : Ending) (w' : World) : Prop :=
  (wOK l → ∃ A' c' N, N = (wrL l).length ∧ e = .returned (.tuple #[.slice A' N c', .int .i64 0]) ∧ RdS w' A' N c' (wrL l) ∧ Below w.heap.size w w') ∧ (¬ wOK l → e = .returned (.tuple #[.slice none 0 0, .int .i64 1]) ∧ Below w.heap.size w w')
theorem WTold.no {l : List Ctl} {w w' : World} (h : ¬ wOK l) (hb : Below w.heap.size w w') : WTold l w (.returned (.tuple #[.slice none 0 0, .int .i64 1])) w' := ⟨fun h2 => absurd h2 h, fun _ => ⟨rfl, hb⟩⟩
theorem wrL_snoc {l : List Ctl} {k : Nat} (h : k < l.length) : wrL (l.take (k + 1)) = wrL (l.take k) ++ wr1 l[k] := flat_snoc wr1 h
theorem takeP_snoc {l : List Ctl} {P : Ctl → Prop} {k : Nat} (h : k < l.length) (h1 : ∀ c ∈ l.take k, P c) (h2 : P l[k]) : ∀ c ∈ l.take (k + 1), P c := by
  rw [List.take_add_one, List.getElem?_eq_getElem h]
  intro c hc
  rcases List.mem_append.1 hc with hc | hc
  · exact h1 c hc
  · simp at hc; subst hc; exact h2

set_option maxRecDepth 100000 in
set_option maxHeartbeats 1000000 in
theorem write_short (A : Option Addr) (n c : Nat) (l : List Ctl) (w : World) (hn : l.length = n) (hl : ¬ (1 ≤ n ∧ n ≤ 8)) :
    Calls Tryd.prog 8 #[.slice A n c] w (WTold l w) := by
  have HNO : Hid (¬ wOK l) := Lib.hid (fun h => hl (by rw [← hn]; exact h.1))
  have hw : n = 0 ∨ 8 < n := by omega
  clear hn hl
  rcases hw with rfl | h8
  · go_enter Tryd.func8, Tryd.ntmps8
    go_wp2
    go_ret2
    exact WTold.no HNO.out (Below.refl _ _)
  · go_enter Tryd.func8, Tryd.ntmps8
    go_wp2
    go_ret2
    exact WTold.no HNO.out (Below.refl _ _)

set_option maxRecDepth 100000 in
set_option maxHeartbeats 2000000 in
theorem write_long (A : Option Addr) (n c : Nat) (l : List Ctl) (w : World) (h : CtRds w A l) (hn : l.length = n) (ht : Tab w) (hw : 0 < w.heap.size) (hf : ∀ c ∈ l, c.fit) (h1 : 1 ≤ n) (h8 : n ≤ 8) :
    Calls Tryd.prog 8 #[.slice A n c] w (WTold l w) := by
  have HR := Lib.hid h
  have HN := Lib.hid hn
  have HT := Lib.hid ht
  have HF := Lib.hid hf
  have HW := Lib.hid hw
  clear h hn ht hf hw
  go_enter Tryd.func8, Tryd.ntmps8
  go_wp2
  go_loopw [4, 17] (fun v i wr => ∃ (k M : Nat) (A' : Option Addr) (c' : Nat), k ≤ n ∧ i = .int .i64 k ∧ v = .slice A' M c' ∧ Hid (M ≤ 262148 * k ∧ BO w wr A' M c' (wrL (l.take k)) ∧ ∀ c ∈ l.take k, mayC c)) (fun _ i _ => n - (intOf i).toNat)
  case atStart => exact ⟨0, 0, none, 0, by omega, rfl, rfl, Lib.hid ⟨by omega, BO.nil w, by simp⟩⟩
  case round =>
    obtain ⟨k, M, A1, c1, hk, rfl, rfl, HL⟩ := hrel
    by_cases hkn : k < n
    · have hkl : k < l.length := by rw [HN.out]; exact hkn
      obtain ⟨b, off, cs, rfl, hC, hat⟩ := HR.out.at_ hkl
      have hxf := HF.out _ (List.getElem_mem hkl)
      have HV := Lib.hid (wrL_snoc hkl)
      have HG := Lib.hid (hat wr HL.out.2.1.2)
      have HCr := Lib.hid (hC.below HL.out.2.1.2)
      have HB := Lib.hid HL.out.2.1.2
      have hf13 : Hid (0 + cs.length ≤ zCtl.length) := Lib.hid (fit13 hC.len)
      by_cases hm : mayC l[k]
      · have HS : Hid (∀ c ∈ l.take (k + 1), mayC c) := Lib.hid (takeP_snoc hkl HL.out.2.2 hm)
        obtain ⟨x, hx⟩ : ∃ x, x = l[k] := ⟨_, rfl⟩
        rw [← hx] at hxf HV HCr hm
        clear hC
        obtain ⟨N, hN⟩ : ∃ N, N = (wr1 x).length := ⟨_, rfl⟩
        have hNle : N ≤ 262148 := by have h1 := body_small x hxf hm; have h2 := wr1_len x; omega
        have HM : Hid (∀ W, CtRd W cs x → Calls Tryd.prog 18 #[.agg cs.toArray] W fun r w' => r = .returned (.bool true) ∧ Below W.heap.size W w') := Lib.hid (fun W hW => mayBe_any cs x W hW hxf true ⟨fun _ => (mayK_iff x).2 hm, fun _ => rfl⟩)
        have HP : Hid (∀ W, CtRd W cs x → Below w.heap.size w W → Calls Tryd.prog 19 #[.agg cs.toArray] W fun e w' => ∃ A' c', e = .returned (.slice A' N c') ∧ RdS w' A' N c' (wr1 x) ∧ Below W.heap.size W w') := Lib.hid (fun W hW hb => packetBytes_any cs x W hW (HT.out.below hb HW.out) (Nat.lt_of_lt_of_le HW.out hb.size) hxf hm N hN)
        have HNL := Lib.hid hNle
        obtain ⟨T, hT⟩ : ∃ T, T = wrL (l.take k) := ⟨_, rfl⟩
        have O0 : Hid (BO w wr A1 M c1 T) := Lib.hid (by rw [hT]; exact HL.out.2.1)
        have HML := Lib.hid HL.out.1
        rw [← hT] at HV
        have HMM : Hid (M + N ≤ 1000000000) := Lib.hid (by have := HML.out; omega)
        clear HL hx hT hN hNle hat hxf hm
        go_wp2_with (first
          | (with_reducible refine wpList_ld rfl 50 (.tmp 19) rfl b (off + k * 13) rfl cs HG.out (rowCtl HCr.out.len) ?_)
          | ((refine wpList_st rfl 50 (.tmp 6) (.tmp 20) rfl wr.heap.size 0 cs rfl rfl 50 zCtl (BlkV.new wr _ _) hf13.out (rowCtl HCr.out.len) HCr.out.one ?_); intro w1 hB1 ho1; rw [splice_all _ _ (by rw [HCr.out.len]; rfl)] at hB1; have b1 : Hid (Below wr.heap.size wr w1) := Lib.hid (((Below.refl _ _).alloc (Nat.le_refl _) _).trans (ho1.below (Nat.le_refl _))); have V1 := Lib.hid hB1; have G1 := Lib.hid (V1.out.range 0 cs (fun i _ => by rw [Nat.zero_add])); have C1 := Lib.hid (HCr.out.below b1.out); have O1 := Lib.hid (O0.out.below b1.out); clear hB1 ho1)
          | (with_reducible refine wpList_ld rfl 50 (.tmp 6) rfl wr.heap.size 0 rfl cs G1.out (rowCtl C1.out.len) ?_)
          | (go_at_call 18; ((with_reducible refine (Hid.out HM _ C1.out).mono ?_); rintro r w2 ⟨rfl, hb⟩; have V2 := Lib.hid (V1.out.below hb V1.out.lt); have G2 := Lib.hid (V2.out.range 0 cs (fun i _ => by rw [Nat.zero_add])); have C2 := Lib.hid (C1.out.below hb); have O2 := Lib.hid (O1.out.below hb); have B2 := Lib.hid O2.out.2; clear hb))
          | (with_reducible refine wpList_ld rfl 50 (.tmp 6) rfl wr.heap.size 0 rfl cs G2.out (rowCtl C2.out.len) ?_)
          | (go_at_call 19; ((with_reducible refine (Hid.out HP _ C2.out B2.out).mono ?_); rintro r w3 ⟨A3, c3, rfl, hr, hb⟩; have R3 := Lib.hid hr; have O3 := Lib.hid (O2.out.below hb); clear hr hb))
          | (at_builtin; refine wpList_append_rd _ rfl (.tmp 24) (.tmp 26) rfl Tryd.underlying25 u8_info w.heap.size (.slice A1 M c1) M T rfl O3.out.1 A3 N c3 (wr1 x) rfl R3.out (by have := HMM.out; omega) O3.out.2.size ?_; intro v6 w6 hown6 hg6 _; obtain ⟨A6, c6, hv6⟩ := own_formN hown6; subst hv6; have O6 := Lib.hid (O3.out.more hown6 hg6); clear hown6 hg6))
        go_roundw
        case rel => exact ⟨k + 1, M + N, A6, c6, by omega, by go_num, rfl, Lib.hid ⟨by have h1 := HML.out; have h2 := HNL.out; omega, by rw [HV.out]; exact O6.out, HS.out⟩⟩
        case measure => simp [intOf]; omega
      · have HNO : Hid (¬ wOK l) := Lib.hid (fun h => hm (h.2.1 _ (List.getElem_mem hkl)))
        obtain ⟨x, hx⟩ : ∃ x, x = l[k] := ⟨_, rfl⟩
        rw [← hx] at hxf HCr hm
        have HM : Hid (∀ W, CtRd W cs x → Calls Tryd.prog 18 #[.agg cs.toArray] W fun r w' => r = .returned (.bool false) ∧ Below W.heap.size W w') := Lib.hid (fun W hW => mayBe_any cs x W hW hxf false ⟨fun h => absurd h (by decide), fun h => absurd ((mayK_iff x).1 h) hm⟩)
        clear HL hx hat hxf hm hC HV
        go_wp2_with (first
          | (with_reducible refine wpList_ld rfl 50 (.tmp 19) rfl b (off + k * 13) rfl cs HG.out (rowCtl HCr.out.len) ?_)
          | ((refine wpList_st rfl 50 (.tmp 6) (.tmp 20) rfl wr.heap.size 0 cs rfl rfl 50 zCtl (BlkV.new wr _ _) hf13.out (rowCtl HCr.out.len) HCr.out.one ?_); intro w1 hB1 ho1; rw [splice_all _ _ (by rw [HCr.out.len]; rfl)] at hB1; have b1 : Hid (Below wr.heap.size wr w1) := Lib.hid (((Below.refl _ _).alloc (Nat.le_refl _) _).trans (ho1.below (Nat.le_refl _))); have V1 := Lib.hid hB1; have G1 := Lib.hid (V1.out.range 0 cs (fun i _ => by rw [Nat.zero_add])); have C1 := Lib.hid (HCr.out.below b1.out); clear hB1 ho1)
          | (with_reducible refine wpList_ld rfl 50 (.tmp 6) rfl wr.heap.size 0 rfl cs G1.out (rowCtl C1.out.len) ?_)
          | (go_at_call 18; ((with_reducible refine (Hid.out HM _ C1.out).mono ?_); rintro r w2 ⟨rfl, hb⟩; have b2 := Lib.hid (HB.out.trans ((b1.out.trans (hb.mono b1.out.size)).mono HB.out.size)); clear hb)))
        go_ret2
        exact WTold.no HNO.out b2.out
    · obtain rfl : k = n := by omega
      rw [show l.take k = l by rw [← HN.out, List.take_length]] at HL
      have hM : M = (wrL l).length := HL.out.2.1.len.symm
      by_cases hbig : (1200 : Int) < (M : Int)
      · have HNO : Hid (¬ wOK l) := Lib.hid (fun h => by have := h.2.2; omega)
        have HB := Lib.hid HL.out.2.1.2
        clear HL hM
        go_wp2
        go_ret2
        exact WTold.no HNO.out HB.out
      · have HOK : Hid (wOK l) := Lib.hid ⟨by rw [HN.out]; exact ⟨h1, h8⟩, HL.out.2.2, by omega⟩
        have HM := Lib.hid hM
        have HO := Lib.hid HL.out.2.1
        clear HL hM
        go_wp2
        go_ret2
        exact ⟨fun _ => ⟨A1, c1, M, HM.out, rfl, HO.out.rd, HO.out.2⟩, fun h => absurd HOK.out h⟩

theorem write_any (A : Option Addr) (n c : Nat) (l : List Ctl) (w : World) (h : CtRds w A l) (hn : l.length = n) (ht : Tab w) (hw : 0 < w.heap.size) (hf : ∀ c ∈ l, c.fit) :
    Calls Tryd.prog 8 #[.slice A n c] w (WTold l w) := by
  by_cases hl : 1 ≤ n ∧ n ≤ 8
  · exact write_long A n c l w h hn ht hw hf hl.1 hl.2
  · exact write_short A n c l w hn hl
end Go.Proofs.YtacaempcbdekaaaDoor

namespace Go.Proofs.YtacaempcbdekaaaDoor
open Go.RowKit
set_option linter.unusedVariables false

def smallL (c : Ctl) : Prop := c.reps.length ≤ 1000 ∧ c.nams.length ≤ 1000 ∧ c.srcs.length ≤ 1000 ∧ c.loss.length ≤ 1000 ∧ c.firs.length ≤ 1000
theorem mayC.small {c : Ctl} (h : mayC c) : smallL c := by
  rcases h with ⟨so, ti, st, pa, oc, L, rfl, h16, hk⟩ | ⟨so, L, rfl, h16, hk⟩ | ⟨L, rfl, h16, hk⟩ | ⟨L, rfl, h16⟩ | ⟨so, me, L, rfl, h1, h16⟩ | ⟨so, me, rfl⟩ | ⟨so, L, rfl, h1, h16⟩ | ⟨so, L, ra, rfl, h16, hra, hex⟩ <;> simp [smallL, mkSR, mkRR, mkSD, mkBY, mkNA, mkPL, mkFI, mkRE] <;> omega
def SmS (w : World) (wz : World) : Prop := Below w.heap.size w wz

set_option maxRecDepth 100000 in
set_option maxHeartbeats 1000000 in
theorem sames_yes (A1 A2 : Option Addr) (n c1 c2 : Nat) (l : List Ctl) (w : World) (h1 : CtRds w A1 l) (h2 : CtRds w A2 l) (hn : l.length = n) (hm : n ≤ 1000) (hs : ∀ c ∈ l, smallL c) :
    Calls Tryd.prog 11 #[.slice A1 n c1, .slice A2 n c2] w fun r w' => r = .returned (.bool true) ∧ Below w.heap.size w w' := by
  have H1 := Lib.hid h1
  have H2 := Lib.hid h2
  have HN := Lib.hid hn
  have HS := Lib.hid hs
  clear h1 h2 hn hs
  go_enter Tryd.func11, Tryd.ntmps11
  go_wp2
  go_loopw [5] (fun i wx => ∃ k : Nat, k ≤ n ∧ i = .int .i64 k ∧ Hid (SmS w wx)) (fun i _ => n - (intOf i).toNat)
  case atStart => exact ⟨0, by omega, rfl, Lib.hid (Below.refl _ _)⟩
  case round =>
    obtain ⟨k, hk, rfl, HB⟩ := hrel
    by_cases hkn : k < n
    · have hkl : k < l.length := by rw [HN.out]; exact hkn
      obtain ⟨b1, o1, r1, rfl, hC1, hat1⟩ := H1.out.at_ hkl
      obtain ⟨b2, o2, r2, rfl, hC2, hat2⟩ := H2.out.at_ hkl
      have hsx := HS.out _ (List.getElem_mem hkl)
      obtain ⟨x, hx⟩ : ∃ x, x = l[k] := ⟨_, rfl⟩
      rw [← hx] at hC1 hC2 hsx
      have G1 := Lib.hid hat1
      have G2 := Lib.hid hat2
      have C1 := Lib.hid hC1
      have C2 := Lib.hid hC2
      have CS : Hid (∀ W, SmS w W → Calls Tryd.prog 26 #[.agg r1.toArray, .agg r2.toArray] W fun r w' => r = .returned (.bool true) ∧ Below W.heap.size W w') := Lib.hid (fun W hW => same_yes r1 r2 x W (C1.out.below hW) (C2.out.below hW) hsx.1 hsx.2.1 hsx.2.2.1 hsx.2.2.2.1 hsx.2.2.2.2)
      clear hx hat1 hat2 hC1 hC2 hsx
      go_wp2
      refine wp_region_noPanic ?_
      refine wp_region_held (S := SmS w) (by kernel_rfl) ?_
      change wpAnyH _ _ _ _ _ _ _ _ (World.drew _)
      have SD : Hid (SmS w wr.drew) := Lib.hid (Below.drew HB.out)
      generalize wr.drew = w0 at SD ⊢
      refine wpAnyH_take (i := 0) (v := ?_) rfl (by kernel_rfl) (by kernel_rfl) (by kernel_rfl) (fun _ _ _ h => h) (Or.inl ⟨by rfl, ?_⟩) SD.out ?_
      case refine_2 => (intro wz hz; go_simp; with_reducible rfl)
      simp only [Act.put, List.getElem_toArray, List.getElem_cons_zero, List.setIfInBounds_toArray, List.set_cons_succ, List.set_cons_zero]
      refine wpAnyH_take (i := 1) (v := ?_) rfl (by kernel_rfl) (by kernel_rfl) (by kernel_rfl) (fun _ _ _ h => h) (Or.inl ⟨by rfl, ?_⟩) SD.out ?_
      case refine_2 => (intro wz hz; go_simp; with_reducible rfl)
      simp only [Act.put, List.getElem_toArray, List.getElem_cons_succ, List.getElem_cons_zero, List.setIfInBounds_toArray, List.set_cons_succ, List.set_cons_zero]
      refine wpAnyH_take (i := 2) (v := ?_) rfl (by kernel_rfl) (by kernel_rfl) (by kernel_rfl) (fun _ _ _ h => h) (Or.inl ⟨by rfl, ?_⟩) SD.out ?_
      case refine_2 => (intro wz hz; go_simp; with_reducible rfl)
      simp only [Act.put, List.getElem_toArray, List.getElem_cons_succ, List.getElem_cons_zero, List.setIfInBounds_toArray, List.set_cons_succ, List.set_cons_zero]
      refine wpAnyH_take (i := 3) (v := .agg r1.toArray) rfl (by kernel_rfl) (by kernel_rfl) (by kernel_rfl) (fun _ _ _ h => h) (Or.inl ⟨by rfl, fun wz hz => ?_⟩) SD.out ?_
      · exact run_ld 50 (.tmp 19) rfl b1 (o1 + k * 13) rfl r1 (G1.out wz hz) (rowCtl C1.out.len)
      simp only [Act.put, List.getElem_toArray, List.getElem_cons_succ, List.getElem_cons_zero, List.setIfInBounds_toArray, List.set_cons_succ, List.set_cons_zero]
      refine wpAnyH_take (i := 4) (v := ?_) rfl (by kernel_rfl) (by kernel_rfl) (by kernel_rfl) (fun _ _ _ h => h) (Or.inl ⟨by rfl, ?_⟩) SD.out ?_
      case refine_2 => (intro wz hz; go_simp; with_reducible rfl)
      simp only [Act.put, List.getElem_toArray, List.getElem_cons_succ, List.getElem_cons_zero, List.setIfInBounds_toArray, List.set_cons_succ, List.set_cons_zero]
      refine wpAnyH_take (i := 5) (v := ?_) rfl (by kernel_rfl) (by kernel_rfl) (by kernel_rfl) (fun _ _ _ h => h) (Or.inl ⟨by rfl, ?_⟩) SD.out ?_
      case refine_2 => (intro wz hz; go_simp; with_reducible rfl)
      simp only [Act.put, List.getElem_toArray, List.getElem_cons_succ, List.getElem_cons_zero, List.setIfInBounds_toArray, List.set_cons_succ, List.set_cons_zero]
      refine wpAnyH_take (i := 6) (v := ?_) rfl (by kernel_rfl) (by kernel_rfl) (by kernel_rfl) (fun _ _ _ h => h) (Or.inl ⟨by rfl, ?_⟩) SD.out ?_
      case refine_2 => (intro wz hz; go_simp; with_reducible rfl)
      simp only [Act.put, List.getElem_toArray, List.getElem_cons_succ, List.getElem_cons_zero, List.setIfInBounds_toArray, List.set_cons_succ, List.set_cons_zero]
      refine wpAnyH_take (i := 7) (v := .agg r2.toArray) rfl (by kernel_rfl) (by kernel_rfl) (by kernel_rfl) (fun _ _ _ h => h) (Or.inl ⟨by rfl, fun wz hz => ?_⟩) SD.out ?_
      · exact run_ld 50 (.tmp 23) rfl b2 (o2 + k * 13) rfl r2 (G2.out wz hz) (rowCtl C2.out.len)
      simp only [Act.put, List.getElem_toArray, List.getElem_cons_succ, List.getElem_cons_zero, List.setIfInBounds_toArray, List.set_cons_succ, List.set_cons_zero]
      refine anyH_one (i := 8) (by kernel_rfl) rfl rfl (fun H hH => ?_)
      simp only [List.getElem_toArray, List.getElem_cons_succ, List.getElem_cons_zero]
      go_simp
      refine (CS.out _ SD.out).mono ?_
      rintro e w1 ⟨rfl, hb⟩
      have S1 : Hid (SmS w w1) := Lib.hid (Below.trans SD.out (hb.mono SD.out.size))
      clear hb
      refine hH _ _ S1.out ?_
      clear hH H
      refine wpAnyH_take (i := 9) (v := ?_) rfl (by kernel_rfl) (by kernel_rfl) (by kernel_rfl) (fun _ _ _ h => h) (Or.inl ⟨by rfl, ?_⟩) S1.out ?_
      case refine_2 => (intro wz hz; go_simp; with_reducible rfl)
      simp only [Act.put, List.getElem_toArray, List.getElem_cons_succ, List.getElem_cons_zero, List.setIfInBounds_toArray, List.set_cons_succ, List.set_cons_zero]
      refine wpAnyH_done (by kernel_rfl) ?_ _
      refine NoPanic.normal ?_
      go_wp2
      go_roundw
      case rel => exact ⟨k + 1, by omega, by go_num, S1⟩
      case measure => simp [intOf]; omega
    · obtain rfl : k = n := by omega
      go_wp2
      go_ret
      exact ⟨rfl, HB.out⟩
end Go.Proofs.YtacaempcbdekaaaDoor

namespace Go.Proofs.YtacaempcbdekaaaDoor
open Go.RowKit
set_option linter.unusedVariables false

/-- What Great tells. -/
def GreatTold (l : List Ctl) (w : World) (e : Ending) (w' : World) : Prop := (∃ b : Bool, e = .returned (.bool b) ∧ (b = false → l.length ≤ 60 ∧ ∀ c ∈ l, c.small)) ∧ Below w.heap.size w w'
theorem GreatTold.yes {l : List Ctl} {w w' : World} (h : Below w.heap.size w w') : GreatTold l w (.returned (.bool true)) w' := ⟨⟨true, rfl, fun h => by cases h⟩, h⟩

theorem nams_snoc {α : Type} {P : α → Prop} {L : List α} {m : Nat} (h : m < L.length) (h1 : ∀ c ∈ L.take m, P c) (h2 : P L[m]) : ∀ c ∈ L.take (m + 1), P c := by
  rw [List.take_add_one, List.getElem?_eq_getElem h]
  intro c hc
  rcases List.mem_append.1 hc with hc | hc
  · exact h1 c hc
  · simp at hc; subst hc; exact h2

set_option maxRecDepth 100000 in
set_option maxHeartbeats 4000000 in
theorem great_any (A : Option Addr) (n c : Nat) (l : List Ctl) (w : World) (h : CtRds w A l) (hn : l.length = n) (hs : n ≤ 9223372036854775807) :
    Calls Tryd.prog 7 #[.slice A n c] w (GreatTold l w) := by
  have HR := Lib.hid h
  have HN := Lib.hid hn
  clear h hn
  go_enter Tryd.func7, Tryd.ntmps7
  go_wp2
  go_loopw [3] (fun i wr => ∃ k : Nat, k ≤ n ∧ i = .int .i64 k ∧ Hid (Below w.heap.size w wr) ∧ Hid (∀ c ∈ l.take k, c.small)) (fun i _ => n - (intOf i).toNat)
  case atStart => exact ⟨0, by omega, rfl, Lib.hid (Below.refl _ _), Lib.hid (by simp)⟩
  case round =>
    obtain ⟨k, hk, rfl, HB, HS⟩ := hrel
    by_cases hkn : k < n
    · have hkl : k < l.length := by rw [HN.out]; exact hkn
      obtain ⟨b, off, cs, rfl, hC, hat⟩ := HR.out.at_ hkl
      have HAT := Lib.hid hat
      have HX := Lib.hid (fun hm => takeP_snoc (P := Ctl.small) hkl HS.out hm)
      obtain ⟨x, hx⟩ : ∃ x, x = l[k] := ⟨_, rfl⟩
      rw [← hx] at hC HX
      obtain ⟨A7, a7, A8, a8, A9, a9, A10, a10, A11, a11, h0, r7, r8, r9, r10, r11⟩ := hC
      subst h0
      have G : Hid (∀ wx, Below w.heap.size w wx → wx.cell? ⟨b, off + k * 13 + 7, none⟩ = some (.slice A7 x.reps.length a7) ∧ wx.cell? ⟨b, off + k * 13 + 8, none⟩ = some (.slice A8 x.nams.length a8) ∧ wx.cell? ⟨b, off + k * 13 + 9, none⟩ = some (.slice A9 x.srcs.length a9) ∧ wx.cell? ⟨b, off + k * 13 + 10, none⟩ = some (.slice A10 x.loss.length a10) ∧ wx.cell? ⟨b, off + k * 13 + 11, none⟩ = some (.slice A11 x.firs.length a11)) :=
        Lib.hid (fun wx hb => ⟨HAT.out wx hb 7 _ rfl, HAT.out wx hb 8 _ rfl, HAT.out wx hb 9 _ rfl, HAT.out wx hb 10 _ rfl, HAT.out wx hb 11 _ rfl⟩)
      obtain ⟨g7, g8, g9, g10, g11⟩ := G.out wr HB.out
      obtain ⟨n7, hn7⟩ : ∃ n7, n7 = x.reps.length := ⟨_, rfl⟩
      obtain ⟨n8, hn8⟩ : ∃ n8, n8 = x.nams.length := ⟨_, rfl⟩
      obtain ⟨n9, hn9⟩ : ∃ n9, n9 = x.srcs.length := ⟨_, rfl⟩
      obtain ⟨n10, hn10⟩ : ∃ n10, n10 = x.loss.length := ⟨_, rfl⟩
      obtain ⟨n11, hn11⟩ : ∃ n11, n11 = x.firs.length := ⟨_, rfl⟩
      have R8 := Lib.hid r8
      rw [← hn7] at g7 G
      rw [← hn8] at g8 G
      rw [← hn9] at g9 G
      rw [← hn10] at g10 G
      rw [← hn11] at g11 G
      have HL := Lib.hid (show n7 = x.reps.length ∧ n8 = x.nams.length ∧ n9 = x.srcs.length ∧ n10 = x.loss.length ∧ n11 = x.firs.length from ⟨hn7, hn8, hn9, hn10, hn11⟩)
      clear hx hat r7 r8 r9 r10 r11 hn7 hn8 hn9 hn10 hn11 HAT HS
      by_cases q7 : (100 : Int) < (n7 : Int)
      · go_wp2
        go_ret
        exact GreatTold.yes HB.out
      by_cases q8 : (100 : Int) < (n8 : Int)
      · go_wp2
        go_ret
        exact GreatTold.yes HB.out
      by_cases q9 : (100 : Int) < (n9 : Int)
      · go_wp2
        go_ret
        exact GreatTold.yes HB.out
      by_cases q10 : (100 : Int) < (n10 : Int)
      · go_wp2
        go_ret
        exact GreatTold.yes HB.out
      by_cases q11 : (100 : Int) < (n11 : Int)
      · go_wp2
        go_ret
        exact GreatTold.yes HB.out
      go_wp2
      go_loopw [4] (fun j wx => ∃ m : Nat, m ≤ n8 ∧ j = .int .i64 m ∧ Hid (Below w.heap.size w wx) ∧ Hid (∀ y ∈ x.nams.take m, y.2.length ≤ 100)) (fun j _ => n8 - (intOf j).toNat)
      case atStart => exact ⟨0, by omega, rfl, HB, Lib.hid (by simp)⟩
      case round =>
        obtain ⟨m, hm, rfl, HB2, HS2⟩ := hrel
        obtain ⟨z7, z8, z9, z10, z11⟩ := G.out wr HB2.out
        clear g7 g8 g9 g10 g11
        by_cases hmn : m < n8
        · have hml : m < x.nams.length := by rw [← HL.out.2.1]; exact hmn
          obtain ⟨b2, o2, rfl, hat2⟩ := R8.out.at_ hml
          have s2 : wr.cell? ⟨b2, o2 + m * 2 + 1, none⟩ = some (.string (txt (x.nams[m]).2)) := hat2 wr HB2.out 1 _ rfl
          have HX2 := Lib.hid (fun hy => nams_snoc (P := fun y : Nat × List UInt8 => y.2.length ≤ 100) hml HS2.out hy)
          obtain ⟨t, ht⟩ : ∃ t, t = (x.nams[m]).2 := ⟨_, rfl⟩
          rw [← ht] at s2 HX2
          have hsz := size_txt t
          obtain ⟨T, hT⟩ : ∃ T, T = txt t := ⟨_, rfl⟩
          rw [← hT] at s2 hsz
          obtain ⟨q, hq⟩ : ∃ q, q = t.length := ⟨_, rfl⟩
          rw [← hq] at hsz HX2
          clear hat2 ht hT hq
          by_cases hqb : (100 : Int) < (q : Int)
          · go_wp2
            go_ret
            exact GreatTold.yes HB2.out
          · go_wp2
            go_roundw
            case rel => exact ⟨m + 1, by omega, by go_num, HB2, Lib.hid (HX2.out (by omega))⟩
            case measure => simp [intOf]; omega
        · obtain rfl : m = n8 := by omega
          rw [show x.nams.take m = x.nams by rw [HL.out.2.1, List.take_length]] at HS2
          have HSM : Hid (x.small) := Lib.hid (by obtain ⟨e7, e8, e9, e10, e11⟩ := HL.out; exact ⟨by omega, by omega, by omega, by omega, by omega, HS2.out⟩)
          go_wp2
          go_roundw
          case rel => exact ⟨k + 1, by omega, by go_num, HB2, Lib.hid (HX.out HSM.out)⟩
          case measure => simp [intOf]; omega
    · obtain rfl : k = n := by omega
      rw [show l.take k = l by rw [← HN.out, List.take_length]] at HS
      by_cases q : (60 : Int) < (k : Int)
      · go_wp2
        go_ret
        exact GreatTold.yes HB.out
      · go_wp2
        go_ret
        exact ⟨⟨false, rfl, fun _ => ⟨by rw [HN.out]; omega, HS.out⟩⟩, HB.out⟩
end Go.Proofs.YtacaempcbdekaaaDoor
