/- Contracts of package stun: Write. No statement is proved here. -/
import Derived.Test.YthoiebjndchobaaStunL1
import Derived.Test.YthoiebjndchobaaStunP7
namespace Go.Proofs.Ythoiebjndchobaa
open Go.RowKit
set_option linter.unusedVariables false
attribute [local go_sem] Oper.semAt_some

set_option maxRecDepth 100000 in
set_option maxHeartbeats 1000000 in
theorem write_no (cs : List Value) (s : Stn) (w : World) (h : StnRd w cs s) (hf : s.fit) (hs : s.av.length ≤ 1000000) (hno : ¬ mayS s) : Calls Try.prog 13 #[.agg cs.toArray] w (PW12 s w) := by
  have b0 := BoxS.new 28 w cs
  have HB := Lib.hid b0
  have hlen := h.len hf.2.1
  have HLEN := Lib.hid hlen
  have HM := Lib.hid (maybe_any cs s _ (h.below b0.1) hf hs false (by simp [hno]))
  have HNO := Lib.hid hno
  have HRG : Hid ((w.alloc (.cells cs.toArray 28)).rangeAt w.heap.size 0 cs) := Lib.hid (b0.2.range 0 _ (fun i _ => by rw [Nat.zero_add]))
  clear b0 hlen h hf hs hno
  go_enter Try.func13, Try.ntmps13
  go_wp2_with (first
    | (with_reducible refine wpList_ld rfl 28 (.tmp 1) rfl w.heap.size 0 rfl cs HRG.out (rowStn HLEN.out) ?_)
    | (go_at_call 20; ((with_reducible refine (Hid.out HM).mono ?_); rintro e w1 ⟨rfl, hb1⟩; have f1 := Lib.hid (HB.out.1.trans (hb1.mono HB.out.1.size)); clear hb1)))
  go_ret2
  exact ⟨fun h => absurd h HNO.out, fun _ => rfl, f1.out⟩
/-- A round's slots. -/
def frW (cs : List Value) (g g2 : Nat) (p : Value) (v5 v12 : Value) : Array Value :=
  #[.agg cs.toArray, .pointer (some ⟨g, 0, none⟩), .slice none 0 0, .int .i64 0, .pointer (some ⟨g2, 0, none⟩), v5, undef, .agg cs.toArray, .bool true, .bool false, .agg cs.toArray, p, v12, undef, undef, undef, undef, undef, undef, undef, undef, undef, undef, undef, undef, undef, undef, undef, undef, undef, undef, undef, undef, undef]
def IW (w : World) (cs : List Value) (g2 : Nat) (pre : List (List UInt8)) (W : World) : Prop := ∃ (A : Option Addr) (M c : Nat), M = pre.flatten.length ∧ BoxS 28 w cs W ∧ BlkV W g2 22 [.slice A M c] ∧ BO w W A M c pre.flatten
def AxW (cs : List Value) (g g2 : Nat) (p : Value) (x : List UInt8) (a : Act) (W : World) : Prop := ∃ (A : Option Addr) (c : Nat) (v12 : Value), a = { tmps := frW cs g g2 p (.slice A x.length c) v12, defers := [] } ∧ RdS W A x.length c x
theorem BoxS.turn {t : TypeId} {w : World} {cs : List Value} {W W2 : World} {B : Nat} (h : BoxS t w cs W) (hT : Turn B W W2) (hB : w.heap.size ≤ B) : BoxS t w cs W2 := ⟨h.1.trans (hT.below hB h.1.size), h.2.turn hT⟩
theorem IW.calm (w : World) (cs : List Value) (g2 B : Nat) (hB : w.heap.size ≤ B) (pre : List (List UInt8)) : Calm B (IW w cs g2 pre) := fun W W2 ⟨A, M, c, h0, h1, h2, h3⟩ hT => ⟨A, M, c, h0, h1.turn hT hB, h2.turn hT, h3.turn hT hB⟩
theorem AxW.calm (cs : List Value) (g g2 : Nat) (p : Value) (x : List UInt8) (a : Act) (B : Nat) : Calm B (AxW cs g g2 p x a) := fun W W2 ⟨A, c, v, h1, h2⟩ hT => ⟨A, c, v, h1, h2.turn hT⟩
/-- Behind an element's append and the store of the longer row of bytes. -/
theorem row_app {w W w5 : World} {A A6 : Option Addr} {M c X c6 g2 : Nat} {cs : List Value} {B x : List UInt8} (hBx : BoxS 28 w cs W) (hV : BlkV W g2 22 [.slice A M c]) (hO : BO w W A M c B) (hg2 : w.heap.size < g2)
    (h5 : w5.ownsRow w.heap.size 5 1 (.slice A6 (M + X) c6) (M + X) (cells (B ++ x))) (hg5 : W.grownBy w5 (Value.slice A M c).ownBlock) :
    BlkV w5 g2 22 [.slice A M c] ∧ KeepsOthers W (w5.setCell ⟨g2, 0, none⟩ (.slice A6 (M + X) c6)) ∧ Below w.heap.size W (w5.setCell ⟨g2, 0, none⟩ (.slice A6 (M + X) c6)) ∧ BoxS 28 w cs (w5.setCell ⟨g2, 0, none⟩ (.slice A6 (M + X) c6)) ∧
      BlkV (w5.setCell ⟨g2, 0, none⟩ (.slice A6 (M + X) c6)) g2 22 [.slice A6 (M + X) c6] ∧ BO w (w5.setCell ⟨g2, 0, none⟩ (.slice A6 (M + X) c6)) A6 (M + X) c6 (B ++ x) := by
  have hV5 := hV.grown hg5 (fun e => own_ne hO.1 hV (by decide) e.symm)
  have ho := Only.set w5 g2 0 (.slice A6 (M + X) c6)
  have hb5 : Below w.heap.size W w5 := below_of_grown hg5 hBx.1.size (fun p hp => (hO.1.lt p hp).1)
  refine ⟨hV5, (keeps_own hO.1 hg5).trans (KeepsOthers.setCell _ _ _), hb5.setCell (by simp; omega) _, ⟨hBx.1.trans (hb5.setCell (by simp; omega) _), ?_⟩, hV5.set_ 0 _, own_thN h5 ho.grown (fun p hp => ?_), hBx.1.trans (hb5.setCell (by simp; omega) _)⟩
  · exact (hBx.2.grown hg5 (fun e => own_ne hO.1 hBx.2 (by decide) e.symm)).only ho (by omega)
  · injection hp with hp
    subst hp
    exact .inr ⟨_, 22, _, hV5, by decide⟩
theorem bodS_flat (L : List (Nat × List UInt8)) : (L.map attB).flatten = bodS L := by simp [bodS, List.flatMap]
set_option maxRecDepth 100000 in
set_option maxHeartbeats 2000000 in
theorem write_yes (cs : List Value) (s : Stn) (w : World) (h : StnRd w cs s) (hf : s.fit) (hm : mayS s) : Calls Try.prog 13 #[.agg cs.toArray] w (PW12 s w) := by
  have hzs : ∀ w : World, (zeroValue 22).run Try.prog w = .ok (.slice none 0 0) w := fun w => by kernel_rfl
  have b0 := BoxS.new 28 w cs
  have HB := Lib.hid b0
  have HLEN := Lib.hid (h.len hf.2.1)
  have HM := Lib.hid (maybe_any cs s _ (h.below b0.1) hf (by have := hm.2.1; omega) true (by simp [hm]))
  have HMAY := Lib.hid hm
  have HF := Lib.hid hf
  have HST := Lib.hid h
  have HRG : ∀ W, BoxS 28 w cs W → W.rangeAt w.heap.size 0 cs := fun W hb => hb.2.range 0 _ (fun i _ => by rw [Nat.zero_add])
  have HRG := Lib.hid HRG
  clear b0 h hf hm
  refine (callsIn_wide (n := 2)).1 ?_
  refine callsIn_of_wp_marks Try.func13 rfl trivial ?_ rfl
  simp only [Try.ntmps13, List.size_toArray, List.length_cons, List.length_nil, Nat.reduceAdd, Nat.reduceSub, Array.replicate_succ, Array.replicate_zero, List.push_toArray, List.append_toArray, List.nil_append, List.cons_append]
  refine wpIn_wide.2 ?_
  go_wp2_with (first
    | (go_at_call 20; ((with_reducible refine (Hid.out HM).mono ?_); rintro e w1 ⟨rfl, hb1⟩; have X1 := Lib.hid (HB.out.on hb1); have X2 : Hid (BoxS 28 w cs (w1.alloc (.cells #[.slice none 0 0] 22))) := Lib.hid (X1.out.on ((Below.refl _ _).alloc (Nat.le_refl _) _)); clear hb1))
    | (with_reducible refine wpList_ld rfl 28 (.tmp 1) rfl w.heap.size 0 rfl cs (HRG.out _ HB.out) (rowStn HLEN.out) ?_)
    | (with_reducible refine wpList_ld rfl 28 (.tmp 1) rfl w.heap.size 0 rfl cs (HRG.out _ X2.out) (rowStn HLEN.out) ?_)
    | (go_at_call 21; ((with_reducible refine (attrsOf_any _ _).mono ?_); rintro e w' ⟨rfl, rfl⟩)))
  refine (wpIn_wide (n := 2)).1 ?_
  have hg2 : w.heap.size < w1.heap.size := X1.out.2.lt
  have hbW : Below w.heap.size w ((w1.alloc (.cells #[.slice none 0 0] 22)).alloc (.cells cs.toArray 28)) := X2.out.1.alloc X2.out.1.size _
  have HIT := Lib.hid (attrsOf_iter w ((w1.alloc (.cells #[.slice none 0 0] 22)).alloc (.cells cs.toArray 28)) (w1.heap.size + 1) cs s HST.out HF.out (by have := HMAY.out.2.1; omega) (fun x hx => by have := HMAY.out.2.2 x hx; omega) hbW (BlkV.new_at _ _ _ _ _ (size_alloc _ _).symm rfl))
  have hstart : IW w cs w1.heap.size [] ((w1.alloc (.cells #[.slice none 0 0] 22)).alloc (.cells cs.toArray 28)) :=
    ⟨none, 0, 0, rfl, X2.out.on ((Below.refl _ _).alloc (Nat.le_refl _) _), (BlkV.new_at _ _ _ [.slice none 0 0] _ rfl rfl).alloc _, World.ownsRow_nil _ _ _ _, hbW⟩
  have HBW := Lib.hid hbW
  refine rng_law (gf := 29) (lb := #[.pointer (some ⟨w1.heap.size + 1, 0, none⟩)]) rfl (enters_of Try.func29 (by kernel_rfl) rfl) HIT.out (Below.refl _ _) hbW.size
    (fun x args W h => (by obtain ⟨A, c, h1, _⟩ := h; rw [h1]; rfl)) (IW w cs w1.heap.size) (fun _ _ _ => False) (IW.calm w cs _ _ hbW.size) (fun _ _ _ _ h _ => h) hstart (AxW cs w.heap.size w1.heap.size (.func (.func 29) #[] #[.pointer (some ⟨w1.heap.size + 1, 0, none⟩)])) (fun x a2 => AxW.calm _ _ _ _ x a2 _) ?assign ?body ?done ?stop
  case assign =>
    rintro l pre x args W K hI hok ⟨A, c, rfl, hr⟩ hK
    have HR := Lib.hid hr
    clear hI hok hr
    gi_wp2
    exact hK _ _ (Below.refl _ _) ⟨A, c, _, rfl, HR.out⟩
  case body =>
    rintro l pre x a2 W ⟨A, M, c, hM, hBx, hBV, hBO⟩ ⟨k, hk, hpre, hx⟩ ⟨A5, c5, v12, rfl, hr⟩
    simp only [frW]
    have c4 : W.cell? ⟨w1.heap.size, 0, none⟩ = some (.slice A M c) := (hBV.cell 0).trans rfl
    have hX1 : x.length ≤ 300 := by
      have h1 := attB_len s.av[k]
      have h2 := HMAY.out.2.2 _ (List.getElem_mem hk)
      rw [hx]; omega
    have hM1 : M ≤ 5000 := by
      have h1 := bodS_le (s.av.take k) (fun y hy => HMAY.out.2.2 y (List.mem_of_mem_take hy))
      have h2 := HMAY.out.2.1
      have h3 : (s.av.take k).length ≤ 16 := by rw [List.length_take]; omega
      rw [hM, hpre, bodS_flat]
      have h4 := Nat.mul_le_mul_left 260 h3
      omega
    have HR := Lib.hid hr
    have HBO := Lib.hid hBO
    have HO1 : Hid (W.ownsRow w.heap.size 5 1 (.slice A M c) M (cells pre.flatten)) := Lib.hid hBO.1
    have HBS : Hid (w.heap.size ≤ W.heap.size) := Lib.hid hBO.2.size
    have HLN : Hid (M + x.length = (pre ++ [x]).flatten.length) := Lib.hid (by simp [hM])
    have HFL : Hid (pre.flatten ++ x = (pre ++ [x]).flatten) := Lib.hid (by simp)
    have HAPP := Lib.hid (fun (w5 : World) (A6 : Option Addr) (c6 : Nat) => row_app (w5 := w5) (A6 := A6) (c6 := c6) (X := x.length) (x := x) hBx hBV hBO hg2)
    obtain ⟨X, hX⟩ : ∃ X, X = x.length := ⟨_, rfl⟩
    rw [← hX] at hX1 HR HLN HAPP
    rw [← hX]
    have HXX := Lib.hid hX
    clear hM hBx hBV hBO hpre hx hr hX hk
    gi_wp2_with (refine in_wide (wide_in _) (by intro c hc; cases hc) ?_; at_builtin; refine wpList_append_rd _ rfl (.tmp 13) (.tmp 14) rfl Try.underlying22 u8_info w.heap.size (.slice A M c) M pre.flatten rfl HO1.out A5 X c5 x rfl HR.out (by omega) HBS.out ?_; intro v5 w5 hown5 hg5 _; refine ⟨rfl, ?_⟩; obtain ⟨A6, c6, hv⟩ := own_formN hown5; subst hv; obtain ⟨q1, q2, q3, q4, q5, q6⟩ := HAPP.out w5 A6 c6 hown5 hg5; have Q2 := Lib.hid q2; have Q3 := Lib.hid q3; have Q4 := Lib.hid q4; have Q5 := Lib.hid q5; have Q6 := Lib.hid q6; have hc5 : w5.cell? ⟨w1.heap.size, 0, none⟩ = some (.slice A M c) := (q1.cell 0).trans rfl; have hf5 := q1.frozen 0; clear q1 q2 q3 q4 q5 q6 hown5 hg5)
    exact ⟨Q2.out.from _, Q3.out, A6, M + X, c6, HLN.out, Q4.out, Q5.out, by rw [← HFL.out]; exact Q6.out⟩
  case done =>
    rintro D xs W hD hS ⟨A, M, c, hM, hBx, hBV, hBO⟩ hKD
    rw [show xs = s.av.map attB from hS, bodS_flat] at hM hBO
    have hM1 : M ≤ 5000 := by
      have h1 := bodS_le s.av HMAY.out.2.2
      have h2 := HMAY.out.2.1
      have h4 := Nat.mul_le_mul_left 260 h2
      omega
    obtain ⟨A0, c0, hcs, _⟩ := HST.out
    have htl : s.tx.length = 12 := HF.out.2.1
    have q0 : W.cell? ⟨w.heap.size, 0, none⟩ = some (.int .u16 (s.ty : Int)) := (hBx.2.cell 0).trans (by rw [hcs]; rfl)
    have q4 : W.cell? ⟨w1.heap.size, 0, none⟩ = some (.slice A M c) := (hBV.cell 0).trans rfl
    have hRT : RdS W (some ⟨w.heap.size, 1, none⟩) 12 12 s.tx := ⟨htl, by omega, by simp [maxLen], fun h => (nomatch h), fun _ => ⟨w.heap.size, 1, rfl, hBx.2.lt, fun j hj => (hBx.2.cell (1 + j)).trans (by rw [hcs]; exact sC_atT _ _ _ (by omega))⟩⟩
    have hty : s.ty < 65536 := HF.out.1
    have HMM := Lib.hid hM
    have HV := Lib.hid hBV
    have HBX := Lib.hid hBx
    have HBO := Lib.hid hBO
    have HRT := Lib.hid hRT
    have HKD := Lib.hid hKD
    obtain ⟨ty, hty2⟩ : ∃ ty, ty = s.ty := ⟨_, rfl⟩
    rw [← hty2] at q0 hty
    have HTY := Lib.hid hty2
    have ew1 : IntKind.u64.wrap (ty : Int) = (ty : Int) := by rw [IntKind.wrap_u64]; omega
    have ew2 : IntKind.u64.wrap (M : Int) = (M : Int) := by rw [IntKind.wrap_u64]; omega
    clear hM hBx hBV hBO hRT hKD hty2 hcs htl hS
    go_wp2_with (first
      | (go_at_call 22; ((with_reducible refine (putNil_bo W 2 ty 2 (ty : Int) rfl rfl (by omega) (by omega) (by omega)).mono ?_); rintro e w2 ⟨A2, c2, rfl, hbo, hb2⟩; have B2 := Lib.hid hbo; have q42 : w2.cell? ⟨w1.heap.size, 0, none⟩ = some (.slice A M c) := ((HV.out.below hb2 HV.out.lt).cell 0).trans rfl; clear hbo hb2))
      | (go_at_call 22; ((with_reducible refine (put_bo W w2 A2 2 c2 4 (beb 2 ty) 2 M 2 (M : Int) rfl rfl rfl B2.out (by omega) (by omega) (by omega) (by omega)).mono ?_); rintro e w3 ⟨A3, c3, rfl, hbo, hb3⟩; have B3 := Lib.hid hbo; clear hbo hb3))
      | (go_at_call 22; ((with_reducible refine (put_bo W w3 A3 4 c3 8 (beb 2 ty ++ beb 2 M) 4 554869826 4 554869826 rfl rfl rfl B3.out (by omega) (by omega) (by omega) (by omega)).mono ?_); rintro e w4 ⟨A4, c4, rfl, hbo, hb4⟩; have B4 := Lib.hid hbo; clear hbo hb4))
      | (at_builtin; refine wpList_append_rd _ rfl (.tmp 27) (.tmp 29) rfl Try.underlying22 u8_info W.heap.size (.slice A4 8 c4) 8 (beb 2 ty ++ beb 2 M ++ beb 4 554869826) rfl B4.out.1 (some ⟨w.heap.size, 1, none⟩) 12 12 s.tx rfl (HRT.out.below B4.out.2) (by omega) B4.out.2.size ?_; intro v5 w5 hown5 hg5 _; obtain ⟨A5, c5, hv⟩ := own_formN hown5; subst hv; have B5 := Lib.hid (B4.out.more hown5 hg5); have q45 : w5.cell? ⟨w1.heap.size, 0, none⟩ = some (.slice A M c) := ((HV.out.below B5.out.2 HV.out.lt).cell 0).trans rfl; clear hown5 hg5)
      | (at_builtin; refine wpList_append_rd _ rfl (.tmp 31) (.tmp 32) rfl Try.underlying22 u8_info W.heap.size (.slice A5 20 c5) 20 (beb 2 ty ++ beb 2 M ++ beb 4 554869826 ++ s.tx) rfl B5.out.1 A M c (bodS s.av) rfl (HBO.out.rd.below B5.out.2) (by omega) B5.out.2.size ?_; intro v6 w6 hown6 hg6 _; obtain ⟨A6, c6, hv⟩ := own_formN hown6; subst hv; have B6 := Lib.hid (B5.out.more hown6 hg6); clear hown6 hg6))
    have hkd : w6.heap[D]? = some (.deferred (some [])) := (B6.out.2.block D (Array.getElem?_eq_some_iff.1 HKD.out).1).trans HKD.out
    have hT : Turn w.heap.size w6 (w6.putObj D (.deferred none)) := Turn.obj _ (Nat.le_trans HBW.out.size hD) hkd rfl
    have hbw : Below w.heap.size w w6 := HBX.out.1.trans (B6.out.2.mono HBX.out.1.size)
    have hlen : 20 + M = (wrS s).length := by rw [wrS_len s HF.out, HMM.out]
    have hbs : beb 2 ty ++ beb 2 M ++ beb 4 554869826 ++ s.tx ++ bodS s.av = wrS s := by unfold wrS; rw [HTY.out, HMM.out]; simp only [List.append_assoc]
    have hrd := B6.out.rd.turn hT
    rw [hbs] at hrd
    refine ⟨by simp, .inl ⟨_, _, rfl, run_takeDeferred hkd, ?_⟩⟩
    exact ⟨_, results_tmp2 rfl _ _ _, fun _ => ⟨A6, c6, 20 + M, hlen, rfl, hrd⟩, fun h => absurd HMAY.out h, hbw.trans (hT.below (Nat.le_refl _) hbw.size)⟩
  case stop =>
    rintro D cd pre W _ h _
    exact h.elim
theorem write_any (cs : List Value) (s : Stn) (w : World) (h : StnRd w cs s) (hf : s.fit) (hs : s.av.length ≤ 1000000) : Calls Try.prog 13 #[.agg cs.toArray] w (PW12 s w) := by
  by_cases hm : mayS s
  · exact write_yes cs s w h hf hm
  · exact write_no cs s w h hf hs hm
end Go.Proofs.Ythoiebjndchobaa
