/- Contracts of package stun: Answer; and all that the law asks of the package. No statement is proved here. -/
import Derived.Test.YthoiebjndchobaaStunP8
namespace Go.Proofs.Ythoiebjndchobaa
open Go.RowKit
set_option linter.unusedVariables false

set_option maxRecDepth 100000 in
set_option maxHeartbeats 1000000 in
theorem mapped_any (port addr : Nat) (w : World) (hp : port < 65536) (ha : addr < 4294967296) : Calls Try.prog 25 #[.agg #[.int .u32 (addr : Int), .int .u16 (port : Int)]] w fun e w' => ∃ A' c', e = .returned (.slice A' 8 c') ∧ RdS w' A' 8 c' (ansD port addr) ∧ Below w.heap.size w w' := by
  have hp2 : bits BinOp.xor IntKind.u64 (port : Int) 8466 = ((port ^^^ 8466 : Nat) : Int) := by have h := u64_xor_nat port 8466 (by omega) (by omega); rwa [Int.cast_ofNat_Int] at h
  have ha2 : bits BinOp.xor IntKind.u64 (addr : Int) 554869826 = ((addr ^^^ 554869826 : Nat) : Int) := by have h := u64_xor_nat addr 554869826 (by omega) (by omega); rwa [Int.cast_ofNat_Int] at h
  obtain ⟨P, hP⟩ : ∃ P, P = port ^^^ 8466 := ⟨_, rfl⟩
  obtain ⟨Q, hQ⟩ : ∃ Q, Q = addr ^^^ 554869826 := ⟨_, rfl⟩
  have lP : P < 65536 := by rw [hP]; exact Nat.xor_lt_two_pow (n := 16) hp (by omega)
  have lQ : Q < 4294967296 := by rw [hQ]; exact Nat.xor_lt_two_pow (n := 32) ha (by omega)
  rw [← hP] at hp2
  rw [← hQ] at ha2
  have HD : Hid (ansD port addr = [0, 1] ++ beb 2 P ++ beb 4 Q) := Lib.hid (by rw [hP, hQ]; rfl)
  have ep : IntKind.u64.wrap (port : Int) = (port : Int) := by rw [IntKind.wrap_u64]; omega
  have ea : IntKind.u64.wrap (addr : Int) = (addr : Int) := by rw [IntKind.wrap_u64]; omega
  have T0 : Hid (BoxS 43 w [.int .u32 (addr : Int), .int .u16 (port : Int)] (w.alloc (.cells #[.int .u32 (addr : Int), .int .u16 (port : Int)] 43))) := Lib.hid (BoxS.new _ w _)
  obtain ⟨W1, hW1⟩ : ∃ W1, W1 = (w.alloc (.cells #[.int .u32 (addr : Int), .int .u16 (port : Int)] 43)).alloc (.cells #[.int .u8 0, .int .u8 1] 5) := ⟨_, rfl⟩
  have T1 : Hid (BoxS 43 w [.int .u32 (addr : Int), .int .u16 (port : Int)] W1) := Lib.hid (by rw [hW1]; exact T0.out.on ((Below.refl _ _).alloc (Nat.le_refl _) _))
  have t1 : ((w.alloc (.cells #[.int .u32 (addr : Int), .int .u16 (port : Int)] 43)).alloc (.cells #[.int .u8 0, .int .u8 1] 5)).cell? ⟨w.heap.size, 1, none⟩ = some (.int .u16 (port : Int)) := by rw [← hW1]; exact (T1.out.2.cell 1).trans rfl
  have hB : Blk W1 (w.heap.size + 1) 5 [0, 1] := by rw [hW1]; exact Blk.new_at _ _ _ _ _ (size_alloc _ _).symm rfl
  have hBO : BO w W1 (some ⟨w.heap.size + 1, 0, none⟩) 2 2 [0, 1] := ⟨hB.owns rfl (by simp [maxLen]) (by omega), T1.out.1⟩
  have HP1 : Hid (Calls Try.prog 22 #[.slice (some ⟨w.heap.size + 1, 0, none⟩) 2 2, .int .i64 2, .int .u64 (P : Int)] ((w.alloc (.cells #[.int .u32 (addr : Int), .int .u16 (port : Int)] 43)).alloc (.cells #[.int .u8 0, .int .u8 1] 5)) fun e w' => ∃ A' c', e = .returned (.slice A' 4 c') ∧ BO w w' A' 4 c' ([0, 1] ++ beb 2 P) ∧ Below W1.heap.size W1 w') := Lib.hid (by rw [← hW1]; exact put_bo w W1 _ 2 2 4 [0, 1] 2 P 2 P rfl rfl rfl hBO (by omega) (by omega) (by omega) (by omega))
  clear hW1 hB hBO hP hQ
  go_enter Try.func25, Try.ntmps25
  go_wp2_with (first
    | (go_at_call 22; ((with_reducible refine (Hid.out HP1).mono ?_); rintro e w2 ⟨A2, c2, rfl, hbo, hb2⟩; have B2 := Lib.hid hbo; have t0 : w2.cell? ⟨w.heap.size, 0, none⟩ = some (.int .u32 (addr : Int)) := ((T1.out.on hb2).2.cell 0).trans rfl; clear hbo hb2))
    | (go_at_call 22; ((with_reducible refine (put_bo w w2 A2 4 c2 8 ([0, 1] ++ beb 2 P) 4 Q 4 (Q : Int) rfl rfl rfl B2.out (by omega) (by omega) (by omega) (by omega)).mono ?_); rintro e w3 ⟨A3, c3, rfl, hbo, hb3⟩; have B3 := Lib.hid hbo; clear hbo hb3)))
  go_ret
  exact ⟨A3, c3, rfl, by rw [HD.out]; exact B3.out.rd, B3.out.2⟩
theorem answeredP (W : World) (cs : List Value) (tx : List UInt8) (port addr : Nat) (ht : tx.length = 12) (h : StnRd W cs (ansS tx port addr)) :
    Calls Try.prog 13 #[.agg cs.toArray] W fun e w' => ∃ A' c', e = .returned (.tuple #[.slice A' 32 c', .int .i64 0]) ∧ RdS w' A' 32 c' (wrS (ansS tx port addr)) ∧ Below W.heap.size W w' := by
  refine (write_any cs _ W h (ansS_fit tx port addr ht) (by simp [ansS])).mono ?_
  rintro e w' ⟨h1, _, h3⟩
  obtain ⟨A', c', N', hN', rfl, h2⟩ := h1 (ansS_may tx port addr)
  rw [ansS_len tx port addr ht] at hN'
  subst hN'
  exact ⟨A', c', rfl, h2, h3⟩
abbrev tupW (w : World) (port addr : Nat) : World := w.alloc (.cells #[.int .u32 (addr : Int), .int .u16 (port : Int)] 43)
theorem tup_below (w : World) (port addr : Nat) : Below w.heap.size w (tupW w port addr) := (Below.refl _ _).alloc (Nat.le_refl _) _
set_option maxRecDepth 100000 in
set_option maxHeartbeats 1000000 in
theorem answer_none (A : Option Addr) (n c : Nat) (bs : List UInt8) (port addr : Nat) (w : World) (hr : RdS w A n c bs) (hn : n ≤ 100000) (hno : ∀ s, ¬ isMsg bs s) :
    Calls Try.prog 15 #[.slice A n c, .agg #[.int .u32 (addr : Int), .int .u16 (port : Int)]] w (A12 bs port addr w) := by
  have hz := zeroStn
  have HNO : Hid (∀ tx, ¬ askB bs tx) := Lib.hid (fun tx ⟨s, hs, _⟩ => hno s hs)
  have HB := Lib.hid (tup_below w port addr)
  obtain ⟨q, hq, hq0⟩ : ∃ q : Int, q = (if bs.length < 20 then 2 else 3) ∧ ¬ q = 0 := ⟨_, rfl, by split <;> omega⟩
  have HRD := Lib.hid ((read_any A n c bs _ (hr.below HB.out) hn).mono (R' := fun e w' => ∃ cs, e = .returned (.tuple #[.agg cs.toArray, .int .i64 q]) ∧ StnRd w' cs ⟨0, Z12, []⟩ ∧ Below (tupW w port addr).heap.size (tupW w port addr) w') (fun e w' ⟨_, h2, h3⟩ => by
    obtain ⟨cs, h4, h5⟩ := h2 hno
    exact ⟨cs, by rw [hq]; exact h4, h5, h3⟩))
  clear hr hno hq
  go_enter Try.func15, Try.ntmps15
  go_wp2_with (first
    | (go_at_call 7; ((with_reducible refine (Hid.out HRD).mono ?_); rintro e w1 ⟨cs, rfl, hcs, hb1⟩; have f1 := Lib.hid (HB.out.trans (hb1.mono HB.out.size)); have HL := Lib.hid (hcs.len rfl); have HO : Hid (∀ v ∈ cs, v.oneCell' = true) := Lib.hid (by obtain ⟨A', c', h1, _⟩ := hcs; rw [h1]; exact sC_one _ _ _ _ _); have HFI : Hid (0 + cs.length ≤ zStn.length) := Lib.hid (by rw [hcs.len rfl, zS_len]; omega); clear hcs hb1))
    | ((with_reducible refine wpList_st rfl 28 (.tmp 6) (.tmp 14) rfl w1.heap.size 0 cs rfl rfl 28 zStn (BlkV.new w1 _ _) HFI.out (rowStn HL.out) HO.out ?_); intro w3 hB3 ho3; have f3 := Lib.hid (f1.out.trans ((((Below.refl _ _).alloc (Nat.le_refl _) _).trans (ho3.below (Nat.le_refl _))).mono f1.out.size)); clear hB3 ho3))
  go_ret2
  exact A12.no HNO.out f3.out
set_option maxRecDepth 100000 in
set_option maxHeartbeats 2000000 in
theorem answer_msg (A : Option Addr) (n c : Nat) (bs : List UInt8) (port addr : Nat) (w : World) (hr : RdS w A n c bs) (hn : n ≤ 100000) (hp : port < 65536) (ha : addr < 4294967296) (s : Stn) (hm : isMsg bs s) :
    Calls Try.prog 15 #[.slice A n c, .agg #[.int .u32 (addr : Int), .int .u16 (port : Int)]] w (A12 bs port addr w) := by
  have hz := zeroStn
  have hz2 := zeroAttr
  have hl := hr.len
  have HB := Lib.hid (tup_below w port addr)
  have T0 : Hid (BoxS 43 w [.int .u32 (addr : Int), .int .u16 (port : Int)] (tupW w port addr)) := Lib.hid (BoxS.new _ w _)
  have HRD := Lib.hid ((read_any A n c bs _ (hr.below HB.out) hn).mono (R' := fun e w' => ∃ cs, e = .returned (.tuple #[.agg cs.toArray, .int .i64 0]) ∧ StnRd w' cs s ∧ Below (tupW w port addr).heap.size (tupW w port addr) w') (fun e w' ⟨h1, _, h3⟩ => by
    obtain ⟨cs, h4, h5⟩ := h1 s hm
    exact ⟨cs, h4, h5, h3⟩))
  have HASK : Hid (∀ tx, askB bs tx ↔ (s.ty = 1 ∧ 32 ≤ bs.length) ∧ s.tx = tx) := Lib.hid (fun tx => ⟨fun ⟨s2, h2, h3, h4, h5⟩ => by obtain ⟨e1, e2⟩ := hm.same h2; exact ⟨⟨by omega, h4⟩, by rw [← e2, h5]⟩, fun ⟨⟨h1, h2⟩, h3⟩ => ⟨s, hm, h1, h2, h3⟩⟩)
  have hfit := hm.2.1
  obtain ⟨ty, tx, L⟩ := s
  have htl : tx.length = 12 := hfit.2.1
  have HTL := Lib.hid htl
  have HL := Lib.hid hl
  simp only at HASK
  clear hr hm hfit htl hl
  by_cases g1 : ty = 1
  case neg =>
    have g2 : ¬ (ty : Int) = 1 := by omega
    have HNO : Hid (∀ tx, ¬ askB bs tx) := Lib.hid (fun tx h => g1 ((HASK.out tx).1 h).1.1)
    clear HASK g1
    go_enter Try.func15, Try.ntmps15
    go_wp2_with (first
      | (go_at_call 7; ((with_reducible refine (Hid.out HRD).mono ?_); rintro e w1 ⟨cs, rfl, hcs, hb1⟩; have f1 := Lib.hid (HB.out.trans (hb1.mono HB.out.size)); have HLN := Lib.hid (hcs.len HTL.out); have HO : Hid (∀ v ∈ cs, v.oneCell' = true) := Lib.hid (by obtain ⟨A', c', h1, _⟩ := hcs; rw [h1]; exact sC_one _ _ _ _ _); have HC0 : Hid (cs[0]? = some (.int .u16 (ty : Int))) := Lib.hid (by obtain ⟨A', c', h1, _⟩ := hcs; rw [h1]; rfl); have HFI : Hid (0 + cs.length ≤ zStn.length) := Lib.hid (by rw [hcs.len HTL.out, zS_len]; omega); clear hcs hb1))
      | ((with_reducible refine wpList_st rfl 28 (.tmp 6) (.tmp 14) rfl w1.heap.size 0 cs rfl rfl 28 zStn (BlkV.new w1 _ _) HFI.out (rowStn HLN.out) HO.out ?_); intro w3 hB3 ho3; rw [splice_all _ _ (by rw [HLN.out]; rfl)] at hB3; have f3 := Lib.hid (f1.out.trans ((((Below.refl _ _).alloc (Nat.le_refl _) _).trans (ho3.below (Nat.le_refl _))).mono f1.out.size)); have q0 := (hB3.cell 0).trans HC0.out; clear hB3 ho3))
    go_ret2
    exact A12.no HNO.out f3.out
  case pos =>
    subst g1
    have HMID : Hid (∀ (w : World) (cs : List Value) (v : Value), cs = sC 1 tx v → cs.length = 14 ∧ ∀ i, i < (cells tx).length → cs[1 + i]? = (cells tx)[i]?) := Lib.hid (fun w cs v h => ⟨by rw [h, sC_len, HTL.out], by rw [h]; exact sC_mid 1 tx v HTL.out⟩)
    have H12 : Hid ((cells tx).length = 12) := Lib.hid (by rw [length_cells, HTL.out])
    have hfo : List.foldl (fun (cs : Array Value) (x : Value × Nat) => cs.setIfInBounds (1 + x.snd) x.fst) (zStn.set 0 (.int .u16 257)).toArray (cells tx).zipIdx = (sC 257 tx (.slice none 0 0)).toArray := fold12 tx HTL.out 257
    have h12 := H12.out
    have z14 := zS_len
    have z15 : (sC 257 tx (.slice none 0 0)).length = 14 := by rw [sC_len, HTL.out]
    have HMP : Hid (∀ W, Calls Try.prog 25 #[.agg #[.int .u32 (addr : Int), .int .u16 (port : Int)]] W fun e w' => ∃ A' c', e = .returned (.slice A' 8 c') ∧ RdS w' A' 8 c' (ansD port addr) ∧ Below W.heap.size W w') := Lib.hid (fun W => mapped_any port addr W hp ha)
    have hcase : (n : Int) < 32 ∨ ¬ (n : Int) < 32 := by omega
    clear hp ha
    rcases hcase with g3 | g3
    all_goals
      go_enter Try.func15, Try.ntmps15
      go_wp2_with (first
        | (go_at_call 7; ((with_reducible refine (Hid.out HRD).mono ?_); rintro e w1 ⟨cs, rfl, hcs, hb1⟩; have f1 := Lib.hid (HB.out.trans (hb1.mono HB.out.size)); have T1 := Lib.hid (T0.out.on hb1); have HLN := Lib.hid (hcs.len HTL.out); have HO : Hid (∀ v ∈ cs, v.oneCell' = true) := Lib.hid (by obtain ⟨A', c', h1, _⟩ := hcs; rw [h1]; exact sC_one _ _ _ _ _); have HC0 : Hid (cs[0]? = some (.int .u16 (1 : Int))) := Lib.hid (by obtain ⟨A', c', h1, _⟩ := hcs; rw [h1]; rfl); have HCM : Hid (∀ i, i < (cells tx).length → cs[1 + i]? = (cells tx)[i]?) := Lib.hid (by obtain ⟨A', c', h1, _⟩ := hcs; exact (HMID.out w cs _ h1).2); have HFI : Hid (0 + cs.length ≤ zStn.length) := Lib.hid (by rw [hcs.len HTL.out, zS_len]; omega); clear hcs hb1))
        | ((with_reducible refine wpList_st rfl 28 (.tmp 6) (.tmp 14) rfl w1.heap.size 0 cs rfl rfl 28 zStn (BlkV.new w1 _ _) HFI.out (rowStn HLN.out) HO.out ?_); intro w3 hB3 ho3; rw [splice_all _ _ (by rw [HLN.out]; rfl)] at hB3; have b13 := ((Below.refl w1.heap.size w1).alloc (Nat.le_refl _) (.cells zStn.toArray 28)).trans (ho3.below (Nat.le_refl _)); have f3 := Lib.hid (f1.out.trans (b13.mono f1.out.size)); have T3 := Lib.hid (T1.out.on b13); have V3 := Lib.hid hB3; have q0 := (hB3.cell 0).trans HC0.out; have t0 : w3.cell? ⟨w.heap.size, 0, none⟩ = some (.int .u32 (addr : Int)) := (T3.out.2.cell 0).trans rfl; have t1 : w3.cell? ⟨w.heap.size, 1, none⟩ = some (.int .u16 (port : Int)) := (T3.out.2.cell 1).trans rfl; clear hB3 ho3 b13)
        | (go_at_call 25; ((with_reducible refine (Hid.out HMP _).mono ?_); rintro e w4 ⟨A4, c4, rfl, hr4, hb4⟩; have f4 := Lib.hid (f3.out.trans (hb4.mono f3.out.size)); have V5 : Hid (BlkV (w4.alloc (.cells #[.int .u16 32, .slice A4 8 c4] 47)) w1.heap.size 28 cs) := Lib.hid ((V3.out.below hb4 V3.out.lt).alloc _); have R5 := Lib.hid (hr4.below ((Below.refl w4.heap.size w4).alloc (Nat.le_refl _) (.cells #[.int .u16 32, .slice A4 8 c4] 47))); have b45 : Below w.heap.size w ((w4.alloc (.cells #[.int .u16 32, .slice A4 8 c4] 47)).alloc (.cells #[.int .u16 32, .slice A4 8 c4] 47)) := (f4.out.alloc f4.out.size _).alloc (f4.out.alloc f4.out.size _).size _; have f5 := Lib.hid b45; have HST : Hid (StnRd ((w4.alloc (.cells #[.int .u16 32, .slice A4 8 c4] 47)).alloc (.cells #[.int .u16 32, .slice A4 8 c4] 47)) ((sC 257 tx (.slice none 0 0)).set 13 (.slice (some ⟨w4.heap.size + 1, 0, none⟩) 1 1)) (ansS tx port addr)) := Lib.hid (by have := ans_rd _ A4 c4 tx port addr HTL.out R5.out; rw [← size_alloc] at this; exact this); clear hr4 hb4 b45))
        | (with_reducible refine wpList_ld rfl 25 (.tmp 27) rfl w1.heap.size 1 rfl (cells tx) (V5.out.range 1 (cells tx) HCM.out) (row12 H12.out) ?_)
        | (go_at_call 13; ((with_reducible refine (answeredP _ _ tx port addr HTL.out HST.out).mono ?_); rintro e9 w6 ⟨A6, c6, rfl, hr6, hb6⟩; have r6 := Lib.hid hr6; have f6 := Lib.hid (f5.out.trans (hb6.mono f5.out.size)); clear hr6 hb6)))
    · go_ret2
      exact A12.no (fun tx h => by have := ((HASK.out tx).1 h).1.2; rw [HL.out] at this; omega) f6.out
    · go_ret2
      refine ⟨fun tx2 h2 => ?_, fun h => absurd ((HASK.out tx).2 ⟨⟨by trivial, by rw [HL.out]; omega⟩, rfl⟩) (h tx), f6.out⟩
      obtain rfl := ((HASK.out tx2).1 h2).2
      exact ⟨A6, c6, rfl, r6.out⟩
theorem answer_any (A : Option Addr) (n c : Nat) (bs : List UInt8) (port addr : Nat) (w : World) (hr : RdS w A n c bs) (hn : n ≤ 100000) (hp : port < 65536) (ha : addr < 4294967296) :
    Calls Try.prog 15 #[.slice A n c, .agg #[.int .u32 (addr : Int), .int .u16 (port : Int)]] w (A12 bs port addr w) := by
  by_cases hno : ∃ s, isMsg bs s
  · obtain ⟨s, hs⟩ := hno
    exact answer_msg A n c bs port addr w hr hn hp ha s hs
  · exact answer_none A n c bs port addr w hr hn (fun s hs => hno ⟨s, hs⟩)
/-- All that the law asks of package stun. -/
theorem tells12 : Tells12 (fun _ => True) where
  keep := fun _ _ _ _ => trivial
  read := fun A n c bs w _ hr hn => read_any A n c bs w hr (by omega)
  write := fun cs s w _ h hf h60 _ => write_any cs s w h hf (by omega)
  is := fun A n c bs w t _ hr _ ht => (is_any A n c bs w hr t ht).mono fun e w' h => ⟨h.1, by rw [← h.2]; exact Below.refl _ _⟩
  answer := fun A n c bs port addr w _ hr hn hp ha => answer_any A n c bs port addr w hr (by omega) hp ha
end Go.Proofs.Ythoiebjndchobaa
