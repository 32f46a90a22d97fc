/- What the document's answer for layer 12 (tenailleref12) tells of bytes: the answer to a request (Answer). No statement is proved here. -/
import Derived.Test.YthoiebjndchobaaStunR3
import Derived.Test.YthoiebjndchobaaStunR4
namespace Go.Proofs.Ythoiebjndchobaa
open Go.RowKit
set_option linter.unusedVariables false

/-- What Answer tells. -/
def A12 (bs : List UInt8) (port addr : Nat) (w : World) (e : Ending) (w' : World) : Prop :=
  (∀ tx, askB bs tx → ∃ A' c', e = .returned (.tuple #[.slice A' 32 c', .bool true]) ∧ RdS w' A' 32 c' (wrS (ansS tx port addr))) ∧ ((∀ tx, ¬ askB bs tx) → e = .returned (.tuple #[.slice none 0 0, .bool false])) ∧ Below w.heap.size w w'
theorem A12.no {bs : List UInt8} {port addr : Nat} {w w' : World} (h : ∀ tx, ¬ askB bs tx) (hb : Below w.heap.size w w') : A12 bs port addr w (.returned (.tuple #[.slice none 0 0, .bool false])) w' := ⟨fun tx ht => absurd ht (h tx), fun _ => rfl, hb⟩
theorem isMsg.same {bs : List UInt8} {s s2 : Stn} (h : isMsg bs s) (h2 : isMsg bs s2) : s2.ty = s.ty ∧ s2.tx = s.tx := by
  obtain ⟨a1, _, a3⟩ := h.head
  obtain ⟨b1, _, b3⟩ := h2.head
  exact ⟨by rw [← a1, ← b1], by rw [← a3, ← b3]⟩
set_option maxRecDepth 100000 in
set_option maxHeartbeats 2000000 in
theorem ranswer12_none (A : Option Addr) (n c : Nat) (bs : List UInt8) (port addr : Nat) (w : World) (hr : RdS w A n c bs) (hn : n ≤ 100000) (hno : ∀ s, ¬ isMsg bs s) :
    Calls Try.prog 16 #[.slice A n c, .agg #[.int .u32 (addr : Int), .int .u16 (port : Int)]] w (A12 bs port addr w) := by
  have hz := zeroStn
  have HNO : Hid (∀ tx, ¬ askB bs tx) := Lib.hid (fun tx ⟨s, hs, _⟩ => hno s hs)
  have hb0 : Below w.heap.size w (w.alloc (.cells #[.int .u32 (addr : Int), .int .u16 (port : Int)] 43)) := (Below.refl _ _).alloc (Nat.le_refl _) _
  have HB := Lib.hid hb0
  obtain ⟨q, hq, hq0⟩ : ∃ q : Int, q = (if bs.length < 20 then 2 else 3) ∧ ¬ q = 0 := ⟨_, rfl, by split <;> omega⟩
  have HRD := Lib.hid ((rread12_any A n c bs _ (hr.below hb0) hn).mono (R' := fun e w' => ∃ cs, e = .returned (.tuple #[.agg cs.toArray, .int .i64 q]) ∧ StnRd w' cs ⟨0, Z12, []⟩ ∧ Below (w.alloc (.cells #[.int .u32 (addr : Int), .int .u16 (port : Int)] 43)).heap.size (w.alloc (.cells #[.int .u32 (addr : Int), .int .u16 (port : Int)] 43)) w') (fun e w' ⟨_, h2, h3⟩ => by
    obtain ⟨cs, h4, h5⟩ := h2 hno
    exact ⟨cs, by rw [hq]; exact h4, h5, h3⟩))
  clear hr hno hb0 hq
  go_enter Try.func16, Try.ntmps16
  go_wp2_with (first
    | (go_at_call 8; ((with_reducible refine (Hid.out HRD).mono ?_); rintro e w1 ⟨cs, rfl, hcs, hb1⟩; have f1 := Lib.hid (HB.out.trans (hb1.mono HB.out.size)); have HL := Lib.hid (hcs.len rfl); have HO : Hid (∀ v ∈ cs, v.oneCell' = true) := Lib.hid (by obtain ⟨A', c', h1, _⟩ := hcs; rw [h1]; exact sC_one _ _ _ _ _); have HFI : Hid (0 + cs.length ≤ zStn.length) := Lib.hid (by rw [hcs.len rfl, zS_len]; omega); clear hcs hb1))
    | ((with_reducible refine wpList_st rfl 28 (.tmp 6) (.tmp 12) rfl w1.heap.size 0 cs rfl rfl 28 zStn (BlkV.new w1 _ _) HFI.out (rowStn HL.out) HO.out ?_); intro w3 hB3 ho3; have f3 := Lib.hid (f1.out.trans ((((Below.refl _ _).alloc (Nat.le_refl _) _).trans (ho3.below (Nat.le_refl _))).mono f1.out.size)); clear hB3 ho3))
  go_ret2
  exact A12.no HNO.out f3.out
/-- The attribute of an answer, alone. -/
theorem av_one (w : World) (T D : Option Addr) (d x1 N : Nat) (x2 : List UInt8) (hN : x2.length = N) (h : RdS w D N d x2) : AvRd (w.alloc (.cells #[.int .u16 (x1 : Int), .slice D N d] 47)) (some ⟨w.heap.size, 0, none⟩) [(x1, x2)] := by
  subst hN
  have hB : BlkV (w.alloc (.cells #[.int .u16 (x1 : Int), .slice D x2.length d] 47)) w.heap.size 47 [.int .u16 (x1 : Int), .slice D x2.length d] := BlkV.new _ _ _
  refine ⟨[[.int .u16 (x1 : Int), .slice D x2.length d]], rfl, ⟨by simp, fun _ => ⟨w.heap.size, 0, rfl, hB.lt, fun j hj e he => ?_⟩⟩, fun i r x hi hx => ?_⟩
  · have hj0 : j = 0 := by simp at hj; omega
    subst hj0
    rw [hB.cell]
    simp
  · have hi0 : i = 0 := by
      have := (List.getElem?_eq_some_iff.1 hi).1
      simp at this; omega
    subst hi0
    simp at hi hx
    subst hi; subst hx
    exact ⟨D, d, rfl, h.below ((Below.refl _ _).alloc (Nat.le_refl _) _)⟩
theorem rd_zo (w : World) : RdS (w.alloc (.cells #[.int .u8 0, .int .u8 1] 5)) (some ⟨w.heap.size, 0, none⟩) 2 2 [0, 1] := by
  have hB : Blk (w.alloc (.cells #[.int .u8 0, .int .u8 1] 5)) w.heap.size 5 [0, 1] := Blk.new_at _ _ _ _ _ rfl rfl
  exact hB.rd rfl (by omega) (by simp [maxLen])
theorem ans_rd (w : World) (D : Option Addr) (d : Nat) (tx : List UInt8) (port addr : Nat) (ht : tx.length = 12) (h : RdS w D 8 d (ansD port addr)) : StnRd (w.alloc (.cells #[.int .u16 32, .slice D 8 d] 47)) ((sC 257 tx (.slice none 0 0)).set 13 (.slice (some ⟨w.heap.size, 0, none⟩) 1 1)) (ansS tx port addr) :=
  ⟨some ⟨w.heap.size, 0, none⟩, 1, sC_set13 257 tx _ _ ht, av_one w none D d 32 8 (ansD port addr) (ansD_len port addr) h⟩
theorem answered (w W : World) (cs : List Value) (tx : List UInt8) (port addr : Nat) (ht : tx.length = 12) (h : StnRd W cs (ansS tx port addr)) :
    Calls Try.prog 14 #[.agg cs.toArray] W fun e w' => ∃ A' c', e = .returned (.tuple #[.slice A' 32 c', .bool true]) ∧ RdS w' A' 32 c' (wrS (ansS tx port addr)) ∧ Below W.heap.size W w' := by
  refine (rwrite12_any cs _ W h (ansS_fit tx port addr ht) (by simp [ansS])).mono ?_
  rintro e w' ⟨h1, _⟩
  obtain ⟨A', c', N', hN', rfl, h2, h3⟩ := h1 (ansS_may tx port addr)
  rw [ansS_len tx port addr ht] at hN'
  subst hN'
  exact ⟨A', c', rfl, h2, h3⟩
theorem list12 {tx : List UInt8} (h : tx.length = 12) : ∃ a b c d e f g i j k l m, tx = [a, b, c, d, e, f, g, i, j, k, l, m] := by
  match tx, h with
  | [a, b, c, d, e, f, g, i, j, k, l, m], _ => exact ⟨a, b, c, d, e, f, g, i, j, k, l, m, rfl⟩
theorem fold12 (tx : List UInt8) (h : tx.length = 12) (q : Int) : List.foldl (fun (cs : Array Value) (x : Value × Nat) => cs.setIfInBounds (1 + x.snd) x.fst) (zStn.set 0 (.int .u16 q)).toArray (cells tx).zipIdx = (.int .u16 q :: (cells tx ++ [.slice none 0 0])).toArray := by
  obtain ⟨a, b, c, d, e, f, g, i, j, k, l, m, rfl⟩ := list12 h
  simp [cells, zStn, sC, Z12, List.zipIdx]
set_option maxRecDepth 100000 in
set_option maxHeartbeats 2000000 in
theorem ranswer12_msg (A : Option Addr) (n c : Nat) (bs : List UInt8) (port addr : Nat) (w : World) (hr : RdS w A n c bs) (hn : n ≤ 100000) (hp : port < 65536) (ha : addr < 4294967296) (s : Stn) (hm : isMsg bs s) :
    Calls Try.prog 16 #[.slice A n c, .agg #[.int .u32 (addr : Int), .int .u16 (port : Int)]] w (A12 bs port addr w) := by
  have hz := zeroStn
  have hl := hr.len
  have hb0 : Below w.heap.size w (w.alloc (.cells #[.int .u32 (addr : Int), .int .u16 (port : Int)] 43)) := (Below.refl _ _).alloc (Nat.le_refl _) _
  have HB := Lib.hid hb0
  have T0 : Hid (BoxS 43 w [.int .u32 (addr : Int), .int .u16 (port : Int)] (w.alloc (.cells #[.int .u32 (addr : Int), .int .u16 (port : Int)] 43))) := Lib.hid (BoxS.new _ w _)
  have HRD := Lib.hid ((rread12_any A n c bs _ (hr.below hb0) hn).mono (R' := fun e w' => ∃ cs, e = .returned (.tuple #[.agg cs.toArray, .int .i64 0]) ∧ StnRd w' cs s ∧ Below (w.alloc (.cells #[.int .u32 (addr : Int), .int .u16 (port : Int)] 43)).heap.size (w.alloc (.cells #[.int .u32 (addr : Int), .int .u16 (port : Int)] 43)) w') (fun e w' ⟨h1, _, h3⟩ => by
    obtain ⟨cs, h4, h5⟩ := h1 s hm
    exact ⟨cs, h4, h5, h3⟩))
  have HASK : Hid (∀ tx, askB bs tx ↔ (s.ty = 1 ∧ 32 ≤ bs.length) ∧ s.tx = tx) := Lib.hid (fun tx => ⟨fun ⟨s2, h2, h3, h4, h5⟩ => by obtain ⟨e1, e2⟩ := hm.same h2; exact ⟨⟨by omega, h4⟩, by rw [← e2, h5]⟩, fun ⟨⟨h1, h2⟩, h3⟩ => ⟨s, hm, h1, h2, h3⟩⟩)
  have hfit := hm.2.1
  obtain ⟨ty, tx, L⟩ := s
  have htl : tx.length = 12 := hfit.2.1
  have HTL := Lib.hid htl
  have HL := Lib.hid hl
  simp only at HASK
  clear hr hb0 hm hfit htl
  by_cases g1 : ty = 1
  case neg =>
    have g2 : ¬ (ty : Int) = 1 := by omega
    have HNO : Hid (∀ tx, ¬ askB bs tx) := Lib.hid (fun tx h => g1 ((HASK.out tx).1 h).1.1)
    clear HASK g1
    go_enter Try.func16, Try.ntmps16
    go_wp2_with (first
      | (go_at_call 8; ((with_reducible refine (Hid.out HRD).mono ?_); rintro e w1 ⟨cs, rfl, hcs, hb1⟩; have f1 := Lib.hid (HB.out.trans (hb1.mono HB.out.size)); have HLN := Lib.hid (hcs.len HTL.out); have HO : Hid (∀ v ∈ cs, v.oneCell' = true) := Lib.hid (by obtain ⟨A', c', h1, _⟩ := hcs; rw [h1]; exact sC_one _ _ _ _ _); have HC0 : Hid (cs[0]? = some (.int .u16 (ty : Int))) := Lib.hid (by obtain ⟨A', c', h1, _⟩ := hcs; rw [h1]; rfl); have HFI : Hid (0 + cs.length ≤ zStn.length) := Lib.hid (by rw [hcs.len HTL.out, zS_len]; omega); clear hcs hb1))
      | ((with_reducible refine wpList_st rfl 28 (.tmp 6) (.tmp 12) rfl w1.heap.size 0 cs rfl rfl 28 zStn (BlkV.new w1 _ _) HFI.out (rowStn HLN.out) HO.out ?_); intro w3 hB3 ho3; rw [splice_all _ _ (by rw [HLN.out]; rfl)] at hB3; have f3 := Lib.hid (f1.out.trans ((((Below.refl _ _).alloc (Nat.le_refl _) _).trans (ho3.below (Nat.le_refl _))).mono f1.out.size)); have q0 := (hB3.cell 0).trans HC0.out; clear hB3 ho3))
    go_ret2
    exact A12.no HNO.out f3.out
  case pos =>
    subst g1
    by_cases g3 : (n : Int) < 32
    · have HNO : Hid (∀ tx, ¬ askB bs tx) := Lib.hid (fun tx h => by have := ((HASK.out tx).1 h).1.2; rw [HL.out] at this; omega)
      clear HASK
      go_enter Try.func16, Try.ntmps16
      go_wp2_with (first
        | (go_at_call 8; ((with_reducible refine (Hid.out HRD).mono ?_); rintro e w1 ⟨cs, rfl, hcs, hb1⟩; have f1 := Lib.hid (HB.out.trans (hb1.mono HB.out.size)); have HLN := Lib.hid (hcs.len HTL.out); have HO : Hid (∀ v ∈ cs, v.oneCell' = true) := Lib.hid (by obtain ⟨A', c', h1, _⟩ := hcs; rw [h1]; exact sC_one _ _ _ _ _); have HC0 : Hid (cs[0]? = some (.int .u16 (1 : Int))) := Lib.hid (by obtain ⟨A', c', h1, _⟩ := hcs; rw [h1]; rfl); have HFI : Hid (0 + cs.length ≤ zStn.length) := Lib.hid (by rw [hcs.len HTL.out, zS_len]; omega); clear hcs hb1))
        | ((with_reducible refine wpList_st rfl 28 (.tmp 6) (.tmp 12) rfl w1.heap.size 0 cs rfl rfl 28 zStn (BlkV.new w1 _ _) HFI.out (rowStn HLN.out) HO.out ?_); intro w3 hB3 ho3; rw [splice_all _ _ (by rw [HLN.out]; rfl)] at hB3; have f3 := Lib.hid (f1.out.trans ((((Below.refl _ _).alloc (Nat.le_refl _) _).trans (ho3.below (Nat.le_refl _))).mono f1.out.size)); have q0 := (hB3.cell 0).trans HC0.out; clear hB3 ho3))
      go_ret2
      exact A12.no HNO.out f3.out
    · have hp2 : Hid True := Lib.hid trivial
      clear hp2
      have hp2 : bits BinOp.xor IntKind.u16 (port : Int) 8466 = ((port ^^^ 8466 : Nat) : Int) := by have h := u16_xor_nat port 8466 hp (by omega); rwa [Int.cast_ofNat_Int] at h
      have ha2 : bits BinOp.xor IntKind.u32 (addr : Int) 554869826 = ((addr ^^^ 554869826 : Nat) : Int) := by have h := u32_xor_nat addr 554869826 ha (by omega); rwa [Int.cast_ofNat_Int] at h
      obtain ⟨P, hP⟩ : ∃ P, P = port ^^^ 8466 := ⟨_, rfl⟩
      obtain ⟨Q, hQ⟩ : ∃ Q, Q = addr ^^^ 554869826 := ⟨_, rfl⟩
      have lP : P < 65536 := by rw [hP]; exact Nat.xor_lt_two_pow (n := 16) hp (by omega)
      have lQ : Q < 4294967296 := by rw [hQ]; exact Nat.xor_lt_two_pow (n := 32) ha (by omega)
      rw [← hP] at hp2
      rw [← hQ] at ha2
      have HP1 : Hid (∀ (w0 W : World) (A : Option Addr) (c : Nat), Below w0.heap.size w0 W → RdS W A 2 c [0, 1] → Calls Try.prog 23 #[.slice A 2 c, .int .i64 2, .int .u64 (P : Int)] W fun e w' => ∃ A' c', e = .returned (.slice A' 4 c') ∧ BO w0 w' A' 4 c' ([0, 1] ++ beb 2 P) ∧ Below W.heap.size W w') := Lib.hid (fun w0 W A c hb hr => rput_bo w0 W A 2 c 4 [0, 1] 2 P 2 P rfl rfl rfl hb hr (by decide) (by decide) (by omega) (by decide))
      have HP2 : Hid (∀ (w0 W : World) (A : Option Addr) (c : Nat), Below w0.heap.size w0 W → RdS W A 4 c ([0, 1] ++ beb 2 P) → Calls Try.prog 23 #[.slice A 4 c, .int .i64 4, .int .u64 (Q : Int)] W fun e w' => ∃ A' c', e = .returned (.slice A' 8 c') ∧ BO w0 w' A' 8 c' ([0, 1] ++ beb 2 P ++ beb 4 Q) ∧ Below W.heap.size W w') := Lib.hid (fun w0 W A c hb hr => rput_bo w0 W A 4 c 8 _ 4 Q 4 Q rfl rfl rfl hb hr (by decide) (by decide) (by omega) (by decide))
      have HD : Hid (ansD port addr = [0, 1] ++ beb 2 P ++ beb 4 Q) := Lib.hid (by rw [hP, hQ]; rfl)
      have eP : IntKind.u64.wrap (P : Int) = (P : Int) := by rw [IntKind.wrap_u64]; omega
      have eQ : IntKind.u64.wrap (Q : Int) = (Q : Int) := by rw [IntKind.wrap_u64]; omega
      have HMID : Hid (∀ (w : World) (cs : List Value) (v : Value), cs = sC 1 tx v → cs.length = 14 ∧ ∀ i, i < (cells tx).length → cs[1 + i]? = (cells tx)[i]?) := Lib.hid (fun w cs v h => ⟨by rw [h, sC_len, HTL.out], by rw [h]; exact sC_mid 1 tx v HTL.out⟩)
      have H12 : Hid ((cells tx).length = 12) := Lib.hid (by rw [length_cells, HTL.out])
      clear hP hQ hp ha
      go_enter Try.func16, Try.ntmps16
      go_upto_region 6 with (first
        | (go_at_call 8; ((with_reducible refine (Hid.out HRD).mono ?_); rintro e w1 ⟨cs, rfl, hcs, hb1⟩; have f1 := Lib.hid (HB.out.trans (hb1.mono HB.out.size)); have T1 := Lib.hid (T0.out.on hb1); have HLN := Lib.hid (hcs.len HTL.out); have HO : Hid (∀ v ∈ cs, v.oneCell' = true) := Lib.hid (by obtain ⟨A', c', h1, _⟩ := hcs; rw [h1]; exact sC_one _ _ _ _ _); have HC0 : Hid (cs[0]? = some (.int .u16 (1 : Int))) := Lib.hid (by obtain ⟨A', c', h1, _⟩ := hcs; rw [h1]; rfl); have HCM : Hid (∀ i, i < (cells tx).length → cs[1 + i]? = (cells tx)[i]?) := Lib.hid (by obtain ⟨A', c', h1, _⟩ := hcs; exact (HMID.out w cs _ h1).2); have HFI : Hid (0 + cs.length ≤ zStn.length) := Lib.hid (by rw [hcs.len HTL.out, zS_len]; omega); clear hcs hb1))
        | ((with_reducible refine wpList_st rfl 28 (.tmp 6) (.tmp 12) rfl w1.heap.size 0 cs rfl rfl 28 zStn (BlkV.new w1 _ _) HFI.out (rowStn HLN.out) HO.out ?_); intro w3 hB3 ho3; rw [splice_all _ _ (by rw [HLN.out]; rfl)] at hB3; have b13 := ((Below.refl w1.heap.size w1).alloc (Nat.le_refl _) (.cells zStn.toArray 28)).trans (ho3.below (Nat.le_refl _)); have f3 := Lib.hid (f1.out.trans (b13.mono f1.out.size)); have T3 := Lib.hid (T1.out.on b13); have V3 := Lib.hid hB3; have q0 := (hB3.cell 0).trans HC0.out; have t1 : (w3.alloc (.cells #[.int .u8 0, .int .u8 1] 5)).cell? ⟨w.heap.size, 1, none⟩ = some (.int .u16 (port : Int)) := ((T3.out.on ((Below.refl _ _).alloc (Nat.le_refl _) _)).2.cell 1).trans rfl; clear hB3 ho3 b13)
        | (go_at_call 23; ((with_reducible refine (Hid.out HP1 w3 _ _ _ ((Below.refl _ _).alloc (Nat.le_refl _) _) (rd_zo w3)).mono ?_); rintro e9 w4 ⟨A4, c4, rfl, hbo, hb⟩; have B4 := Lib.hid hbo; have B4B := Lib.hid hbo.2; have B4R := Lib.hid hbo.rd; have t0 : w4.cell? ⟨w.heap.size, 0, none⟩ = some (.int .u32 (addr : Int)) := ((T3.out.on hbo.2).2.cell 0).trans rfl; clear hbo hb)))
      clear hp2 eP t1
      go_upto_region 7 with (go_at_call 23; ((with_reducible refine (Hid.out HP2 w3 _ _ _ B4B.out B4R.out).mono ?_); rintro e9 w5 ⟨A5, c5, rfl, hbo, hb⟩; have B5 := Lib.hid hbo; have V5 := Lib.hid (V3.out.below hbo.2 V3.out.lt); have f5 := Lib.hid (f3.out.trans (hbo.2.mono f3.out.size)); have HST : Hid (StnRd (w5.alloc (.cells #[.int .u16 32, .slice A5 8 c5] 47)) ((sC 257 tx (.slice none 0 0)).set 13 (.slice (some ⟨w5.heap.size, 0, none⟩) 1 1)) (ansS tx port addr)) := Lib.hid (ans_rd w5 A5 c5 tx port addr HTL.out (by rw [HD.out]; exact hbo.rd)); clear hbo hb))
      clear ha2 eQ t0
      have hfo : List.foldl (fun (cs : Array Value) (x : Value × Nat) => cs.setIfInBounds (1 + x.snd) x.fst) (zStn.set 0 (.int .u16 257)).toArray (cells tx).zipIdx = (sC 257 tx (.slice none 0 0)).toArray := fold12 tx HTL.out 257
      have h12 := H12.out
      have z14 := zS_len
      have z15 : (sC 257 tx (.slice none 0 0)).length = 14 := by rw [sC_len, HTL.out]
      go_wp2_with (first
        | (with_reducible refine wpList_ld rfl 25 (.tmp 39) rfl w1.heap.size 1 rfl (cells tx) (V5.out.range 1 (cells tx) HCM.out) (row12 H12.out) ?_)
        | (go_at_call 14; ((with_reducible refine (answered w _ _ tx port addr HTL.out HST.out).mono ?_); rintro e9 w6 ⟨A6, c6, rfl, hr6, hb6⟩; have r6 := Lib.hid hr6; have f6 := Lib.hid (f5.out.trans ((((Below.refl w5.heap.size w5).alloc (Nat.le_refl _) (.cells #[.int .u16 32, .slice A5 8 c5] 47)).trans (hb6.mono ((Below.refl w5.heap.size w5).alloc (Nat.le_refl _) (.cells #[.int .u16 32, .slice A5 8 c5] 47)).size)).mono f5.out.size)); clear hr6 hb6)))
      go_ret2
      refine ⟨fun tx2 h2 => ?_, fun h => absurd ((HASK.out tx).2 ⟨⟨by trivial, by rw [HL.out]; omega⟩, rfl⟩) (h tx), f6.out⟩
      obtain rfl := ((HASK.out tx2).1 h2).2
      exact ⟨A6, c6, rfl, r6.out⟩
/-- What is answered to any bytes. -/
theorem ranswer12_any (A : Option Addr) (n c : Nat) (bs : List UInt8) (port addr : Nat) (w : World) (hr : RdS w A n c bs) (hn : n ≤ 100000) (hp : port < 65536) (ha : addr < 4294967296) :
    Calls Try.prog 16 #[.slice A n c, .agg #[.int .u32 (addr : Int), .int .u16 (port : Int)]] w (A12 bs port addr w) := by
  by_cases hno : ∃ s, isMsg bs s
  · obtain ⟨s, hs⟩ := hno
    exact ranswer12_msg A n c bs port addr w hr hn hp ha s hs
  · exact ranswer12_none A n c bs port addr w hr hn (fun s hs => hno ⟨s, hs⟩)
end Go.Proofs.Ythoiebjndchobaa
