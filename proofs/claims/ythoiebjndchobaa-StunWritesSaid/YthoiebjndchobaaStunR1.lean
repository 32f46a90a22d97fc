/- What the document's answer for layer 12 (tenailleref12) tells of a message: its bytes (Write). No statement is proved here. -/
import Derived.Test.YthoiebjndchobaaStunNum
import Derived.Test.YthoiebjndchobaaElts
namespace Go.Proofs.Ythoiebjndchobaa
open Go.RowKit
set_option linter.unusedVariables false

/-- A message's cells. -/
def sC (ty : Nat) (tx : List UInt8) (v : Value) : List Value := .int .u16 (ty : Int) :: (cells tx ++ [v])
theorem sC_len (ty : Nat) (tx : List UInt8) (v : Value) : (sC ty tx v).length = tx.length + 2 := by simp [sC, length_cells]
/-- Attributes that read. -/
def AvRd (w : World) (A : Option Addr) (L : List (Nat × List UInt8)) : Prop := ∃ rows : List (List Value), rows.length = L.length ∧ RdG 2 w A (rows.map id) ∧
  ∀ (i : Nat) (r : List Value) (x : Nat × List UInt8), rows[i]? = some r → L[i]? = some x → ∃ (D : Option Addr) (c : Nat), r = [.int .u16 (x.1 : Int), .slice D x.2.length c] ∧ RdS w D x.2.length c x.2
theorem AvRd.below {w w' : World} {A : Option Addr} {L : List (Nat × List UInt8)} (h : AvRd w A L) (hb : Below w.heap.size w w') : AvRd w' A L := by
  obtain ⟨rows, h1, h2, h3⟩ := h
  refine ⟨rows, h1, h2.below hb, fun i r x hi hx => ?_⟩
  obtain ⟨D, c, h4, h5⟩ := h3 i r x hi hx
  exact ⟨D, c, h4, h5.below hb⟩
theorem AvRd.nil (w : World) : AvRd w none [] := ⟨[], rfl, ⟨by simp, fun h => absurd h (by simp)⟩, by simp⟩
theorem AvRd.at_ {w : World} {A : Option Addr} {L : List (Nat × List UInt8)} (h : AvRd w A L) {k : Nat} (hk : k < L.length) : ∃ b off D c, A = some ⟨b, off, none⟩ ∧ (∀ wx, Below w.heap.size w wx → wx.cell? ⟨b, off + k * 2, none⟩ = some (.int .u16 (L[k].1 : Int)) ∧ wx.cell? ⟨b, off + k * 2 + 1, none⟩ = some (.slice D L[k].2.length c)) ∧ RdS w D L[k].2.length c L[k].2 := by
  obtain ⟨rows, h1, h2, h3⟩ := h
  have hkr : k < rows.length := by omega
  obtain ⟨b, off, rfl, hr⟩ := h2.at_ hkr
  obtain ⟨D, c, h4, h5⟩ := h3 k rows[k] L[k] (List.getElem?_eq_getElem hkr) (List.getElem?_eq_getElem hk)
  refine ⟨b, off, D, c, rfl, fun wx hb => ⟨?_, ?_⟩, h5⟩
  · have := hr wx hb 0 _ (by rw [id, h4]; rfl)
    simpa using this
  · exact hr wx hb 1 _ (by rw [id, h4]; rfl)
/-- A message that comes in. -/
def StnRd (w : World) (cs : List Value) (s : Stn) : Prop := ∃ (A : Option Addr) (c : Nat), cs = sC s.ty s.tx (.slice A s.av.length c) ∧ AvRd w A s.av
theorem StnRd.below {w w' : World} {cs : List Value} {s : Stn} (h : StnRd w cs s) (hb : Below w.heap.size w w') : StnRd w' cs s := by
  obtain ⟨A, c, h1, h2⟩ := h
  exact ⟨A, c, h1, h2.below hb⟩
theorem StnRd.len {w : World} {cs : List Value} {s : Stn} (h : StnRd w cs s) (hf : s.tx.length = 12) : cs.length = 14 := by
  obtain ⟨A, c, h1, _⟩ := h
  rw [h1, sC_len, hf]
theorem sC_at0 (ty : Nat) (tx : List UInt8) (v : Value) : (sC ty tx v)[0]? = some (.int .u16 (ty : Int)) := rfl
theorem sC_at13 (ty : Nat) (tx : List UInt8) (v : Value) (h : tx.length = 12) : (sC ty tx v)[13]? = some v := by
  unfold sC
  rw [List.getElem?_cons_succ, List.getElem?_append_right (by rw [length_cells]; omega), length_cells, h]
  rfl
theorem sC_atT (ty : Nat) (tx : List UInt8) (v : Value) {i : Nat} (h : i < tx.length) : (sC ty tx v)[1 + i]? = some (.int .u8 ((tx.getD i 0).toNat : Int)) := by
  unfold sC
  rw [Nat.add_comm, List.getElem?_cons_succ, List.getElem?_append_left (by rw [length_cells]; omega), cells_at h]
/-- The box of what came in, and what stays. -/
def BoxS (t : TypeId) (w : World) (cs : List Value) (wz : World) : Prop := Below w.heap.size w wz ∧ BlkV wz w.heap.size t cs
theorem BoxS.on {t : TypeId} {w : World} {cs : List Value} {wz wy : World} (h : BoxS t w cs wz) (hb : Below wz.heap.size wz wy) : BoxS t w cs wy := ⟨h.1.trans (hb.mono h.1.size), h.2.below hb h.2.lt⟩
theorem BoxS.drew {t : TypeId} {w : World} {cs : List Value} {wz : World} (h : BoxS t w cs wz) : BoxS t w cs wz.drew := ⟨h.1.drew, h.2⟩
theorem BoxS.new (t : TypeId) (w : World) (cs : List Value) : BoxS t w cs (w.alloc (.cells cs.toArray t)) := ⟨(Below.refl _ _).alloc (Nat.le_refl _) _, BlkV.new _ _ _⟩
theorem rd_one (w : World) (q : Nat) (h : q < 256) : RdS (w.alloc (.cells #[.int .u8 (q : Int)] 5)) (some ⟨w.heap.size, 0, none⟩) 1 1 [UInt8.ofNat q] := by
  have hB : Blk (w.alloc (.cells #[.int .u8 (q : Int)] 5)) w.heap.size 5 [UInt8.ofNat q] := Blk.new_at _ _ _ _ _ rfl (by simp [cells]; omega)
  exact hB.rd rfl (by omega) (by simp [maxLen])
/-- What Write tells. -/
def W12 (s : Stn) (w : World) (e : Ending) (w' : World) : Prop :=
  (mayS s → ∃ A' c' N, N = (wrS s).length ∧ e = .returned (.tuple #[.slice A' N c', .bool true]) ∧ RdS w' A' N c' (wrS s) ∧ Below w.heap.size w w') ∧ (¬ mayS s → e = .returned (.tuple #[.slice none 0 0, .bool false]) ∧ Below w.heap.size w w')
theorem W12.no {s : Stn} {w w' : World} (h : ¬ mayS s) (hb : Below w.heap.size w w') : W12 s w (.returned (.tuple #[.slice none 0 0, .bool false])) w' := ⟨fun h2 => absurd h2 h, fun _ => ⟨rfl, hb⟩⟩
theorem takeA_snoc {α : Type} {P : α → Prop} {L : List α} {m : Nat} (h : m < L.length) (h1 : ∀ c ∈ L.take m, P c) (h2 : P L[m]) : ∀ c ∈ L.take (m + 1), P c := by
  rw [List.take_add_one, List.getElem?_eq_getElem h]
  intro c hc
  rcases List.mem_append.1 hc with hc | hc
  · exact h1 c hc
  · simp at hc; subst hc; exact h2

set_option maxRecDepth 100000 in
set_option maxHeartbeats 2000000 in
theorem rwrite12_any (cs : List Value) (s : Stn) (w : World) (h : StnRd w cs s) (hf : s.fit) (hs : s.av.length ≤ 9223372036854775807) :
    Calls Try.prog 14 #[.agg cs.toArray] w (W12 s w) := by
  obtain ⟨A, c, h0, hA⟩ := h
  obtain ⟨ty, tx, L⟩ := s
  obtain ⟨f1, f2, f3⟩ := hf
  simp only at h0 hA f1 f2 f3 hs
  have b0 := BoxS.new 28 w cs
  have HB := Lib.hid b0
  obtain ⟨K, hK⟩ : ∃ K, K = L.length := ⟨_, rfl⟩
  rw [← hK] at h0 hs
  have c0 : ∀ wz, BoxS 28 w cs wz → wz.cell? ⟨w.heap.size, 0, none⟩ = some (.int .u16 (ty : Int)) := fun wz hz => (hz.2.cell 0).trans (by rw [h0]; rfl)
  have c13 : ∀ wz, BoxS 28 w cs wz → wz.cell? ⟨w.heap.size, 13, none⟩ = some (.slice A K c) := fun wz hz => (hz.2.cell 13).trans (by rw [h0]; exact sC_at13 _ _ _ f2)
  have cT : ∀ wz, BoxS 28 w cs wz → ∀ i, i < 12 → wz.cell? ⟨w.heap.size, 1 + i, none⟩ = some (.int .u8 ((tx.getD i 0).toNat : Int)) := fun wz hz i hi => (hz.2.cell (1 + i)).trans (by rw [h0]; exact sC_atT _ _ _ (by omega))
  have q0 := c0 _ b0
  have q13 := c13 _ b0
  have C0 := Lib.hid c0
  have C13 := Lib.hid c13
  have CT := Lib.hid cT
  have HA := Lib.hid hA
  have HK := Lib.hid hK
  have F2 := Lib.hid f2
  have F3 := Lib.hid f3
  clear c0 c13 cT b0 hA hK f2 f3 h0
  by_cases g1 : (16383 : Int) < (ty : Int)
  · have HNO : Hid (¬ mayS ⟨ty, tx, L⟩) := Lib.hid (fun h => by have := h.1; simp only at this; omega)
    go_enter Try.func14, Try.ntmps14
    go_wp2
    go_ret2
    exact W12.no HNO.out HB.out.1
  by_cases g2 : (16 : Int) < (K : Int)
  · have HNO : Hid (¬ mayS ⟨ty, tx, L⟩) := Lib.hid (fun h => by have := h.2.1; simp only [← HK.out] at this; omega)
    go_enter Try.func14, Try.ntmps14
    go_wp2
    go_ret2
    exact W12.no HNO.out HB.out.1
  go_enter Try.func14, Try.ntmps14
  go_wp2
  go_loopw [4, 5] (fun v i wr => ∃ (k M : Nat) (A' : Option Addr) (c' : Nat), k ≤ K ∧ M ≤ 260 * k ∧ M % 4 = 0 ∧ i = .int .i64 k ∧ v = .slice A' M c' ∧ Hid (BO w wr A' M c' (bodS (L.take k))) ∧ Hid (BoxS 28 w cs wr) ∧ Hid (∀ x ∈ L.take k, x.2.length ≤ 255)) (fun _ i _ => K - (intOf i).toNat)
  case atStart => exact ⟨0, 0, none, 0, by omega, by omega, by omega, rfl, rfl, Lib.hid ((BO.nil w).below HB.out.1), HB, Lib.hid (by simp)⟩
  case round =>
    obtain ⟨k, M, A1, c1, hk, hM, hM4, rfl, rfl, HL, HS, HQ⟩ := hrel
    have r13 := C13.out wr HS.out
    by_cases hkn : k < K
    · have hkl : k < L.length := by rw [← HK.out]; exact hkn
      obtain ⟨gb, go, D, d, rfl, hat, hrd⟩ := HA.out.at_ hkl
      have hx1 := F3.out _ (List.getElem_mem hkl)
      have HV := Lib.hid (bodS_snoc hkl)
      have HT := Lib.hid hat
      obtain ⟨z0, z1⟩ := hat wr HS.out.1
      have HR := Lib.hid (hrd.below HS.out.1)
      have HQ2 := Lib.hid (fun hy => takeA_snoc (P := fun x : Nat × List UInt8 => x.2.length ≤ 255) hkl HQ.out hy)
      have HNO : Hid (¬ L[k].2.length ≤ 255 → ¬ mayS ⟨ty, tx, L⟩) := Lib.hid (fun hn h => hn (h.2.2 _ (List.getElem_mem hkl)))
      obtain ⟨y, hy⟩ : ∃ y, y = L[k] := ⟨_, rfl⟩
      rw [← hy] at hx1 HV HT z0 z1 HR HQ2 HNO
      obtain ⟨x1, x2⟩ := y
      simp only at hx1 HV HT z0 z1 HR HQ2 HNO
      have HB1 := Lib.hid HL.out.2
      have HLR := Lib.hid HL.out.rd
      obtain ⟨T, hT⟩ : ∃ T, T = bodS (L.take k) := ⟨_, rfl⟩
      rw [← hT] at HL HLR HV
      obtain ⟨N, hN⟩ : ∃ N, N = x2.length := ⟨_, rfl⟩
      rw [← hN] at z1 HR HQ2 HNO HT
      have HN := Lib.hid hN
      clear hat hrd hy hT hN
      by_cases hbig : (255 : Int) < (N : Int)
      · have HN2 := Lib.hid (HNO.out (by omega))
        clear HNO
        go_wp2
        go_ret2
        exact W12.no HN2.out HS.out.1
      · have HS255 := Lib.hid (HQ2.out (by omega))
        have ew1 : IntKind.u64.wrap (x1 : Int) = (x1 : Int) := by rw [IntKind.wrap_u64]; omega
        have ew2 : IntKind.u64.wrap (N : Int) = (N : Int) := by rw [IntKind.wrap_u64]; omega
        clear HNO HQ2
        go_wp2_with (first
          | (go_at_call 23; ((with_reducible refine (rput_bo w _ A1 M c1 (M + 2) _ 2 x1 _ _ (by omega) (by omega) (by omega) HB1.out HLR.out (by omega) (by omega) (by omega) (by omega)).mono ?_); rintro e9 w2 ⟨A2, c2, rfl, hbo, hb⟩; have B2 := Lib.hid hbo; have B2B := Lib.hid hbo.2; have B2R := Lib.hid hbo.rd; have R2 := Lib.hid (HR.out.below hb); have S2 := Lib.hid (HS.out.on hb); clear hbo hb))
          | (go_at_call 23; ((with_reducible refine (rput_bo w _ A2 (M + 2) c2 (M + 4) _ 2 N _ _ (by omega) (by omega) (by omega) B2B.out B2R.out (by omega) (by omega) (by omega) (by omega)).mono ?_); rintro e9 w3 ⟨A3, c3, rfl, hbo, hb⟩; have B3 := Lib.hid hbo; have B3B := Lib.hid hbo.2; have R3 := Lib.hid (R2.out.below hb); have S3 := Lib.hid (S2.out.on hb); clear hbo hb))
          | (at_builtin; refine wpList_append_rd _ rfl (.tmp 48) (.tmp 49) rfl Try.underlying22 u8_infoR w.heap.size (.slice A3 (M + 4) c3) (M + 4) _ rfl B3.out.1 D N d x2 rfl R3.out (by omega) B3.out.2.size ?_; intro v4 w4 hown hg _; obtain ⟨A4, c4, hv⟩ := own_formN hown; subst hv; have B4 := Lib.hid (B3.out.more hown hg); have B4B := Lib.hid B4.out.2; have B4R := Lib.hid B4.out.rd; have S4 : Hid (BoxS 28 w cs w4) := Lib.hid ⟨B4.out.2, S3.out.2.grown hg (fun e => own_ne B3.out.1 S3.out.2 (by decide) e.symm)⟩; clear hown hg)
          | (go_at_call 24; ((with_reducible refine (rfill_bo w _ A4 (M + 4 + N) c4 (M + 4 + N + lacks (M + 4 + N) 4) _ 4 _ (by omega) rfl B4B.out B4R.out (by omega) (by omega) (by omega)).mono ?_); rintro e9 w5 ⟨A5, c5, rfl, hbo, hb⟩; have B5 := Lib.hid hbo; have S5 := Lib.hid (S4.out.on hb); clear hbo hb)))
        have hlk := lacks_lt (M + 4 + N) 4 (by omega)
        have hle := lacks_end (M + 4 + N) 4 (by omega)
        have hlq : lacks (M + 4 + N) 4 = lacks N 4 := by unfold lacks; omega
        obtain ⟨Z, hZ⟩ : ∃ Z, Z = lacks (M + 4 + N) 4 := ⟨_, rfl⟩
        rw [← hZ] at hlk hle B5 hlq ⊢
        have HZ := Lib.hid hlq
        clear hZ hlq
        go_roundw
        case rel => exact ⟨k + 1, M + 4 + N + Z, A5, c5, by omega, by omega, by omega, by go_num, rfl, Lib.hid (by rw [HV.out, show T ++ attB (x1, x2) = T ++ beb 2 x1 ++ beb 2 N ++ x2 ++ List.replicate Z 0 by simp only [attB, ← HN.out, ← HZ.out, ← List.append_assoc]]; exact B5.out), S5, HS255⟩
        case measure => simp [intOf]; omega
    · obtain rfl : K = k := by omega
      rw [show L.take K = L by rw [HK.out, List.take_length]] at HL HQ
      have HMAY : Hid (mayS ⟨ty, tx, L⟩) := Lib.hid ⟨by simp only; omega, by simp only [← HK.out]; omega, HQ.out⟩
      obtain ⟨T, hT⟩ : ∃ T, T = bodS L := ⟨_, rfl⟩
      rw [← hT] at HL
      have HT := Lib.hid hT
      have hM9 : M ≤ 5000 := by omega
      have HLR := Lib.hid HL.out.rd
      have r0 := C0.out wr HS.out
      have ew1 : IntKind.u64.wrap (ty : Int) = (ty : Int) := by rw [IntKind.wrap_u64]; omega
      have ew2 : IntKind.u64.wrap (M : Int) = (M : Int) := by rw [IntKind.wrap_u64]; omega
      clear hT hk hkn hM hM4 HQ HL
      obtain ⟨wo, rfl⟩ : ∃ wo : World, wo = wr := ⟨_, rfl⟩
      have HB1 : Hid (Below wo.heap.size wo wo) := Lib.hid (Below.refl _ _)
      go_wp2_with (first
        | (go_at_call 23; ((with_reducible refine (rput_bo wo _ none 0 0 2 [] 2 ty _ _ (by omega) (by omega) (by omega) HB1.out (RdS.nil _) (by omega) (by omega) (by omega) (by omega)).mono ?_); rintro e9 w2 ⟨A2, c2, rfl, hbo, hb⟩; have B2 := Lib.hid hbo; have B2B := Lib.hid hbo.2; have B2R := Lib.hid hbo.rd; clear hbo hb))
        | (go_at_call 23; ((with_reducible refine (rput_bo wo _ A2 2 c2 4 _ 2 M _ _ (by omega) (by omega) (by omega) B2B.out B2R.out (by omega) (by omega) (by omega) (by omega)).mono ?_); rintro e9 w3 ⟨A3, c3, rfl, hbo, hb⟩; have B3 := Lib.hid hbo; have B3B := Lib.hid hbo.2; have B3R := Lib.hid hbo.rd; clear hbo hb))
        | (go_at_call 23; ((with_reducible refine (rput_bo wo _ A3 4 c3 8 _ 4 554869826 _ _ (by omega) (by omega) (by omega) B3B.out B3R.out (by omega) (by omega) (by omega) (by omega)).mono ?_); rintro e9 w4 ⟨A4, c4, rfl, hbo, hb⟩; have B4 := Lib.hid hbo; clear hbo hb)))
      obtain ⟨T2, hT2⟩ : ∃ T2, T2 = [] ++ beb 2 ty ++ beb 2 M ++ beb 4 554869826 := ⟨_, rfl⟩
      rw [← hT2] at B4
      have HT2 := Lib.hid hT2
      clear hT2
      go_loopw [7, 8] (fun v i wx => ∃ (j : Nat) (A' : Option Addr) (c' : Nat), j ≤ 12 ∧ i = .int .i64 j ∧ v = .slice A' (8 + j) c' ∧ Hid (BO wo wx A' (8 + j) c' (T2 ++ tx.take j))) (fun _ i _ => 12 - (intOf i).toNat)
      case atStart => exact ⟨0, A4, c4, by omega, rfl, rfl, Lib.hid (by simpa using B4.out)⟩
      case round =>
        obtain ⟨j, A5, c5, hj, rfl, rfl, HJ⟩ := hrel
        by_cases hj12 : j < 12
        · have t1 := CT.out wr (HS.out.on HJ.out.2) j hj12
          have HV2 : Hid (tx.take (j + 1) = tx.take j ++ [UInt8.ofNat (tx.getD j 0).toNat]) := Lib.hid (by rw [take_snoc (by rw [F2.out]; exact hj12)]; simp)
          obtain ⟨q, hq⟩ : ∃ q, q = (tx.getD j 0).toNat := ⟨_, rfl⟩
          have hq256 : q < 256 := by rw [hq]; exact UInt8.toNat_lt _
          rw [← hq] at t1 HV2
          clear hq
          go_wp2_with (at_builtin; refine wpList_append_rd _ rfl (.tmp 67) (.tmp 72) rfl Try.underlying22 u8_infoR wo.heap.size (.slice A5 (8 + j) c5) (8 + j) _ rfl (HJ.out.1.alloc _) (some ⟨wr.heap.size, 0, none⟩) 1 1 [UInt8.ofNat q] rfl (rd_one wr q hq256) (by omega) (by have := HJ.out.2.size; simp; omega) ?_; intro v6 w6 hown hg _; obtain ⟨A6, c6, hv⟩ := own_formN hown; subst hv; have B6 := Lib.hid ((HJ.out.below ((Below.refl _ _).alloc (Nat.le_refl _) _)).more hown hg); clear hown hg)
          go_roundw
          case rel => exact ⟨j + 1, A6, c6, by omega, by go_num, rfl, Lib.hid (by rw [HV2.out, ← List.append_assoc]; exact B6.out)⟩
          case measure => simp [intOf]; omega
        · obtain rfl : j = 12 := by omega
          rw [show tx.take 12 = tx by rw [← F2.out, List.take_length]] at HJ
          have HL6 := Lib.hid (HLR.out.below HJ.out.2)
          clear hj hj12
          go_wp2_with (at_builtin; refine wpList_append_rd _ rfl (.tmp 74) (.tmp 75) rfl Try.underlying22 u8_infoR wo.heap.size (.slice A5 20 c5) 20 _ rfl HJ.out.1 A1 M c1 T rfl HL6.out (by omega) HJ.out.2.size ?_; intro v6 w6 hown hg _; obtain ⟨A6, c6, hv⟩ := own_formN hown; subst hv; have B6 := Lib.hid (HJ.out.more hown hg); clear hown hg)
          go_ret2
          have hw : wrS ⟨ty, tx, L⟩ = T2 ++ tx ++ T := by rw [HT2.out, HT.out, ← HLR.out.len, HT.out]; simp [wrS]
          refine ⟨fun _ => ⟨A6, c6, 20 + M, ?_, rfl, ?_, HS.out.1.trans (B6.out.2.mono HS.out.1.size)⟩, fun h => absurd HMAY.out h⟩
          · rw [hw]; exact B6.out.len.symm
          · rw [hw]; exact B6.out.rd
end Go.Proofs.Ythoiebjndchobaa
