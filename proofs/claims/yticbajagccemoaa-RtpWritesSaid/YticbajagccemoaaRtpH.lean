/- Contracts of package rtp: Head. No statement is proved here. -/
import Derived.Test.YticbajagccemoaaRtpS1
import Derived.Test.YticbajagccemoaaRtpR7
namespace Go.Proofs.Yticbajagccemoaa
open Go.RowKit
set_option linter.unusedVariables false

/-- How many bytes of a packet are ahead of its payload. -/
def hdN (p : Pkt) : Nat := 12 + 4 * p.ot.length + (if p.x then 4 + p.xt.length else 0)

set_option maxRecDepth 100000 in
theorem size_any (cs : List Value) (p : Pkt) (w : World) (h : PkRd w cs p) (h1 : p.ot.length ≤ 1000000) (h2 : p.xt.length ≤ 1000000) :
    Calls Try.prog 18 #[.agg cs.toArray] w fun e w' => e = .returned (.int .i64 (hdN p : Nat)) ∧ Below w.heap.size w w' := by
  obtain ⟨A1, a1, B1, b1, D1, d1, e1, u1, x1, y1⟩ := h
  obtain ⟨m, ty, sq, st, so, U, x, pf, X, Y, pd⟩ := p
  simp only at h1 h2 e1 ⊢
  have HW : Hid (Below w.heap.size w (w.alloc (.cells cs.toArray 28))) := Lib.hid ((Below.refl _ _).alloc (Nat.le_refl _) _)
  have hB := BlkV.new w 28 cs
  have k5 : (w.alloc (.cells cs.toArray 28)).cell? ⟨w.heap.size, 5, none⟩ = some (.slice A1 U.length a1) := by rw [hB.cell, e1]; rfl
  have k6 : (w.alloc (.cells cs.toArray 28)).cell? ⟨w.heap.size, 6, none⟩ = some (.bool x) := by rw [hB.cell, e1]; rfl
  have k8 : (w.alloc (.cells cs.toArray 28)).cell? ⟨w.heap.size, 8, none⟩ = some (.slice B1 X.length b1) := by rw [hB.cell, e1]; rfl
  obtain ⟨K, hK⟩ : ∃ K, K = U.length := ⟨_, rfl⟩
  obtain ⟨M, hM⟩ : ∃ M, M = X.length := ⟨_, rfl⟩
  rw [← hK] at h1 k5
  rw [← hM] at h2 k8
  cases x
  · have e : hdN ⟨m, ty, sq, st, so, U, false, pf, X, Y, pd⟩ = 12 + 4 * K := by simp [hdN, hK]
    rw [e]
    have e4 := Lib.hid (show (12 + 4 * (K : Int)) = ((12 + 4 * K : Nat) : Int) by omega)
    clear e1 hB u1 x1 y1 hK hM e
    go_enter Try.func18, Try.ntmps18
    go_wp2
    go_ret
    refine ⟨?_, HW.out⟩
    rw [← e4.out]
    rfl
  · have e : hdN ⟨m, ty, sq, st, so, U, true, pf, X, Y, pd⟩ = 12 + 4 * K + (4 + M) := by simp [hdN, hK, hM]
    rw [e]
    have e4 := Lib.hid (show (12 + 4 * (K : Int) + (4 + (M : Int))) = ((12 + 4 * K + (4 + M) : Nat) : Int) by omega)
    clear e1 hB u1 x1 y1 hK hM e
    go_enter Try.func18, Try.ntmps18
    go_wp2
    go_ret
    refine ⟨?_, HW.out⟩
    rw [← e4.out]
    rfl

theorem why_parts (bs : List UInt8) (h : whyR bs = 0) : 12 ≤ bs.length ∧ bs.length ≤ 1200 ∧ bt bs 0 / 64 = 2 ∧ at1 bs ≤ bs.length ∧ at0 bs ≤ bs.length ∧ (exB bs = true → wordsN bs ≤ 255) ∧ padN bs ≤ bs.length - at1 bs ∧ (pdB bs = true → 1 ≤ bt bs (bs.length - 1)) := by
  unfold whyR at h
  by_cases c1 : 1200 < bs.length
  · simp [c1] at h
  by_cases c2 : bs.length < 12
  · simp [c1, c2] at h
  by_cases c3 : bt bs 0 / 64 ≠ 2
  · simp [c1, c2, c3] at h
  by_cases c4 : bs.length < at0 bs
  · simp [c1, c2, c3, c4] at h
  by_cases c5 : exB bs = true ∧ bs.length < at0 bs + 4
  · simp [c1, c2, c3, c4, c5] at h
  by_cases c6 : exB bs = true ∧ bs.length < at1 bs
  · rw [if_neg c1, if_neg c2, if_neg c3, if_neg c4, if_neg c5, if_pos c6] at h
    cases h
  by_cases c7 : exB bs = true ∧ 255 < wordsN bs
  · rw [if_neg c1, if_neg c2, if_neg c3, if_neg c4, if_neg c5, if_neg c6, if_pos c7] at h
    cases h
  by_cases c8 : pdB bs = true ∧ (at1 bs = bs.length ∨ bt bs (bs.length - 1) = 0 ∨ bs.length - at1 bs < bt bs (bs.length - 1))
  · rw [if_neg c1, if_neg c2, if_neg c3, if_neg c4, if_neg c5, if_neg c6, if_neg c7, if_pos c8] at h
    cases h
  have h1 : at1 bs ≤ bs.length := by
    by_cases ex : exB bs = true
    · exact Nat.le_of_not_lt fun hc => c6 ⟨ex, hc⟩
    · have : at1 bs = at0 bs := by unfold at1; rw [if_neg ex]
      omega
  have h2 : pdB bs = true → 1 ≤ bt bs (bs.length - 1) ∧ bt bs (bs.length - 1) ≤ bs.length - at1 bs := fun hp => by
    have h3 : ¬ (at1 bs = bs.length ∨ bt bs (bs.length - 1) = 0 ∨ bs.length - at1 bs < bt bs (bs.length - 1)) := fun hc => c8 ⟨hp, hc⟩
    omega
  refine ⟨by omega, by omega, by omega, h1, by omega, fun ex => Nat.le_of_not_lt fun hc => c7 ⟨ex, hc⟩, ?_, fun hp => (h2 hp).1⟩
  unfold padN
  split
  · rename_i hp; exact (h2 hp).2
  · omega

theorem hd_at1 (bs : List UInt8) (h : whyR bs = 0) : hdN (pktR bs) = at1 bs := by
  obtain ⟨h1, h2, h3, h4, h5, h6, h7, h8⟩ := why_parts bs h
  unfold hdN
  by_cases ex : exB bs = true
  · have e1 : at1 bs = at0 bs + 4 + 4 * wordsN bs := by simp [at1, ex]
    have e2 : (pktR bs).xt.length = 4 * wordsN bs := by
      simp only [pktR, ex, if_true]
      rw [List.length_take, List.length_drop]
      omega
    have e3 : (pktR bs).x = true := ex
    have e4 : (pktR bs).ot.length = othN bs := srcs_len _ _
    rw [e3, if_pos rfl, e2, e4, e1]
    unfold at0
    omega
  · have e1 : at1 bs = at0 bs := by unfold at1; rw [if_neg ex]
    have e3 : (pktR bs).x = false := by simpa [pktR] using ex
    have e4 : (pktR bs).ot.length = othN bs := srcs_len _ _
    rw [e3, if_neg (by simp), e4, e1]
    rfl
theorem pkt_small (bs : List UInt8) (h : whyR bs = 0) : (pktR bs).ot.length ≤ 15 ∧ (pktR bs).xt.length ≤ 1020 := by
  obtain ⟨h1, h2, h3, h4, h5, h6, h7, h8⟩ := why_parts bs h
  constructor
  · have e4 : (pktR bs).ot.length = othN bs := srcs_len _ _
    rw [e4]
    unfold othN
    omega
  · simp only [pktR]
    split
    · rename_i ex
      have := h6 ex
      rw [List.length_take]
      omega
    · simp

set_option maxRecDepth 100000 in
theorem head_no (A : Option Addr) (n c : Nat) (bs : List UInt8) (w : World) (hr : RdS w A n c bs) (hy : whyR bs ≠ 0) :
    Calls Try.prog 10 #[.slice A n c] w fun e w' => e = .returned (.tuple #[.int .i64 0, .bool false]) ∧ Below w.heap.size w w' := by
  have hz := zero28
  have HR := Lib.hid (read_any_no A n c bs w hr hy)
  have hye : (whyR bs == 0) = false := by simpa using hy
  obtain ⟨y, hye2⟩ : ∃ y, y = whyR bs := ⟨_, rfl⟩
  rw [← hye2] at HR hye
  clear hr hy hye2
  go_enter Try.func10, Try.ntmps10
  go_wp2_with (first
    | (go_at_call 8; ((with_reducible refine (Hid.out HR).mono ?_); rintro e w1 ⟨rfl, hb1⟩))
    | ((with_reducible refine wpList_st rfl 28 (.tmp 4) (.tmp 9) rfl w1.heap.size 0 zeroC rfl rfl 28 zeroC (BlkV.new w1 _ _) fitz (row11 zlen) zone ?_); intro w2 hB2 ho2; have hb2 := Lib.hid ((hb1.alloc hb1.size (.cells zeroC.toArray 28)).trans (ho2.below hb1.size))))
  go_ret2
  exact ⟨rfl, hb2.out⟩

set_option maxRecDepth 100000 in
theorem head_ok (A : Option Addr) (n c : Nat) (bs : List UInt8) (w : World) (hr : RdS w A n c bs) (hy : whyR bs = 0) :
    Calls Try.prog 10 #[.slice A n c] w fun e w' => e = .returned (.tuple #[.int .i64 (at1 bs : Nat), .bool true]) ∧ Below w.heap.size w w' := by
  have hz := zero28
  have HR := Lib.hid (read_any_ok A n c bs w hr hy)
  obtain ⟨s1, s2⟩ := pkt_small bs hy
  rw [← hd_at1 bs hy]
  obtain ⟨p, hp⟩ : ∃ p, p = pktR bs := ⟨_, rfl⟩
  rw [← hp] at HR s1 s2 ⊢
  clear hr hy hp
  go_enter Try.func10, Try.ntmps10
  go_wp2_with (first
    | (go_at_call 8; ((with_reducible refine (Hid.out HR).mono ?_); rintro e w1 ⟨cs, rfl, hpk, hb1⟩; have HPK := Lib.hid hpk; have HB1 := Lib.hid hb1; have hfit : Hid (0 + cs.length ≤ zeroC.length) := Lib.hid (by rw [hpk.len]; exact Nat.le_refl 11); clear hpk hb1))
    | ((with_reducible refine wpList_st rfl 28 (.tmp 4) (.tmp 9) rfl w1.heap.size 0 cs rfl rfl 28 zeroC (BlkV.new w1 _ _) hfit.out (row11 HPK.out.len) HPK.out.one ?_); intro w2 hB2 ho2; rw [splice_all _ _ (by rw [HPK.out.len]; rfl)] at hB2; have hb2 := Lib.hid ((HB1.out.alloc HB1.out.size (.cells zeroC.toArray 28)).trans (ho2.below HB1.out.size)); have HP2 := Lib.hid (HPK.out.below (((Below.refl _ _).alloc (Nat.le_refl _) (.cells zeroC.toArray 28)).trans (ho2.below (Nat.le_refl _)))).rd)
    | (with_reducible refine wpList_ld rfl 28 (.tmp 4) rfl w1.heap.size 0 rfl cs (hB2.range 0 _ (fun i _ => by rw [Nat.zero_add])) (row11 HPK.out.len) ?_)
    | (go_at_call 18; ((with_reducible refine (size_any cs p _ HP2.out (by omega) (by omega)).mono ?_); rintro e w3 ⟨rfl, hb3⟩; have HB3 := Lib.hid hb3; clear hb3)))
  go_ret2
  exact ⟨rfl, hb2.out.trans (HB3.out.mono hb2.out.size)⟩
end Go.Proofs.Yticbajagccemoaa
