/- Several texts in one: What the document's answer for layer 10 (tenailleref10) reads, all ways together. Contracts of package rtp: Head. Plain mathematics on packets: what is written is read, what is read is written again. No statement is proved here. -/
import Derived.Test.YtmkeioeodlidgaaDoorZM19
import Derived.Test.YtmkeioeodlidgaaDoorZM2
namespace Go.Proofs.YtmkeioeodlidgaaDoor
open Go.RowKit
set_option linter.unusedVariables false

/-- What Read of package rtp answers, all ways together. -/
theorem read_any_no (A : Option Addr) (n c : Nat) (bs : List UInt8) (w : World) (hr : RdS w A n c bs) (hy : whyR bs ≠ 0) :
    Calls Tryd.prog 25 #[.slice A n c] w fun e w' => e = .returned (.tuple #[.agg zeroC.toArray, .int .i64 (whyR bs)]) ∧ Below w.heap.size w w' := by
  by_cases hm : 1200 < n
  · have e : whyR bs = 3 := by unfold whyR; rw [if_pos (by rw [hr.len]; exact hm)]
    rw [e]
    exact read_long A n c w hr.small.1 hm
  · exact read_no A n c bs w hr hm hy
theorem why_le (bs : List UInt8) (h : whyR bs = 0) : bs.length ≤ 1200 := by
  refine Nat.le_of_not_lt fun hc => ?_
  unfold whyR at h
  rw [if_pos hc] at h
  cases h
theorem read_any_ok (A : Option Addr) (n c : Nat) (bs : List UInt8) (w : World) (hr : RdS w A n c bs) (hy : whyR bs = 0) :
    Calls Tryd.prog 25 #[.slice A n c] w fun e w' => ∃ cs, e = .returned (.tuple #[.agg cs.toArray, .int .i64 0]) ∧ PkOwn w' w.heap.size cs (pktR bs) ∧ Below w.heap.size w w' :=
  read_okR A n c bs w hr (by have := why_le bs hy; rw [hr.len] at this; omega) hy
end Go.Proofs.YtmkeioeodlidgaaDoor

namespace Go.Proofs.YtmkeioeodlidgaaDoor
open Go.RowKit
set_option linter.unusedVariables false

/-- How many bytes of a packet are ahead of its payload. -/
def hdN (p : Pkt) : Nat := 12 + 4 * p.ot.length + (if p.x then 4 + p.xt.length else 0)

set_option maxRecDepth 100000 in
theorem size_any (cs : List Value) (p : Pkt) (w : World) (h : PkRd w cs p) (h1 : p.ot.length ≤ 1000000) (h2 : p.xt.length ≤ 1000000) :
    Calls Tryd.prog 47 #[.agg cs.toArray] w fun e w' => e = .returned (.int .i64 (hdN p : Nat)) ∧ Below w.heap.size w w' := by
  obtain ⟨A1, a1, B1, b1, D1, d1, e1, u1, x1, y1⟩ := h
  obtain ⟨m, ty, sq, st, so, U, x, pf, X, Y, pd⟩ := p
  simp only at h1 h2 e1 ⊢
  have HW : Hid (Below w.heap.size w (w.alloc (.cells cs.toArray 40))) := Lib.hid ((Below.refl _ _).alloc (Nat.le_refl _) _)
  have hB := BlkV.new w 40 cs
  have k5 : (w.alloc (.cells cs.toArray 40)).cell? ⟨w.heap.size, 5, none⟩ = some (.slice A1 U.length a1) := by rw [hB.cell, e1]; rfl
  have k6 : (w.alloc (.cells cs.toArray 40)).cell? ⟨w.heap.size, 6, none⟩ = some (.bool x) := by rw [hB.cell, e1]; rfl
  have k8 : (w.alloc (.cells cs.toArray 40)).cell? ⟨w.heap.size, 8, none⟩ = some (.slice B1 X.length b1) := by rw [hB.cell, e1]; rfl
  obtain ⟨K, hK⟩ : ∃ K, K = U.length := ⟨_, rfl⟩
  obtain ⟨M, hM⟩ : ∃ M, M = X.length := ⟨_, rfl⟩
  rw [← hK] at h1 k5
  rw [← hM] at h2 k8
  cases x
  · have e : hdN ⟨m, ty, sq, st, so, U, false, pf, X, Y, pd⟩ = 12 + 4 * K := by simp [hdN, hK]
    rw [e]
    have e4 := Lib.hid (show (12 + 4 * (K : Int)) = ((12 + 4 * K : Nat) : Int) by omega)
    clear e1 hB u1 x1 y1 hK hM e
    go_enter Tryd.func47, Tryd.ntmps47
    go_wp2
    go_ret
    refine ⟨?_, HW.out⟩
    rw [← e4.out]
    rfl
  · have e : hdN ⟨m, ty, sq, st, so, U, true, pf, X, Y, pd⟩ = 12 + 4 * K + (4 + M) := by simp [hdN, hK, hM]
    rw [e]
    have e4 := Lib.hid (show (12 + 4 * (K : Int) + (4 + (M : Int))) = ((12 + 4 * K + (4 + M) : Nat) : Int) by omega)
    clear e1 hB u1 x1 y1 hK hM e
    go_enter Tryd.func47, Tryd.ntmps47
    go_wp2
    go_ret
    refine ⟨?_, HW.out⟩
    rw [← e4.out]
    rfl

theorem why_parts (bs : List UInt8) (h : whyR bs = 0) : 12 ≤ bs.length ∧ bs.length ≤ 1200 ∧ bt bs 0 / 64 = 2 ∧ at1 bs ≤ bs.length ∧ at0 bs ≤ bs.length ∧ (exBR bs = true → wordsN bs ≤ 255) ∧ padN bs ≤ bs.length - at1 bs ∧ (pdB bs = true → 1 ≤ bt bs (bs.length - 1)) := by
  unfold whyR at h
  by_cases c1 : 1200 < bs.length
  · simp [c1] at h
  by_cases c2 : bs.length < 12
  · simp [c1, c2] at h
  by_cases c3 : bt bs 0 / 64 ≠ 2
  · simp [c1, c2, c3] at h
  by_cases c4 : bs.length < at0 bs
  · simp [c1, c2, c3, c4] at h
  by_cases c5 : exBR bs = true ∧ bs.length < at0 bs + 4
  · simp [c1, c2, c3, c4, c5] at h
  by_cases c6 : exBR bs = true ∧ bs.length < at1 bs
  · rw [if_neg c1, if_neg c2, if_neg c3, if_neg c4, if_neg c5, if_pos c6] at h
    cases h
  by_cases c7 : exBR bs = true ∧ 255 < wordsN bs
  · rw [if_neg c1, if_neg c2, if_neg c3, if_neg c4, if_neg c5, if_neg c6, if_pos c7] at h
    cases h
  by_cases c8 : pdB bs = true ∧ (at1 bs = bs.length ∨ bt bs (bs.length - 1) = 0 ∨ bs.length - at1 bs < bt bs (bs.length - 1))
  · rw [if_neg c1, if_neg c2, if_neg c3, if_neg c4, if_neg c5, if_neg c6, if_neg c7, if_pos c8] at h
    cases h
  have h1 : at1 bs ≤ bs.length := by
    by_cases ex : exBR bs = true
    · exact Nat.le_of_not_lt fun hc => c6 ⟨ex, hc⟩
    · have : at1 bs = at0 bs := by unfold at1; rw [if_neg ex]
      omega
  have h2 : pdB bs = true → 1 ≤ bt bs (bs.length - 1) ∧ bt bs (bs.length - 1) ≤ bs.length - at1 bs := fun hp => by
    have h3 : ¬ (at1 bs = bs.length ∨ bt bs (bs.length - 1) = 0 ∨ bs.length - at1 bs < bt bs (bs.length - 1)) := fun hc => c8 ⟨hp, hc⟩
    omega
  refine ⟨by omega, by omega, by omega, h1, by omega, fun ex => Nat.le_of_not_lt fun hc => c7 ⟨ex, hc⟩, ?_, fun hp => (h2 hp).1⟩
  unfold padN
  split
  · rename_i hp; exact (h2 hp).2
  · omega

theorem hd_at1 (bs : List UInt8) (h : whyR bs = 0) : hdN (pktR bs) = at1 bs := by
  obtain ⟨h1, h2, h3, h4, h5, h6, h7, h8⟩ := why_parts bs h
  unfold hdN
  by_cases ex : exBR bs = true
  · have e1 : at1 bs = at0 bs + 4 + 4 * wordsN bs := by simp [at1, ex]
    have e2 : (pktR bs).xt.length = 4 * wordsN bs := by
      simp only [pktR, ex, if_true]
      rw [List.length_take, List.length_drop]
      omega
    have e3 : (pktR bs).x = true := ex
    have e4 : (pktR bs).ot.length = othN bs := srcs_len _ _
    rw [e3, if_pos rfl, e2, e4, e1]
    unfold at0
    omega
  · have e1 : at1 bs = at0 bs := by unfold at1; rw [if_neg ex]
    have e3 : (pktR bs).x = false := by simpa [pktR] using ex
    have e4 : (pktR bs).ot.length = othN bs := srcs_len _ _
    rw [e3, if_neg (by simp), e4, e1]
    rfl
theorem pkt_small (bs : List UInt8) (h : whyR bs = 0) : (pktR bs).ot.length ≤ 15 ∧ (pktR bs).xt.length ≤ 1020 := by
  obtain ⟨h1, h2, h3, h4, h5, h6, h7, h8⟩ := why_parts bs h
  constructor
  · have e4 : (pktR bs).ot.length = othN bs := srcs_len _ _
    rw [e4]
    unfold othN
    omega
  · simp only [pktR]
    split
    · rename_i ex
      have := h6 ex
      rw [List.length_take]
      omega
    · simp

end Go.Proofs.YtmkeioeodlidgaaDoor

namespace Go.Proofs.YtmkeioeodlidgaaDoor
set_option linter.unusedVariables false

theorem take3 (l : List UInt8) (i j : Nat) : l.take (i + j) = l.take i ++ (l.drop i).take j := List.take_add
theorem byte_at (l : List UInt8) (i : Nat) (h : i < l.length) : [UInt8.ofNat (bt l i)] = (l.drop i).take 1 := by
  rw [List.drop_eq_getElem_cons h, List.take_succ_cons, List.take_zero]
  simp [bt, List.getD, h]

theorem first_of (bs : List UInt8) (h : whyR bs = 0) : firstN (pktR bs) = bt bs 0 := by
  obtain ⟨h1, h2, h3, h4, h5, h6, h7, h8⟩ := why_parts bs h
  have hl := bt_lt bs 0
  have e : firstN (pktR bs) = 128 + (if 0 < padN bs then 32 else 0) + (if exBR bs = true then 16 else 0) + othN bs := by
    unfold firstN
    rw [show (pktR bs).ot.length = othN bs from srcs_len _ _]
    rfl
  have e1 : (if 0 < padN bs then 32 else 0) = 32 * (bt bs 0 / 32 % 2) := by
    by_cases hp : bt bs 0 / 32 % 2 = 1
    · have : pdB bs = true := by simp [pdB, hp]
      have h9 := h8 this
      rw [show padN bs = bt bs (bs.length - 1) by simp [padN, this], if_pos (by omega), hp]
    · have h0 : bt bs 0 / 32 % 2 = 0 := by omega
      have : pdB bs = false := by simp [pdB, h0]
      rw [show padN bs = 0 by simp [padN, this], if_neg (by omega), h0]
  have e2 : (if exBR bs = true then 16 else 0) = 16 * (bt bs 0 / 16 % 2) := by
    by_cases hp : bt bs 0 / 16 % 2 = 1
    · have : exBR bs = true := by simp [exBR, hp]
      rw [if_pos this, hp]
    · have h0 : bt bs 0 / 16 % 2 = 0 := by omega
      have : ¬ exBR bs = true := by simp [exBR, h0]
      rw [if_neg this, h0]
  rw [e, e1, e2]
  unfold othN
  omega
theorem second_of (bs : List UInt8) : secondN (pktR bs) = bt bs 1 := by
  have hl := bt_lt bs 1
  simp only [secondN, pktR]
  by_cases hm : bt bs 1 / 128 = 1
  · simp [hm]; omega
  · simp [hm]; omega

theorem hd_of (bs : List UInt8) (h : whyR bs = 0) : hdB (pktR bs) = bs.take 12 := by
  obtain ⟨h1, h2, h3, h4, h5, h6, h7, h8⟩ := why_parts bs h
  unfold hdB
  rw [first_of bs h, second_of bs, byte_at bs 0 (by omega), byte_at bs 1 (by omega)]
  have e2 : beb 2 (pktR bs).sq = (bs.drop 2).take 2 := beb_numb_of (by rw [List.length_take, List.length_drop]; omega)
  have e3 : beb 4 (pktR bs).st = (bs.drop 4).take 4 := beb_numb_of (by rw [List.length_take, List.length_drop]; omega)
  have e4 : beb 4 (pktR bs).so = (bs.drop 8).take 4 := beb_numb_of (by rw [List.length_take, List.length_drop]; omega)
  rw [e2, e3, e4, List.drop_zero, show (12 : Nat) = 1 + (1 + (2 + (4 + 4))) by rfl, take3, take3, take3, take3]
  simp only [List.drop_drop]

theorem body_of (bs : List UInt8) (h : whyR bs = 0) : wrB (pktR bs) = bs.take (bs.length - padN bs) ++ padB (padN bs) := by
  obtain ⟨h1, h2, h3, h4, h5, h6, h7, h8⟩ := why_parts bs h
  unfold wrB
  have e0 : otB (pktR bs).ot = (bs.drop 12).take (4 * othN bs) := otB_srcs _ _ (by rw [List.length_drop]; unfold at0 at h5; omega)
  have ep : (pktR bs).pl = (bs.drop (at1 bs)).take (bs.length - at1 bs - padN bs) := rfl
  have ed : (pktR bs).pd = padN bs := rfl
  rw [hd_of bs h, e0, ep, ed]
  have e1 : exBt (pktR bs) = (bs.drop (at0 bs)).take (at1 bs - at0 bs) := by
    unfold exBt
    by_cases ex : exBR bs = true
    · have ea : at1 bs = at0 bs + 4 + 4 * wordsN bs := by simp [at1, ex]
      have ex2 : (pktR bs).x = true := ex
      have epf : (pktR bs).pf = numb ((bs.drop (at0 bs)).take 2) := by simp [pktR, ex]
      have ext : (pktR bs).xt = (bs.drop (at0 bs + 4)).take (4 * wordsN bs) := by simp [pktR, ex]
      have el : (pktR bs).xt.length = 4 * wordsN bs := by rw [ext, List.length_take, List.length_drop]; omega
      rw [if_pos ex2, epf, el, ext, Nat.mul_div_cancel_left _ (by omega : 0 < 4), beb_numb_of (by rw [List.length_take, List.length_drop]; omega)]
      have ew : beb 2 (wordsN bs) = (bs.drop (at0 bs + 2)).take 2 := beb_numb_of (by rw [List.length_take, List.length_drop]; omega)
      rw [ew, ea, show at0 bs + 4 + 4 * wordsN bs - at0 bs = 2 + (2 + 4 * wordsN bs) by omega, take3, take3, List.drop_drop, List.drop_drop]
    · have ea : at1 bs = at0 bs := by unfold at1; rw [if_neg ex]
      have ex2 : ¬ (pktR bs).x = true := ex
      rw [if_neg ex2, ea, Nat.sub_self, List.take_zero]
  rw [e1]
  have l01 : at0 bs ≤ at1 bs := by unfold at1; split <;> omega
  have ht : bs.take (bs.length - padN bs) = bs.take 12 ++ ((bs.drop 12).take (4 * othN bs) ++ ((bs.drop (at0 bs)).take (at1 bs - at0 bs) ++ (bs.drop (at1 bs)).take (bs.length - at1 bs - padN bs))) := by
    have e9 : bs.length - padN bs = 12 + (4 * othN bs + ((at1 bs - at0 bs) + (bs.length - at1 bs - padN bs))) := by unfold at0 at l01 h5 ⊢; omega
    rw [e9, take3, take3, take3]
    simp only [List.drop_drop]
    rw [show 12 + 4 * othN bs = at0 bs by rfl, show at0 bs + (at1 bs - at0 bs) = at1 bs by omega]
  rw [ht]
  simp only [List.append_assoc]

theorem may_of (bs : List UInt8) (h : whyR bs = 0) : mayB (pktR bs) ∧ fits (pktR bs) := by
  obtain ⟨h1, h2, h3, h4, h5, h6, h7, h8⟩ := why_parts bs h
  have hd : hdN' (pktR bs) = at1 bs := hd_at1 bs h
  have hol : (pktR bs).ot.length = othN bs := srcs_len _ _
  have hpl : (pktR bs).pl.length = bs.length - at1 bs - padN bs := by
    show ((bs.drop (at1 bs)).take (bs.length - at1 bs - padN bs)).length = _
    rw [List.length_take, List.length_drop]
    omega
  have hpd : (pktR bs).pd = padN bs := rfl
  have hk : othN bs ≤ 15 := by unfold othN; omega
  have hty : (pktR bs).ty = bt bs 1 % 128 := rfl
  refine ⟨⟨by rw [hty]; omega, by rw [hol]; exact hk, ?_, ?_, ?_, by rw [hd, hpl, hpd]; omega⟩, ⟨sqN_lt bs, stN_lt bs, soN_lt bs, srcs_lt _ _, ?_, ?_⟩⟩
  · by_cases ex : exBR bs = true
    · exact .inl ex
    · exact .inr (by simp [pktR, ex])
  · by_cases ex : exBR bs = true
    · have ea : at1 bs = at0 bs + 4 + 4 * wordsN bs := by simp [at1, ex]
      have ext : (pktR bs).xt = (bs.drop (at0 bs + 4)).take (4 * wordsN bs) := by simp [pktR, ex]
      rw [ext, List.length_take, List.length_drop]
      omega
    · simp [pktR, ex]
  · exact (pkt_small bs h).2
  · by_cases ex : exBR bs = true
    · have := numb_take_lt (bs.drop (at0 bs)) 2
      have e : (pktR bs).pf = numb ((bs.drop (at0 bs)).take 2) := by simp [pktR, ex]
      rw [e]; simpa using this
    · simp [pktR, ex]
  · rw [hpd]
    unfold padN
    split
    · exact bt_lt _ _
    · omega

theorem drop_pre {a b : List UInt8} {n : Nat} (h : a.length = n) : (a ++ b).drop n = b := List.drop_left' h
theorem take_pre {a b : List UInt8} {n : Nat} (h : a.length = n) : (a ++ b).take n = a := List.take_left' h

theorem last_pad (Z : List UInt8) (n : Nat) (h : 0 < n) (hn : n < 256) : bt (Z ++ padB n) ((Z ++ padB n).length - 1) = n := by
  have e : Z ++ padB n = (Z ++ List.replicate (n - 1) 0) ++ [UInt8.ofNat n] := by
    unfold padB
    rw [if_neg (by omega), List.append_assoc]
  rw [e]
  generalize Z ++ List.replicate (n - 1) 0 = R
  simp only [bt, List.getD, List.length_append, List.length_singleton, Nat.add_sub_cancel]
  rw [List.getElem?_append_right (by omega)]
  simp
  omega

theorem read_wr (p : Pkt) (hm : mayB p) (hf : fits p) : whyR (wrB p) = 0 ∧ pktR (wrB p) = p := by
  obtain ⟨m, ty, sq, st, so, ot, x, pf, xt, pl, pd⟩ := p
  obtain ⟨m1, m2, m3, m4, m5, m6⟩ := hm
  obtain ⟨f1, f2, f3, f4, f5, f6⟩ := hf
  simp only at m1 m2 m3 m4 m5 f1 f2 f3 f4 f5 f6
  have hlen := wrB_len ⟨m, ty, sq, st, so, ot, x, pf, xt, pl, pd⟩
  obtain ⟨T, hT⟩ : ∃ T, T = otB ot ++ (exBt ⟨m, ty, sq, st, so, ot, x, pf, xt, pl, pd⟩ ++ (pl ++ padB pd)) := ⟨_, rfl⟩
  obtain ⟨F, hF⟩ : ∃ F, F = firstN ⟨m, ty, sq, st, so, ot, x, pf, xt, pl, pd⟩ := ⟨_, rfl⟩
  obtain ⟨S, hS⟩ : ∃ S, S = secondN ⟨m, ty, sq, st, so, ot, x, pf, xt, pl, pd⟩ := ⟨_, rfl⟩
  have hbs : wrB ⟨m, ty, sq, st, so, ot, x, pf, xt, pl, pd⟩ = UInt8.ofNat F :: UInt8.ofNat S :: (beb 2 sq ++ (beb 4 st ++ (beb 4 so ++ T))) := by
    rw [hF, hS, hT]
    simp [wrB, hdB]
  obtain ⟨bs, hB⟩ : ∃ bs, bs = wrB ⟨m, ty, sq, st, so, ot, x, pf, xt, pl, pd⟩ := ⟨_, rfl⟩
  rw [← hB] at hbs hlen ⊢
  have hF2 : F = 128 + (if 0 < pd then 32 else 0) + (if x = true then 16 else 0) + ot.length := hF
  have hS2 : S = (if m = true then 128 else 0) + ty := hS
  have lF : F < 256 := by rw [hF2]; split <;> split <;> omega
  have lS : S < 256 := by rw [hS2]; split <;> omega
  have t0 : bt bs 0 = F := by rw [hbs]; simp [bt]; omega
  have t1 : bt bs 1 = S := by rw [hbs]; simp [bt]; omega
  have d2 : bs.drop 2 = beb 2 sq ++ (beb 4 st ++ (beb 4 so ++ T)) := by rw [hbs]; rfl
  have d4 : bs.drop 4 = beb 4 st ++ (beb 4 so ++ T) := by
    rw [show (4 : Nat) = 2 + 2 by rfl, ← List.drop_drop, d2]; exact drop_pre (length_beb _ _)
  have d8 : bs.drop 8 = beb 4 so ++ T := by
    rw [show (8 : Nat) = 4 + 4 by rfl, ← List.drop_drop, d4]; exact drop_pre (length_beb _ _)
  have d12 : bs.drop 12 = T := by
    rw [show (12 : Nat) = 8 + 4 by rfl, ← List.drop_drop, d8]; exact drop_pre (length_beb _ _)
  have esq : sqN bs = sq := by unfold sqN; rw [d2, take_pre (length_beb _ _), numb_beb_of (by omega)]
  have est : stN bs = st := by unfold stN; rw [d4, take_pre (length_beb _ _), numb_beb_of (by omega)]
  have eso : soN bs = so := by unfold soN; rw [d8, take_pre (length_beb _ _), numb_beb_of (by omega)]
  have eoth : othN bs = ot.length := by unfold othN; rw [t0, hF2]; split <;> split <;> omega
  have eat : at0 bs = 12 + 4 * ot.length := by unfold at0; rw [eoth]
  have eot : srcs (bs.drop 12) (othN bs) = ot := by rw [d12, eoth, hT]; exact srcs_otB ot _ f4
  have ex : exBR bs = x := by
    unfold exBR
    rw [t0, hF2]
    cases x
    · simp only [Bool.false_eq_true, if_false, Nat.add_zero]
      have : (128 + (if 0 < pd then 32 else 0) + ot.length) / 16 % 2 = 0 := by split <;> omega
      rw [this]; rfl
    · simp only [if_true]
      have : (128 + (if 0 < pd then 32 else 0) + 16 + ot.length) / 16 % 2 = 1 := by split <;> omega
      rw [this]; rfl
  have ep : pdB bs = decide (0 < pd) := by
    unfold pdB
    rw [t0, hF2]
    by_cases h : 0 < pd
    · rw [if_pos h]
      have : (128 + 32 + (if x = true then 16 else 0) + ot.length) / 32 % 2 = 1 := by split <;> omega
      rw [this]; simp [h]
    · rw [if_neg h]
      have : (128 + 0 + (if x = true then 16 else 0) + ot.length) / 32 % 2 = 0 := by split <;> omega
      rw [this]; simp [h]
  have v2 : bt bs 0 / 64 = 2 := by rw [t0, hF2]; split <;> split <;> omega
  have dat : bs.drop (at0 bs) = exBt ⟨m, ty, sq, st, so, ot, x, pf, xt, pl, pd⟩ ++ (pl ++ padB pd) := by
    rw [eat, ← List.drop_drop, d12, hT]; exact drop_pre (otB_len _)
  have em : (bt bs 1 / 128 == 1) = m := by
    rw [t1, hS2]
    cases m
    · simp only [Bool.false_eq_true, if_false, Nat.zero_add]
      have : ty / 128 = 0 := by omega
      rw [this]; rfl
    · simp only [if_true]
      have : (128 + ty) / 128 = 1 := by omega
      rw [this]; rfl
  have ety : bt bs 1 % 128 = ty := by rw [t1, hS2]; split <;> omega
  have hlen2 : bs.length = 12 + 4 * ot.length + (if x = true then 4 + xt.length else 0) + pl.length + pd := hlen
  have hle : bs.length ≤ 1200 := by rw [hlen]; exact m6
  -- the part behind the others
  have hW : x = true → wordsN bs = xt.length / 4 ∧ numb ((bs.drop (at0 bs)).take 2) = pf ∧ (bs.drop (at0 bs + 4)).take (4 * wordsN bs) = xt ∧ bs.drop (at0 bs + 4 + 4 * wordsN bs) = pl ++ padB pd := by
    intro hx
    have e1 : bs.drop (at0 bs) = beb 2 pf ++ (beb 2 (xt.length / 4) ++ (xt ++ (pl ++ padB pd))) := by
      rw [dat]; simp [exBt, hx]
    have e2 : bs.drop (at0 bs + 2) = beb 2 (xt.length / 4) ++ (xt ++ (pl ++ padB pd)) := by
      rw [← List.drop_drop, e1]; exact drop_pre (length_beb _ _)
    have e3 : bs.drop (at0 bs + 4) = xt ++ (pl ++ padB pd) := by
      rw [show at0 bs + 4 = at0 bs + 2 + 2 by rfl, ← List.drop_drop, e2]; exact drop_pre (length_beb _ _)
    have w1 : wordsN bs = xt.length / 4 := by unfold wordsN; rw [e2, take_pre (length_beb _ _), numb_beb_of (by omega)]
    have w2 : 4 * wordsN bs = xt.length := by rw [w1]; omega
    refine ⟨w1, by rw [e1, take_pre (length_beb _ _), numb_beb_of (by omega)], by rw [e3, w2]; exact take_pre rfl, ?_⟩
    rw [← List.drop_drop, e3, w2]
    exact drop_pre rfl
  have hA1 : at1 bs = 12 + 4 * ot.length + (if x = true then 4 + xt.length else 0) ∧ bs.drop (at1 bs) = pl ++ padB pd := by
    by_cases hx : x = true
    · obtain ⟨w1, w2, w3, w4⟩ := hW hx
      have e : at1 bs = at0 bs + 4 + 4 * wordsN bs := by unfold at1; rw [ex, if_pos hx]
      rw [e, if_pos hx]
      exact ⟨by rw [w1, eat]; omega, w4⟩
    · have e : at1 bs = at0 bs := by unfold at1; rw [ex, if_neg hx]
      rw [e, if_neg hx, eat]
      refine ⟨rfl, ?_⟩
      rw [← eat, dat]
      simp [exBt, hx]
  obtain ⟨hA, hD⟩ := hA1
  have hPd : padN bs = pd := by
    unfold padN
    rw [ep]
    by_cases h : 0 < pd
    · simp only [h, decide_true, if_true]
      have e : bs = (hdB ⟨m, ty, sq, st, so, ot, x, pf, xt, pl, pd⟩ ++ (otB ot ++ (exBt ⟨m, ty, sq, st, so, ot, x, pf, xt, pl, pd⟩ ++ pl))) ++ padB pd := by
        rw [hB]; simp [wrB]
      rw [e]
      exact last_pad _ pd h f6
    · simp [h]; omega
  constructor
  · unfold whyR
    rw [if_neg (by omega), if_neg (by omega), if_neg (by rw [v2]; simp), if_neg (by rw [eat, hlen2]; omega)]
    have c1 : at1 bs ≤ bs.length := by rw [hA, hlen2]; omega
    rw [if_neg (fun hc => by
      have hx : x = true := by rw [← ex]; exact hc.1
      have h9 := hc.2
      rw [eat, hlen2, if_pos hx] at h9; omega), if_neg (fun hc => by have := hc.2; omega), if_neg (fun hc => by
      have hx : x = true := by rw [← ex]; exact hc.1
      have h9 := hc.2
      rw [(hW hx).1] at h9; omega), if_neg (fun hc => by
      have h9 : 0 < pd := by have := hc.1; rw [ep] at this; simpa using this
      have h10 : bt bs (bs.length - 1) = pd := by
        have := hPd
        unfold padN at this
        rw [if_pos hc.1] at this
        exact this
      rw [h10] at hc
      have h11 := hc.2
      rw [hA, hlen2] at h11
      omega)]
  · have hxt : (if exBR bs = true then (bs.drop (at0 bs + 4)).take (4 * wordsN bs) else []) = xt := by
      rw [ex]
      by_cases hx : x = true
      · rw [if_pos hx]; exact (hW hx).2.2.1
      · rw [if_neg hx]
        rcases m3 with m3 | m3
        · exact absurd m3 hx
        · exact (List.eq_nil_of_length_eq_zero m3.1).symm
    have hpf : (if exBR bs = true then numb ((bs.drop (at0 bs)).take 2) else 0) = pf := by
      rw [ex]
      by_cases hx : x = true
      · rw [if_pos hx]; exact (hW hx).2.1
      · rw [if_neg hx]
        rcases m3 with m3 | m3
        · exact absurd m3 hx
        · exact m3.2.symm
    have hpl : (bs.drop (at1 bs)).take (bs.length - at1 bs - padN bs) = pl := by
      rw [hD, hPd, hA, hlen2, show 12 + 4 * ot.length + (if x = true then 4 + xt.length else 0) + pl.length + pd - (12 + 4 * ot.length + (if x = true then 4 + xt.length else 0)) - pd = pl.length by omega]
      exact take_pre rfl
    unfold pktR
    rw [em, ety, esq, est, eso, eot, hxt, hpf, hpl, hPd, ex]
end Go.Proofs.YtmkeioeodlidgaaDoor
