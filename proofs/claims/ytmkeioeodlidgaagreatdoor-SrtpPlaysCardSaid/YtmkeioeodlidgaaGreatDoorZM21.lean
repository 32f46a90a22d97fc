/- Several texts in one: plain words and walks. No statement is proved here. -/
import Derived.Test.YtmkeioeodlidgaaGreatDoorZM1
import Derived.Test.YtmkeioeodlidgaaGreatDoorZM20
import Derived.Test.YtmkeioeodlidgaaGreatDoorZM14
import Derived.Test.YtmkeioeodlidgaaGreatDoorZM15
namespace Go.Proofs.YtmkeioeodlidgaaGreatDoor
set_option linter.unusedVariables false

theorem drop_pre {a b : List UInt8} {n : Nat} (h : a.length = n) : (a ++ b).drop n = b := List.drop_left' h
theorem take_pre {a b : List UInt8} {n : Nat} (h : a.length = n) : (a ++ b).take n = a := List.take_left' h

theorem last_pad (Z : List UInt8) (n : Nat) (h : 0 < n) (hn : n < 256) : bt (Z ++ padB n) ((Z ++ padB n).length - 1) = n := by
 have e : Z ++ padB n = (Z ++ List.replicate (n - 1) 0) ++ [UInt8.ofNat n] := by
  unfold padB
  rw [if_neg (by omega), List.append_assoc]
 rw [e]
 generalize Z ++ List.replicate (n - 1) 0 = R
 simp only [bt, List.getD, List.length_append, List.length_singleton, Nat.add_sub_cancel]
 rw [List.getElem?_append_right (by omega)]
 simp
 omega

theorem read_wr (p : Pkt) (hm : mayB p) (hf : fits p) : whyR (wrB p) = 0 ∧ pktR (wrB p) = p := by
 obtain ⟨m, ty, sq, st, so, ot, x, pf, xt, pl, pd⟩ := p
 obtain ⟨m1, m2, m3, m4, m5, m6⟩ := hm
 obtain ⟨f1, f2, f3, f4, f5, f6⟩ := hf
 simp only at m1 m2 m3 m4 m5 f1 f2 f3 f4 f5 f6
 have hlen := wrB_len ⟨m, ty, sq, st, so, ot, x, pf, xt, pl, pd⟩
 obtain ⟨T, hT⟩ : ∃ T, T = otB ot ++ (exBt ⟨m, ty, sq, st, so, ot, x, pf, xt, pl, pd⟩ ++ (pl ++ padB pd)) := ⟨_, rfl⟩
 obtain ⟨F, hF⟩ : ∃ F, F = firstN ⟨m, ty, sq, st, so, ot, x, pf, xt, pl, pd⟩ := ⟨_, rfl⟩
 obtain ⟨S, hS⟩ : ∃ S, S = secondN ⟨m, ty, sq, st, so, ot, x, pf, xt, pl, pd⟩ := ⟨_, rfl⟩
 have hbs : wrB ⟨m, ty, sq, st, so, ot, x, pf, xt, pl, pd⟩ = UInt8.ofNat F :: UInt8.ofNat S :: (beb 2 sq ++ (beb 4 st ++ (beb 4 so ++ T))) := by
  rw [hF, hS, hT]
  simp [wrB, hdB]
 obtain ⟨bs, hB⟩ : ∃ bs, bs = wrB ⟨m, ty, sq, st, so, ot, x, pf, xt, pl, pd⟩ := ⟨_, rfl⟩
 rw [← hB] at hbs hlen ⊢
 have hF2 : F = 128 + (if 0 < pd then 32 else 0) + (if x = true then 16 else 0) + ot.length := hF
 have hS2 : S = (if m = true then 128 else 0) + ty := hS
 have lF : F < 256 := by rw [hF2]; split <;> split <;> omega
 have lS : S < 256 := by rw [hS2]; split <;> omega
 have t0 : bt bs 0 = F := by rw [hbs]; simp [bt]; omega
 have t1 : bt bs 1 = S := by rw [hbs]; simp [bt]; omega
 have d2 : bs.drop 2 = beb 2 sq ++ (beb 4 st ++ (beb 4 so ++ T)) := by rw [hbs]; rfl
 have d4 : bs.drop 4 = beb 4 st ++ (beb 4 so ++ T) := by
  rw [show (4 : Nat) = 2 + 2 by rfl, ← List.drop_drop, d2]; exact drop_pre (length_beb _ _)
 have d8 : bs.drop 8 = beb 4 so ++ T := by
  rw [show (8 : Nat) = 4 + 4 by rfl, ← List.drop_drop, d4]; exact drop_pre (length_beb _ _)
 have d12 : bs.drop 12 = T := by
  rw [show (12 : Nat) = 8 + 4 by rfl, ← List.drop_drop, d8]; exact drop_pre (length_beb _ _)
 have esq : sqN bs = sq := by unfold sqN; rw [d2, take_pre (length_beb _ _), numb_beb_of (by omega)]
 have est : stN bs = st := by unfold stN; rw [d4, take_pre (length_beb _ _), numb_beb_of (by omega)]
 have eso : soN bs = so := by unfold soN; rw [d8, take_pre (length_beb _ _), numb_beb_of (by omega)]
 have eoth : othN bs = ot.length := by unfold othN; rw [t0, hF2]; split <;> split <;> omega
 have eat : at0 bs = 12 + 4 * ot.length := by unfold at0; rw [eoth]
 have eot : srcs (bs.drop 12) (othN bs) = ot := by rw [d12, eoth, hT]; exact srcs_otB ot _ f4
 have ex : exBR bs = x := by
  unfold exBR
  rw [t0, hF2]
  cases x
  · simp only [Bool.false_eq_true, if_false, Nat.add_zero]
    have : (128 + (if 0 < pd then 32 else 0) + ot.length) / 16 % 2 = 0 := by split <;> omega
    rw [this]; rfl
  · simp only [if_true]
    have : (128 + (if 0 < pd then 32 else 0) + 16 + ot.length) / 16 % 2 = 1 := by split <;> omega
    rw [this]; rfl
 have ep : pdB bs = decide (0 < pd) := by
  unfold pdB
  rw [t0, hF2]
  by_cases h : 0 < pd
  · rw [if_pos h]
    have : (128 + 32 + (if x = true then 16 else 0) + ot.length) / 32 % 2 = 1 := by split <;> omega
    rw [this]; simp [h]
  · rw [if_neg h]
    have : (128 + 0 + (if x = true then 16 else 0) + ot.length) / 32 % 2 = 0 := by split <;> omega
    rw [this]; simp [h]
 have v2 : bt bs 0 / 64 = 2 := by rw [t0, hF2]; split <;> split <;> omega
 have dat : bs.drop (at0 bs) = exBt ⟨m, ty, sq, st, so, ot, x, pf, xt, pl, pd⟩ ++ (pl ++ padB pd) := by
  rw [eat, ← List.drop_drop, d12, hT]; exact drop_pre (otB_len _)
 have em : (bt bs 1 / 128 == 1) = m := by
  rw [t1, hS2]
  cases m
  · simp only [Bool.false_eq_true, if_false, Nat.zero_add]
    have : ty / 128 = 0 := by omega
    rw [this]; rfl
  · simp only [if_true]
    have : (128 + ty) / 128 = 1 := by omega
    rw [this]; rfl
 have ety : bt bs 1 % 128 = ty := by rw [t1, hS2]; split <;> omega
 have hlen2 : bs.length = 12 + 4 * ot.length + (if x = true then 4 + xt.length else 0) + pl.length + pd := hlen
 have hle : bs.length ≤ 1200 := by rw [hlen]; exact m6
 -- the part behind the others
 have hW : x = true → wordsN bs = xt.length / 4 ∧ numb ((bs.drop (at0 bs)).take 2) = pf ∧ (bs.drop (at0 bs + 4)).take (4 * wordsN bs) = xt ∧ bs.drop (at0 bs + 4 + 4 * wordsN bs) = pl ++ padB pd := by
  intro hx
  have e1 : bs.drop (at0 bs) = beb 2 pf ++ (beb 2 (xt.length / 4) ++ (xt ++ (pl ++ padB pd))) := by
   rw [dat]; simp [exBt, hx]
  have e2 : bs.drop (at0 bs + 2) = beb 2 (xt.length / 4) ++ (xt ++ (pl ++ padB pd)) := by
   rw [← List.drop_drop, e1]; exact drop_pre (length_beb _ _)
  have e3 : bs.drop (at0 bs + 4) = xt ++ (pl ++ padB pd) := by
   rw [show at0 bs + 4 = at0 bs + 2 + 2 by rfl, ← List.drop_drop, e2]; exact drop_pre (length_beb _ _)
  have w1 : wordsN bs = xt.length / 4 := by unfold wordsN; rw [e2, take_pre (length_beb _ _), numb_beb_of (by omega)]
  have w2 : 4 * wordsN bs = xt.length := by rw [w1]; omega
  refine ⟨w1, by rw [e1, take_pre (length_beb _ _), numb_beb_of (by omega)], by rw [e3, w2]; exact take_pre rfl, ?_⟩
  rw [← List.drop_drop, e3, w2]
  exact drop_pre rfl
 have hA1 : at1 bs = 12 + 4 * ot.length + (if x = true then 4 + xt.length else 0) ∧ bs.drop (at1 bs) = pl ++ padB pd := by
  by_cases hx : x = true
  · obtain ⟨w1, w2, w3, w4⟩ := hW hx
    have e : at1 bs = at0 bs + 4 + 4 * wordsN bs := by unfold at1; rw [ex, if_pos hx]
    rw [e, if_pos hx]
    exact ⟨by rw [w1, eat]; omega, w4⟩
  · have e : at1 bs = at0 bs := by unfold at1; rw [ex, if_neg hx]
    rw [e, if_neg hx, eat]
    refine ⟨rfl, ?_⟩
    rw [← eat, dat]
    simp [exBt, hx]
 obtain ⟨hA, hD⟩ := hA1
 have hPd : padN bs = pd := by
  unfold padN
  rw [ep]
  by_cases h : 0 < pd
  · simp only [h, decide_true, if_true]
    have e : bs = (hdB ⟨m, ty, sq, st, so, ot, x, pf, xt, pl, pd⟩ ++ (otB ot ++ (exBt ⟨m, ty, sq, st, so, ot, x, pf, xt, pl, pd⟩ ++ pl))) ++ padB pd := by
     rw [hB]; simp [wrB]
    rw [e]
    exact last_pad _ pd h f6
  · simp [h]; omega
 constructor
 · unfold whyR
   rw [if_neg (by omega), if_neg (by omega), if_neg (by rw [v2]; simp), if_neg (by rw [eat, hlen2]; omega)]
   have c1 : at1 bs ≤ bs.length := by rw [hA, hlen2]; omega
   rw [if_neg (fun hc => by
    have hx : x = true := by rw [← ex]; exact hc.1
    have h9 := hc.2
    rw [eat, hlen2, if_pos hx] at h9; omega), if_neg (fun hc => by have := hc.2; omega), if_neg (fun hc => by
    have hx : x = true := by rw [← ex]; exact hc.1
    have h9 := hc.2
    rw [(hW hx).1] at h9; omega), if_neg (fun hc => by
    have h9 : 0 < pd := by have := hc.1; rw [ep] at this; simpa using this
    have h10 : bt bs (bs.length - 1) = pd := by
     have := hPd
     unfold padN at this
     rw [if_pos hc.1] at this
     exact this
    rw [h10] at hc
    have h11 := hc.2
    rw [hA, hlen2] at h11
    omega)]
 · have hxt : (if exBR bs = true then (bs.drop (at0 bs + 4)).take (4 * wordsN bs) else []) = xt := by
    rw [ex]
    by_cases hx : x = true
    · rw [if_pos hx]; exact (hW hx).2.2.1
    · rw [if_neg hx]
      rcases m3 with m3 | m3
      · exact absurd m3 hx
      · exact (List.eq_nil_of_length_eq_zero m3.1).symm
   have hpf : (if exBR bs = true then numb ((bs.drop (at0 bs)).take 2) else 0) = pf := by
    rw [ex]
    by_cases hx : x = true
    · rw [if_pos hx]; exact (hW hx).2.1
    · rw [if_neg hx]
      rcases m3 with m3 | m3
      · exact absurd m3 hx
      · exact m3.2.symm
   have hpl : (bs.drop (at1 bs)).take (bs.length - at1 bs - padN bs) = pl := by
    rw [hD, hPd, hA, hlen2, show 12 + 4 * ot.length + (if x = true then 4 + xt.length else 0) + pl.length + pd - (12 + 4 * ot.length + (if x = true then 4 + xt.length else 0)) - pd = pl.length by omega]
    exact take_pre rfl
   unfold pktR
   rw [em, ety, esq, est, eso, eot, hxt, hpf, hpl, hPd, ex]
end Go.Proofs.YtmkeioeodlidgaaGreatDoor

namespace Go.Proofs.YtmkeioeodlidgaaGreatDoor
open Go.RowKit
set_option linter.unusedVariables false

theorem peek_len {b : List UInt8} (h : whyPeek b = 0) : 22 ≤ b.length ∧ b.length ≤ 1200 ∧ at1 b ≤ b.length - 10 := by
 unfold whyPeek at h
 by_cases c1 : 1200 < b.length
 · rw [if_pos c1] at h; omega
 rw [if_neg c1] at h
 by_cases c2 : b.length < 22
 · rw [if_pos c2] at h; omega
 rw [if_neg c2] at h
 by_cases c3 : bt b 0 / 64 ≠ 2
 · rw [if_pos c3] at h; omega
 rw [if_neg c3] at h
 by_cases c4 : b.length - 10 < at1 b
 · rw [if_pos c4] at h; omega
 omega
theorem bt_take {b : List UInt8} {i m : Nat} (h : i < m) : bt (b.take m) i = bt b i := by
 unfold bt
 simp [List.getD, h]
theorem drop_take2 {b : List UInt8} {o k m : Nat} (h : o + k ≤ m) : ((b.take m).drop o).take k = (b.drop o).take k := by
 rw [List.drop_take, List.take_take, Nat.min_eq_left (by omega)]
theorem at0_take {b : List UInt8} {m : Nat} (h : 1 ≤ m) : at0 (b.take m) = at0 b := by
 unfold at0 othN
 rw [bt_take (by omega)]
theorem exBR_take {b : List UInt8} {m : Nat} (h : 1 ≤ m) : exBR (b.take m) = exBR b := by
 unfold exBR
 rw [bt_take (by omega)]
theorem at1_take {b : List UInt8} {m : Nat} (h : 1 ≤ m) : (at1 b ≤ m → at1 (b.take m) = at1 b) ∧ (at1 (b.take m) ≤ m → at1 b ≤ m) := by
 have hw : at0 b + 4 ≤ m → wordsN (b.take m) = wordsN b := fun h2 => by
  unfold wordsN
  rw [at0_take h, drop_take2 (by omega)]
 unfold at1
 rw [exBR_take h, at0_take h]
 cases exBR b
 · exact ⟨fun _ => rfl, fun k => k⟩
 · simp only [if_true]
   refine ⟨fun k => by rw [hw (by omega)], fun k => ?_⟩
   rw [hw (by omega)] at k
   exact k
theorem at1_alike {X B : List UInt8} {m : Nat} (h1 : 1 ≤ m) (h : X.take m = B.take m) (hm : at1 B ≤ m) : at1 X = at1 B := by
 have k1 := (at1_take (b := B) h1).1 hm
 have k2 := (at1_take (b := X) h1).2 (by rw [h, k1]; exact hm)
 rw [← (at1_take (b := X) h1).1 k2, h, k1]
theorem soN_alike {X B : List UInt8} {m : Nat} (h1 : 12 ≤ m) (h : X.take m = B.take m) : soN X = soN B := by
 unfold soN
 rw [← drop_take2 (b := X) (m := m) (by omega), h, drop_take2 (by omega)]
theorem sqN_alike {X B : List UInt8} {m : Nat} (h1 : 12 ≤ m) (h : X.take m = B.take m) : sqN X = sqN B := by
 unfold sqN
 rw [← drop_take2 (b := X) (m := m) (by omega), h, drop_take2 (by omega)]
theorem bt_alike {X B : List UInt8} {m i : Nat} (h1 : i < m) (h : X.take m = B.take m) : bt X i = bt B i := by
 rw [← bt_take (b := X) h1, h, bt_take h1]
theorem turnW_twice (s : Wy) (B : List UInt8) (h so i : Nat) (hh : h ≤ B.length) : turnW s (turnW s B h so i) h so i = B := by
 have e : (B.take h).length = h := by rw [List.length_take]; omega
 unfold turnW
 rw [List.take_left' e, List.drop_left' e, cph_twice, List.take_append_drop]
theorem turnW_take (s : Wy) (B : List UInt8) (h so i : Nat) (hh : h ≤ B.length) : (turnW s B h so i).take h = B.take h := by
 have e : (B.take h).length = h := by rw [List.length_take]; omega
 unfold turnW
 rw [List.take_left' e]
def Wy.keyed (s y : Wy) : Prop := y.key = s.key ∧ y.auth = s.auth ∧ y.salt = s.salt
theorem turnW_keyed {s y : Wy} (h : s.keyed y) (B : List UInt8) (a so i : Nat) : turnW y B a so i = turnW s B a so i := by unfold turnW; rw [h.1, h.2.2]
theorem tagW_keyed {s y : Wy} (h : s.keyed y) (B : List UInt8) (i : Nat) : tagW y B i = tagW s B i := by unfold tagW; rw [h.2.1]
structure Sealed (s : Wy) (p : Pkt) (i : Nat) (X : List UInt8) : Prop where
 len : X.length = (wrB p).length + 10
 small : (wrB p).length ≤ 1190
 big : 12 ≤ (wrB p).length
 head : X.take (at1 (wrB p)) = (wrB p).take (at1 (wrB p))
 hd12 : 12 ≤ at1 (wrB p)
 hdle : at1 (wrB p) ≤ (wrB p).length
 body : X.take (X.length - 10) = turnW s (wrB p) (at1 (wrB p)) p.so i
 tag : X.drop (X.length - 10) = tagW s (turnW s (wrB p) (at1 (wrB p)) p.so i) i
theorem sealed_ok (s : Wy) (p : Pkt) (i : Int) (hm : mayW p i) (hf : fits p) : Sealed s p i.toNat (sealB s (wrB p) (at1 (wrB p)) p.so i.toNat) := by
 have hp := why_parts (wrB p) (read_wr p hm.1 hf).1
 have hd : 12 ≤ at1 (wrB p) := by
  unfold at1 at0
  split <;> omega
 have hl := turnW_len s (wrB p) (at1 (wrB p)) p.so i.toNat _ rfl hp.2.2.2.1
 have hX : (sealB s (wrB p) (at1 (wrB p)) p.so i.toNat).length = (wrB p).length + 10 := by
  unfold sealB
  rw [List.length_append, hl, tagW_len]
 have e10 : (wrB p).length + 10 - 10 = (wrB p).length := by omega
 refine ⟨hX, hm.2.2.2.2, hp.1, ?_, hd, hp.2.2.2.1, ?_, ?_⟩
 · unfold sealB
   rw [List.take_append_of_le_length (by rw [hl]; exact hp.2.2.2.1), turnW_take _ _ _ _ _ hp.2.2.2.1]
 · rw [hX, e10]
   unfold sealB
   rw [List.take_left' hl]
 · rw [hX, e10]
   unfold sealB
   rw [List.drop_left' hl]
theorem sealed_head {s : Wy} {p : Pkt} {i : Nat} {X : List UInt8} (h : Sealed s p i X) (hm : mayB p) (hf : fits p) : whyPeek X = 0 ∧ at1 X = at1 (wrB p) ∧ soN X = p.so ∧ sqN X = p.sq := by
 have hr := read_wr p hm hf
 have hp := why_parts (wrB p) hr.1
 have ha := at1_alike (by have := h.hd12; omega) h.head (Nat.le_refl _)
 have hb := bt_alike (i := 0) (by have := h.hd12; omega) h.head
 have l1 := h.len
 have l2 := h.small
 have l3 := h.big
 have l4 := h.hdle
 refine ⟨?_, ha, ?_, ?_⟩
 · unfold whyPeek
   rw [if_neg (by omega), if_neg (by omega), if_neg (by rw [hb]; omega), if_neg (by omega)]
 · rw [soN_alike h.hd12 h.head]
   exact congrArg Pkt.so hr.2
 · rw [sqN_alike h.hd12 h.head]
   exact congrArg Pkt.sq hr.2
theorem sealed_open {s y : Wy} {p : Pkt} {i : Nat} {X : List UInt8} (h : Sealed s p i X) (hm : mayB p) (hf : fits p) (hk : s.keyed y) (hi : i < 281474976710656) (hu : ¬ y.limit ≤ y.used) (hr : ¬ (lookW y.ws p.so = none ∧ 8 ≤ y.ws.length)) (hx : likely (highW y.ws p.so) (p.sq : Int) = (i : Int))
 (hfr : ¬ ∃ L, lookW y.ws p.so = some L ∧ frL L (i : Int) = false) : whyOpen y X = 0 ∧ codeO y X = 0 ∧ idxO y X = (i : Int) ∧ pktO y X = p ∧ yO y X = { y with used := y.used + 1, ws := markW y.ws p.so (i : Int) } := by
 obtain ⟨h1, h2, h3, h4⟩ := sealed_head h hm hf
 have hidx : idxW y X = (i : Int) := by unfold idxW; rw [h3, h4]; exact hx
 have hw : whyOpen y X = 0 := by
  refine whyOpen_0 h1 hu (by rw [h3]; exact hr) (by rw [hidx]; omega) (by rw [h3, hidx]; exact hfr) ?_
  rw [hidx, Int.toNat_natCast, h.body, h.tag, tagW_keyed hk]
 have hp : plainW y X = wrB p := by
  unfold plainW
  rw [hidx, Int.toNat_natCast, h.body, h2, h3, turnW_keyed hk, turnW_twice _ _ _ _ _ h.hdle]
 have hrd := read_wr p hm hf
 have hc : codeO y X = 0 := by
  unfold codeO
  rw [if_neg (fun k => k hw), hp, if_neg (fun k => k hrd.1)]
 refine ⟨hw, hc, ?_, ?_, ?_⟩
 · unfold idxO; rw [if_pos hc, hidx]
 · unfold pktO; rw [if_pos hc, hp, hrd.2]
 · unfold yO; rw [if_pos hw, h3, hidx]
theorem likely_none (q : Nat) : likely (-1) (q : Int) = (q : Int) := likely_neg _ _ (by omega)
theorem highW_one (n : Nat) (i : Nat) : highW [(n, [(i : Int)])] n = (i : Int) := by
 unfold highW lookW
 rw [if_pos rfl]
 simp [hiL]
 omega
theorem likely_self (q : Nat) (h : q < 65536) : likely (q : Int) (q : Int) = (q : Int) := by
 have e : aheadZ (q : Int) (q : Int) = 0 := by unfold aheadZ; omega
 rw [likely_in _ _ (by omega) (by rw [e]; omega), e]
 omega
theorem sealed_new {s y : Wy} {p : Pkt} {X : List UInt8} (h : Sealed s p p.sq X) (hm : mayB p) (hf : fits p) (hk : s.keyed y) (hu : ¬ y.limit ≤ y.used) (hw : y.ws = []) :
 codeO y X = 0 ∧ idxO y X = (p.sq : Int) ∧ pktO y X = p ∧ yO y X = { y with used := y.used + 1, ws := [(p.so, [(p.sq : Int)])] } := by
 obtain ⟨_, h2, h3, h4, h5⟩ := sealed_open h hm hf hk (by have := hf.1; omega) hu (by rw [hw]; simp) (by rw [hw]; exact likely_none p.sq) (by rw [hw]; simp [lookW])
 refine ⟨h2, h3, h4, ?_⟩
 rw [h5, hw]
 have : mkL [] (p.sq : Int) = [(p.sq : Int)] := by rw [mkL_of (fr_above (by omega) (by rw [hiL_nil]; omega))]; rfl
 unfold markW winW
 simp [lookW, putY, this]
theorem sealed_old {s y : Wy} {p : Pkt} {X : List UInt8} (h : Sealed s p p.sq X) (hm : mayB p) (hf : fits p) (hu : ¬ y.limit ≤ y.used) (hw : y.ws = [(p.so, [(p.sq : Int)])]) : codeO y X = 5 := by
 obtain ⟨h1, h2, h3, h4⟩ := sealed_head h hm hf
 have hidx : idxW y X = (p.sq : Int) := by unfold idxW; rw [h3, h4, hw, highW_one]; exact likely_self _ hf.1
 have hw5 : whyOpen y X = 5 := by
  refine whyOpen_5 h1 hu (by rw [h3, hw]; simp [lookW]) (by rw [hidx]; have := hf.1; omega) ⟨[(p.sq : Int)], by rw [h3, hw]; simp [lookW], ?_⟩
  rw [hidx]
  simp [frL]
 unfold codeO
 rw [hw5, if_pos (by decide)]
structure KEnv (q r g : Nat) (M s : List UInt8) (fi : Int) (wr : World) : Prop where
 hq : Blk wr q 25 M
 hr : BlkV wr r 5 [.int .u8 fi]
 hg : Blk wr g 49 s
 nq : q ≠ g
 nr : r ≠ g

set_option maxRecDepth 100000 in
set_option maxHeartbeats 1000000 in
theorem fill_any (q r g o n c L : Nat) (key salt s : List UInt8) (fi li : Int) (w : World) (hk : key.length = 16) (hs : salt.length = 14) (he : IntKind.u8.wrap (fi + li) = (L : Int)) (hL : L < 256) (h : KEnv q r g (mst key salt) s fi w) (h1 : 1 ≤ n) (hn : n ≤ 50) (hsl : o + n ≤ s.length) :
 Calls Tryz.prog 69 #[.slice (some ⟨g, o, none⟩) n c, .int .u8 li, .pointer (some ⟨q, 0, none⟩), .pointer (some ⟨r, 0, none⟩)] w fun e w' => e = .returned (.tuple #[]) ∧ KEnv q r g (mst key salt) (splice s o (drv key salt L n)) fi w' ∧ w.grownBy w' (some g) := by
 have hml := mst_len key salt hk hs
 have hdr := fun wx => derive_any key salt L (n : Int) n wx hk hs hL (by omega) (by omega)
 have hdl := drv_len key salt L n
 obtain ⟨D, hD⟩ : ∃ D, D = drv key salt L n := ⟨_, rfl⟩
 simp only [← hD] at hdr hdl ⊢
 have hcp : splice (cells s) o (cells (D.take n)) = cells (splice s o D) := by rw [List.take_of_length_le (by omega), cells_splice]
 obtain ⟨M, hM⟩ : ∃ M, M = mst key salt := ⟨_, rfl⟩
 simp only [← hM] at hdr h hml ⊢
 have hq := h.hq
 have hr := h.hr
 have hg := h.hg
 have nq := h.nq
 have nr := h.nr
 have hrc : w.cell? ⟨r, 0, none⟩ = some (.int .u8 fi) := (hr.cell 0).trans rfl
 have hML : (cells M).length = 30 := by rw [length_cells, hml]
 have hln : o + n ≤ (cells s).length := by rw [length_cells]; exact hsl
 have HML := Lib.hid hML
 have HDR := Lib.hid hdr
 have HCP := Lib.hid hcp
 have HLN := Lib.hid hln
 have hmin : n = min n n := by omega
 have HMIN := Lib.hid hmin
 clear hml hdr hdl hD hcp hM h hsl hML hln hk hs hmin
 go_enter Tryz.func69, Tryz.ntmps69
 go_wp2_with (first
  | (with_reducible refine wpList_ld rfl 25 (.tmp 2) rfl q 0 rfl (cells M) (hq.v.range 0 _ (by simp)) (row30 HML.out) ?_)
  | (go_at_call 70; ((with_reducible refine (HDR.out _).mono ?_); rintro e w2 ⟨A2, c2, rfl, hr2, hb2⟩; have q2 := hq.below hb2 hq.lt; have r2 := hr.below hb2 hr.lt; have g2 := hg.below hb2 hg.lt; have gr2 := grown_of_below hb2 (some g)))
  | ((with_reducible refine wpList_cp rfl (.tmp 6) (.tmp 13) rfl Tryz.underlying35 u8_inf g o n c 49 (cells s) rfl g2.v A2 n c2 D rfl hr2 HLN.out n HMIN.out (by omega) ?_); intro w3 hB3 ho3; rw [HCP.out] at hB3))
 go_end0
 exact ⟨rfl, ⟨Blk.only q2 ho3 nq, r2.only ho3 nr, hB3, nq, nr⟩, grown_only gr2 ho3 (.inl rfl)⟩

theorem way_boxes (w : World) (M : List UInt8) (fi : Int) : Below w.heap.size w ((((w.alloc (Obj.cells (cells M).toArray 25)).alloc (Obj.cells #[.int .u8 fi] 5)).alloc (Obj.cells (cells Z50).toArray 49)).alloc (Obj.cells (cells Z50).toArray 49)) ∧
 KEnv w.heap.size (w.heap.size + 1) (w.heap.size + 1 + 1 + 1) M Z50 fi ((((w.alloc (Obj.cells (cells M).toArray 25)).alloc (Obj.cells #[.int .u8 fi] 5)).alloc (Obj.cells (cells Z50).toArray 49)).alloc (Obj.cells (cells Z50).toArray 49)) ∧
 Blk ((((w.alloc (Obj.cells (cells M).toArray 25)).alloc (Obj.cells #[.int .u8 fi] 5)).alloc (Obj.cells (cells Z50).toArray 49)).alloc (Obj.cells (cells Z50).toArray 49)) (w.heap.size + 1 + 1) 49 Z50 :=
 ⟨((((Below.refl _ _).alloc (Nat.le_refl _) _).alloc (by simp) _).alloc (by simp; omega) _).alloc (by simp; omega) _,
  ⟨(((Blk.new _ _ _).alloc _).alloc _).alloc _, ((BlkV.new_at _ _ _ [.int .u8 fi] _ (by simp) rfl).alloc _).alloc _, Blk.new_at _ _ _ _ _ (by simp) rfl, by omega, by omega⟩,
  (Blk.new_at _ _ _ _ _ (by simp) rfl).alloc _⟩

set_option maxRecDepth 100000 in
set_option maxHeartbeats 1000000 in
theorem way_any (key salt : List UInt8) (f : Nat) (fi : Int) (w : World) (hk : key.length = 16) (hs : salt.length = 14) (hf : f < 250) (hfi : fi = (f : Int)) :
 Calls Tryz.prog 44 #[.agg (cells (mst key salt)).toArray, .int .u8 fi] w fun e w' => e = .returned (.agg (cells (kys key salt f)).toArray) ∧ Below w.heap.size w w' := by
 have hmf : ∀ (fn : Fn) (first cap : Array Value) (w : World), (Instr.makeFunc fn first cap).run Tryz.prog w = .ok (.func fn first cap) w := fun _ _ _ _ => rfl
 have hz := zero50
 obtain ⟨hb0, hE, hR⟩ := way_boxes w (mst key salt) fi
 have w0 : IntKind.u8.wrap (fi + 0) = (f : Int) := by rw [IntKind.wrap_u8]; omega
 have w1 : IntKind.u8.wrap (fi + 1) = ((f + 1 : Nat) : Int) := by rw [IntKind.wrap_u8]; omega
 have w2 : IntKind.u8.wrap (fi + 2) = ((f + 2 : Nat) : Int) := by rw [IntKind.wrap_u8]; omega
 have l0 := drv_len key salt f 16
 have l1 := drv_len key salt (f + 1) 20
 have l2 := drv_len key salt (f + 2) 14
 have hkl := kys_len key salt f
 obtain ⟨K, hK⟩ : ∃ K, K = kys key salt f := ⟨_, rfl⟩
 rw [← hK] at hkl ⊢
 obtain ⟨S1, hS1⟩ : ∃ S1, S1 = splice Z50 0 (drv key salt f 16) := ⟨_, rfl⟩
 obtain ⟨S2, hS2⟩ : ∃ S2, S2 = splice S1 16 (drv key salt (f + 1) 20) := ⟨_, rfl⟩
 have n1 : S1.length = 50 := by rw [hS1, splice_len _ _ _ (by rw [l0, Z50_len]; omega), Z50_len]
 have n2 : S2.length = 50 := by rw [hS2, splice_len _ _ _ (by rw [l1, n1]; omega), n1]
 have hS3 : splice S2 36 (drv key salt (f + 2) 14) = K := by rw [hS2, hS1, hK, trio3 _ _ _ l0 l1 l2]; rfl
 have f0 := fun q r g c wx (h : KEnv q r g (mst key salt) Z50 fi wx) => fill_any q r g 0 16 c f key salt Z50 fi 0 wx hk hs w0 (by omega) h (by omega) (by omega) (by rw [Z50_len]; omega)
 have f1 := fun q r g c wx (h : KEnv q r g (mst key salt) S1 fi wx) => fill_any q r g 16 20 c (f + 1) key salt S1 fi 1 wx hk hs w1 (by omega) h (by omega) (by omega) (by omega)
 have f2 := fun q r g c wx (h : KEnv q r g (mst key salt) S2 fi wx) => fill_any q r g 36 14 c (f + 2) key salt S2 fi 2 wx hk hs w2 (by omega) h (by omega) (by omega) (by omega)
 simp only [← hS1] at f0
 simp only [← hS2] at f1
 simp only [hS3] at f2
 obtain ⟨M, hM⟩ : ∃ M, M = mst key salt := ⟨_, rfl⟩
 simp only [← hM] at f0 f1 f2 hE ⊢
 rw [← hM] at hb0 hR
 have hKL : (cells K).length = 50 := by rw [length_cells, hkl]
 have hZL : (cells Z50).length = 50 := by rw [length_cells, Z50_len]
 have HKL := Lib.hid hKL
 have HZL := Lib.hid hZL
 have F0 := Lib.hid f0
 have F1 := Lib.hid f1
 have F2 := Lib.hid f2
 clear w0 w1 w2 l0 l1 l2 hkl hK hS1 hS2 n1 n2 hS3 f0 f1 f2 hM hKL hZL hk hs hf hfi
 go_enter Tryz.func44, Tryz.ntmps44
 go_wp2_with (first
  | (go_at_call 69; ((with_reducible refine (F0.out _ _ _ _ _ hE).mono ?_); rintro e x1 ⟨rfl, hE1, hg1⟩))
  | (go_at_call 69; ((with_reducible refine (F1.out _ _ _ _ _ hE1).mono ?_); rintro e x2 ⟨rfl, hE2, hg2⟩))
  | (go_at_call 69; ((with_reducible refine (F2.out _ _ _ _ _ hE2).mono ?_); rintro e x3 ⟨rfl, hE3, hg3⟩; have hK3 := hE3.hg; have hR3 := ((hR.grown hg1 (by intro e; injection e with e; omega)).grown hg2 (by intro e; injection e with e; omega)).grown hg3 (by intro e; injection e with e; omega)))
  | (with_reducible refine wpList_ld rfl 49 (.tmp 6) rfl (w.heap.size + 1 + 1 + 1) 0 rfl (cells K) (hK3.v.range 0 _ (by simp)) (row50 HKL.out) ?_)
  | ((with_reducible refine wpList_st rfl 49 (.tmp 4) (.tmp 20) rfl (w.heap.size + 1 + 1) 0 (cells K) rfl rfl 49 _ hR3.v (by rw [HKL.out, HZL.out]; omega) (row50 HKL.out) (cells_one _) ?_); intro x4 hB4 ho4; rw [splice_all _ _ (by rw [HKL.out, HZL.out])] at hB4))
 have hg := (hg1.trans hg2).trans hg3
 have hb := hb0.trans (below_of_grown hg hb0.size (fun k hk => by injection hk with hk; omega))
 exact ret_row (by rfl) (by rfl) hB4 (row50 HKL.out) (by rfl) ⟨rfl, hb.trans (ho4.below (by omega))⟩

set_option maxRecDepth 100000 in
set_option maxHeartbeats 1000000 in
theorem rtp_any (key salt : List UInt8) (w : World) (hk : key.length = 16) (hs : salt.length = 14) :
 Calls Tryz.prog 19 #[.agg (cells (mst key salt)).toArray] w fun e w' => e = .returned (.agg (cells (kys key salt 0)).toArray) ∧ Below w.heap.size w w' := by
 have hz := zero50
 have hb0 : Below w.heap.size w ((w.alloc (Obj.cells (cells (mst key salt)).toArray 25)).alloc (Obj.cells (cells Z50).toArray 49)) := ((Below.refl _ _).alloc (Nat.le_refl _) _).alloc (by simp) _
 have h0 : Blk ((w.alloc (Obj.cells (cells (mst key salt)).toArray 25)).alloc (Obj.cells (cells Z50).toArray 49)) w.heap.size 25 (mst key salt) := (Blk.new _ _ _).alloc _
 have h1 : Blk ((w.alloc (Obj.cells (cells (mst key salt)).toArray 25)).alloc (Obj.cells (cells Z50).toArray 49)) (w.heap.size + 1) 49 Z50 := Blk.new_at _ _ _ _ _ (by simp) rfl
 have hML : (cells (mst key salt)).length = 30 := by rw [length_cells, mst_len _ _ hk hs]
 have hKL : (cells (kys key salt 0)).length = 50 := by rw [length_cells, kys_len]
 have hZL : (cells Z50).length = 50 := by rw [length_cells, Z50_len]
 have hwy := fun wx => way_any key salt 0 0 wx hk hs (by omega) rfl
 obtain ⟨M, hM⟩ : ∃ M, M = mst key salt := ⟨_, rfl⟩
 obtain ⟨K, hK⟩ : ∃ K, K = kys key salt 0 := ⟨_, rfl⟩
 simp only [← hM, ← hK] at hwy ⊢
 rw [← hM] at hb0 h0 h1 hML
 rw [← hK] at hKL
 have HML := Lib.hid hML
 have HKL := Lib.hid hKL
 have HZL := Lib.hid hZL
 have HW := Lib.hid hwy
 clear hML hKL hZL hwy hM hK hk hs
 go_enter Tryz.func19, Tryz.ntmps19
 go_wp2_with (first
  | (with_reducible refine wpList_ld rfl 25 (.tmp 1) rfl w.heap.size 0 rfl (cells M) (h0.v.range 0 _ (by simp)) (row30 HML.out) ?_)
  | (go_at_call 44; ((with_reducible refine (HW.out _).mono ?_); rintro e w2 ⟨rfl, hb2⟩; have k1 := h1.below hb2 h1.lt))
  | ((with_reducible refine wpList_st rfl 49 (.tmp 2) (.tmp 4) rfl (w.heap.size + 1) 0 (cells K) rfl rfl 49 _ k1.v (by rw [HKL.out, HZL.out]; omega) (row50 HKL.out) (cells_one _) ?_); intro w3 hB3 ho3; rw [splice_all _ _ (by rw [HKL.out, HZL.out])] at hB3))
 exact ret_row (by rfl) (by rfl) hB3 (row50 HKL.out) (by rfl) ⟨rfl, (hb0.trans (hb2.mono hb0.size)).trans (ho3.below (by omega))⟩

end Go.Proofs.YtmkeioeodlidgaaGreatDoor
