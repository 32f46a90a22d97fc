/- Several texts in one: plain words and walks. No statement is proved here. -/
import Derived.Test.YtmkeioeodlidgaaGreatDoorZM21
import Derived.Test.YtmkeioeodlidgaaGreatDoorZM27
import Derived.Test.YtmkeioeodlidgaaGreatDoorZM22
import Derived.Test.YtmkeioeodlidgaaGreatDoorZM4
import Derived.Test.YtmkeioeodlidgaaGreatDoorZM14
import Derived.Test.YtmkeioeodlidgaaGreatDoorZM28
import Derived.Test.YtmkeioeodlidgaaGreatDoorZM16
import Derived.Test.YtmkeioeodlidgaaGreatDoorZM8
import Derived.Lib.SlBytesConst
namespace Go.Proofs.YtmkeioeodlidgaaGreatDoor
open Go.RowKit
set_option linter.unusedVariables false

def z16Y : List UInt8 := List.replicate 16 0
def z14Y : List UInt8 := List.replicate 14 0
def keyY : List UInt8 := [102, 233, 75, 212, 239, 138, 44, 59, 136, 76, 250, 89, 202, 52, 43, 46]
def saltY : List UInt8 := [181, 176, 52, 33, 222, 139, 191, 252, 78, 173, 236, 118, 115, 57]
def cntY1 : List UInt8 := [181, 176, 52, 33, 222, 139, 191, 249, 78, 173, 236, 119, 115, 62, 0, 0]
def cntY2 : List UInt8 := [181, 176, 52, 33, 222, 139, 191, 249, 78, 173, 236, 118, 115, 62, 0, 0]
theorem exY_key : drv z16Y z14Y 0 16 = keyY := by
 rw [drv, strm_below _ _ _ (labC_len _ _ rfl) (by omega)]; decide +kernel
theorem exY_salt : drv z16Y z14Y 2 14 = saltY := by
 rw [drv, strm_below _ _ _ (labC_len _ _ rfl) (by omega)]; decide +kernel
theorem exY_c1 : firstC saltY 5 65543 = cntY1 := by decide +kernel
theorem exY_c2 : firstC saltY 5 7 = cntY2 := by decide +kernel
theorem exY_ne : (enc (kall keyY) cntY1).getD 0 0 ≠ (enc (kall keyY) cntY2).getD 0 0 := by decide +kernel
def pkY : Pkt := ⟨false, 96, 7, 0, 5, [], false, 0, [], [104, 101, 108, 108, 111], 0⟩
theorem pkY_may : mayB pkY := ⟨by decide, by decide, .inr ⟨rfl, rfl⟩, by decide, by decide, by decide⟩
theorem pkY_fits : fits pkY := ⟨by decide, by decide, by decide, fun x hx => (nomatch hx), by decide, by decide⟩
theorem pkY_len : (wrB pkY).length = 17 := by rw [wrB_len]; rfl
theorem pkY_at1 : at1 (wrB pkY) = 12 := by
 have h := read_wr pkY pkY_may pkY_fits
 rw [← hd_at1 _ h.1, h.2]
 rfl
theorem pkY_w1 : mayW pkY 65543 := ⟨pkY_may, by decide, by decide, by decide, by rw [pkY_len]; decide⟩
theorem pkY_w2 : mayW pkY 7 := ⟨pkY_may, by decide, by decide, by decide, by rw [pkY_len]; decide⟩
theorem sealB_mid (s : Wy) (B : List UInt8) (h so i : Nat) (hh : h ≤ B.length) : ((sealB s B h so i).drop h).take (B.length - h) = cph s.key (firstC s.salt so i) (B.drop h) := by
 have e : (B.take h).length = h := by rw [List.length_take]; omega
 unfold sealB turnW
 rw [List.append_assoc, List.drop_left' e, List.take_left' (by rw [cph_len, List.length_drop])]
theorem xor_left (a x y : UInt8) (h : a ^^^ x = a ^^^ y) : x = y := by
 have h2 := congrArg (fun z => a ^^^ z) h
 simpa only [← UInt8.xor_assoc, UInt8.xor_self, UInt8.zero_xor] using h2
theorem exY_diff (s t : Wy) (hs : s.key = keyY ∧ s.salt = saltY) (ht : t.key = keyY ∧ t.salt = saltY) : sealB s (wrB pkY) (at1 (wrB pkY)) 5 65543 ≠ sealB t (wrB pkY) (at1 (wrB pkY)) 5 7 := by
 intro e
 have h1 := sealB_mid s (wrB pkY) (at1 (wrB pkY)) 5 65543 (by rw [pkY_at1, pkY_len]; decide)
 have h2 := sealB_mid t (wrB pkY) (at1 (wrB pkY)) 5 7 (by rw [pkY_at1, pkY_len]; decide)
 rw [e, h2, hs.1, hs.2, ht.1, ht.2, exY_c1, exY_c2] at h1
 have hl : ((wrB pkY).drop (at1 (wrB pkY))).length = 5 := by rw [List.length_drop, pkY_at1, pkY_len]
 have h3 := congrArg (fun l => l.getD 0 0) h1
 simp only [cph] at h3
 rw [tab_get _ _ _ (by omega), tab_get _ _ _ (by omega)] at h3
 have h4 := xor_left _ _ _ h3
 unfold ksB at h4
 rw [show 0 / 16 = 0 from rfl, show 0 % 16 = 0 from rfl, plusC_zero _ rfl, plusC_zero _ rfl] at h4
 exact exY_ne h4.symm
noncomputable def yY : Wy := newY z16Y z14Y 9
theorem yY_good : yY.good := newY_good _ _ _ (by decide)
theorem yY_keys : yY.key = keyY ∧ yY.salt = saltY := ⟨exY_key, exY_salt⟩
theorem exY_seal1 : whySeal yY pkY 65543 = 0 ∧ outSeal yY pkY 65543 = sealB yY (wrB pkY) (at1 (wrB pkY)) 5 65543 ∧ ySeal yY pkY 65543 = yY.once := by
 have h : whySeal yY pkY 65543 = 0 := why0 (by show ¬ (9 : Int) ≤ 0; decide) pkY_w1
 exact ⟨h, by unfold outSeal; rw [if_pos h]; rfl, by unfold ySeal; rw [if_pos h]⟩
theorem exY_seal2 : whySeal yY.once pkY 7 = 0 ∧ outSeal yY.once pkY 7 = sealB yY.once (wrB pkY) (at1 (wrB pkY)) 5 7 ∧ ySeal yY.once pkY 7 = yY.once.once := by
 have h : whySeal yY.once pkY 7 = 0 := why0 (by show ¬ (9 : Int) ≤ 0 + 1; decide) pkY_w2
 exact ⟨h, by unfold outSeal; rw [if_pos h]; rfl, by unfold ySeal; rw [if_pos h]⟩
theorem exY_differ : outSeal yY pkY 65543 ≠ outSeal yY.once pkY 7 := by
 rw [exY_seal1.2.1, exY_seal2.2.1]
 exact exY_diff _ _ yY_keys yY_keys
theorem exY_sealed : Sealed yY.once pkY 7 (outSeal yY.once pkY 7) := by
 rw [exY_seal2.2.1]
 exact sealed_ok yY.once pkY 7 pkY_w2 pkY_fits
theorem exY_open1 : codeO yY (outSeal yY.once pkY 7) = 0 ∧ idxO yY (outSeal yY.once pkY 7) = 7 ∧ pktO yY (outSeal yY.once pkY 7) = pkY ∧ yO yY (outSeal yY.once pkY 7) = { yY with used := 1, ws := [(5, [7])] } := by
 obtain ⟨h1, h2, h3, h4⟩ := sealed_new (y := yY) exY_sealed pkY_may pkY_fits ⟨rfl, rfl, rfl⟩ (by show ¬ (9 : Int) ≤ 0; decide) rfl
 exact ⟨h1, h2, h3, h4⟩
theorem exY_open2 : codeO { yY with used := 1, ws := [(5, [7])] } (outSeal yY.once pkY 7) = 5 :=
 sealed_old (y := { yY with used := 1, ws := [(5, [7])] }) exY_sealed pkY_may pkY_fits (by show ¬ (9 : Int) ≤ 1; decide) rfl
structure Ways (R : Nat → World → Value → Wy → (Nat → Prop) → Prop) (n : Nat) (w : World) (p : Nat → Value) (y : Nat → Wy) (F : Nat → Nat → Prop) (wx : World) : Prop where
 ob : ∀ i, i < n → R i wx (p i) (y i) (F i)
 dis : ∀ i j, i < n → j < n → i ≠ j → ∀ k, F i k → ¬ F j k
 lo : ∀ i, i < n → ∀ k, F i k → w.heap.size ≤ k
 below : Below w.heap.size w wx
section
variable {R : Nat → World → Value → Wy → (Nat → Prop) → Prop} {n : Nat} {w wx wy : World} {p : Nat → Value} {y : Nat → Wy} {F : Nat → Nat → Prop}
theorem Ways.zero (R : Nat → World → Value → Wy → (Nat → Prop) → Prop) (w : World) (p : Nat → Value) (y : Nat → Wy) (F : Nat → Nat → Prop) : Ways R 0 w p y F w :=
 ⟨fun i hi => absurd hi (Nat.not_lt_zero i), fun i j hi => absurd hi (Nat.not_lt_zero i), fun i hi => absurd hi (Nat.not_lt_zero i), Below.refl _ _⟩
theorem Ways.on (hL : ∀ i, Lone (R i)) (h : Ways R n w p y F wx) (hb : Below wx.heap.size wx wy) : Ways R n w p y F wy :=
 ⟨fun i hi => (hL i).below (h.ob i hi) hb, h.dis, h.lo, h.below.trans (hb.mono h.below.size)⟩
theorem Ways.turn (hL : ∀ i, Lone (R i)) (h : Ways R n w p y F wx) {i : Nat} (hi : i < n) {y' : Wy} {F' : Nat → Prop} (hf : Fr (F i) wx wy) (hr : R i wy (p i) y' F') (hF' : ∀ k, F' k → F i k ∨ wx.heap.size ≤ k) :
 Ways R n w p (fun j => if j = i then y' else y j) (fun j => if j = i then F' else F j) wy where
 ob j hj := by
  show R j wy (p j) (if j = i then y' else y j) (if j = i then F' else F j)
  by_cases e : j = i
  · subst e
    rw [if_pos rfl, if_pos rfl]
    exact hr
  · rw [if_neg e, if_neg e]
    exact (hL j).fr (h.ob j hj) hf (fun k hk hk2 => h.dis j i hj hi e k hk hk2)
 dis a b ha hb hab k := by
  show (if a = i then F' else F a) k → ¬ (if b = i then F' else F b) k
  by_cases ea : a = i
  · have eb : ¬ b = i := fun e => hab (ea.trans e.symm)
    rw [if_pos ea, if_neg eb]
    intro hk hk2
    rcases hF' k hk with h1 | h1
    · exact h.dis i b hi hb (Ne.symm eb) k h1 hk2
    · have := (hL b).low _ _ _ _ (h.ob b hb) k hk2
      omega
  · rw [if_neg ea]
    by_cases eb : b = i
    · rw [if_pos eb]
      intro hk hk2
      rcases hF' k hk2 with h1 | h1
      · exact h.dis a i ha hi ea k hk h1
      · have := (hL a).low _ _ _ _ (h.ob a ha) k hk
        omega
    · rw [if_neg eb]
      exact h.dis a b ha hb hab k
 lo j hj k := by
  show (if j = i then F' else F j) k → _
  by_cases e : j = i
  · rw [if_pos e]
    intro hk
    rcases hF' k hk with h1 | h1
    · exact h.lo i hi k h1
    · exact Nat.le_trans h.below.size h1
  · rw [if_neg e]
    exact h.lo j hj k
 below := h.below.trans (hf.below (h.lo i hi) h.below.size)
theorem Ways.more (hL : ∀ i, Lone (R i)) (h : Ways R n w p y F wx) (hb : Below wx.heap.size wx wy) {q : Value} {yq : Wy} {G : Nat → Prop} (hr : R n wy q yq G) (hG : ∀ k, G k → wx.heap.size ≤ k) :
 Ways R (n + 1) w (fun j => if j = n then q else p j) (fun j => if j = n then yq else y j) (fun j => if j = n then G else F j) wy where
 ob j hj := by
  show R j wy (if j = n then q else p j) (if j = n then yq else y j) (if j = n then G else F j)
  by_cases e : j = n
  · subst e
    rw [if_pos rfl, if_pos rfl, if_pos rfl]
    exact hr
  · rw [if_neg e, if_neg e, if_neg e]
    exact (hL j).below (h.ob j (by omega)) hb
 dis a b ha hb' hab k := by
  show (if a = n then G else F a) k → ¬ (if b = n then G else F b) k
  by_cases ea : a = n
  · have eb : ¬ b = n := fun e => hab (ea.trans e.symm)
    rw [if_pos ea, if_neg eb]
    intro hk hk2
    have h1 := hG k hk
    have := (hL b).low _ _ _ _ (h.ob b (by omega)) k hk2
    omega
  · rw [if_neg ea]
    by_cases eb : b = n
    · rw [if_pos eb]
      intro hk hk2
      have h1 := hG k hk2
      have := (hL a).low _ _ _ _ (h.ob a (by omega)) k hk
      omega
    · rw [if_neg eb]
      exact h.dis a b (by omega) (by omega) hab k
 lo j hj k := by
  show (if j = n then G else F j) k → _
  by_cases e : j = n
  · rw [if_pos e]
    intro hk
    exact Nat.le_trans h.below.size (hG k hk)
  · rw [if_neg e]
    exact h.lo j (by omega) k
 below := h.below.trans (hb.mono h.below.size)
theorem Ways.congr (h : Ways R n w p y F wx) {y2 : Nat → Wy} (hy : ∀ i, i < n → y i = y2 i) : Ways R n w p y2 F wx :=
 ⟨fun i hi => hy i hi ▸ h.ob i hi, h.dis, h.lo, h.below⟩
theorem Ways.turnMore (hL : ∀ i, Lone (R i)) (h : Ways R n w p y F wx) {i : Nat} (hi : i < n) {y' : Wy} {F' : Nat → Prop} (hf : Fr (F i) wx wy) (hr : R i wy (p i) y' F') (hF' : ∀ k, F' k → F i k ∨ wx.heap.size ≤ k)
 {q : Value} {yq : Wy} {G : Nat → Prop} (hq : R n wy q yq G) (hG : ∀ k, G k → wx.heap.size ≤ k) (hd : ∀ k, G k → ¬ F' k) :
 Ways R (n + 1) w (fun j => if j = n then q else p j) (fun j => if j = n then yq else if j = i then y' else y j) (fun j => if j = n then G else if j = i then F' else F j) wy := by
 have ht := h.turn hL hi hf hr hF'
 have hdis : ∀ j, j < n → ∀ k, G k → ¬ (if j = i then F' else F j) k := fun j hj k hk => by
  by_cases e : j = i
  · rw [if_pos e]; exact hd k hk
  · rw [if_neg e]
    intro hk2
    have h1 := hG k hk
    have := (hL j).low _ _ _ _ (h.ob j hj) k hk2
    omega
 refine ⟨fun j hj => ?_, fun a b ha hb hab k => ?_, fun j hj k => ?_, ht.below⟩
 · show R j wy (if j = n then q else p j) (if j = n then yq else if j = i then y' else y j) (if j = n then G else if j = i then F' else F j)
   by_cases e : j = n
   · subst e
     rw [if_pos rfl, if_pos rfl, if_pos rfl]
     exact hq
   · rw [if_neg e, if_neg e, if_neg e]
     exact ht.ob j (by omega)
 · show (if a = n then G else if a = i then F' else F a) k → ¬ (if b = n then G else if b = i then F' else F b) k
   by_cases ea : a = n
   · have eb : ¬ b = n := fun e => hab (ea.trans e.symm)
     rw [if_pos ea, if_neg eb]
     exact hdis b (by omega) k
   · rw [if_neg ea]
     by_cases eb : b = n
     · rw [if_pos eb]
       exact fun hk hk2 => hdis a (by omega) k hk2 hk
     · rw [if_neg eb]
       exact ht.dis a b (by omega) (by omega) hab k
 · show (if j = n then G else if j = i then F' else F j) k → _
   by_cases e : j = n
   · rw [if_pos e]
     exact fun hk => Nat.le_trans h.below.size (hG k hk)
   · rw [if_neg e]
     exact ht.lo j (by omega) k
theorem Ways.less (h : Ways R n w p y F wx) {m : Nat} (hm : m ≤ n) : Ways R m w p y F wx :=
 ⟨fun i hi => h.ob i (by omega), fun i j hi hj => h.dis i j (by omega) (by omega), fun i hi => h.lo i (by omega), h.below⟩
theorem Ways.like (h : Ways R n w p y F wx) {R2 : Nat → World → Value → Wy → (Nat → Prop) → Prop} {p2 : Nat → Value} {y2 : Nat → Wy} {F2 : Nat → Nat → Prop} (hR : ∀ i, i < n → R2 i = R i) (hp : ∀ i, i < n → p2 i = p i) (hy : ∀ i, i < n → y2 i = y i) (hF : ∀ i, i < n → F2 i = F i) : Ways R2 n w p2 y2 F2 wx :=
 ⟨fun i hi => by rw [hR i hi, hp i hi, hy i hi, hF i hi]; exact h.ob i hi, fun i j hi hj hij k => by rw [hF i hi, hF j hj]; exact h.dis i j hi hj hij k, fun i hi k => by rw [hF i hi]; exact h.lo i hi k, h.below⟩
end
def RRow (bs : List UInt8) (w : World) (p : Value) (_ : Wy) (F : Nat → Prop) : Prop := ∃ A n c, p = .slice A n c ∧ RdS w A n c bs ∧ F = fun k => 0 < n ∧ ∃ ad, A = some ad ∧ ad.block = k
theorem rrow_lone (bs : List UInt8) : Lone (RRow bs) where
 low := by
  rintro w p s F ⟨A, n, c, rfl, h, rfl⟩ k ⟨h0, ad, hA, rfl⟩
  obtain ⟨b, off, hA2, hlt, _⟩ := h.2.2.2.2 h0
  rw [hA] at hA2
  injection hA2 with hA2
  subst hA2
  exact hlt
 stay := by
  rintro w w2 p s F ⟨A, n, c, rfl, h, rfl⟩ hsz hs
  refine ⟨A, n, c, rfl, ⟨h.1, h.2.1, h.2.2.1, h.2.2.2.1, fun h0 => ?_⟩, rfl⟩
  obtain ⟨b, off, hA, hlt, hc⟩ := h.2.2.2.2 h0
  exact ⟨b, off, hA, Nat.lt_of_lt_of_le hlt hsz, fun j hj => (World.cell?_of_block (hs b ⟨h0, _, hA, rfl⟩)).trans (hc j hj)⟩
theorem rrow_own {w : World} {base n c : Nat} {e : TypeId} {A : Option Addr} {bs : List UInt8} (y : Wy) (h : w.ownsRow base e 1 (.slice A n c) n (cells bs)) : RRow bs w (.slice A n c) y (fun k => 0 < n ∧ ∃ ad, A = some ad ∧ ad.block = k) ∧ ∀ k, (0 < n ∧ ∃ ad, A = some ad ∧ ad.block = k) → (Value.slice A n c).ownBlock = some k ∧ base ≤ k := by
 refine ⟨⟨A, n, c, rfl, RdS.of_own h, rfl⟩, ?_⟩
 rintro k ⟨h0, ad, rfl, rfl⟩
 have : (Value.slice (some ad) n c).ownBlock = some ad.block := rfl
 exact ⟨this, (h.lt _ this).1⟩
def PkB (cs : List Value) (k : Nat) : Prop := ∃ A n c, Value.slice A n c ∈ cs ∧ 0 < n ∧ ∃ ad, A = some ad ∧ ad.block = k
theorem PkRd.low {w : World} {cs : List Value} {p : Pkt} (h : PkRd w cs p) {k : Nat} (hk : PkB cs k) : k < w.heap.size := by
 obtain ⟨A, a, B, b, D, d, e, h1, h2, h3⟩ := h
 subst e
 obtain ⟨A', n, c, hm, h0, ad, hA, rfl⟩ := hk
 simp only [rtpC, List.mem_cons, List.not_mem_nil, or_false] at hm
 rcases hm with e | e | e | e | e | e | e | e | e | e | e
 case inr.inr.inr.inr.inr.inl =>
  injection e with e1 e2 e3
  subst e1 e2
  obtain ⟨q, off, hA2, hlt, _⟩ := h1.2.2 h0
  rw [hA] at hA2; injection hA2 with hA2; subst hA2; exact hlt
 case inr.inr.inr.inr.inr.inr.inr.inr.inl =>
  injection e with e1 e2 e3
  subst e1 e2
  obtain ⟨q, off, hA2, hlt, _⟩ := h2.2.2.2.2 h0
  rw [hA] at hA2; injection hA2 with hA2; subst hA2; exact hlt
 case inr.inr.inr.inr.inr.inr.inr.inr.inr.inl =>
  injection e with e1 e2 e3
  subst e1 e2
  obtain ⟨q, off, hA2, hlt, _⟩ := h3.2.2.2.2 h0
  rw [hA] at hA2; injection hA2 with hA2; subst hA2; exact hlt
 all_goals exact nomatch e
theorem PkRd.stay {w w2 : World} {cs : List Value} {p : Pkt} (h : PkRd w cs p) (hsz : w.heap.size ≤ w2.heap.size) (hs : ∀ k, PkB cs k → w2.heap[k]? = w.heap[k]?) : PkRd w2 cs p := by
 obtain ⟨A, a, B, b, D, d, e, h1, h2, h3⟩ := h
 subst e
 refine ⟨A, a, B, b, D, d, rfl, ⟨h1.1, h1.2.1, fun h0 => ?_⟩, ⟨h2.1, h2.2.1, h2.2.2.1, h2.2.2.2.1, fun h0 => ?_⟩, ⟨h3.1, h3.2.1, h3.2.2.1, h3.2.2.2.1, fun h0 => ?_⟩⟩
 · obtain ⟨q, off, hA, hlt, hc⟩ := h1.2.2 h0
   exact ⟨q, off, hA, Nat.lt_of_lt_of_le hlt hsz, fun j hj => (World.cell?_of_block (hs q ⟨A, _, a, by simp [rtpC], h0, _, hA, rfl⟩)).trans (hc j hj)⟩
 · obtain ⟨q, off, hA, hlt, hc⟩ := h2.2.2.2.2 h0
   exact ⟨q, off, hA, Nat.lt_of_lt_of_le hlt hsz, fun j hj => (World.cell?_of_block (hs q ⟨B, _, b, by simp [rtpC], h0, _, hA, rfl⟩)).trans (hc j hj)⟩
 · obtain ⟨q, off, hA, hlt, hc⟩ := h3.2.2.2.2 h0
   exact ⟨q, off, hA, Nat.lt_of_lt_of_le hlt hsz, fun j hj => (World.cell?_of_block (hs q ⟨D, _, d, by simp [rtpC], h0, _, hA, rfl⟩)).trans (hc j hj)⟩
def RBox (pk : Pkt) (w : World) (p : Value) (_ : Wy) (F : Nat → Prop) : Prop := ∃ g cs, p = .pointer (some ⟨g, 0, none⟩) ∧ BlkV w g 37 cs ∧ PkRd w cs pk ∧ F = fun k => k = g ∨ PkB cs k
theorem rbox_lone (pk : Pkt) : Lone (RBox pk) where
 low := by
  rintro w p s F ⟨g, cs, rfl, hB, hp, rfl⟩ k hk
  rcases hk with rfl | hk
  · exact hB.lt
  · exact hp.low hk
 stay := by
  rintro w w2 p s F ⟨g, cs, rfl, hB, hp, rfl⟩ hsz hs
  exact ⟨g, cs, rfl, (hs g (.inl rfl)).trans hB, hp.stay hsz (fun k hk => hs k (.inr hk)), rfl⟩
theorem pkB_own {cs : List Value} {k : Nat} (h : PkB cs k) : ∃ u ∈ cs, u.ownBlock = some k := by
 obtain ⟨A, n, c, hm, _, ad, rfl, rfl⟩ := h
 exact ⟨_, hm, rfl⟩
theorem PkOwn.pkB {w : World} {b : Nat} {cs : List Value} {p : Pkt} (h : PkOwn w b cs p) {k : Nat} (hk : PkB cs k) : b ≤ k := by
 obtain ⟨A, a, B, b', D, d, e, h1, h2, h3⟩ := h
 subst e
 obtain ⟨A', n, c, hm, h0, ad, hA, rfl⟩ := hk
 subst hA
 simp only [rtpC, List.mem_cons, List.not_mem_nil, or_false] at hm
 rcases hm with e | e | e | e | e | e | e | e | e | e | e
 case inr.inr.inr.inr.inr.inl => rw [← e] at h1; exact (h1.lt _ rfl).1
 case inr.inr.inr.inr.inr.inr.inr.inr.inl => rw [← e] at h2; exact (h2.lt _ rfl).1
 case inr.inr.inr.inr.inr.inr.inr.inr.inr.inl => rw [← e] at h3; exact (h3.lt _ rfl).1
 all_goals exact nomatch e
def SealT (R : World → Value → Wy → (Nat → Prop) → Prop) (p : Value) (F : Nat → Prop) (q : Int) (bs : List UInt8) (y' : Wy) (w : World) (e : Ending) (w' : World) : Prop :=
 ∃ A n c F', e = .returned (.tuple #[.slice A n c, .int .i64 q]) ∧ w'.ownsRow w.heap.size 5 1 (.slice A n c) n (cells bs) ∧ (∀ k, (Value.slice A n c).ownBlock = some k → ¬ F' k) ∧ R w' p y' F' ∧ Fr F w w' ∧ ∀ k, F' k → F k ∨ w.heap.size ≤ k
theorem SealR.told {R : World → Value → Wy → (Nat → Prop) → Prop} {p : Value} {y : Wy} {F : Nat → Prop} {pk : Pkt} {i : Int} {w w' : World} {e : Ending} (h : SealR R p y F pk i w e w') {q : Int} {bs : List UInt8} {y' : Wy} (hq : whySeal y pk i = q) (hb : outSeal y pk i = bs) (hy : ySeal y pk i = y') : SealT R p F q bs y' w e w' := by
 subst hq hb hy
 exact h
def OpenT (R : World → Value → Wy → (Nat → Prop) → Prop) (p : Value) (F : Nat → Prop) (q i : Int) (pk : Pkt) (y' : Wy) (w : World) (e : Ending) (w' : World) : Prop :=
 ∃ cs F', e = .returned (.tuple #[.agg cs.toArray, .int .i64 i, .int .i64 q]) ∧ PkOwn w' w.heap.size cs pk ∧ (∀ u ∈ cs, ∀ k, u.ownBlock = some k → ¬ F' k) ∧ R w' p y' F' ∧ Fr F w w' ∧ ∀ k, F' k → F k ∨ w.heap.size ≤ k
theorem OpenR.told {R : World → Value → Wy → (Nat → Prop) → Prop} {p : Value} {y : Wy} {F : Nat → Prop} {b : List UInt8} {w w' : World} {e : Ending} (h : OpenR R p y F b w e w') {q i : Int} {pk : Pkt} {y' : Wy} (hq : codeO y b = q) (hi : idxO y b = i) (hp : pktO y b = pk) (hy : yO y b = y') : OpenT R p F q i pk y' w e w' := by
 subst hq hi hp hy
 exact h
section
variable {R : Nat → World → Value → Wy → (Nat → Prop) → Prop} {n : Nat} {w wx wy wz : World} {p : Nat → Value} {y : Nat → Wy} {F : Nat → Nat → Prop}
theorem Ways.sealed (hL : ∀ i, Lone (R i)) (h : Ways R n w p y F wx) {i : Nat} (hi : i < n) {bs : List UInt8} {y' : Wy} {A : Option Addr} {m c : Nat} {F' : Nat → Prop} (ho : wy.ownsRow wx.heap.size 5 1 (.slice A m c) m (cells bs)) (hn : ∀ k, (Value.slice A m c).ownBlock = some k → ¬ F' k)
 (hr : R i wy (p i) y' F') (hf : Fr (F i) wx wy) (hF : ∀ k, F' k → F i k ∨ wx.heap.size ≤ k) (yq : Wy) (hRn : R n = RRow bs) :
 ∃ G, Ways R (n + 1) w (fun j => if j = n then .slice A m c else p j) (fun j => if j = n then yq else if j = i then y' else y j) G wy := by
 obtain ⟨h1, h2⟩ := rrow_own yq ho
 exact ⟨_, h.turnMore hL hi hf hr hF (by rw [hRn]; exact h1) (fun k hk => (h2 k hk).2) (fun k hk => hn k (h2 k hk).1)⟩
theorem Ways.opened (hL : ∀ i, Lone (R i)) (h : Ways R n w p y F wx) {i : Nat} (hi : i < n) {pk : Pkt} {y' : Wy} {cs : List Value} {F' : Nat → Prop} (hp : PkOwn wy wx.heap.size cs pk) (hn : ∀ u ∈ cs, ∀ k, u.ownBlock = some k → ¬ F' k)
 (hr : R i wy (p i) y' F') (hf : Fr (F i) wx wy) (hF : ∀ k, F' k → F i k ∨ wx.heap.size ≤ k) (yq : Wy) (hRn : R n = RBox pk) (hb : Below wy.heap.size wy wz) (hB : BlkV wz wy.heap.size 37 cs) :
 ∃ G, Ways R (n + 1) w (fun j => if j = n then .pointer (some ⟨wy.heap.size, 0, none⟩) else p j) (fun j => if j = n then yq else if j = i then y' else y j) G wz := by
 have hlow : ∀ k, F' k → k < wy.heap.size := (hL i).low _ _ _ _ hr
 refine ⟨_, h.turnMore hL hi (hf.then hb) ((hL i).below hr hb) hF (q := .pointer (some ⟨wy.heap.size, 0, none⟩)) (yq := yq) (G := fun k => k = wy.heap.size ∨ PkB cs k) (by rw [hRn]; exact ⟨_, cs, rfl, hB, (hp.below hb).rd, rfl⟩) (fun k hk => ?_) (fun k hk => ?_)⟩
 · rcases hk with rfl | hk
   · exact hf.size
   · exact hp.pkB hk
 · rcases hk with rfl | hk
   · exact fun hk2 => absurd (hlow _ hk2) (Nat.lt_irrefl _)
   · obtain ⟨u, hu, hk2⟩ := pkB_own hk
     exact hn u hu k hk2
end
theorem rd_lit (w : World) (e : TypeId) (bs : List UInt8) (C : Array Value) (fz : Nat × Nat) (n : Nat) (hC : C = (cells bs).toArray) (hn : bs.length = n) (hm : n ≤ maxLen) : RdS (w.alloc (.cells C e fz)) (some ⟨w.heap.size, 0, none⟩) n n bs := by
 subst hC
 refine ⟨hn, Nat.le_refl _, hm, fun h => by simp at h, fun _ => ⟨w.heap.size, 0, rfl, by simp, fun j hj => ?_⟩⟩
 rw [Nat.zero_add, cell_of_row _ _ j _ e fz (heap_alloc_new w _)]
 simpa using cells_at (bs := bs) (j := j) (by omega)

theorem const_at (w : World) (g : Nat) (hg : w.heap.size = g) (C : Array Value) (n c : Nat) :
 (convert 35 35 (.slice (some ⟨g, 0, none⟩) n c)).run Tryz.prog (w.alloc (.cells C 5)) = .ok (.slice (some ⟨g, 0, none⟩) n c) (w.alloc (.cells C 5 (C.size, C.size + 1))) := by
 subst hg
 exact Lib.run_convert_bytes_const (P := Tryz.prog) w 35 5 C n c Tryz.underlying35 Tryz.underlying5

end Go.Proofs.YtmkeioeodlidgaaGreatDoor
