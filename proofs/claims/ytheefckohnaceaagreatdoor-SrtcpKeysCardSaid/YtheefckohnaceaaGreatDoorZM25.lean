/- Several texts in one: plain words and walks. No statement is proved here. -/
import Derived.Test.YtheefckohnaceaaGreatDoorZM23
import Derived.Test.YtheefckohnaceaaGreatDoorZM24
import Derived.Test.YtheefckohnaceaaGreatDoorZM10
namespace Go.Proofs.YtheefckohnaceaaGreatDoor
open Go.RowKit
set_option linter.unusedVariables false

def bareC (k : Int) (so me : Nat) : Ctl := ⟨k, so, me, 0, 0, 0, 0, [], [], [], [], [], 0⟩
def bareV (k : Int) (so me : Nat) : List Value := ctlC k so me 0 0 0 0 (.slice none 0 0) (.slice none 0 0) (.slice none 0 0) (.slice none 0 0) (.slice none 0 0) 0
theorem bare_rds {w : World} {q : Nat} {k : Int} {so me : Nat} (h : BlkV w q 58 (bareV k so me)) : CtRds w (some ⟨q, 0, none⟩) [bareC k so me] := by
 refine ⟨[bareV k so me], rfl, ⟨fun r hr => ?_, fun _ => ⟨q, 0, rfl, h.lt, fun j hj d hd => ?_⟩⟩, fun i cs c hi hj => ?_⟩
 · obtain rfl : r = bareV k so me := by simpa using hr
   rfl
 · obtain rfl : j = 0 := by simpa using hj
   have := h.cell d
   simpa using this
 · match i with
   | 0 =>
     obtain rfl : bareV k so me = cs := by simpa using hi
     obtain rfl : bareC k so me = c := by simpa using hj
     exact ⟨none, 0, none, 0, none, 0, none, 0, none, 0, rfl, RdG.none_ _ _ _, RdG.none_ _ _ _, RdG.none_ _ _ _, RdG.none_ _ _ _, RdG.none_ _ _ _⟩
   | i + 1 => simp at hi
theorem bare_fit (k : Int) (so me : Nat) (hk : -9223372036854775808 ≤ k ∧ k ≤ 9223372036854775807) (h1 : so < 4294967296) (h2 : me < 4294967296) : ∀ c ∈ [bareC k so me], c.fit := by
 intro c hc
 obtain rfl : c = bareC k so me := by simpa using hc
 have z1 : (0 : Nat) < 18446744073709551616 := by decide
 have z2 : (0 : Nat) < 4294967296 := by decide
 exact ⟨hk, h1, h2, z1, z2, z2, z2, fun x hx => (nomatch hx), fun x hx => (nomatch hx), fun x hx => (nomatch hx), fun x hx => (nomatch hx), fun x hx => (nomatch hx), z1⟩
def lR : List Ctl := [bareC 201 7 0]
theorem lR_len : (wrL lR).length = 8 := by decide +kernel
theorem lR_so : soC (wrL lR) = 7 := by decide +kernel
theorem lR_ok : wOK lR := ⟨by decide, fun c hc => by
 obtain rfl : c = bareC 201 7 0 := by simpa [lR] using hc
 exact .inr (.inl ⟨7, [], rfl, by decide, fun x hx => (nomatch hx)⟩), by rw [lR_len]; decide⟩
theorem lR_may : mayS lR := ⟨lR_ok, by rw [lR_len]; decide, by rw [lR_len]; decide⟩
theorem lR_fit : ∀ c ∈ lR, c.fit := bare_fit 201 7 0 (by decide) (by decide) (by decide)
def lP : List Ctl := [bareC 2 1 2]
theorem lP_len : (wrL lP).length = 12 := by decide +kernel
theorem lP_ok : wOK lP := ⟨by decide, fun c hc => by
 obtain rfl : c = bareC 2 1 2 := by simpa [lP] using hc
 exact .inr (.inr (.inr (.inr (.inr (.inl ⟨1, 2, rfl⟩))))), by rw [lP_len]; decide⟩
theorem lP_may : mayS lP := ⟨lP_ok, by rw [lP_len]; decide, by rw [lP_len]; decide⟩
theorem lP_fit : ∀ c ∈ lP, c.fit := bare_fit 2 1 2 (by decide) (by decide) (by decide)
theorem new_seals {key salt : List UInt8} {limit : Int} {l : List Ctl} (hl : 0 < limit) (hm : mayS l) : whyS (newC key salt limit) l = 0 ∧ outS (newC key salt limit) l = sealC (newC key salt limit).y (wrL l) 0 := by
 have h : whyS (newC key salt limit) l = 0 := whyS_0 (fun k => by
  rcases k with k | k
  · have : limit ≤ 0 := k
    omega
  · have : (2147483648 : Int) ≤ 0 := k
    omega) hm
 refine ⟨h, ?_⟩
 unfold outS
 rw [if_pos h]
 rfl
def oneC (key salt : List UInt8) (limit : Int) (so : Nat) : Wc := ⟨{ (newC key salt limit).y with used := 1, ws := [(so, [((0 : Nat) : Int)])] }, 0⟩
theorem new_opens {key salt : List UInt8} {l : List Ctl} (hm : mayS l) (X : List UInt8) (hX : X = sealC (newC key salt 9).y (wrL l) 0) :
 whyC (newC key salt 9).y X = 0 ∧ plainC (newC key salt 9).y X = wrL l ∧ soC X = soC (wrL l) ∧ (⟨openC (newC key salt 9).y X, (newC key salt 9).nx⟩ : Wc) = oneC key salt 9 (soC (wrL l)) ∧ whyC (oneC key salt 9 (soC (wrL l))).y X = 5 ∧ X.length = (wrL l).length + 14 := by
 subst hX
 obtain ⟨h1, h2, h3⟩ := sealed_newC (y := (newC key salt 9).y) (z := (newC key salt 9).y) ⟨rfl, rfl, rfl⟩ (i := 0) hm.2.1 hm.2.2 (by decide) (by show ¬ (9 : Int) ≤ 0; decide) rfl
 refine ⟨h1, h2, (sealC_parts _ 0 hm.2.1 (by decide)).2.2.2.2.2, ?_, ?_, sealC_len _ 0 hm.2.1⟩
 · rw [h3]; rfl
 · exact sealed_oldC hm.2.1 hm.2.2 (by decide) (by show ¬ (9 : Int) ≤ 1; decide) rfl
theorem oneC_good {key salt : List UInt8} {l : List Ctl} (hm : mayS l) : (oneC key salt 9 (soC (wrL l))).good := by
 obtain ⟨h1, _, _, h4, _⟩ := new_opens (key := key) (salt := salt) hm _ rfl
 have := good_openC (newC_good key salt 9 (by decide)).1 (by show (0 : Int) + 1 ≤ 900; decide) h1
 exact ⟨by have e := congrArg Wc.y h4; rw [← e]; exact this, by show (0 : Int) ≤ 0; decide, by show (0 : Int) ≤ 2147483648; decide⟩
structure Ways {σ : Type} (R : Nat → World → Value → σ → (Nat → Prop) → Prop) (n : Nat) (w : World) (p : Nat → Value) (y : Nat → σ) (F : Nat → Nat → Prop) (wx : World) : Prop where
 ob : ∀ i, i < n → R i wx (p i) (y i) (F i)
 dis : ∀ i j, i < n → j < n → i ≠ j → ∀ k, F i k → ¬ F j k
 lo : ∀ i, i < n → ∀ k, F i k → w.heap.size ≤ k
 below : Below w.heap.size w wx
section
variable {σ : Type} {R : Nat → World → Value → σ → (Nat → Prop) → Prop} {n : Nat} {w wx wy : World} {p : Nat → Value} {y : Nat → σ} {F : Nat → Nat → Prop}
theorem Ways.zero (R : Nat → World → Value → σ → (Nat → Prop) → Prop) (w : World) (p : Nat → Value) (y : Nat → σ) (F : Nat → Nat → Prop) : Ways R 0 w p y F w :=
 ⟨fun i hi => absurd hi (Nat.not_lt_zero i), fun i j hi => absurd hi (Nat.not_lt_zero i), fun i hi => absurd hi (Nat.not_lt_zero i), Below.refl _ _⟩
theorem Ways.on (hL : ∀ i, Lone (R i)) (h : Ways R n w p y F wx) (hb : Below wx.heap.size wx wy) : Ways R n w p y F wy :=
 ⟨fun i hi => (hL i).below (h.ob i hi) hb, h.dis, h.lo, h.below.trans (hb.mono h.below.size)⟩
theorem Ways.turn (hL : ∀ i, Lone (R i)) (h : Ways R n w p y F wx) {i : Nat} (hi : i < n) {y' : σ} {F' : Nat → Prop} (hf : Fr (F i) wx wy) (hr : R i wy (p i) y' F') (hF' : ∀ k, F' k → F i k ∨ wx.heap.size ≤ k) :
 Ways R n w p (fun j => if j = i then y' else y j) (fun j => if j = i then F' else F j) wy where
 ob j hj := by
  show R j wy (p j) (if j = i then y' else y j) (if j = i then F' else F j)
  by_cases e : j = i
  · subst e
    rw [if_pos rfl, if_pos rfl]
    exact hr
  · rw [if_neg e, if_neg e]
    exact (hL j).fr (h.ob j hj) hf (fun k hk hk2 => h.dis j i hj hi e k hk hk2)
 dis a b ha hb hab k := by
  show (if a = i then F' else F a) k → ¬ (if b = i then F' else F b) k
  by_cases ea : a = i
  · have eb : ¬ b = i := fun e => hab (ea.trans e.symm)
    rw [if_pos ea, if_neg eb]
    intro hk hk2
    rcases hF' k hk with h1 | h1
    · exact h.dis i b hi hb (Ne.symm eb) k h1 hk2
    · have := (hL b).low _ _ _ _ (h.ob b hb) k hk2
      omega
  · rw [if_neg ea]
    by_cases eb : b = i
    · rw [if_pos eb]
      intro hk hk2
      rcases hF' k hk2 with h1 | h1
      · exact h.dis a i ha hi ea k hk h1
      · have := (hL a).low _ _ _ _ (h.ob a ha) k hk
        omega
    · rw [if_neg eb]
      exact h.dis a b ha hb hab k
 lo j hj k := by
  show (if j = i then F' else F j) k → _
  by_cases e : j = i
  · rw [if_pos e]
    intro hk
    rcases hF' k hk with h1 | h1
    · exact h.lo i hi k h1
    · exact Nat.le_trans h.below.size h1
  · rw [if_neg e]
    exact h.lo j hj k
 below := h.below.trans (hf.below (h.lo i hi) h.below.size)
theorem Ways.more (hL : ∀ i, Lone (R i)) (h : Ways R n w p y F wx) (hb : Below wx.heap.size wx wy) {q : Value} {yq : σ} {G : Nat → Prop} (hr : R n wy q yq G) (hG : ∀ k, G k → wx.heap.size ≤ k) :
 Ways R (n + 1) w (fun j => if j = n then q else p j) (fun j => if j = n then yq else y j) (fun j => if j = n then G else F j) wy where
 ob j hj := by
  show R j wy (if j = n then q else p j) (if j = n then yq else y j) (if j = n then G else F j)
  by_cases e : j = n
  · subst e
    rw [if_pos rfl, if_pos rfl, if_pos rfl]
    exact hr
  · rw [if_neg e, if_neg e, if_neg e]
    exact (hL j).below (h.ob j (by omega)) hb
 dis a b ha hb' hab k := by
  show (if a = n then G else F a) k → ¬ (if b = n then G else F b) k
  by_cases ea : a = n
  · have eb : ¬ b = n := fun e => hab (ea.trans e.symm)
    rw [if_pos ea, if_neg eb]
    intro hk hk2
    have h1 := hG k hk
    have := (hL b).low _ _ _ _ (h.ob b (by omega)) k hk2
    omega
  · rw [if_neg ea]
    by_cases eb : b = n
    · rw [if_pos eb]
      intro hk hk2
      have h1 := hG k hk2
      have := (hL a).low _ _ _ _ (h.ob a (by omega)) k hk
      omega
    · rw [if_neg eb]
      exact h.dis a b (by omega) (by omega) hab k
 lo j hj k := by
  show (if j = n then G else F j) k → _
  by_cases e : j = n
  · rw [if_pos e]
    intro hk
    exact Nat.le_trans h.below.size (hG k hk)
  · rw [if_neg e]
    exact h.lo j (by omega) k
 below := h.below.trans (hb.mono h.below.size)
theorem Ways.congr (h : Ways R n w p y F wx) {y2 : Nat → σ} (hy : ∀ i, i < n → y i = y2 i) : Ways R n w p y2 F wx :=
 ⟨fun i hi => hy i hi ▸ h.ob i hi, h.dis, h.lo, h.below⟩
theorem Ways.turnMore (hL : ∀ i, Lone (R i)) (h : Ways R n w p y F wx) {i : Nat} (hi : i < n) {y' : σ} {F' : Nat → Prop} (hf : Fr (F i) wx wy) (hr : R i wy (p i) y' F') (hF' : ∀ k, F' k → F i k ∨ wx.heap.size ≤ k)
 {q : Value} {yq : σ} {G : Nat → Prop} (hq : R n wy q yq G) (hG : ∀ k, G k → wx.heap.size ≤ k) (hd : ∀ k, G k → ¬ F' k) :
 Ways R (n + 1) w (fun j => if j = n then q else p j) (fun j => if j = n then yq else if j = i then y' else y j) (fun j => if j = n then G else if j = i then F' else F j) wy := by
 have ht := h.turn hL hi hf hr hF'
 have hdis : ∀ j, j < n → ∀ k, G k → ¬ (if j = i then F' else F j) k := fun j hj k hk => by
  by_cases e : j = i
  · rw [if_pos e]; exact hd k hk
  · rw [if_neg e]
    intro hk2
    have h1 := hG k hk
    have := (hL j).low _ _ _ _ (h.ob j hj) k hk2
    omega
 refine ⟨fun j hj => ?_, fun a b ha hb hab k => ?_, fun j hj k => ?_, ht.below⟩
 · show R j wy (if j = n then q else p j) (if j = n then yq else if j = i then y' else y j) (if j = n then G else if j = i then F' else F j)
   by_cases e : j = n
   · subst e
     rw [if_pos rfl, if_pos rfl, if_pos rfl]
     exact hq
   · rw [if_neg e, if_neg e, if_neg e]
     exact ht.ob j (by omega)
 · show (if a = n then G else if a = i then F' else F a) k → ¬ (if b = n then G else if b = i then F' else F b) k
   by_cases ea : a = n
   · have eb : ¬ b = n := fun e => hab (ea.trans e.symm)
     rw [if_pos ea, if_neg eb]
     exact hdis b (by omega) k
   · rw [if_neg ea]
     by_cases eb : b = n
     · rw [if_pos eb]
       exact fun hk hk2 => hdis a (by omega) k hk2 hk
     · rw [if_neg eb]
       exact ht.dis a b (by omega) (by omega) hab k
 · show (if j = n then G else if j = i then F' else F j) k → _
   by_cases e : j = n
   · rw [if_pos e]
     exact fun hk => Nat.le_trans h.below.size (hG k hk)
   · rw [if_neg e]
     exact ht.lo j (by omega) k
end
def ROwn {σ : Type} (bs : List UInt8) (w : World) (p : Value) (_ : σ) (F : Nat → Prop) : Prop := ∃ A n c base, p = .slice A n c ∧ w.ownsRow base 5 1 (.slice A n c) n (cells bs) ∧ F = fun k => p.ownBlock = some k
theorem rown_lone {σ : Type} (bs : List UInt8) : Lone (ROwn (σ := σ) bs) where
 low := by
  rintro w p s F ⟨A, n, c, base, rfl, h, rfl⟩ k hk
  exact (h.lt k hk).2
 stay := by
  rintro w w2 p s F ⟨A, n, c, base, rfl, h, rfl⟩ _ hs
  exact ⟨A, n, c, base, rfl, own_at_same h (fun k hk => hs k hk), rfl⟩
theorem rown_open {bs : List UInt8} {w : World} {A : Option Addr} {n c : Nat} {σ : Type} {y : σ} {F : Nat → Prop} (h : ROwn bs w (.slice A n c) y F) : (∃ base, w.ownsRow base 5 1 (.slice A n c) n (cells bs)) ∧ F = fun k => (Value.slice A n c).ownBlock = some k := by
 obtain ⟨A', n', c', base, hp, hr, hF⟩ := h
 injection hp with h1 h2 h3
 subst h1 h2 h3
 exact ⟨⟨base, hr⟩, hF⟩
theorem rown_rd {bs : List UInt8} {w : World} {A : Option Addr} {n c : Nat} {σ : Type} {y : σ} {F : Nat → Prop} (h : ROwn bs w (.slice A n c) y F) : RdS w A n c bs := by
 obtain ⟨⟨base, h⟩, _⟩ := rown_open h
 exact RdS.of_own h
section
variable {σ : Type} {R : Nat → World → Value → σ → (Nat → Prop) → Prop} {n : Nat} {w wx wy wz : World} {p : Nat → Value} {y : Nat → σ} {F : Nat → Nat → Prop}
theorem Ways.zeroB (R : Nat → World → Value → σ → (Nat → Prop) → Prop) (p : Nat → Value) (y : Nat → σ) (F : Nat → Nat → Prop) (hb : Below w.heap.size w wx) : Ways R 0 w p y F wx :=
 ⟨fun i hi => absurd hi (Nat.not_lt_zero i), fun i j hi => absurd hi (Nat.not_lt_zero i), fun i hi => absurd hi (Nat.not_lt_zero i), hb⟩
theorem Ways.sealedO (hL : ∀ i, Lone (R i)) (h : Ways R n w p y F wx) {i : Nat} (hi : i < n) {bs : List UInt8} {y' : σ} {A : Option Addr} {m c : Nat} {F' : Nat → Prop} (ho : wy.ownsRow wx.heap.size 5 1 (.slice A m c) m (cells bs)) (hn : ∀ k, (Value.slice A m c).ownBlock = some k → ¬ F' k)
 (hr : R i wy (p i) y' F') (hf : Fr (F i) wx wy) (hF : ∀ k, F' k → F i k ∨ wx.heap.size ≤ k) (yq : σ) (hRn : R n = ROwn bs) :
 ∃ G, Ways R (n + 1) w (fun j => if j = n then .slice A m c else p j) (fun j => if j = n then yq else if j = i then y' else y j) G wy :=
 ⟨_, h.turnMore hL hi hf hr hF (q := .slice A m c) (yq := yq) (G := fun k => (Value.slice A m c).ownBlock = some k) (by rw [hRn]; exact ⟨A, m, c, _, rfl, ho, rfl⟩) (fun k hk => (ho.lt k hk).1) hn⟩
theorem Ways.offO (hL : ∀ i, Lone (R i)) (h : Ways R n w p y F wx) {i j : Nat} (hi : i < n) (hj : j < n) (hij : j ≠ i) {A : Option Addr} {m c : Nat} {bs : List UInt8} (hp : p j = .slice A m c) (hR : R j = ROwn bs) : 0 < m → ∀ ad, A = some ad → ¬ F i ad.block ∧ ad.block < wx.heap.size := by
 have hr := h.ob j hj
 rw [hR, hp] at hr
 obtain ⟨⟨base, ho⟩, hF⟩ := rown_open hr
 intro h0 ad hA
 subst hA
 have hk : F j ad.block := by rw [hF]; rfl
 exact ⟨fun k => h.dis j i hj hi hij _ hk k, (ho.lt _ rfl).2⟩
end
theorem Ways.swap {σ : Type} {R R' : Nat → World → Value → σ → (Nat → Prop) → Prop} {n : Nat} {w wx wy : World} {p : Nat → Value} {y : Nat → σ} {F : Nat → Nat → Prop} (hL : ∀ i, Lone (R i)) (h : Ways R n w p y F wx) {i : Nat} (hi : i < n) (hR : ∀ j, j ≠ i → R' j = R j) (hf : Fr (F i) wx wy) (hr : R' i wy (p i) (y i) (F i)) : Ways R' n w p y F wy := by
 refine ⟨fun j hj => ?_, h.dis, h.lo, h.below.trans (hf.below (h.lo i hi) h.below.size)⟩
 by_cases e : j = i
 · subst e; exact hr
 · rw [hR j e]
   exact (hL j).fr (h.ob j hj) hf (fun k hk hk2 => h.dis j i hj hi e k hk hk2)
theorem conv_rdA {w : World} {A : Option Addr} {n c : Nat} {bs : List UInt8} (h : RdS w A n c bs) : (convert 32 9 (.slice A n c)).run Tryz.prog w = .ok (.string (txt bs)) w :=
 run_conv h 32 9 5 Tryz.underlying32 Tryz.underlying5 Tryz.underlying9
end Go.Proofs.YtheefckohnaceaaGreatDoor
