/- Plain mathematics of layer 5: a key's words, a block ciphered, of lists of bytes, as the document defines them; no two blocks are ciphered alike. No program is named; no statement is proved here. -/
import Derived.Test.YtmkeioeodlidgaaDoorZAesNum
namespace Go.Proofs.YtmkeioeodlidgaaDoor

/-- k places of a row written anew, the rest as it was. -/
def fillAt (f : Nat → UInt8) (s : List UInt8) (k : Nat) : List UInt8 := (List.range k).map f ++ s.drop k
theorem fillAt_zero (f : Nat → UInt8) (s : List UInt8) : fillAt f s 0 = s := by simp [fillAt]
theorem fillAt_len (f : Nat → UInt8) (s : List UInt8) (k : Nat) (h : k ≤ s.length) : (fillAt f s k).length = s.length := by simp [fillAt]; omega
theorem fillAt_step (f : Nat → UInt8) (s : List UInt8) (k : Nat) (h : k < s.length) : (fillAt f s k).set k (f k) = fillAt f s (k + 1) := by
  unfold fillAt
  rw [List.set_append_right _ _ (by simp), List.length_map, List.length_range, Nat.sub_self, List.drop_eq_getElem_cons h, List.set_cons_zero, List.range_succ, List.map_append, List.append_assoc]
  rfl
theorem fillAt_all (f : Nat → UInt8) (s : List UInt8) (k : Nat) (h : s.length = k) : fillAt f s k = (List.range k).map f := by
  unfold fillAt
  rw [List.drop_of_length_le (by omega), List.append_nil]
theorem fillAt_ge (f : Nat → UInt8) (s : List UInt8) (k j : Nat) (h : k ≤ j) : (fillAt f s k).getD j 0 = s.getD j 0 := by
  unfold fillAt
  simp only [List.getD_eq_getElem?_getD]
  rw [List.getElem?_append_right (by simpa using h), List.length_map, List.length_range, List.getElem?_drop]
  congr 2
  omega
theorem fillAt_lt (f : Nat → UInt8) (s : List UInt8) (k j : Nat) (h : j < k) : (fillAt f s k).getD j 0 = f j := by
  unfold fillAt
  simp only [List.getD_eq_getElem?_getD]
  rw [List.getElem?_append_left (by simpa using h)]
  simp [h]
def tab (n : Nat) (f : Nat → UInt8) : List UInt8 := (List.range n).map f
theorem tab_len (n : Nat) (f : Nat → UInt8) : (tab n f).length = n := by simp [tab]
theorem tab_get (n : Nat) (f : Nat → UInt8) (i : Nat) (h : i < n) : (tab n f).getD i 0 = f i := by simp [tab, List.getD_eq_getElem?_getD, h]
theorem tab_congr (n : Nat) (f g : Nat → UInt8) (h : ∀ i, i < n → f i = g i) : tab n f = tab n g := by
  unfold tab
  exact List.map_congr_left fun i hi => h i (List.mem_range.1 hi)
theorem tab_inj {n : Nat} {f g : Nat → UInt8} (h : tab n f = tab n g) (i : Nat) (hi : i < n) : f i = g i := by rw [← tab_get n f i hi, h, tab_get n g i hi]
theorem list_tab {n : Nat} (s : List UInt8) (h : s.length = n) : tab n (fun i => s.getD i 0) = s := by
  subst h
  apply List.ext_getElem
  · simp [tab]
  · intro i h1 h2
    simp [tab, List.getD_eq_getElem?_getD, h2]
theorem list_eq {n : Nat} {s t : List UInt8} (hs : s.length = n) (ht : t.length = n) (h : ∀ i, i < n → s.getD i 0 = t.getD i 0) : s = t := by
  rw [← list_tab s hs, ← list_tab t ht]; exact tab_congr n _ _ h

/-- The round's constant. -/
def rcon : Nat → UInt8
  | 0 => 1
  | n + 1 => dbl (rcon n)
/-- The word behind 4 + n of them that goes into the next, turned or not. -/
def tw (l : List UInt8) (n : Nat) : List UInt8 :=
  if n % 4 = 0 then [sb (l.getD (4 * n + 13) 0) ^^^ rcon (n / 4), sb (l.getD (4 * n + 14) 0), sb (l.getD (4 * n + 15) 0), sb (l.getD (4 * n + 12) 0)]
  else [l.getD (4 * n + 12) 0, l.getD (4 * n + 13) 0, l.getD (4 * n + 14) 0, l.getD (4 * n + 15) 0]
theorem tw_len (l : List UInt8) (n : Nat) : (tw l n).length = 4 := by unfold tw; split <;> rfl
/-- The next word. -/
def nwB (l : List UInt8) (n j : Nat) : UInt8 := l.getD (4 * n + j) 0 ^^^ (tw l n).getD j 0
def nw (l : List UInt8) (n : Nat) : List UInt8 := tab 4 (nwB l n)
/-- 4 + n words of a key. -/
def kws (key : List UInt8) : Nat → List UInt8
  | 0 => key
  | n + 1 => kws key n ++ nw (kws key n) n
theorem kws_len (key : List UInt8) (h : key.length = 16) : ∀ n, (kws key n).length = 4 * n + 16
  | 0 => h
  | n + 1 => by rw [kws, List.length_append, kws_len key h n, nw, tab_len]; omega
theorem kws_get (key : List UInt8) (h : key.length = 16) (n i : Nat) (hi : i < 4 * n + 16) : ∀ m, (kws key (n + m)).getD i 0 = (kws key n).getD i 0
  | 0 => rfl
  | m + 1 => by
    rw [← kws_get key h n i hi m, show n + (m + 1) = (n + m) + 1 by omega, kws]
    simp only [List.getD_eq_getElem?_getD]
    rw [List.getElem?_append_left (by rw [kws_len key h]; omega)]
/-- A key's words: 176 bytes. -/
def kall (key : List UInt8) : List UInt8 := kws key 40
theorem kall_len (key : List UInt8) (h : key.length = 16) : (kall key).length = 176 := by rw [kall, kws_len key h]
theorem kall_get (key : List UInt8) (h : key.length = 16) (n i : Nat) (hn : n ≤ 40) (hi : i < 4 * n + 16) : (kall key).getD i 0 = (kws key n).getD i 0 := by
  have := kws_get key h n i hi (40 - n)
  rw [show n + (40 - n) = 40 by omega] at this
  exact this
theorem kall_new (key : List UInt8) (h : key.length = 16) (n j : Nat) (hn : n < 40) (hj : j < 4) : (kall key).getD (4 * n + 16 + j) 0 = nwB (kws key n) n j := by
  rw [kall_get key h (n + 1) _ (by omega) (by omega), kws]
  simp only [List.getD_eq_getElem?_getD]
  rw [List.getElem?_append_right (by rw [kws_len key h]; omega), kws_len key h, show 4 * n + 16 + j - (4 * n + 16) = j by omega]
  have := tab_get 4 (nwB (kws key n) n) j hj
  rw [List.getD_eq_getElem?_getD] at this
  exact this
/-- A word of them. -/
def wd (key : List UInt8) (i : Nat) : List UInt8 := tab 4 fun j => (kall key).getD (4 * i + j) 0
theorem wd_len (key : List UInt8) (i : Nat) : (wd key i).length = 4 := tab_len _ _
theorem wd_get (key : List UInt8) (i j : Nat) (hj : j < 4) : (wd key i).getD j 0 = (kall key).getD (4 * i + j) 0 := tab_get _ _ _ hj
theorem wd_low (key : List UInt8) (h : key.length = 16) (i : Nat) (hi : i < 4) : wd key i = [key.getD (4 * i) 0, key.getD (4 * i + 1) 0, key.getD (4 * i + 2) 0, key.getD (4 * i + 3) 0] := by
  have hk : ∀ j, j < 4 → (kall key).getD (4 * i + j) 0 = key.getD (4 * i + j) 0 := fun j hj => kall_get key h 0 _ (by omega) (by omega)
  have e : wd key i = [(kall key).getD (4 * i + 0) 0, (kall key).getD (4 * i + 1) 0, (kall key).getD (4 * i + 2) 0, (kall key).getD (4 * i + 3) 0] := rfl
  rw [e, hk 0 (by omega), hk 1 (by omega), hk 2 (by omega), hk 3 (by omega)]
  rfl
/-- What goes into the word n + 4, of the words themselves. -/
def twW (key : List UInt8) (n : Nat) : List UInt8 :=
  if n % 4 = 0 then [sb ((wd key (n + 3)).getD 1 0) ^^^ rcon (n / 4), sb ((wd key (n + 3)).getD 2 0), sb ((wd key (n + 3)).getD 3 0), sb ((wd key (n + 3)).getD 0 0)] else wd key (n + 3)
theorem twW_len (key : List UInt8) (n : Nat) : (twW key n).length = 4 := by
  unfold twW
  split
  · rfl
  · exact wd_len _ _
theorem four_is (l : List UInt8) (h : l.length = 4) : [l.getD 0 0, l.getD 1 0, l.getD 2 0, l.getD 3 0] = l := list_tab l h
theorem tw_gen (l v : List UInt8) (n : Nat) (hv : v.length = 4) (h0 : l.getD (4 * n + 12) 0 = v.getD 0 0) (h1 : l.getD (4 * n + 13) 0 = v.getD 1 0) (h2 : l.getD (4 * n + 14) 0 = v.getD 2 0) (h3 : l.getD (4 * n + 15) 0 = v.getD 3 0) :
    tw l n = if n % 4 = 0 then [sb (v.getD 1 0) ^^^ rcon (n / 4), sb (v.getD 2 0), sb (v.getD 3 0), sb (v.getD 0 0)] else v := by
  unfold tw
  rw [h0, h1, h2, h3, four_is v hv]
theorem tw_is (key : List UInt8) (h : key.length = 16) (n : Nat) (hn : n < 40) : tw (kws key n) n = twW key n := by
  have hk : ∀ j, j < 4 → (kws key n).getD (4 * n + (12 + j)) 0 = (wd key (n + 3)).getD j 0 := fun j hj => by
    rw [wd_get _ _ _ hj, kall_get key h n _ (by omega) (by omega), show 4 * (n + 3) + j = 4 * n + (12 + j) by omega]
  exact tw_gen _ _ n (wd_len _ _) (hk 0 (by omega)) (hk 1 (by omega)) (hk 2 (by omega)) (hk 3 (by omega))
theorem wd_new (key : List UInt8) (h : key.length = 16) (n j : Nat) (hn : n < 40) (hj : j < 4) : (wd key n).getD j 0 ^^^ (twW key n).getD j 0 = (wd key (n + 4)).getD j 0 := by
  rw [wd_get _ _ _ hj, wd_get _ _ _ hj, show 4 * (n + 4) + j = 4 * n + 16 + j by omega, kall_new key h n j hn hj, nwB, tw_is key h n hn, kall_get key h n _ (by omega) (by omega)]

/-- A block's steps. -/
def addB (ks : List UInt8) (r : Nat) (s : List UInt8) (i : Nat) : UInt8 := s.getD i 0 ^^^ ks.getD (16 * r + i) 0
def addK (ks : List UInt8) (r : Nat) (s : List UInt8) : List UInt8 := tab 16 (addB ks r s)
def subB (s : List UInt8) (i : Nat) : UInt8 := sb (s.getD (4 * ((i / 4 + i % 4) % 4) + i % 4) 0)
def subR (s : List UInt8) : List UInt8 := tab 16 (subB s)
def mulB (s : List UInt8) (i : Nat) : UInt8 :=
  s.getD i 0 ^^^ (s.getD (4 * (i / 4)) 0 ^^^ s.getD (4 * (i / 4) + 1) 0 ^^^ s.getD (4 * (i / 4) + 2) 0 ^^^ s.getD (4 * (i / 4) + 3) 0) ^^^ dbl (s.getD i 0 ^^^ s.getD (4 * (i / 4) + (i % 4 + 1) % 4) 0)
def mulC (s : List UInt8) : List UInt8 := tab 16 (mulB s)
def encR (ks inp : List UInt8) : Nat → List UInt8
  | 0 => addK ks 0 inp
  | r + 1 => addK ks (r + 1) (mulC (subR (encR ks inp r)))
def enc (ks inp : List UInt8) : List UInt8 := addK ks 10 (subR (encR ks inp 9))
theorem addK_len (ks : List UInt8) (r : Nat) (s : List UInt8) : (addK ks r s).length = 16 := tab_len _ _
theorem subR_len (s : List UInt8) : (subR s).length = 16 := tab_len _ _
theorem mulC_len (s : List UInt8) : (mulC s).length = 16 := tab_len _ _
theorem encR_len (ks inp : List UInt8) : ∀ r, (encR ks inp r).length = 16
  | 0 => addK_len _ _ _
  | _ + 1 => addK_len _ _ _
theorem enc_len (ks inp : List UInt8) : (enc ks inp).length = 16 := addK_len _ _ _

theorem x_cancel {a b c : UInt8} (h : a ^^^ c = b ^^^ c) : a = b := by
  have : a ^^^ c ^^^ c = b ^^^ c ^^^ c := by rw [h]
  simpa [UInt8.xor_assoc] using this
theorem addK_inj {ks : List UInt8} {r : Nat} {s t : List UInt8} (hs : s.length = 16) (ht : t.length = 16) (h : addK ks r s = addK ks r t) : s = t :=
  list_eq hs ht fun i hi => x_cancel (tab_inj h i hi)
theorem subR_inj {s t : List UInt8} (hs : s.length = 16) (ht : t.length = 16) (h : subR s = subR t) : s = t := by
  refine list_eq hs ht fun j hj => ?_
  have := sb_inj (tab_inj h (4 * ((j / 4 + 4 - j % 4) % 4) + j % 4) (by omega))
  have e : 4 * (((4 * ((j / 4 + 4 - j % 4) % 4) + j % 4) / 4 + (4 * ((j / 4 + 4 - j % 4) % 4) + j % 4) % 4) % 4) + (4 * ((j / 4 + 4 - j % 4) % 4) + j % 4) % 4 = j := by omega
  rw [e] at this
  exact this
/-- What is alike behind a column's multiplying is alike ahead of it. -/
theorem col_zero {p q r s : UInt8} (h0 : p ^^^ (p ^^^ q ^^^ r ^^^ s) ^^^ dbl (p ^^^ q) = 0) (h1 : q ^^^ (p ^^^ q ^^^ r ^^^ s) ^^^ dbl (q ^^^ r) = 0) (h2 : r ^^^ (p ^^^ q ^^^ r ^^^ s) ^^^ dbl (r ^^^ s) = 0) (h3 : s ^^^ (p ^^^ q ^^^ r ^^^ s) ^^^ dbl (s ^^^ p) = 0) :
    p = 0 ∧ q = 0 ∧ r = 0 ∧ s = 0 := by
  have hsum : p ^^^ q ^^^ r ^^^ s = 0 := by
    have e : (p ^^^ (p ^^^ q ^^^ r ^^^ s) ^^^ dbl (p ^^^ q)) ^^^ (q ^^^ (p ^^^ q ^^^ r ^^^ s) ^^^ dbl (q ^^^ r)) ^^^ (r ^^^ (p ^^^ q ^^^ r ^^^ s) ^^^ dbl (r ^^^ s)) ^^^ (s ^^^ (p ^^^ q ^^^ r ^^^ s) ^^^ dbl (s ^^^ p)) = p ^^^ q ^^^ r ^^^ s := by
      simp only [dbl_xor]
      generalize dbl p = P
      generalize dbl q = Q
      generalize dbl r = R
      generalize dbl s = S
      apply UInt8.toBitVec_inj.1
      simp only [UInt8.toBitVec_xor]
      ext i hi
      simp only [BitVec.getElem_xor]
      cases p.toBitVec[i] <;> cases q.toBitVec[i] <;> cases r.toBitVec[i] <;> cases s.toBitVec[i] <;> cases P.toBitVec[i] <;> cases Q.toBitVec[i] <;> cases R.toBitVec[i] <;> cases S.toBitVec[i] <;> rfl
    rw [h0, h1, h2, h3] at e
    exact e.symm
  rw [hsum] at h0 h1 h2 h3
  simp only [UInt8.xor_zero] at h0 h1 h2 h3
  have eqz : ∀ {a b : UInt8}, a ^^^ b = 0 → a = b := fun {a b} h => x_cancel (c := b) (by rw [h, UInt8.xor_self])
  have k0 := eqz h0
  have k1 := eqz h1
  have k2 := eqz h2
  have k3 := eqz h3
  have a1 : p ^^^ r = 0 := by
    have : p ^^^ r = dbl (p ^^^ q ^^^ r ^^^ s) := by
      conv => lhs; rw [k0, k2]
      rw [← dbl_xor]
      simp only [UInt8.xor_assoc]
    rw [this, hsum, dbl_zero]
  have a2 := eqz a1
  subst a2
  have a3 : q = s := by
    have : q ^^^ s = 0 := by
      rw [← hsum]
      apply UInt8.toBitVec_inj.1
      simp only [UInt8.toBitVec_xor]
      ext i hi
      simp only [BitVec.getElem_xor]
      cases p.toBitVec[i] <;> cases q.toBitVec[i] <;> cases s.toBitVec[i] <;> rfl
    exact eqz this
  subst a3
  have a4 : p = q := by
    have e : dbl (p ^^^ q) = dbl (q ^^^ p) := by rw [UInt8.xor_comm]
    exact k0.trans (e.trans k1.symm)
  subst a4
  rw [UInt8.xor_self, dbl_zero] at k0
  exact ⟨k0, k0, k0, k0⟩
theorem col_inj {p q r s a b c d : UInt8} (h0 : p ^^^ (p ^^^ q ^^^ r ^^^ s) ^^^ dbl (p ^^^ q) = a ^^^ (a ^^^ b ^^^ c ^^^ d) ^^^ dbl (a ^^^ b)) (h1 : q ^^^ (p ^^^ q ^^^ r ^^^ s) ^^^ dbl (q ^^^ r) = b ^^^ (a ^^^ b ^^^ c ^^^ d) ^^^ dbl (b ^^^ c))
    (h2 : r ^^^ (p ^^^ q ^^^ r ^^^ s) ^^^ dbl (r ^^^ s) = c ^^^ (a ^^^ b ^^^ c ^^^ d) ^^^ dbl (c ^^^ d)) (h3 : s ^^^ (p ^^^ q ^^^ r ^^^ s) ^^^ dbl (s ^^^ p) = d ^^^ (a ^^^ b ^^^ c ^^^ d) ^^^ dbl (d ^^^ a)) : p = a ∧ q = b ∧ r = c ∧ s = d := by
  have eqz : ∀ {a b : UInt8}, a ^^^ b = 0 → a = b := fun {a b} h => x_cancel (c := b) (by rw [h, UInt8.xor_self])
  have mk : ∀ x y P Q X Y A B : UInt8, x ^^^ P ^^^ dbl (x ^^^ y) = X ^^^ Q ^^^ dbl (X ^^^ Y) → A = P ^^^ Q → (x ^^^ X) ^^^ A ^^^ dbl ((x ^^^ X) ^^^ (y ^^^ Y)) = 0 := fun x y P Q X Y A B h hA => by
    have e : (x ^^^ X) ^^^ (P ^^^ Q) ^^^ dbl ((x ^^^ X) ^^^ (y ^^^ Y)) = (x ^^^ P ^^^ dbl (x ^^^ y)) ^^^ (X ^^^ Q ^^^ dbl (X ^^^ Y)) := by
      simp only [dbl_xor]
      generalize dbl x = d1
      generalize dbl y = d2
      generalize dbl X = d3
      generalize dbl Y = d4
      ac_rfl
    rw [hA, e, h, UInt8.xor_self]
  have hA : (p ^^^ a) ^^^ (q ^^^ b) ^^^ (r ^^^ c) ^^^ (s ^^^ d) = (p ^^^ q ^^^ r ^^^ s) ^^^ (a ^^^ b ^^^ c ^^^ d) := by ac_rfl
  obtain ⟨z0, z1, z2, z3⟩ := col_zero (mk p q _ _ a b _ 0 h0 hA) (mk q r _ _ b c _ 0 h1 hA) (mk r s _ _ c d _ 0 h2 hA) (mk s p _ _ d a _ 0 h3 hA)
  exact ⟨eqz z0, eqz z1, eqz z2, eqz z3⟩
theorem mulC_inj {s t : List UInt8} (hs : s.length = 16) (ht : t.length = 16) (h : mulC s = mulC t) : s = t := by
  have hcol : ∀ c, c < 4 → s.getD (4 * c) 0 = t.getD (4 * c) 0 ∧ s.getD (4 * c + 1) 0 = t.getD (4 * c + 1) 0 ∧ s.getD (4 * c + 2) 0 = t.getD (4 * c + 2) 0 ∧ s.getD (4 * c + 3) 0 = t.getD (4 * c + 3) 0 := by
    intro c hc
    have g0 := tab_inj h (4 * c) (by omega)
    have g1 := tab_inj h (4 * c + 1) (by omega)
    have g2 := tab_inj h (4 * c + 2) (by omega)
    have g3 := tab_inj h (4 * c + 3) (by omega)
    unfold mulB at g0 g1 g2 g3
    rw [show 4 * c / 4 = c by omega, show 4 * c % 4 = 0 by omega] at g0
    rw [show (4 * c + 1) / 4 = c by omega, show (4 * c + 1) % 4 = 1 by omega] at g1
    rw [show (4 * c + 2) / 4 = c by omega, show (4 * c + 2) % 4 = 2 by omega] at g2
    rw [show (4 * c + 3) / 4 = c by omega, show (4 * c + 3) % 4 = 3 by omega] at g3
    exact col_inj g0 g1 g2 g3
  refine list_eq hs ht fun j hj => ?_
  obtain ⟨c0, c1, c2, c3⟩ := hcol (j / 4) (by omega)
  rcases (show j = 4 * (j / 4) ∨ j = 4 * (j / 4) + 1 ∨ j = 4 * (j / 4) + 2 ∨ j = 4 * (j / 4) + 3 by omega) with e | e | e | e <;> rw [e] <;> assumption
theorem encR_inj {ks s t : List UInt8} (hs : s.length = 16) (ht : t.length = 16) : ∀ r, encR ks s r = encR ks t r → s = t
  | 0, h => addK_inj hs ht h
  | r + 1, h => encR_inj hs ht r (subR_inj (encR_len _ _ _) (encR_len _ _ _) (mulC_inj (subR_len _) (subR_len _) (addK_inj (mulC_len _) (mulC_len _) h)))
theorem enc_inj {ks s t : List UInt8} (hs : s.length = 16) (ht : t.length = 16) (h : enc ks s = enc ks t) : s = t :=
  encR_inj hs ht 9 (subR_inj (encR_len _ _ _) (encR_len _ _ _) (addK_inj (subR_len _) (subR_len _) h))

/-- A column multiplied by the matrix's row, k products of it. -/
def rowM (row k : Nat) : Nat := [2, 3, 1, 1].getD ((k + 4 - row) % 4) 0
def rx (s : List UInt8) (col row : Nat) : Nat → UInt8
  | 0 => 0
  | k + 1 => rx s col row k ^^^ UInt8.ofNat (timesN (rowM row k) (s.getD (4 * col + k) 0).toNat)
theorem rx_all (s : List UInt8) (col row : Nat) (hr : row < 4) : rx s col row 4 = mulB s (4 * col + row) := by
  have t1 : ∀ x : UInt8, UInt8.ofNat (timesN 1 x.toNat) = x := fun x => by rw [times_one, UInt8.ofNat_toNat]
  have t2 : ∀ x : UInt8, UInt8.ofNat (timesN 2 x.toNat) = dbl x := fun x => by rw [times_two, UInt8.ofNat_toNat]
  have t3 : ∀ x : UInt8, UInt8.ofNat (timesN 3 x.toNat) = dbl x ^^^ x := fun x => by rw [times_three, UInt8.ofNat_toNat]
  unfold mulB
  rw [show (4 * col + row) / 4 = col by omega, show (4 * col + row) % 4 = row by omega]
  simp only [rx, Nat.add_zero]
  rcases (show row = 0 ∨ row = 1 ∨ row = 2 ∨ row = 3 by omega) with rfl | rfl | rfl | rfl
  all_goals
    simp only [rowM, Nat.reduceAdd, Nat.reduceSub, Nat.reduceMod, List.getD_cons_zero, List.getD_cons_succ, t1, t2, t3, dbl_xor, Nat.add_zero]
    generalize dbl (s.getD (4 * col) 0) = P
    generalize dbl (s.getD (4 * col + 1) 0) = Q
    generalize dbl (s.getD (4 * col + 2) 0) = R
    generalize dbl (s.getD (4 * col + 3) 0) = S
    generalize s.getD (4 * col) 0 = p
    generalize s.getD (4 * col + 1) 0 = q
    generalize s.getD (4 * col + 2) 0 = r
    generalize s.getD (4 * col + 3) 0 = u
    apply UInt8.toBitVec_inj.1
    simp only [UInt8.toBitVec_xor, UInt8.zero_xor]
    ext i hi
    simp only [BitVec.getElem_xor]
    cases p.toBitVec[i] <;> cases q.toBitVec[i] <;> cases r.toBitVec[i] <;> cases u.toBitVec[i] <;> cases P.toBitVec[i] <;> cases Q.toBitVec[i] <;> cases R.toBitVec[i] <;> cases S.toBitVec[i] <;> rfl

/-- The document's example. -/
def exK : List UInt8 := tab 16 fun i => UInt8.ofNat i
def exB : List UInt8 := tab 16 fun i => UInt8.ofNat (17 * i)
def exOut : List UInt8 := [105, 196, 224, 216, 106, 123, 4, 48, 216, 205, 183, 128, 112, 180, 197, 90]
theorem ex_is : enc (kall exK) exB = exOut := by decide +kernel
end Go.Proofs.YtmkeioeodlidgaaDoor
