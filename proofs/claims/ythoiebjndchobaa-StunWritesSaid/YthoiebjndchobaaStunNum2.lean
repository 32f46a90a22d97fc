/- Plain mathematics on messages of STUN, as package stun reads them: the attribute that bytes begin with. No program is named; no statement is proved here. -/
import Derived.Test.YthoiebjndchobaaStunNum
namespace Go.Proofs.Ythoiebjndchobaa
set_option linter.unusedVariables false

/-- Bytes begin with this attribute. -/
def HeadA (bs : List UInt8) (x : Nat × List UInt8) : Prop := x.1 < 65536 ∧ x.2.length ≤ 255 ∧ ∃ t, bs = attB x ++ t
/-- How many bytes the first attribute says it has. -/
def sizA (bs : List UInt8) : Nat := numb ((bs.drop 2).take 2)
theorem numb2 (l : List UInt8) : numb (l.take 2) < 65536 := Nat.lt_of_lt_of_le (numb_lt _) (Nat.le_trans (Nat.pow_le_pow_right (n := 256) (by omega) (show (l.take 2).length ≤ 2 by simp; omega)) (by decide))
theorem HeadA.parts {bs : List UInt8} {x : Nat × List UInt8} (h : HeadA bs x) : 4 ≤ bs.length ∧ numb (bs.take 2) = x.1 ∧ sizA bs = x.2.length ∧ (bs.drop 4).take x.2.length = x.2 ∧ (attB x).length ≤ bs.length ∧ attB x = bs.take (attB x).length := by
  obtain ⟨h1, h2, t, rfl⟩ := h
  have hl := attB_len x
  refine ⟨by rw [List.length_append]; omega, ?_, ?_, ?_, by rw [List.length_append]; omega, by rw [List.take_append_of_le_length (Nat.le_refl _), List.take_of_length_le (Nat.le_refl _)]⟩
  · simp only [attB, List.append_assoc]
    rw [List.take_append_of_le_length (by simp [length_beb]), List.take_of_length_le (by simp [length_beb]), numb_beb]
    omega
  · unfold sizA
    simp only [attB, List.append_assoc]
    rw [List.drop_append_of_le_length (by simp [length_beb]), List.drop_eq_nil_of_le (by simp [length_beb]), List.nil_append, List.take_append_of_le_length (by simp [length_beb]), List.take_of_length_le (by simp [length_beb]), numb_beb]
    omega
  · have e : attB x ++ t = (beb 2 x.1 ++ beb 2 x.2.length) ++ (x.2 ++ (List.replicate (lacks x.2.length 4) 0 ++ t)) := by simp [attB]
    rw [e, List.drop_append_of_le_length (by simp [length_beb]), List.drop_eq_nil_of_le (by simp [length_beb]), List.nil_append, List.take_append_of_le_length (by omega), List.take_of_length_le (by omega)]
theorem beb_two (l : List UInt8) (h : l.length = 2) : beb 2 (numb l) = l := by
  match l, h with
  | [a, b], _ =>
    have ha := a.toNat_lt
    have hb := b.toNat_lt
    simp only [numb, List.foldl_cons, List.foldl_nil, beb, List.range, List.range.loop, List.map_cons, List.map_nil]
    have e1 : UInt8.ofNat ((((0 * 256 + a.toNat) * 256) + b.toNat) / 256 ^ (2 - 1 - 0)) = a := by
      rw [show (((0 * 256 + a.toNat) * 256) + b.toNat) / 256 ^ (2 - 1 - 0) = a.toNat by omega]
      simp
    have e2 : UInt8.ofNat ((((0 * 256 + a.toNat) * 256) + b.toNat) / 256 ^ (2 - 1 - 1)) = b := by
      apply UInt8.toNat_inj.1
      simp only [UInt8.toNat_ofNat']
      omega
    rw [e1, e2]
/-- What the first attribute's bytes are, if it is there: those up to its end, and zeros. -/
theorem att_cut {bs : List UInt8} (h4 : 4 ≤ bs.length) (h : 4 + sizA bs ≤ bs.length) : attB (numb (bs.take 2), (bs.drop 4).take (sizA bs)) = bs.take (4 + sizA bs) ++ List.replicate (lacks (4 + sizA bs) 4) 0 := by
  have hs : ((bs.drop 4).take (sizA bs)).length = sizA bs := by simp; omega
  unfold attB
  simp only [hs]
  have e1 : beb 2 (numb (bs.take 2)) = bs.take 2 := beb_two _ (by simp; omega)
  have e2 : beb 2 (sizA bs) = (bs.drop 2).take 2 := by unfold sizA; exact beb_two _ (by simp; omega)
  rw [e1, e2, show lacks (4 + sizA bs) 4 = lacks (sizA bs) 4 by unfold lacks; omega]
  rw [← List.append_assoc, ← List.append_assoc]
  congr 1
  rw [show 4 + sizA bs = 2 + (2 + sizA bs) by omega, List.take_add, List.take_add, List.drop_drop]
  simp [List.append_assoc]
theorem HeadA.mk {bs : List UInt8} (h4 : 4 ≤ bs.length) (hs : sizA bs ≤ 255) (h : 4 + sizA bs ≤ bs.length) (he : bs.take (4 + sizA bs) ++ List.replicate (lacks (4 + sizA bs) 4) 0 = bs.take (4 + sizA bs + lacks (4 + sizA bs) 4)) : HeadA bs (numb (bs.take 2), (bs.drop 4).take (sizA bs)) := by
  refine ⟨numb2 _, by simp; omega, bs.drop (4 + sizA bs + lacks (4 + sizA bs) 4), ?_⟩
  rw [att_cut h4 h, he, List.take_append_drop]
theorem HeadA.fill {bs : List UInt8} {x : Nat × List UInt8} (h : HeadA bs x) : 4 + sizA bs ≤ bs.length ∧ (attB x).length = 4 + sizA bs + lacks (4 + sizA bs) 4 ∧ bs.take (4 + sizA bs) ++ List.replicate (lacks (4 + sizA bs) 4) 0 = bs.take (attB x).length := by
  obtain ⟨h1, h2, h3, h4, h5, h6⟩ := h.parts
  have hl := attB_len x
  have hle : 4 + sizA bs ≤ bs.length := by omega
  have e : x = (numb (bs.take 2), (bs.drop 4).take (sizA bs)) := by rw [h2, h3, h4]
  have hc := att_cut h1 hle
  rw [← e] at hc
  refine ⟨hle, ?_, ?_⟩
  · rw [hl, h3]; unfold lacks; omega
  · rw [← hc]; exact h6
def fitA (L : List (Nat × List UInt8)) : Prop := ∀ y ∈ L, y.1 < 65536 ∧ y.2.length ≤ 255
theorem HeadA.one {bs : List UInt8} {x y : Nat × List UInt8} (h : HeadA bs x) (k : HeadA bs y) : x = y := by
  obtain ⟨_, h1, h2, h3, _⟩ := h.parts
  obtain ⟨_, k1, k2, k3, _⟩ := k.parts
  have e2 : x.2.length = y.2.length := by omega
  rw [e2] at h3
  exact Prod.ext (by omega) (h3.symm.trans k3)
/-- Attributes that bytes begin with are the first ones of those that the bytes are. -/
theorem pre_of : ∀ (L av : List (Nat × List UInt8)) (rest : List UInt8), fitA L → fitA av → bodS L ++ rest = bodS av → ∃ k, k ≤ av.length ∧ L = av.take k ∧ rest = bodS (av.drop k)
  | [], av, rest, _, _, h => ⟨0, by omega, by simp, by simpa [bodS] using h⟩
  | y :: L, [], rest, _, _, h => by
    have h0 := congrArg List.length h
    have h4 := attB_len y
    have e : bodS (y :: L) = attB y ++ bodS L := by simp [bodS]
    rw [e, List.length_append, List.length_append, show bodS [] = [] from rfl, List.length_nil] at h0
    omega
  | y :: L, z :: av, rest, hL, ha, h => by
    have e : attB y ++ (bodS L ++ rest) = attB z ++ bodS av := by simpa [bodS] using h
    have hy : HeadA (attB y ++ (bodS L ++ rest)) y := ⟨(hL y (by simp)).1, (hL y (by simp)).2, _, rfl⟩
    have hz : HeadA (attB y ++ (bodS L ++ rest)) z := ⟨(ha z (by simp)).1, (ha z (by simp)).2, _, e⟩
    obtain rfl := hy.one hz
    obtain ⟨k, h1, h2, h3⟩ := pre_of L av rest (fun q hq => hL q (by simp [hq])) (fun q hq => ha q (by simp [hq])) (List.append_cancel_left e)
    exact ⟨k + 1, by simp; omega, by simp [h2], by simp [h3]⟩
theorem beb_numb : ∀ (n : Nat) (l : List UInt8), l.length = n → beb n (numb l) = l
  | 0, l, h => by rw [List.eq_nil_of_length_eq_zero h]; rfl
  | n + 1, l, h => by
    have hne : l ≠ [] := fun h0 => by rw [h0] at h; cases h
    obtain ⟨l', b, rfl⟩ : ∃ l' b, l = l' ++ [b] := ⟨l.dropLast, l.getLast hne, (List.dropLast_concat_getLast hne).symm⟩
    have hl : l'.length = n := by simp at h; exact h
    have hb := b.toNat_lt
    rw [numb_snoc, beb_succ, show (numb l' * 256 + b.toNat) / 256 = numb l' by omega, beb_numb n l' hl]
    congr 2
    apply UInt8.toNat_inj.1
    simp only [UInt8.toNat_ofNat']
    omega
theorem isMsg.fitA {bs : List UInt8} {s : Stn} (h : isMsg bs s) : fitA s.av := fun y hy => ⟨h.2.1.2.2 y hy, h.2.2.2.2 y hy⟩
/-- So far as attributes have been read there is no message, if none comes though there are bytes. -/
theorem no_head {bs rest : List UInt8} {L : List (Nat × List UInt8)} (hb : bs.drop 20 = bodS L ++ rest) (hL : Go.Proofs.Ythoiebjndchobaa.fitA L) (hne : rest ≠ []) (hno : ∀ y, ¬ HeadA rest y) : ∀ s, ¬ isMsg bs s := fun s hs => by
  have hd : bs.drop 20 = bodS s.av := by rw [hs.1]; exact drop_wrS s hs.2.1
  obtain ⟨k, h1, h2, h3⟩ := pre_of L s.av rest hL hs.fitA (hb.symm.trans hd)
  rcases hq : s.av.drop k with _ | ⟨z, t⟩
  · rw [hq] at h3; exact hne h3
  · have hz := hs.fitA z (List.mem_of_mem_drop (by rw [hq]; simp))
    exact hno z ⟨hz.1, hz.2, bodS t, by rw [h3, hq]; simp [bodS]⟩
theorem no_more {bs rest : List UInt8} {L : List (Nat × List UInt8)} (hb : bs.drop 20 = bodS L ++ rest) (hL : Go.Proofs.Ythoiebjndchobaa.fitA L) (hne : rest ≠ []) (h16 : L.length = 16) : ∀ s, ¬ isMsg bs s := fun s hs => by
  have hd : bs.drop 20 = bodS s.av := by rw [hs.1]; exact drop_wrS s hs.2.1
  obtain ⟨k, h1, h2, h3⟩ := pre_of L s.av rest hL hs.fitA (hb.symm.trans hd)
  have h4 := hs.2.2.2.1
  have h5 : L.length = k := by rw [h2, List.length_take]; omega
  exact hne (by rw [h3, List.drop_eq_nil_of_le (by omega)]; rfl)
theorem split_msg {bs : List UInt8} (h : 20 ≤ bs.length) : bs = bs.take 2 ++ ((bs.drop 2).take 2 ++ ((bs.drop 4).take 4 ++ ((bs.drop 8).take 12 ++ bs.drop 20))) := by
  conv => lhs; rw [← List.take_append_drop 2 bs, ← List.take_append_drop 2 (bs.drop 2), List.drop_drop, ← List.take_append_drop 4 (bs.drop 4), List.drop_drop, ← List.take_append_drop 12 (bs.drop 8), List.drop_drop]
/-- What a message is whose attributes are all read. -/
theorem is_msg {bs : List UInt8} {L : List (Nat × List UInt8)} (h20 : 20 ≤ bs.length) (h0 : (bs.getD 0 0).toNat / 64 = 0) (hc : numb ((bs.drop 4).take 4) = 554869826) (hn : numb ((bs.drop 2).take 2) = bs.length - 20) (hb : bs.drop 20 = bodS L) (hL : Go.Proofs.Ythoiebjndchobaa.fitA L) (h16 : L.length ≤ 16) :
    isMsg bs ⟨numb (bs.take 2), (bs.drop 8).take 12, L⟩ := by
  refine ⟨?_, ⟨numb2 _, by simp; omega, fun y hy => (hL y hy).1⟩, ?_, h16, fun y hy => (hL y hy).2⟩
  · unfold wrS
    simp only
    have hl : (bodS L).length = bs.length - 20 := by rw [← hb]; simp
    rw [hl, ← hn, ← hc, beb_numb 2 _ (by simp; omega), beb_numb 2 _ (by simp; omega), beb_numb 4 _ (by simp; omega), ← hb]
    exact split_msg h20
  · simp only
    have e : bs.take 2 = [bs.getD 0 0] ++ [bs.getD 1 0] := by
      match bs, h20 with
      | a :: b :: t, _ => rfl
    have := (bs.getD 1 0).toNat_lt
    rw [e, numb_snoc, show numb [bs.getD 0 0] = (bs.getD 0 0).toNat by simp [numb]]
    omega
theorem msg_one {bs : List UInt8} {L : List (Nat × List UInt8)} (hb : bs.drop 20 = bodS L) (hL : Go.Proofs.Ythoiebjndchobaa.fitA L) (s : Stn) (hs : isMsg bs s) : s = ⟨numb (bs.take 2), (bs.drop 8).take 12, L⟩ := by
  have hd : bs.drop 20 = bodS s.av := by rw [hs.1]; exact drop_wrS s hs.2.1
  obtain ⟨k, h1, h2, h3⟩ := pre_of L s.av [] hL hs.fitA (by rw [List.append_nil]; exact hb.symm.trans hd)
  have h4 : s.av.drop k = [] := by
    rcases hq : s.av.drop k with _ | ⟨z, t⟩
    · rfl
    · rw [hq] at h3
      have := congrArg List.length h3
      have h5 := attB_len z
      simp [bodS] at this
      omega
  have h5 : s.av = L := by rw [h2]; conv => lhs; rw [← List.take_append_drop k s.av, h4, List.append_nil]
  obtain ⟨g1, _, g3⟩ := hs.head
  obtain ⟨ty, tx, av⟩ := s
  simp only at g1 g3 h5
  rw [g1, g3, h5]
end Go.Proofs.Ythoiebjndchobaa
