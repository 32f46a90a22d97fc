/- Plain mathematics on messages of STUN: a message, its bytes, which may be, where its attributes lie. No program is named; no statement is proved here. -/
import Derived.Test.YthoiebjndchobaaNums
namespace Go.Proofs.Ythoiebjndchobaa
set_option linter.unusedVariables false

/-- A message: its type, its transaction, its attributes. -/
structure Stn where
  ty : Nat
  tx : List UInt8
  av : List (Nat × List UInt8)
/-- An attribute's bytes. -/
def attB (x : Nat × List UInt8) : List UInt8 := beb 2 x.1 ++ (beb 2 x.2.length ++ (x.2 ++ List.replicate (lacks x.2.length 4) 0))
def bodS (L : List (Nat × List UInt8)) : List UInt8 := L.flatMap attB
/-- A message's bytes. -/
def wrS (s : Stn) : List UInt8 := beb 2 s.ty ++ (beb 2 (bodS s.av).length ++ (beb 4 554869826 ++ (s.tx ++ bodS s.av)))
def Stn.fit (s : Stn) : Prop := s.ty < 65536 ∧ s.tx.length = 12 ∧ ∀ x ∈ s.av, x.1 < 65536
def mayS (s : Stn) : Prop := s.ty ≤ 16383 ∧ s.av.length ≤ 16 ∧ ∀ x ∈ s.av, x.2.length ≤ 255
/-- The bytes are this message's, which may be. -/
def isMsg (bs : List UInt8) (s : Stn) : Prop := bs = wrS s ∧ s.fit ∧ mayS s
theorem attB_len (x : Nat × List UInt8) : (attB x).length = 4 + (x.2.length + 3) / 4 * 4 := by
  simp only [attB, List.length_append, length_beb, List.length_replicate]
  unfold lacks
  omega
theorem attB_four (x : Nat × List UInt8) : (attB x).length % 4 = 0 := by rw [attB_len]; omega
theorem bodS_four : ∀ L : List (Nat × List UInt8), (bodS L).length % 4 = 0
  | [] => rfl
  | a :: r => by
    have h1 := attB_four a
    have h2 := bodS_four r
    unfold bodS at h2 ⊢
    rw [List.flatMap_cons, List.length_append]; omega
theorem bodS_le : ∀ L : List (Nat × List UInt8), (∀ x ∈ L, x.2.length ≤ 255) → (bodS L).length ≤ 260 * L.length
  | [], _ => by simp [bodS]
  | a :: r, h => by
    have h1 := attB_len a
    have h2 := bodS_le r (fun x hx => h x (by simp [hx]))
    have h3 := h a (by simp)
    unfold bodS at h2 ⊢
    rw [List.flatMap_cons, List.length_append, List.length_cons, Nat.mul_succ]; omega
theorem bodS_snoc {L : List (Nat × List UInt8)} {k : Nat} (h : k < L.length) : bodS (L.take (k + 1)) = bodS (L.take k) ++ attB L[k] := by
  unfold bodS
  rw [List.take_add_one, List.getElem?_eq_getElem h, List.flatMap_append]
  simp only [Option.toList, List.flatMap_cons, List.flatMap_nil, List.append_nil]
theorem wrS_len (s : Stn) (h : s.fit) : (wrS s).length = 20 + (bodS s.av).length := by
  have := h.2.1
  simp only [wrS, List.length_append, length_beb]; omega
/-- A message has at least 20 bytes, in all as many as its attributes have, and 20. -/
theorem isMsg.len {bs : List UInt8} {s : Stn} (h : isMsg bs s) : bs.length = 20 + (bodS s.av).length := by rw [h.1]; exact wrS_len s h.2.1
theorem isMsg.small {bs : List UInt8} {s : Stn} (h : isMsg bs s) : bs.length ≤ 4180 := by
  have h1 := h.len
  have h2 := bodS_le s.av h.2.2.2.2
  have h3 := h.2.2.2.1
  omega
theorem drop_wrS (s : Stn) (h : s.fit) : (wrS s).drop 20 = bodS s.av := by
  have h2 := h.2.1
  have e : wrS s = (beb 2 s.ty ++ (beb 2 (bodS s.av).length ++ (beb 4 554869826 ++ s.tx))) ++ bodS s.av := by simp [wrS]
  rw [e, List.drop_append_of_le_length (by simp [length_beb, h2]), List.drop_eq_nil_of_le (by simp [length_beb, h2]), List.nil_append]
/-- What lies at an attribute's place. -/
theorem isMsg.at_ {bs : List UInt8} {s : Stn} (h : isMsg bs s) {k : Nat} (hk : k < s.av.length) : bs.drop (20 + (bodS (s.av.take k)).length) = attB s.av[k] ++ bodS (s.av.drop (k + 1)) := by
  have e : bodS s.av = bodS (s.av.take k) ++ (attB s.av[k] ++ bodS (s.av.drop (k + 1))) := by
    unfold bodS
    conv => lhs; rw [← List.take_append_drop k s.av, List.drop_eq_getElem_cons hk]
    rw [List.flatMap_append, List.flatMap_cons]
  rw [h.1, ← List.drop_drop, drop_wrS s h.2.1, e, List.drop_append_of_le_length (Nat.le_refl _), List.drop_eq_nil_of_le (Nat.le_refl _), List.nil_append]
theorem isMsg.end_ {bs : List UInt8} {s : Stn} (h : isMsg bs s) : 20 + (bodS (s.av.take s.av.length)).length = bs.length := by rw [h.len, List.take_length]
/-- An attribute at its place: it is there whole, and what its parts are. -/
theorem isMsg.att {bs : List UInt8} {s : Stn} (h : isMsg bs s) {k at_ : Nat} (hk : k < s.av.length) (ha : at_ = 20 + (bodS (s.av.take k)).length) :
    at_ + (attB s.av[k]).length ≤ bs.length ∧ numb ((bs.drop at_).take 2) = s.av[k].1 ∧ numb ((bs.drop (at_ + 2)).take 2) = s.av[k].2.length ∧ (bs.drop (at_ + 4)).take s.av[k].2.length = s.av[k].2 ∧ at_ + (attB s.av[k]).length = 20 + (bodS (s.av.take (k + 1))).length := by
  have hd := h.at_ hk
  rw [← ha] at hd
  have hf := h.2.1.2.2 _ (List.getElem_mem hk)
  have hm := h.2.2.2.2 _ (List.getElem_mem hk)
  have hs := bodS_snoc hk
  have hle : at_ ≤ bs.length := by
    by_cases hl : at_ ≤ bs.length
    · exact hl
    · have h0 : bs.drop at_ = [] := List.drop_eq_nil_of_le (by omega)
      rw [h0] at hd
      have := congrArg List.length hd
      have h4 := attB_len s.av[k]
      simp only [List.length_nil, List.length_append] at this
      omega
  obtain ⟨x, hx⟩ : ∃ x, x = s.av[k] := ⟨_, rfl⟩
  rw [← hx] at hd hf hm hs ⊢
  obtain ⟨t, ht⟩ : ∃ t, t = bodS (s.av.drop (k + 1)) := ⟨_, rfl⟩
  rw [← ht] at hd
  refine ⟨?_, ?_, ?_, ?_, ?_⟩
  · have := congrArg List.length hd
    simp only [List.length_drop, List.length_append] at this
    have h4 := attB_len x
    omega
  · rw [hd]
    simp only [attB, List.append_assoc]
    rw [List.take_append_of_le_length (by simp [length_beb]), List.take_of_length_le (by simp [length_beb]), numb_beb]
    omega
  · rw [← List.drop_drop, hd]
    simp only [attB, List.append_assoc]
    rw [List.drop_append_of_le_length (by simp [length_beb]), List.drop_eq_nil_of_le (by simp [length_beb]), List.nil_append, List.take_append_of_le_length (by simp [length_beb]), List.take_of_length_le (by simp [length_beb]), numb_beb]
    omega
  · rw [← List.drop_drop, hd]
    have e : attB x ++ t = (beb 2 x.1 ++ beb 2 x.2.length) ++ (x.2 ++ (List.replicate (lacks x.2.length 4) 0 ++ t)) := by simp [attB]
    rw [e, List.drop_append_of_le_length (by simp [length_beb]), List.drop_eq_nil_of_le (by simp [length_beb]), List.nil_append, List.take_append_of_le_length (by omega), List.take_of_length_le (by omega)]
  · rw [hs, List.length_append, ha]; omega
/-- A message's head. -/
theorem isMsg.head {bs : List UInt8} {s : Stn} (h : isMsg bs s) : numb (bs.take 2) = s.ty ∧ numb ((bs.drop 4).take 4) = 554869826 ∧ (bs.drop 8).take 12 = s.tx := by
  have hf := h.2.1
  have h2 := hf.2.1
  have h1 := hf.1
  rw [h.1]
  refine ⟨?_, ?_, ?_⟩
  · unfold wrS
    rw [List.take_append_of_le_length (by simp [length_beb]), List.take_of_length_le (by simp [length_beb]), numb_beb]
    omega
  · have e : wrS s = (beb 2 s.ty ++ beb 2 (bodS s.av).length) ++ (beb 4 554869826 ++ (s.tx ++ bodS s.av)) := by simp [wrS]
    rw [e, List.drop_append_of_le_length (by simp [length_beb]), List.drop_eq_nil_of_le (by simp [length_beb]), List.nil_append, List.take_append_of_le_length (by simp [length_beb]), List.take_of_length_le (by simp [length_beb]), numb_beb]
  · have e : wrS s = (beb 2 s.ty ++ (beb 2 (bodS s.av).length ++ beb 4 554869826)) ++ (s.tx ++ bodS s.av) := by simp [wrS]
    rw [e, List.drop_append_of_le_length (by simp [length_beb]), List.drop_eq_nil_of_le (by simp [length_beb]), List.nil_append, List.take_append_of_le_length (by omega), List.take_of_length_le (by omega)]
/-- So far as a reader has come: what it has, if the bytes are a message, is the message's first attributes. -/
def PartB (bs : List UInt8) (L : List (Nat × List UInt8)) (at_ : Nat) : Prop := ∀ s, isMsg bs s → ∃ k, k ≤ s.av.length ∧ L = s.av.take k ∧ at_ = 20 + (bodS (s.av.take k)).length
theorem PartB.start (bs : List UInt8) : PartB bs [] 20 := fun s _ => ⟨0, by omega, by simp, by simp [bodS]⟩
theorem PartB.go {bs : List UInt8} {L : List (Nat × List UInt8)} {at_ : Nat} (h : PartB bs L at_) (h4 : at_ + 4 ≤ bs.length) {s : Stn} (hs : isMsg bs s) : ∃ k, ∃ hk : k < s.av.length, L = s.av.take k ∧ at_ + 4 + numb ((bs.drop (at_ + 2)).take 2) ≤ bs.length ∧ s.av[k] = (numb ((bs.drop at_).take 2), (bs.drop (at_ + 4)).take (numb ((bs.drop (at_ + 2)).take 2))) ∧ at_ + 4 + (numb ((bs.drop (at_ + 2)).take 2) + 3) / 4 * 4 = 20 + (bodS (s.av.take (k + 1))).length := by
  obtain ⟨k, hk, hL, ha⟩ := h s hs
  have hkl : k < s.av.length := by
    rcases Nat.lt_or_ge k s.av.length with h1 | h1
    · exact h1
    · have hk2 : k = s.av.length := by omega
      rw [hk2, hs.end_] at ha
      omega
  obtain ⟨a1, a2, a3, a4, a5⟩ := hs.att hkl ha
  have hl := attB_len s.av[k]
  refine ⟨k, hkl, hL, ?_, ?_, ?_⟩
  · rw [a3]; omega
  · rw [a2, a3, a4]
  · rw [a3]; omega
theorem PartB.bad {bs : List UInt8} {L : List (Nat × List UInt8)} {at_ : Nat} (h : PartB bs L at_) (h4 : at_ + 4 ≤ bs.length) (hn : ¬ at_ + 4 + numb ((bs.drop (at_ + 2)).take 2) ≤ bs.length) : ∀ s, ¬ isMsg bs s := fun s hs => by
  obtain ⟨k, hk, _, h1, _⟩ := h.go h4 hs
  exact hn h1
theorem PartB.step {bs : List UInt8} {L : List (Nat × List UInt8)} {at_ : Nat} (h : PartB bs L at_) (h4 : at_ + 4 ≤ bs.length) :
    PartB bs (L ++ [(numb ((bs.drop at_).take 2), (bs.drop (at_ + 4)).take (numb ((bs.drop (at_ + 2)).take 2)))]) (at_ + 4 + (numb ((bs.drop (at_ + 2)).take 2) + 3) / 4 * 4) := fun s hs => by
  obtain ⟨k, hk, hL, _, h2, h3⟩ := h.go h4 hs
  refine ⟨k + 1, hk, ?_, h3⟩
  rw [hL, ← h2, List.take_add_one, List.getElem?_eq_getElem hk]
  rfl
theorem PartB.done {bs : List UInt8} {L : List (Nat × List UInt8)} {at_ : Nat} (h : PartB bs L at_) (h4 : ¬ at_ + 4 ≤ bs.length) : ∀ s, isMsg bs s → s = ⟨numb (bs.take 2), (bs.drop 8).take 12, L⟩ := fun s hs => by
  obtain ⟨k, hk, hL, ha⟩ := h s hs
  have hkl : k = s.av.length := by
    rcases Nat.lt_or_ge k s.av.length with h1 | h1
    · obtain ⟨a1, _⟩ := hs.att h1 ha
      have := attB_len s.av[k]
      omega
    · omega
  rw [hkl, List.take_length] at hL
  obtain ⟨h1, _, h3⟩ := hs.head
  rw [h1, h3, hL]
/-- What an answer's attribute holds: where the request comes from. -/
def ansD (port addr : Nat) : List UInt8 := [0, 1] ++ beb 2 (port ^^^ 8466) ++ beb 4 (addr ^^^ 554869826)
theorem ansD_len (port addr : Nat) : (ansD port addr).length = 8 := by simp [ansD, length_beb]
/-- The answer to a request of this transaction. -/
def ansS (tx : List UInt8) (port addr : Nat) : Stn := ⟨257, tx, [(32, ansD port addr)]⟩
theorem ansS_fit (tx : List UInt8) (port addr : Nat) (h : tx.length = 12) : (ansS tx port addr).fit := ⟨by simp [ansS], h, by simp [ansS]⟩
theorem ansS_may (tx : List UInt8) (port addr : Nat) : mayS (ansS tx port addr) := ⟨by simp [ansS], by simp [ansS], by simp [ansS, ansD_len]⟩
theorem ansS_len (tx : List UInt8) (port addr : Nat) (h : tx.length = 12) : (wrS (ansS tx port addr)).length = 32 := by
  rw [wrS_len _ (ansS_fit tx port addr h)]
  simp [ansS, bodS, attB_len, ansD_len]
/-- Bytes that are answered, by whose transaction. -/
def askB (bs : List UInt8) (tx : List UInt8) : Prop := ∃ s, isMsg bs s ∧ s.ty = 1 ∧ 32 ≤ bs.length ∧ s.tx = tx
end Go.Proofs.Ythoiebjndchobaa
