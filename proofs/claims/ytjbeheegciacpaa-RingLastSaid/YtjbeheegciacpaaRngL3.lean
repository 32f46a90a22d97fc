/- Two rings beside each other, the program's and the document's, that play the same; what a step leaves of them. No statement is proved here. -/
import Derived.Test.YtjbeheegciacpaaRngL2
namespace Go.Proofs.Ytjbeheegciacpaa
open Go.RowKit
set_option linter.unusedVariables false

theorem fitL_siz {P B : Int} : ∀ L : List Pck, sizD (fitL P B L) ≤ sizD L
  | [] => Nat.le_refl _
  | x :: r => by
    have := fitL_siz (P := P) (B := B) r
    unfold fitL
    split
    · rw [sizD_cons]; omega
    · exact Nat.le_refl _
theorem sub_siz {L M : List Pck} (h : L.Sublist M) : sizD L ≤ sizD M := by
  induction h with
  | slnil => exact Nat.le_refl _
  | cons a _ ih => rw [sizD_cons]; omega
  | cons_cons a _ ih => rw [sizD_cons, sizD_cons]; omega
/-- A ring behind k steps. -/
structure Inv19 (s : Rgs) (k : Nat) : Prop where
  P : 1 ≤ s.P
  B : 0 ≤ s.B
  srt : Srt s.L
  len : s.L.length ≤ k
  siz : sizD s.L ≤ 300 * k
  lenP : (s.L.length : Int) ≤ s.P
  sizB : (sizD s.L : Int) ≤ s.B
theorem Inv19.mono {s : Rgs} {k : Nat} (h : Inv19 s k) : Inv19 s (k + 1) := ⟨h.P, h.B, h.srt, by have := h.len; omega, by have := h.siz; omega, h.lenP, h.sizB⟩
theorem Inv19.put {s : Rgs} {k : Nat} (h : Inv19 s k) (i : Int) (b : List UInt8) (hb : b.length ≤ 300) : Inv19 ⟨s.P, s.B, putG s.P s.B s.L i b⟩ (k + 1) := by
  unfold putG
  by_cases he : putE s.P s.B s.L i b = 0
  · rw [if_pos he]
    have hn : i ∉ s.L.map (·.1) := fun hm => by
      unfold putE at he
      by_cases h1 : i < 0
      · rw [if_pos h1] at he; omega
      · rw [if_neg h1] at he
        by_cases h2 : s.B < (b.length : Int)
        · rw [if_pos h2] at he; omega
        · rw [if_neg h2, if_pos (.inl hm)] at he; omega
    have hs := insL_srt (p := (i, b)) h.srt hn
    have hl := (insL_perm (i, b) s.L).length_eq
    have hz := sizD_perm (insL_perm (i, b) s.L)
    rw [sizD_cons] at hz
    have hP := h.P
    obtain ⟨r1, r2⟩ := fitL_room (P := s.P) (B := s.B) (by omega) h.B (insL (i, b) s.L)
    have l1 := fitL_len (P := s.P) (B := s.B) (insL (i, b) s.L)
    have z1 := fitL_siz (P := s.P) (B := s.B) (insL (i, b) s.L)
    have := h.len; have := h.siz
    simp only [List.length_cons] at hl
    exact ⟨h.P, h.B, fitL_srt hs, by simp only; omega, by simp only at hz ⊢; omega, r1, r2⟩
  · rw [if_neg he]; exact h.mono
theorem Inv19.forget {s : Rgs} {k : Nat} (h : Inv19 s k) (i : Int) : Inv19 ⟨s.P, s.B, forG s.L i⟩ (k + 1) := by
  have hsub : (forG s.L i).Sublist s.L := List.dropWhile_sublist _
  have hl := hsub.length_le
  have hz := sub_siz hsub
  have := h.len; have := h.siz; have := h.lenP; have := h.sizB
  exact ⟨h.P, h.B, forG_srt h.srt i, by simp only; omega, by simp only; omega, by simp only; omega, by simp only; omega⟩

/-- The program's ring v plays s1, the document's, block g, plays s2; both are the call's own, apart, and none of K's. -/
structure Duo (T : World → Value → Rgs → (Nat → Prop) → Prop) (w : World) (v : Value) (g : Nat) (s1 s2 : Rgs) (K : Nat → Prop) (wx : World) : Prop where
  ex : ∃ F D vI vB, T wx v s1 F ∧ RRg 0 g s2.P s2.B D vI vB wx ∧ D.Perm s2.L ∧ Srt s2.L ∧ (∀ k, F k → w.heap.size ≤ k ∧ ¬ K k ∧ ¬ FRg g vI vB k) ∧ (∀ k, FRg g vI vB k → w.heap.size ≤ k ∧ ¬ K k)
  kept : ∀ k, K k → k < wx.heap.size
  below : Below w.heap.size w wx
section
variable {T : World → Value → Rgs → (Nat → Prop) → Prop} {K : Nat → Prop} {w wx wy : World} {v : Value} {g : Nat} {s1 s2 : Rgs}
theorem Duo.on (hT : Tells19 T) (h : Duo T w v g s1 s2 K wx) (hb : Below wx.heap.size wx wy) : Duo T w v g s1 s2 K wy ∧ Sam K wx wy := by
  obtain ⟨F, D, vI, vB, h1, h2, h3, h4, h5, h6⟩ := h.ex
  exact ⟨⟨⟨F, D, vI, vB, hT.lone.below h1 hb, h2.below hb, h3, h4, h5, h6⟩, fun k hk => Nat.lt_of_lt_of_le (h.kept k hk) hb.size, h.below.trans (hb.mono h.below.size)⟩, fun k hk => hb.block k (h.kept k hk)⟩
theorem Duo.more (hT : Tells19 T) (h : Duo T w v g s1 s2 K wx) (o : Obj) : Duo T w v g s1 s2 (fun k => K k ∨ k = wx.heap.size) (wx.alloc o) := by
  obtain ⟨F, D, vI, vB, h1, h2, h3, h4, h5, h6⟩ := h.ex
  have hb : Below wx.heap.size wx (wx.alloc o) := (Below.refl _ _).alloc (Nat.le_refl _) _
  refine ⟨⟨F, D, vI, vB, hT.lone.below h1 hb, h2.below hb, h3, h4, fun k hk => ⟨(h5 k hk).1, ?_, (h5 k hk).2.2⟩, fun k hk => ⟨(h6 k hk).1, ?_⟩⟩, ?_, h.below.trans (hb.mono h.below.size)⟩
  · rintro (h7 | rfl)
    · exact (h5 k hk).2.1 h7
    · have := hT.lone.low _ _ _ _ h1 _ hk; omega
  · rintro (h7 | rfl)
    · exact (h6 k hk).2 h7
    · have := h2.lows _ hk; omega
  · rintro k (h7 | rfl)
    · have := h.kept k h7; simp; omega
    · simp
theorem Duo.less {K2 : Nat → Prop} (h : Duo T w v g s1 s2 K wx) (hk : ∀ k, K2 k → K k) : Duo T w v g s1 s2 K2 wx := by
  obtain ⟨F, D, vI, vB, h1, h2, h3, h4, h5, h6⟩ := h.ex
  exact ⟨⟨F, D, vI, vB, h1, h2, h3, h4, fun k hk2 => ⟨(h5 k hk2).1, fun h7 => (h5 k hk2).2.1 (hk k h7), (h5 k hk2).2.2⟩, fun k hk2 => ⟨(h6 k hk2).1, fun h7 => (h6 k hk2).2 (hk k h7)⟩⟩, fun k hk2 => h.kept k (hk k hk2), h.below⟩
/-- The program's takes a step. -/
theorem Duo.stp {s1' : Rgs} {F : Nat → Prop} {D : List Pck} {vI vB : Value} (h : Duo T w v g s1 s2 K wx) (h2 : RRg 0 g s2.P s2.B D vI vB wx) (h3 : D.Perm s2.L) (h4 : Srt s2.L) (h5 : ∀ k, F k → w.heap.size ≤ k ∧ ¬ K k ∧ ¬ FRg g vI vB k) (h6 : ∀ k, FRg g vI vB k → w.heap.size ≤ k ∧ ¬ K k) (hs : Stp19 T v s1' F wx wy) :
    Duo T w v g s1' s2 K wy ∧ Sam K wx wy := by
  obtain ⟨F', p1, p2, p3⟩ := hs
  have hz := h.below.size
  refine ⟨⟨⟨F', D, vI, vB, p1, h2.lone (fun k hk => p2.keep k (h2.lows k hk) (fun hf => (h5 k hf).2.2 hk)), h3, h4, fun k hk => ?_, h6⟩, fun k hk => Nat.lt_of_lt_of_le (h.kept k hk) p2.size, h.below.trans (p2.below (fun k hk => (h5 k hk).1) h.below.size)⟩, fun k hk => p2.keep k (h.kept k hk) (fun hf => (h5 k hf).2.1 hk)⟩
  rcases p3 k hk with h7 | h7
  · exact h5 k h7
  · exact ⟨by omega, fun h8 => by have := h.kept k h8; omega, fun h8 => by have := h2.lows k h8; omega⟩
/-- The document's takes a step. -/
theorem Duo.rstp (hT : Tells19 T) {L' : List Pck} {F : Nat → Prop} {D' : List Pck} {vI vB vI' vB' : Value} (h : Duo T w v g s1 s2 K wx) (h1 : T wx v s1 F) (h5 : ∀ k, F k → w.heap.size ≤ k ∧ ¬ K k ∧ ¬ FRg g vI vB k) (h6 : ∀ k, FRg g vI vB k → w.heap.size ≤ k ∧ ¬ K k) (hs : Way19 wx g s2.P s2.B (FRg g vI vB) D' L' vI' vB' wy) :
    Duo T w v g s1 ⟨s2.P, s2.B, L'⟩ K wy ∧ Sam K wx wy := by
  have hz := h.below.size
  refine ⟨⟨⟨F, D', vI', vB', hT.lone.fr h1 hs.fr (fun k hk => (h5 k hk).2.2), hs.ring, hs.perm, hs.srt, fun k hk => ⟨(h5 k hk).1, (h5 k hk).2.1, fun h8 => ?_⟩, fun k hk => ?_⟩, fun k hk => Nat.lt_of_lt_of_le (h.kept k hk) hs.fr.size, h.below.trans (hs.fr.below (fun k hk => (h6 k hk).1) h.below.size)⟩, fun k hk => hs.fr.keep k (h.kept k hk) (fun hf => (h6 k hf).2 hk)⟩
  · rcases hs.own k h8 with h7 | h7
    · exact (h5 k hk).2.2 h7
    · have := hT.lone.low _ _ _ _ h1 k hk; omega
  · rcases hs.own k hk with h7 | h7
    · exact h6 k h7
    · exact ⟨by omega, fun h8 => by have := h.kept k h8; omega⟩

theorem Duo.put (hT : Tells19 T) {q : Addr} (i : Int) (A : Option Addr) (n c : Nat) (b : List UInt8) (h : Duo T w (.pointer (some q)) g s1 s2 K wx) (hs : Srt s1.L) (hP : 1 ≤ s1.P) (hB : 0 ≤ s1.B) (hr : RdS wx A n c b) (hoff : 0 < n → ∀ ad, A = some ad → ad.block < w.heap.size) (hl : s1.L.length ≤ 200) (hz : sizD s1.L + n ≤ 1000000000) (hi : -9223372036854775808 ≤ i ∧ i ≤ 9223372036854775807) :
    Calls Try.prog 11 #[.pointer (some q), .int .i64 i, .slice A n c] wx fun e w' => e = .returned (.int .i64 (putE s1.P s1.B s1.L i b)) ∧ Hid (Duo T w (.pointer (some q)) g ⟨s1.P, s1.B, putG s1.P s1.B s1.L i b⟩ s2 K w' ∧ Sam K wx w') := by
  obtain ⟨F, D, vI, vB, h1, h2, h3, h4, h5, h6⟩ := h.ex
  refine (hT.put wx q s1 F i A n c b h1 hs hP hB hr (fun hn ad hA hf => by have := (h5 _ hf).1; have := hoff hn ad hA; omega) hl hz hi).mono ?_
  rintro e w' ⟨rfl, hk⟩
  exact ⟨rfl, Lib.hid (h.stp h2 h3 h4 h5 h6 hk.out)⟩
theorem Duo.forget (hT : Tells19 T) {q : Addr} (i : Int) (h : Duo T w (.pointer (some q)) g s1 s2 K wx) (hs : Srt s1.L) (hl : s1.L.length ≤ 201) (hi : -9223372036854775808 ≤ i ∧ i ≤ 9223372036854775807) :
    Calls Try.prog 9 #[.pointer (some q), .int .i64 i] wx fun e w' => e = .returned (.int .i64 ((s1.L.length - (forG s1.L i).length : Nat) : Int)) ∧ Hid (Duo T w (.pointer (some q)) g ⟨s1.P, s1.B, forG s1.L i⟩ s2 K w' ∧ Sam K wx w') := by
  obtain ⟨F, D, vI, vB, h1, h2, h3, h4, h5, h6⟩ := h.ex
  refine (hT.forget wx q s1 F i h1 hs hl hi).mono ?_
  rintro e w' ⟨rfl, hk⟩
  exact ⟨rfl, Lib.hid (h.stp h2 h3 h4 h5 h6 hk.out)⟩
theorem Duo.rput (hT : Tells19 T) (i : Int) (A : Option Addr) (n c : Nat) (b : List UInt8) (h : Duo T w v g s1 s2 K wx) (hP : 1 ≤ s2.P) (hB : 0 ≤ s2.B) (hr : RdS wx A n c b) (hoff : 0 < n → ∀ ad, A = some ad → ad.block < w.heap.size) (hl : s2.L.length ≤ 200) (hz : sizD s2.L + n ≤ 1000000000) :
    Calls Try.prog 12 #[.pointer (some ⟨g, 0, none⟩), .int .i64 i, .slice A n c] wx fun e w' => e = .returned (.int .i64 (putE s2.P s2.B s2.L i b)) ∧ Hid (Duo T w v g s1 ⟨s2.P, s2.B, putG s2.P s2.B s2.L i b⟩ K w' ∧ Sam K wx w') := by
  obtain ⟨F, D, vI, vB, h1, h2, h3, h4, h5, h6⟩ := h.ex
  have hl' : D.length ≤ 200 := by rw [h3.length_eq]; exact hl
  by_cases he : putE s2.P s2.B s2.L i b = 0
  · refine (rput_ok19 g s2.P s2.B i D s2.L vI vB A n c b wx h2 h3 h4 hr (fun hn ad hA hf => by have := (h6 _ hf).1; have := hoff hn ad hA; omega) hl' (by rw [sizD_perm h3]; exact hz) hP hB he).mono ?_
    rintro e w' ⟨rfl, D', vI', vB', hk⟩
    rw [he]
    exact ⟨rfl, Lib.hid (h.rstp hT h1 h5 h6 hk)⟩
  · refine (rput_no19 g s2.P s2.B i D s2.L vI vB A n c b wx h2 h3 h4 hr hl' hP he).mono ?_
    rintro e w' ⟨rfl, hb⟩
    have : putG s2.P s2.B s2.L i b = s2.L := by unfold putG; rw [if_neg he]
    rw [this]
    exact ⟨rfl, Lib.hid (h.on hT hb)⟩
theorem Duo.rforget (hT : Tells19 T) (i : Int) (h : Duo T w v g s1 s2 K wx) (hl : s2.L.length ≤ 201) :
    Calls Try.prog 10 #[.pointer (some ⟨g, 0, none⟩), .int .i64 i] wx fun e w' => e = .returned (.int .i64 ((s2.L.length - (forG s2.L i).length : Nat) : Int)) ∧ Hid (Duo T w v g s1 ⟨s2.P, s2.B, forG s2.L i⟩ K w' ∧ Sam K wx w') := by
  obtain ⟨F, D, vI, vB, h1, h2, h3, h4, h5, h6⟩ := h.ex
  refine (rforget_any19 g s2.P s2.B i D s2.L vI vB wx h2 h3 h4 (by rw [h3.length_eq]; exact hl)).mono ?_
  rintro e w' ⟨rfl, D', vI', vB', hk⟩
  exact ⟨rfl, Lib.hid (h.rstp hT h1 h5 h6 hk)⟩
end
end Go.Proofs.Ytjbeheegciacpaa
