/- Contracts of package rtp: the packet that bytes are, or why they are none. No statement is proved here. -/
import Derived.Test.YticbajagccemoaaRtp5
import Derived.Test.YticbajagccemoaaRtp6
namespace Go.Proofs.Yticbajagccemoaa
open Go.RowKit
set_option linter.unusedVariables false

theorem nat_eq1 (n : Nat) : ((n : Int) / 128 == 1) = (n / 128 == 1) := by
  rw [Bool.eq_iff_iff]
  simp
  omega

theorem head_of (g : Nat) (bs : List UInt8) (h12 : 12 ≤ bs.length ∧ bs.length ≤ 1200) (hv : bt bs 0 / 64 = 2) :
    Head g bs (bs.drop 1) (bs.drop 2) (bs.drop 4) (bs.drop 8) (bs.drop 12) (bt bs 0) (bt bs 1) (bt bs 1 % 128) (sqN bs) (stN bs) (soN bs) (othN bs) (bt bs 0 / 16 % 2) (bt bs 0 / 32 % 2) (bt bs 1 / 128 == 1) where
  n1 := fun wx hx => by
    have := number_ok g 1 1 rfl bs wx hx (by omega) (by omega) (by omega)
    have e := numb_one bs 0 (by omega)
    rw [List.drop_zero] at e
    rw [e] at this
    exact this
  n2 := fun wx hx => by
    have := number_ok g 1 1 rfl (bs.drop 1) wx hx (by omega) (by omega) (by rw [List.length_drop]; omega)
    rw [List.drop_drop, numb_one bs 1 (by omega)] at this
    exact this
  n3 := fun wx hx => by
    have := number_ok g 2 2 rfl (bs.drop 2) wx hx (by omega) (by omega) (by rw [List.length_drop]; omega)
    rw [List.drop_drop] at this
    exact this
  n4 := fun wx hx => by
    have := number_ok g 4 4 rfl (bs.drop 4) wx hx (by omega) (by omega) (by rw [List.length_drop]; omega)
    rw [List.drop_drop] at this
    exact this
  n5 := fun wx hx => by
    have := number_ok g 4 4 rfl (bs.drop 8) wx hx (by omega) (by omega) (by rw [List.length_drop]; omega)
    rw [List.drop_drop] at this
    exact this
  a1 := and_u64 _ 7 (by have := bt_lt bs 1; omega) (by omega) _ rfl
  a2 := and_u64 _ 4 (by have := bt_lt bs 0; omega) (by omega) _ rfl
  a3 := and_u64 (bt bs 0 / 16) 1 (by have := bt_lt bs 0; omega) (by omega) _ rfl
  a4 := and_u64 (bt bs 0 / 32) 1 (by have := bt_lt bs 0; omega) (by omega) _ rfl
  mq := nat_eq1 _
  v2 := by simp; omega
  l0 := bt_lt bs 0
  l1 := bt_lt bs 1
  lt := Nat.mod_lt _ (by omega)
  l2 := sqN_lt bs
  l3 := stN_lt bs
  l4 := soN_lt bs
  l5 := Nat.mod_lt _ (by omega)
  ln := h12

theorem srcs_ok (g : Nat) (bs : List UInt8) (ho : at0 bs ≤ bs.length) : ∀ wx, Rdr wx g (bs.drop 12) → Calls Try.prog 25 #[.pointer (some ⟨g, 0, none⟩), .int .i64 (othN bs : Int)] wx fun e w' => ∃ A c, e = .returned (.slice A (othN bs) c) ∧ w'.ownsRow wx.heap.size 25 1 (.slice A (othN bs) c) (othN bs) (ucells (srcs (bs.drop 12) (othN bs))) ∧ Rdr w' g (bs.drop (at0 bs)) ∧ wx.grownBy w' (some g) := fun wx hx =>
  (sources_any g (othN bs) (othN bs) rfl (bs.drop 12) wx hx (by unfold othN; omega)).mono fun e w' hh => by
    unfold at0 at ho
    obtain ⟨hc, hg⟩ := hh
    rcases hc with ⟨_, A, c, he, how, hr⟩ | ⟨hc, _⟩
    · rw [List.drop_drop] at hr
      exact ⟨A, c, he, how, hr, hg⟩
    · rw [List.length_drop] at hc; omega
theorem srcs_no (g : Nat) (bs : List UInt8) (h12 : 12 ≤ bs.length) (ho : bs.length < at0 bs) : ∀ wx, Rdr wx g (bs.drop 12) → Calls Try.prog 25 #[.pointer (some ⟨g, 0, none⟩), .int .i64 (othN bs : Int)] wx fun e w' => e = .panicked (gone 2) ∧ wx.grownBy w' (some g) := fun wx hx =>
  (sources_any g (othN bs) (othN bs) rfl (bs.drop 12) wx hx (by unfold othN; omega)).mono fun e w' hh => by
    unfold at0 at ho
    obtain ⟨hc, hg⟩ := hh
    rcases hc with ⟨hc, _⟩ | ⟨_, he⟩
    · rw [List.length_drop] at hc; omega
    · exact ⟨he, hg⟩

theorem wd_of (bs : List UInt8) : wdN (bs.drop (at0 bs)) = wordsN bs := by rw [wdN, List.drop_drop]; rfl
theorem words_lt (bs : List UInt8) : wordsN bs < 65536 := by rw [← wd_of]; exact wdN_lt _
theorem exts_ok (g : Nat) (bs : List UInt8) (h1 : at0 bs + 4 + 4 * wordsN bs ≤ bs.length) (hw : wordsN bs ≤ 255) : ∀ wx, Rdr wx g (bs.drop (at0 bs)) → Calls Try.prog 26 #[.pointer (some ⟨g, 0, none⟩)] wx fun e w' => ∃ A c, e = .returned (.tuple #[.int .u16 (numb ((bs.drop (at0 bs)).take 2) : Nat), .slice A (4 * wordsN bs) c]) ∧ w'.ownsRow wx.heap.size 5 1 (.slice A (4 * wordsN bs) c) (4 * wordsN bs) (cells ((bs.drop (at0 bs + 4)).take (4 * wordsN bs))) ∧ Rdr w' g (bs.drop (at0 bs + 4 + 4 * wordsN bs)) ∧ wx.grownBy w' (some g) := fun wx hx => by
  have := ext_ok g (bs.drop (at0 bs)) wx hx (by rw [wd_of, List.length_drop]; omega) (by rw [wd_of]; omega)
  rw [wd_of, List.drop_drop, List.drop_drop, ← Nat.add_assoc] at this
  exact this

theorem last_of (bs : List UInt8) (k : Nat) (h : k < bs.length) : ((bs.drop k).getD ((bs.drop k).length - 1) 0).toNat = bt bs (bs.length - 1) := by
  rw [List.length_drop]
  simp only [bt, List.getD, List.getElem?_drop]
  congr 3
  omega
theorem pads_ok (g : Nat) (bs : List UInt8) (k : Nat) (h0 : k ≤ bs.length) (h1 : 1 ≤ bt bs (bs.length - 1)) (h2 : bt bs (bs.length - 1) ≤ bs.length - k) : ∀ wx, Rdr wx g (bs.drop k) → Calls Try.prog 27 #[.pointer (some ⟨g, 0, none⟩)] wx fun e w' => e = .returned (.int .u8 (bt bs (bs.length - 1) : Nat)) ∧ Rdr w' g ((bs.drop k).take (bs.length - k - bt bs (bs.length - 1))) ∧ Only g wx w' := fun wx hx => by
  have := padding_ok g (bs.drop k) (bt bs (bs.length - 1)) wx hx (last_of bs k (by omega)).symm h1 (by rw [List.length_drop]; omega)
  rw [List.length_drop] at this
  exact this
theorem pads_no (g : Nat) (bs : List UInt8) (k : Nat) (h0 : k ≤ bs.length) (h1 : k = bs.length ∨ bt bs (bs.length - 1) = 0 ∨ bs.length - k < bt bs (bs.length - 1)) : ∀ wx, Rdr wx g (bs.drop k) → Calls Try.prog 27 #[.pointer (some ⟨g, 0, none⟩)] wx fun e w' => e = .panicked (gone 3) ∧ wx = w' := fun wx hx => by
  refine padding_no g (bs.drop k) _ wx hx rfl ?_
  rcases Nat.lt_or_ge k bs.length with hlt | hge
  · rw [last_of bs k hlt, List.length_drop]
    rcases h1 with h1 | h1
    · omega
    · exact .inr h1
  · exact .inl (by rw [List.length_drop]; omega)

theorem pk_of {w w' : World} {g : Nat} {mk : Bool} {ty sq st so : Nat} {U : List Nat} {x : Bool} {pf : Nat} {X Y : List UInt8} {pd : Nat} {e : Ending} (h : PkRes w g mk ty sq st so U x pf X Y pd e w') (p : Pkt) (hp : p = ⟨mk, ty, sq, st, so, U, x, pf, X, Y, pd⟩) :
    ∃ cs, e = .returned (.agg cs.toArray) ∧ PkOwn w' w.heap.size cs p ∧ w.grownBy w' (some g) := by
  obtain ⟨A, a, B, b, D, d, he, h1, h2, h3, hg⟩ := h
  subst hp
  exact ⟨_, he, ⟨A, a, B, b, D, d, rfl, h1, h2, h3⟩, hg⟩

theorem packet_ok (g : Nat) (bs : List UInt8) (w : World) (h : Rdr w g bs) (hy : whyR bs = 0) :
    Calls Try.prog 16 #[.pointer (some ⟨g, 0, none⟩)] w fun e w' => ∃ cs, e = .returned (.agg cs.toArray) ∧ PkOwn w' w.heap.size cs (pktR bs) ∧ w.grownBy w' (some g) := by
  unfold whyR at hy
  by_cases c1 : 1200 < bs.length
  · simp [c1] at hy
  by_cases c2 : bs.length < 12
  · simp [c1, c2] at hy
  by_cases c3 : bt bs 0 / 64 ≠ 2
  · simp [c1, c2, c3] at hy
  by_cases c4 : bs.length < at0 bs
  · simp [c1, c2, c3, c4] at hy
  rw [if_neg c1, if_neg c2, if_neg c3, if_neg c4] at hy
  have c3' : bt bs 0 / 64 = 2 := by omega
  have H := head_of g bs ⟨by omega, by omega⟩ c3'
  have hxl : bt bs 0 / 16 % 2 < 2 := Nat.mod_lt _ (by omega)
  have hpl : bt bs 0 / 32 % 2 < 2 := Nat.mod_lt _ (by omega)
  have NS := srcs_ok g bs (by omega)
  by_cases hx : bt bs 0 / 16 % 2 = 1
  · have ex : exB bs = true := by simp [exB, hx]
    have e1 : at1 bs = at0 bs + 4 + 4 * wordsN bs := by simp [at1, ex]
    rw [hx] at H
    rw [e1] at hy
    by_cases c5 : bs.length < at0 bs + 4
    · simp [ex, c5] at hy
    by_cases c6 : bs.length < at0 bs + 4 + 4 * wordsN bs
    · simp [ex, c5, c6] at hy
    by_cases c7 : 255 < wordsN bs
    · simp [ex, c5, c6, c7] at hy
    have NE := exts_ok g bs (by omega) (by omega)
    have lpf : numb ((bs.drop (at0 bs)).take 2) < 65536 := by have := numb_take_lt (bs.drop (at0 bs)) 2; simpa using this
    have hX : ((bs.drop (at0 bs + 4)).take (4 * wordsN bs)).length = 4 * wordsN bs := by rw [List.length_take, List.length_drop]; omega
    by_cases hp : bt bs 0 / 32 % 2 = 1
    · have ep : pdB bs = true := by simp [pdB, hp]
      rw [hp] at H
      simp only [ex, ep, c5, c6, c7, and_false, if_false, true_and] at hy
      have hq : ¬ (at0 bs + 4 + 4 * wordsN bs = bs.length ∨ bt bs (bs.length - 1) = 0 ∨ bs.length - (at0 bs + 4 + 4 * wordsN bs) < bt bs (bs.length - 1)) := fun hq => by simp [hq] at hy
      refine (pkt_ok11 g w h H (srcs_len _ _) NS lpf hX NE (bt_lt bs _) (pads_ok g bs _ (by omega) (by omega) (by omega)) (by rw [List.length_take]; omega)).mono fun e w' hh => pk_of hh _ ?_
      simp [pktR, ex, ep, e1, padN]
    · have hp0 : bt bs 0 / 32 % 2 = 0 := by omega
      have ep : pdB bs = false := by simp [pdB, hp0]
      rw [hp0] at H
      refine (pkt_ok10 g w h H (srcs_len _ _) NS lpf hX NE (by rw [List.length_drop]; omega)).mono fun e w' hh => pk_of hh _ ?_
      have : (bs.drop (at0 bs + 4 + 4 * wordsN bs)).take (bs.length - (at0 bs + 4 + 4 * wordsN bs)) = bs.drop (at0 bs + 4 + 4 * wordsN bs) := List.take_of_length_le (by rw [List.length_drop]; omega)
      simp [pktR, ex, ep, e1, padN, this]
  · have hx0 : bt bs 0 / 16 % 2 = 0 := by omega
    have ex : exB bs = false := by simp [exB, hx0]
    have e1 : at1 bs = at0 bs := by simp [at1, ex]
    rw [hx0] at H
    rw [e1] at hy
    by_cases hp : bt bs 0 / 32 % 2 = 1
    · have ep : pdB bs = true := by simp [pdB, hp]
      rw [hp] at H
      simp only [ex, ep, Bool.false_eq_true, false_and, if_false, true_and] at hy
      have hq : ¬ (at0 bs = bs.length ∨ bt bs (bs.length - 1) = 0 ∨ bs.length - at0 bs < bt bs (bs.length - 1)) := fun hq => by simp [hq] at hy
      refine (pkt_ok01 g w h H (srcs_len _ _) NS (bt_lt bs _) (pads_ok g bs _ (by omega) (by omega) (by omega)) (by rw [List.length_take]; omega)).mono fun e w' hh => pk_of hh _ ?_
      simp [pktR, ex, ep, e1, padN]
    · have hp0 : bt bs 0 / 32 % 2 = 0 := by omega
      have ep : pdB bs = false := by simp [pdB, hp0]
      rw [hp0] at H
      refine (pkt_ok00 g w h H (srcs_len _ _) NS (by rw [List.length_drop]; omega)).mono fun e w' hh => pk_of hh _ ?_
      have : (bs.drop (at0 bs)).take (bs.length - at0 bs) = bs.drop (at0 bs) := List.take_of_length_le (by rw [List.length_drop]; omega)
      simp [pktR, ex, ep, e1, padN, this]

theorem packet_no (g : Nat) (bs : List UInt8) (w : World) (h : Rdr w g bs) (c1 : ¬ 1200 < bs.length) (hy : whyR bs ≠ 0) :
    Calls Try.prog 16 #[.pointer (some ⟨g, 0, none⟩)] w fun e w' => e = .panicked (gone (whyR bs)) ∧ w.grownBy w' (some g) := by
  unfold whyR at hy ⊢
  rw [if_neg c1] at hy ⊢
  by_cases c2 : bs.length < 12
  · rw [if_pos c2]
    exact pkt_short g w h c2
  rw [if_neg c2] at hy ⊢
  by_cases c3 : bt bs 0 / 64 ≠ 2
  · rw [if_pos c3]
    refine pkt_bits g w h ⟨by omega, by omega⟩ (b0 := bt bs 0) (S1 := bs.drop 1) (fun wx hx => ?_) (bt_lt _ _) (by simp; omega)
    have := number_ok g 1 1 rfl bs wx hx (by omega) (by omega) (by omega)
    have e := numb_one bs 0 (by omega)
    rw [List.drop_zero] at e
    rw [e] at this
    exact this
  have c3' : bt bs 0 / 64 = 2 := by omega
  have H := head_of g bs ⟨by omega, by omega⟩ c3'
  rw [if_neg c3] at hy ⊢
  by_cases c4 : bs.length < at0 bs
  · rw [if_pos c4]
    exact pkt_lack g w h H (srcs_no g bs (by omega) c4)
  rw [if_neg c4] at hy ⊢
  have hxl : bt bs 0 / 16 % 2 < 2 := Nat.mod_lt _ (by omega)
  have hpl : bt bs 0 / 32 % 2 < 2 := Nat.mod_lt _ (by omega)
  have NS := srcs_ok g bs (by omega)
  by_cases hx : bt bs 0 / 16 % 2 = 1
  · have ex : exB bs = true := by simp [exB, hx]
    have e1 : at1 bs = at0 bs + 4 + 4 * wordsN bs := by simp [at1, ex]
    rw [hx] at H
    rw [e1] at hy ⊢
    simp only [ex, true_and] at hy ⊢
    by_cases c5 : bs.length < at0 bs + 4
    · rw [if_pos c5]
      exact pkt_extno g w h H (srcs_len _ _) NS (fun wx hx => ext_short g _ wx hx (by rw [List.length_drop]; omega))
    rw [if_neg c5] at hy ⊢
    by_cases c6 : bs.length < at0 bs + 4 + 4 * wordsN bs
    · rw [if_pos c6]
      exact pkt_extno g w h H (srcs_len _ _) NS (fun wx hx => ext_short g _ wx hx (by rw [List.length_drop, wd_of]; omega))
    rw [if_neg c6] at hy ⊢
    by_cases c7 : 255 < wordsN bs
    · rw [if_pos c7]
      exact pkt_extno g w h H (srcs_len _ _) NS (fun wx hx => ext_long g _ wx hx (by rw [List.length_drop, wd_of]; omega) (by rw [wd_of]; omega))
    rw [if_neg c7] at hy ⊢
    have NE := exts_ok g bs (by omega) (by omega)
    have lpf : numb ((bs.drop (at0 bs)).take 2) < 65536 := by have := numb_take_lt (bs.drop (at0 bs)) 2; simpa using this
    have hX : ((bs.drop (at0 bs + 4)).take (4 * wordsN bs)).length = 4 * wordsN bs := by rw [List.length_take, List.length_drop]; omega
    by_cases c8 : pdB bs = true ∧ (at0 bs + 4 + 4 * wordsN bs = bs.length ∨ bt bs (bs.length - 1) = 0 ∨ bs.length - (at0 bs + 4 + 4 * wordsN bs) < bt bs (bs.length - 1))
    · rw [if_pos c8]
      have hp : bt bs 0 / 32 % 2 = 1 := by have := c8.1; simpa [pdB] using this
      rw [hp] at H
      exact pkt_padno1 g w h H (srcs_len _ _) NS lpf hX NE (pads_no g bs _ (by omega) c8.2)
    · rw [if_neg c8] at hy
      exact absurd rfl hy
  · have hx0 : bt bs 0 / 16 % 2 = 0 := by omega
    have ex : exB bs = false := by simp [exB, hx0]
    have e1 : at1 bs = at0 bs := by simp [at1, ex]
    rw [hx0] at H
    rw [e1] at hy ⊢
    simp only [ex, Bool.false_eq_true, false_and, if_false] at hy ⊢
    by_cases c8 : pdB bs = true ∧ (at0 bs = bs.length ∨ bt bs (bs.length - 1) = 0 ∨ bs.length - at0 bs < bt bs (bs.length - 1))
    · rw [if_pos c8]
      have hp : bt bs 0 / 32 % 2 = 1 := by have := c8.1; simpa [pdB] using this
      rw [hp] at H
      exact pkt_padno0 g w h H (srcs_len _ _) NS (pads_no g bs _ (by omega) c8.2)
    · rw [if_neg c8] at hy
      exact absurd rfl hy
end Go.Proofs.Yticbajagccemoaa
