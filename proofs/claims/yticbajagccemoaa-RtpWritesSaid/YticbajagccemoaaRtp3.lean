/- Contracts of package rtp: what is cut off at the end, the extension. No statement is proved here. -/
import Derived.Test.YticbajagccemoaaRtp2
namespace Go.Proofs.Yticbajagccemoaa
open Go.RowKit
set_option linter.unusedVariables false

set_option maxRecDepth 100000 in
theorem padding_ok (g : Nat) (bs : List UInt8) (k : Nat) (w : World) (h : Rdr w g bs) (hk : k = (bs.getD (bs.length - 1) 0).toNat) (h1 : 1 ≤ k) (h2 : k ≤ bs.length) :
    Calls Try.prog 27 #[.pointer (some ⟨g, 0, none⟩)] w fun e w' => e = .returned (.int .u8 (k : Int)) ∧ Rdr w' g (bs.take (bs.length - k)) ∧ Only g w w' := by
  obtain ⟨A, n, c, hB, hR, hL⟩ := h
  have hl := hR.len
  have hs := hR.small
  have hle := hR.le
  have hc := hB.cell 0
  have hf := hB.frozen 0
  simp only [List.getElem?_cons_zero] at hc
  have hk8 : k < 256 := by have := (bs.getD (bs.length - 1) 0).toNat_lt; omega
  obtain ⟨b, off, rfl, hlt, hcs⟩ := hR.2.2.2.2 (by omega)
  have hlast := hcs (n - 1) (by omega)
  rw [← hl, ← hk, hl] at hlast
  have HH := Lib.hid (hR.headR (n - k) (by omega))
  have HL := Lib.hid hL
  have HO := Lib.hid (hL.off (Nat.le_refl g))
  have HB := Lib.hid hB
  have e1 : ((n : Int) == 0) = false := by simp; omega
  have e2 : ((k : Int) == 0) = false := by simp; omega
  have e3 : ((n : Int) - 1) = ((n - 1 : Nat) : Int) := by omega
  have e4 : ((n : Int) - (k : Int)) = ((n - k : Nat) : Int) := by omega
  have hkn : k ≤ n := by omega
  rw [hl]
  clear hR hB hL hk hcs hl h2
  go_enter Try.func27, Try.ntmps27
  go_wp2_with (first
    | (go_at_call 15; ((with_reducible refine (refuse_no _ _ _ ?_).mono ?_); (first | rfl | assumption | (simp; omega)); rintro e w' ⟨rfl, rfl⟩)))
  go_ret
  have ho := Only.set w g 0 (.slice (some ⟨b, off, none⟩) (n - k) c)
  exact ⟨rfl, ⟨_, _, _, HB.out.set_ 0 _, HH.out.only ho (fun h0 => HO.out (by omega)), fun h0 => HL.out (by omega)⟩, ho⟩

set_option maxRecDepth 100000 in
theorem padding_no (g : Nat) (bs : List UInt8) (k : Nat) (w : World) (h : Rdr w g bs) (hk : k = (bs.getD (bs.length - 1) 0).toNat) (h1 : bs.length = 0 ∨ k = 0 ∨ bs.length < k) :
    Calls Try.prog 27 #[.pointer (some ⟨g, 0, none⟩)] w fun e w' => e = .panicked (gone 3) ∧ w = w' := by
  obtain ⟨A, n, c, hB, hR, hL⟩ := h
  have hl := hR.len
  have hs := hR.small
  have hle := hR.le
  have hc := hB.cell 0
  simp only [List.getElem?_cons_zero] at hc
  have hk8 : k < 256 := by have := (bs.getD (bs.length - 1) 0).toNat_lt; omega
  by_cases h0 : n = 0
  · subst h0
    clear hR hB hL hk hl h1
    go_enter Try.func27, Try.ntmps27
    go_wp2_with (go_at_call 15; ((with_reducible refine (refuse_yes _ _ _ ?_).mono ?_); (first | rfl | assumption | (simp; omega)); rintro e w' ⟨rfl, rfl⟩))
    exact ⟨rfl, rfl, rfl⟩
  · obtain ⟨b, off, rfl, hlt, hcs⟩ := hR.2.2.2.2 (by omega)
    have hlast := hcs (n - 1) (by omega)
    rw [← hl, ← hk, hl] at hlast
    have e1 : ((n : Int) == 0) = false := by simp; omega
    have e3 : ((n : Int) - 1) = ((n - 1 : Nat) : Int) := by omega
    rw [hl] at h1
    have h1' : k = 0 ∨ (n < k ∧ ((k : Int) == 0) = false) := by
      rcases h1 with h1 | h1 | h1
      · exact absurd h1 h0
      · exact .inl h1
      · exact .inr ⟨h1, by simp; omega⟩
    clear hR hB hL hk hcs hl h1
    rcases h1' with h1 | ⟨h1, h2⟩
    · subst h1
      go_enter Try.func27, Try.ntmps27
      go_wp2_with (first
        | (go_at_call 15; ((with_reducible refine (refuse_no _ _ _ ?_).mono ?_); (first | rfl | assumption | (simp; omega)); rintro e w' ⟨rfl, rfl⟩))
        | (go_at_call 15; ((with_reducible refine (refuse_yes _ _ _ ?_).mono ?_); (first | rfl | assumption | (simp; omega)); rintro e w' ⟨rfl, rfl⟩)))
      exact ⟨rfl, rfl, rfl⟩
    · go_enter Try.func27, Try.ntmps27
      go_wp2_with (first
        | (go_at_call 15; ((with_reducible refine (refuse_no _ _ _ ?_).mono ?_); (first | rfl | assumption | (simp; omega)); rintro e w' ⟨rfl, rfl⟩))
        | (go_at_call 15; ((with_reducible refine (refuse_yes _ _ _ ?_).mono ?_); (first | rfl | assumption | (simp; omega)); rintro e w' ⟨rfl, rfl⟩)))
      exact ⟨rfl, rfl, rfl⟩

/-- How many words an extension says that it has. -/
def wdN (bs : List UInt8) : Nat := numb ((bs.drop 2).take 2)
theorem wdN_lt (bs : List UInt8) : wdN bs < 65536 := by have := numb_take_lt (bs.drop 2) 2; simpa [wdN] using this

set_option maxRecDepth 100000 in
set_option maxHeartbeats 1000000 in
theorem ext_ok (g : Nat) (bs : List UInt8) (w : World) (h : Rdr w g bs) (h4 : 4 + 4 * wdN bs ≤ bs.length) (hw : wdN bs ≤ 255) :
    Calls Try.prog 26 #[.pointer (some ⟨g, 0, none⟩)] w fun e w' => ∃ A c, e = .returned (.tuple #[.int .u16 (numb (bs.take 2)), .slice A (4 * wdN bs) c]) ∧ w'.ownsRow w.heap.size 5 1 (.slice A (4 * wdN bs) c) (4 * wdN bs) (cells ((bs.drop 4).take (4 * wdN bs))) ∧ Rdr w' g (bs.drop (4 + 4 * wdN bs)) ∧ w.grownBy w' (some g) := by
  have hp : numb (bs.take 2) < 65536 := by have := numb_take_lt bs 2; simpa using this
  have H1 := Lib.hid (number_ok g 2 2 rfl bs w h (by omega) (by omega) (by omega))
  have H2 : Hid (∀ wx, Rdr wx g (bs.drop 2) → Calls Try.prog 24 #[.pointer (some ⟨g, 0, none⟩), .int .i64 2] wx fun e w' => e = .returned (.int .u64 (wdN bs : Nat)) ∧ Rdr w' g (bs.drop 4) ∧ Only g wx w') := Lib.hid fun wx hx => by
    have := number_ok g 2 2 rfl (bs.drop 2) wx hx (by omega) (by omega) (by rw [List.length_drop]; omega)
    rw [List.drop_drop] at this
    exact this
  have H3 : Hid (∀ wx, Rdr wx g (bs.drop 4) → Calls Try.prog 32 #[.pointer (some ⟨g, 0, none⟩), .int .i64 ((wdN bs : Int) * 4)] wx fun e w' => ∃ A c, e = .returned (.slice A (4 * wdN bs) c) ∧ RdS w' A (4 * wdN bs) c ((bs.drop 4).take (4 * wdN bs)) ∧ Rdr w' g (bs.drop (4 + 4 * wdN bs)) ∧ Only g wx w') := Lib.hid fun wx hx => by
    have := bytes_ok g (4 * wdN bs) (bs.drop 4) wx hx (by rw [List.length_drop]; omega)
    rw [List.drop_drop] at this
    rw [show ((wdN bs : Int) * 4) = ((4 * wdN bs : Nat) : Int) by omega]
    exact this
  obtain ⟨P, hP⟩ : ∃ P, P = numb (bs.take 2) := ⟨_, rfl⟩
  obtain ⟨W, hW⟩ : ∃ W, W = wdN bs := ⟨_, rfl⟩
  obtain ⟨M, hM⟩ : ∃ M, M = 4 * W := ⟨_, rfl⟩
  rw [← hP] at H1 hp
  simp only [← hW, ← hM] at H2 H3 h4 hw
  rw [← hP, ← hW, ← hM]
  have hMs : M ≤ 1000000 := by omega
  have hlt := h.lt
  have HM := Lib.hid hM
  clear hP hW h hM h4
  go_enter Try.func26, Try.ntmps26
  go_wp2_with (first
    | (go_at_call 24; ((with_reducible refine (Hid.out H1).mono ?_); rintro e w1 ⟨rfl, hr1, ho1⟩; have G1 := Lib.hid ho1))
    | (go_at_call 24; ((with_reducible refine (Hid.out H2 _ hr1).mono ?_); rintro e w2 ⟨rfl, hr2, ho2⟩; have G2 := Lib.hid ho2))
    | (go_at_call 32; ((with_reducible refine (Hid.out H3 _ hr2).mono ?_); rintro e w3 ⟨A, c, rfl, hR3, hr3, ho3⟩; have G3 := Lib.hid ho3))
    | (go_at_call 15; ((with_reducible refine (refuse_no _ _ _ ?_).mono ?_); (first | rfl | assumption | (simp; omega)); rintro e w' ⟨rfl, rfl⟩))
    | (go_at_call 28; ((with_reducible refine (clone_any A M c _ _ hR3 hMs).mono ?_); rintro e w4 ⟨A4, c4, rfl, hown4, hb4⟩)))
  go_ret2
  have o13 := (G1.out.trans G2.out).trans G3.out
  exact ⟨A4, c4, rfl, own_mono hown4 (by rw [o13.size]; omega), hr3.below hb4, o13.grown.trans (grown_of_below hb4 _)⟩

set_option maxRecDepth 100000 in
set_option maxHeartbeats 1000000 in
theorem ext_long (g : Nat) (bs : List UInt8) (w : World) (h : Rdr w g bs) (h4 : 4 + 4 * wdN bs ≤ bs.length) (hw : 255 < wdN bs) :
    Calls Try.prog 26 #[.pointer (some ⟨g, 0, none⟩)] w fun e w' => e = .panicked (gone 3) ∧ w.grownBy w' (some g) := by
  have hp : numb (bs.take 2) < 65536 := by have := numb_take_lt bs 2; simpa using this
  have hwl := wdN_lt bs
  have H1 := Lib.hid (number_ok g 2 2 rfl bs w h (by omega) (by omega) (by omega))
  have H2 : Hid (∀ wx, Rdr wx g (bs.drop 2) → Calls Try.prog 24 #[.pointer (some ⟨g, 0, none⟩), .int .i64 2] wx fun e w' => e = .returned (.int .u64 (wdN bs : Nat)) ∧ Rdr w' g (bs.drop 4) ∧ Only g wx w') := Lib.hid fun wx hx => by
    have := number_ok g 2 2 rfl (bs.drop 2) wx hx (by omega) (by omega) (by rw [List.length_drop]; omega)
    rw [List.drop_drop] at this
    exact this
  have H3 : Hid (∀ wx, Rdr wx g (bs.drop 4) → Calls Try.prog 32 #[.pointer (some ⟨g, 0, none⟩), .int .i64 ((wdN bs : Int) * 4)] wx fun e w' => ∃ A c, e = .returned (.slice A (4 * wdN bs) c) ∧ RdS w' A (4 * wdN bs) c ((bs.drop 4).take (4 * wdN bs)) ∧ Rdr w' g (bs.drop (4 + 4 * wdN bs)) ∧ Only g wx w') := Lib.hid fun wx hx => by
    have := bytes_ok g (4 * wdN bs) (bs.drop 4) wx hx (by rw [List.length_drop]; omega)
    rw [List.drop_drop] at this
    rw [show ((wdN bs : Int) * 4) = ((4 * wdN bs : Nat) : Int) by omega]
    exact this
  obtain ⟨P, hP⟩ : ∃ P, P = numb (bs.take 2) := ⟨_, rfl⟩
  obtain ⟨W, hW⟩ : ∃ W, W = wdN bs := ⟨_, rfl⟩
  obtain ⟨M, hM⟩ : ∃ M, M = 4 * W := ⟨_, rfl⟩
  rw [← hP] at H1 hp
  simp only [← hW, ← hM] at H2 H3 h4 hw hwl
  clear hP hW h hM h4
  go_enter Try.func26, Try.ntmps26
  go_wp2_with (first
    | (go_at_call 24; ((with_reducible refine (Hid.out H1).mono ?_); rintro e w1 ⟨rfl, hr1, ho1⟩; have G1 := Lib.hid ho1))
    | (go_at_call 24; ((with_reducible refine (Hid.out H2 _ hr1).mono ?_); rintro e w2 ⟨rfl, hr2, ho2⟩; have G2 := Lib.hid ho2))
    | (go_at_call 32; ((with_reducible refine (Hid.out H3 _ hr2).mono ?_); rintro e w3 ⟨A, c, rfl, hR3, hr3, ho3⟩; have G3 := Lib.hid ho3))
    | (go_at_call 15; ((with_reducible refine (refuse_yes _ _ _ ?_).mono ?_); (first | rfl | assumption | (simp; omega)); rintro e w' ⟨rfl, rfl⟩)))
  exact ⟨rfl, rfl, ((G1.out.trans G2.out).trans G3.out).grown⟩

set_option maxRecDepth 100000 in
set_option maxHeartbeats 1000000 in
theorem ext_short (g : Nat) (bs : List UInt8) (w : World) (h : Rdr w g bs) (h4 : bs.length < 4 ∨ bs.length < 4 + 4 * wdN bs) :
    Calls Try.prog 26 #[.pointer (some ⟨g, 0, none⟩)] w fun e w' => e = .panicked (gone 2) ∧ w.grownBy w' (some g) := by
  by_cases h2 : bs.length < 2
  · have H1 := Lib.hid (number_no g 2 2 rfl bs w h h2)
    clear h h4
    go_enter Try.func26, Try.ntmps26
    go_wp2_with (go_at_call 24; ((with_reducible refine (Hid.out H1).mono ?_); rintro e w1 ⟨rfl, rfl⟩))
    exact ⟨rfl, rfl, World.grownBy.refl w _⟩
  have hp : numb (bs.take 2) < 65536 := by have := numb_take_lt bs 2; simpa using this
  have H1 := Lib.hid (number_ok g 2 2 rfl bs w h (by omega) (by omega) (by omega))
  by_cases h3 : bs.length < 4
  · have H2 := Lib.hid (fun wx (hx : Rdr wx g (bs.drop 2)) => number_no g 2 2 rfl (bs.drop 2) wx hx (by rw [List.length_drop]; omega))
    obtain ⟨P, hP⟩ : ∃ P, P = numb (bs.take 2) := ⟨_, rfl⟩
    rw [← hP] at H1 hp
    clear h h4 hP h2 h3
    go_enter Try.func26, Try.ntmps26
    go_wp2_with (first
      | (go_at_call 24; ((with_reducible refine (Hid.out H1).mono ?_); rintro e w1 ⟨rfl, hr1, ho1⟩; have G1 := Lib.hid ho1))
      | (go_at_call 24; ((with_reducible refine (Hid.out H2 _ hr1).mono ?_); rintro e w2 ⟨rfl, rfl⟩)))
    exact ⟨rfl, rfl, G1.out.grown⟩
  have hwl := wdN_lt bs
  have H2 : Hid (∀ wx, Rdr wx g (bs.drop 2) → Calls Try.prog 24 #[.pointer (some ⟨g, 0, none⟩), .int .i64 2] wx fun e w' => e = .returned (.int .u64 (wdN bs : Nat)) ∧ Rdr w' g (bs.drop 4) ∧ Only g wx w') := Lib.hid fun wx hx => by
    have := number_ok g 2 2 rfl (bs.drop 2) wx hx (by omega) (by omega) (by rw [List.length_drop]; omega)
    rw [List.drop_drop] at this
    exact this
  have H3 := Lib.hid (fun wx (hx : Rdr wx g (bs.drop 4)) => bytes_no g ((wdN bs : Int) * 4) (bs.drop 4) wx hx (by rw [List.length_drop]; omega))
  obtain ⟨P, hP⟩ : ∃ P, P = numb (bs.take 2) := ⟨_, rfl⟩
  obtain ⟨W, hW⟩ : ∃ W, W = wdN bs := ⟨_, rfl⟩
  rw [← hP] at H1 hp
  simp only [← hW] at H2 H3 h4 hwl
  clear hP hW h h4 h2 h3
  go_enter Try.func26, Try.ntmps26
  go_wp2_with (first
    | (go_at_call 24; ((with_reducible refine (Hid.out H1).mono ?_); rintro e w1 ⟨rfl, hr1, ho1⟩; have G1 := Lib.hid ho1))
    | (go_at_call 24; ((with_reducible refine (Hid.out H2 _ hr1).mono ?_); rintro e w2 ⟨rfl, hr2, ho2⟩; have G2 := Lib.hid ho2))
    | (go_at_call 32; ((with_reducible refine (Hid.out H3 _ hr2).mono ?_); rintro e w3 ⟨rfl, rfl⟩)))
  exact ⟨rfl, rfl, (G1.out.trans G2.out).grown⟩
end Go.Proofs.Yticbajagccemoaa
