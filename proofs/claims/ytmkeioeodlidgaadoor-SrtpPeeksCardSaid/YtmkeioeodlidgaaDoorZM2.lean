/- Several texts in one: Contracts of package rtp: what is cut off at the end, the extension. Plain words on packets, and the cells that hold one. Plain mathematics on packets: the bytes of a packet, there and back. No program is named; no statement is proved here. No statement is proved here. -/
import Derived.Test.YtmkeioeodlidgaaDoorZM1
namespace Go.Proofs.YtmkeioeodlidgaaDoor
open Go.RowKit
set_option linter.unusedVariables false

set_option maxRecDepth 100000 in
theorem padding_ok (g : Nat) (bs : List UInt8) (k : Nat) (w : World) (h : RdrR w g bs) (hk : k = (bs.getD (bs.length - 1) 0).toNat) (h1 : 1 ≤ k) (h2 : k ≤ bs.length) :
    Calls Tryd.prog 62 #[.pointer (some ⟨g, 0, none⟩)] w fun e w' => e = .returned (.int .u8 (k : Int)) ∧ RdrR w' g (bs.take (bs.length - k)) ∧ Only g w w' := by
  obtain ⟨A, n, c, hB, hR, hL⟩ := h
  have hl := hR.len
  have hs := hR.small
  have hle := hR.le
  have hc := hB.cell 0
  have hf := hB.frozen 0
  simp only [List.getElem?_cons_zero] at hc
  have hk8 : k < 256 := by have := (bs.getD (bs.length - 1) 0).toNat_lt; omega
  obtain ⟨b, off, rfl, hlt, hcs⟩ := hR.2.2.2.2 (by omega)
  have hlast := hcs (n - 1) (by omega)
  rw [← hl, ← hk, hl] at hlast
  have HH := Lib.hid (hR.headR (n - k) (by omega))
  have HL := Lib.hid hL
  have HO := Lib.hid (hL.off (Nat.le_refl g))
  have HB := Lib.hid hB
  have e1 : ((n : Int) == 0) = false := by simp; omega
  have e2 : ((k : Int) == 0) = false := by simp; omega
  have e3 : ((n : Int) - 1) = ((n - 1 : Nat) : Int) := by omega
  have e4 : ((n : Int) - (k : Int)) = ((n - k : Nat) : Int) := by omega
  have hkn : k ≤ n := by omega
  rw [hl]
  clear hR hB hL hk hcs hl h2
  go_enter Tryd.func62, Tryd.ntmps62
  go_wp2_with (first
    | (go_at_call 43; ((with_reducible refine (refuse_noR _ _ _ ?_).mono ?_); (first | rfl | assumption | (simp; omega)); rintro e w' ⟨rfl, rfl⟩)))
  go_ret
  have ho := Only.set w g 0 (.slice (some ⟨b, off, none⟩) (n - k) c)
  exact ⟨rfl, ⟨_, _, _, HB.out.set_ 0 _, HH.out.only ho (fun h0 => HO.out (by omega)), fun h0 => HL.out (by omega)⟩, ho⟩

set_option maxRecDepth 100000 in
theorem padding_no (g : Nat) (bs : List UInt8) (k : Nat) (w : World) (h : RdrR w g bs) (hk : k = (bs.getD (bs.length - 1) 0).toNat) (h1 : bs.length = 0 ∨ k = 0 ∨ bs.length < k) :
    Calls Tryd.prog 62 #[.pointer (some ⟨g, 0, none⟩)] w fun e w' => e = .panicked (gone 3) ∧ w = w' := by
  obtain ⟨A, n, c, hB, hR, hL⟩ := h
  have hl := hR.len
  have hs := hR.small
  have hle := hR.le
  have hc := hB.cell 0
  simp only [List.getElem?_cons_zero] at hc
  have hk8 : k < 256 := by have := (bs.getD (bs.length - 1) 0).toNat_lt; omega
  by_cases h0 : n = 0
  · subst h0
    clear hR hB hL hk hl h1
    go_enter Tryd.func62, Tryd.ntmps62
    go_wp2_with (go_at_call 43; ((with_reducible refine (refuse_yes _ _ _ ?_).mono ?_); (first | rfl | assumption | (simp; omega)); rintro e w' ⟨rfl, rfl⟩))
    exact ⟨rfl, rfl, rfl⟩
  · obtain ⟨b, off, rfl, hlt, hcs⟩ := hR.2.2.2.2 (by omega)
    have hlast := hcs (n - 1) (by omega)
    rw [← hl, ← hk, hl] at hlast
    have e1 : ((n : Int) == 0) = false := by simp; omega
    have e3 : ((n : Int) - 1) = ((n - 1 : Nat) : Int) := by omega
    rw [hl] at h1
    have h1' : k = 0 ∨ (n < k ∧ ((k : Int) == 0) = false) := by
      rcases h1 with h1 | h1 | h1
      · exact absurd h1 h0
      · exact .inl h1
      · exact .inr ⟨h1, by simp; omega⟩
    clear hR hB hL hk hcs hl h1
    rcases h1' with h1 | ⟨h1, h2⟩
    · subst h1
      go_enter Tryd.func62, Tryd.ntmps62
      go_wp2_with (first
        | (go_at_call 43; ((with_reducible refine (refuse_noR _ _ _ ?_).mono ?_); (first | rfl | assumption | (simp; omega)); rintro e w' ⟨rfl, rfl⟩))
        | (go_at_call 43; ((with_reducible refine (refuse_yes _ _ _ ?_).mono ?_); (first | rfl | assumption | (simp; omega)); rintro e w' ⟨rfl, rfl⟩)))
      exact ⟨rfl, rfl, rfl⟩
    · go_enter Tryd.func62, Tryd.ntmps62
      go_wp2_with (first
        | (go_at_call 43; ((with_reducible refine (refuse_noR _ _ _ ?_).mono ?_); (first | rfl | assumption | (simp; omega)); rintro e w' ⟨rfl, rfl⟩))
        | (go_at_call 43; ((with_reducible refine (refuse_yes _ _ _ ?_).mono ?_); (first | rfl | assumption | (simp; omega)); rintro e w' ⟨rfl, rfl⟩)))
      exact ⟨rfl, rfl, rfl⟩

/-- How many words an extension says that it has. -/
def wdN (bs : List UInt8) : Nat := numb ((bs.drop 2).take 2)
theorem wdN_lt (bs : List UInt8) : wdN bs < 65536 := by have := numb_take_lt (bs.drop 2) 2; simpa [wdN] using this

set_option maxRecDepth 100000 in
set_option maxHeartbeats 1000000 in
theorem ext_ok (g : Nat) (bs : List UInt8) (w : World) (h : RdrR w g bs) (h4 : 4 + 4 * wdN bs ≤ bs.length) (hw : wdN bs ≤ 255) :
    Calls Tryd.prog 61 #[.pointer (some ⟨g, 0, none⟩)] w fun e w' => ∃ A c, e = .returned (.tuple #[.int .u16 (numb (bs.take 2)), .slice A (4 * wdN bs) c]) ∧ w'.ownsRow w.heap.size 5 1 (.slice A (4 * wdN bs) c) (4 * wdN bs) (cells ((bs.drop 4).take (4 * wdN bs))) ∧ RdrR w' g (bs.drop (4 + 4 * wdN bs)) ∧ w.grownBy w' (some g) := by
  have hp : numb (bs.take 2) < 65536 := by have := numb_take_lt bs 2; simpa using this
  have H1 := Lib.hid (number_okR g 2 2 rfl bs w h (by omega) (by omega) (by omega))
  have H2 : Hid (∀ wx, RdrR wx g (bs.drop 2) → Calls Tryd.prog 59 #[.pointer (some ⟨g, 0, none⟩), .int .i64 2] wx fun e w' => e = .returned (.int .u64 (wdN bs : Nat)) ∧ RdrR w' g (bs.drop 4) ∧ Only g wx w') := Lib.hid fun wx hx => by
    have := number_okR g 2 2 rfl (bs.drop 2) wx hx (by omega) (by omega) (by rw [List.length_drop]; omega)
    rw [List.drop_drop] at this
    exact this
  have H3 : Hid (∀ wx, RdrR wx g (bs.drop 4) → Calls Tryd.prog 69 #[.pointer (some ⟨g, 0, none⟩), .int .i64 ((wdN bs : Int) * 4)] wx fun e w' => ∃ A c, e = .returned (.slice A (4 * wdN bs) c) ∧ RdS w' A (4 * wdN bs) c ((bs.drop 4).take (4 * wdN bs)) ∧ RdrR w' g (bs.drop (4 + 4 * wdN bs)) ∧ Only g wx w') := Lib.hid fun wx hx => by
    have := bytes_okR g (4 * wdN bs) (bs.drop 4) wx hx (by rw [List.length_drop]; omega)
    rw [List.drop_drop] at this
    rw [show ((wdN bs : Int) * 4) = ((4 * wdN bs : Nat) : Int) by omega]
    exact this
  obtain ⟨P, hP⟩ : ∃ P, P = numb (bs.take 2) := ⟨_, rfl⟩
  obtain ⟨W, hW⟩ : ∃ W, W = wdN bs := ⟨_, rfl⟩
  obtain ⟨M, hM⟩ : ∃ M, M = 4 * W := ⟨_, rfl⟩
  rw [← hP] at H1 hp
  simp only [← hW, ← hM] at H2 H3 h4 hw
  rw [← hP, ← hW, ← hM]
  have hMs : M ≤ 1000000 := by omega
  have hlt := h.lt
  have HM := Lib.hid hM
  clear hP hW h hM h4
  go_enter Tryd.func61, Tryd.ntmps61
  go_wp2_with (first
    | (go_at_call 59; ((with_reducible refine (Hid.out H1).mono ?_); rintro e w1 ⟨rfl, hr1, ho1⟩; have G1 := Lib.hid ho1))
    | (go_at_call 59; ((with_reducible refine (Hid.out H2 _ hr1).mono ?_); rintro e w2 ⟨rfl, hr2, ho2⟩; have G2 := Lib.hid ho2))
    | (go_at_call 69; ((with_reducible refine (Hid.out H3 _ hr2).mono ?_); rintro e w3 ⟨A, c, rfl, hR3, hr3, ho3⟩; have G3 := Lib.hid ho3))
    | (go_at_call 43; ((with_reducible refine (refuse_noR _ _ _ ?_).mono ?_); (first | rfl | assumption | (simp; omega)); rintro e w' ⟨rfl, rfl⟩))
    | (go_at_call 63; ((with_reducible refine (clone_any A M c _ _ hR3 hMs).mono ?_); rintro e w4 ⟨A4, c4, rfl, hown4, hb4⟩)))
  go_ret2
  have o13 := (G1.out.trans G2.out).trans G3.out
  exact ⟨A4, c4, rfl, own_mono hown4 (by rw [o13.size]; omega), hr3.below hb4, o13.grown.trans (grown_of_below hb4 _)⟩

set_option maxRecDepth 100000 in
set_option maxHeartbeats 1000000 in
theorem ext_long (g : Nat) (bs : List UInt8) (w : World) (h : RdrR w g bs) (h4 : 4 + 4 * wdN bs ≤ bs.length) (hw : 255 < wdN bs) :
    Calls Tryd.prog 61 #[.pointer (some ⟨g, 0, none⟩)] w fun e w' => e = .panicked (gone 3) ∧ w.grownBy w' (some g) := by
  have hp : numb (bs.take 2) < 65536 := by have := numb_take_lt bs 2; simpa using this
  have hwl := wdN_lt bs
  have H1 := Lib.hid (number_okR g 2 2 rfl bs w h (by omega) (by omega) (by omega))
  have H2 : Hid (∀ wx, RdrR wx g (bs.drop 2) → Calls Tryd.prog 59 #[.pointer (some ⟨g, 0, none⟩), .int .i64 2] wx fun e w' => e = .returned (.int .u64 (wdN bs : Nat)) ∧ RdrR w' g (bs.drop 4) ∧ Only g wx w') := Lib.hid fun wx hx => by
    have := number_okR g 2 2 rfl (bs.drop 2) wx hx (by omega) (by omega) (by rw [List.length_drop]; omega)
    rw [List.drop_drop] at this
    exact this
  have H3 : Hid (∀ wx, RdrR wx g (bs.drop 4) → Calls Tryd.prog 69 #[.pointer (some ⟨g, 0, none⟩), .int .i64 ((wdN bs : Int) * 4)] wx fun e w' => ∃ A c, e = .returned (.slice A (4 * wdN bs) c) ∧ RdS w' A (4 * wdN bs) c ((bs.drop 4).take (4 * wdN bs)) ∧ RdrR w' g (bs.drop (4 + 4 * wdN bs)) ∧ Only g wx w') := Lib.hid fun wx hx => by
    have := bytes_okR g (4 * wdN bs) (bs.drop 4) wx hx (by rw [List.length_drop]; omega)
    rw [List.drop_drop] at this
    rw [show ((wdN bs : Int) * 4) = ((4 * wdN bs : Nat) : Int) by omega]
    exact this
  obtain ⟨P, hP⟩ : ∃ P, P = numb (bs.take 2) := ⟨_, rfl⟩
  obtain ⟨W, hW⟩ : ∃ W, W = wdN bs := ⟨_, rfl⟩
  obtain ⟨M, hM⟩ : ∃ M, M = 4 * W := ⟨_, rfl⟩
  rw [← hP] at H1 hp
  simp only [← hW, ← hM] at H2 H3 h4 hw hwl
  clear hP hW h hM h4
  go_enter Tryd.func61, Tryd.ntmps61
  go_wp2_with (first
    | (go_at_call 59; ((with_reducible refine (Hid.out H1).mono ?_); rintro e w1 ⟨rfl, hr1, ho1⟩; have G1 := Lib.hid ho1))
    | (go_at_call 59; ((with_reducible refine (Hid.out H2 _ hr1).mono ?_); rintro e w2 ⟨rfl, hr2, ho2⟩; have G2 := Lib.hid ho2))
    | (go_at_call 69; ((with_reducible refine (Hid.out H3 _ hr2).mono ?_); rintro e w3 ⟨A, c, rfl, hR3, hr3, ho3⟩; have G3 := Lib.hid ho3))
    | (go_at_call 43; ((with_reducible refine (refuse_yes _ _ _ ?_).mono ?_); (first | rfl | assumption | (simp; omega)); rintro e w' ⟨rfl, rfl⟩)))
  exact ⟨rfl, rfl, ((G1.out.trans G2.out).trans G3.out).grown⟩

set_option maxRecDepth 100000 in
set_option maxHeartbeats 1000000 in
theorem ext_short (g : Nat) (bs : List UInt8) (w : World) (h : RdrR w g bs) (h4 : bs.length < 4 ∨ bs.length < 4 + 4 * wdN bs) :
    Calls Tryd.prog 61 #[.pointer (some ⟨g, 0, none⟩)] w fun e w' => e = .panicked (gone 2) ∧ w.grownBy w' (some g) := by
  by_cases h2 : bs.length < 2
  · have H1 := Lib.hid (number_no g 2 2 rfl bs w h h2)
    clear h h4
    go_enter Tryd.func61, Tryd.ntmps61
    go_wp2_with (go_at_call 59; ((with_reducible refine (Hid.out H1).mono ?_); rintro e w1 ⟨rfl, rfl⟩))
    exact ⟨rfl, rfl, World.grownBy.refl w _⟩
  have hp : numb (bs.take 2) < 65536 := by have := numb_take_lt bs 2; simpa using this
  have H1 := Lib.hid (number_okR g 2 2 rfl bs w h (by omega) (by omega) (by omega))
  by_cases h3 : bs.length < 4
  · have H2 := Lib.hid (fun wx (hx : RdrR wx g (bs.drop 2)) => number_no g 2 2 rfl (bs.drop 2) wx hx (by rw [List.length_drop]; omega))
    obtain ⟨P, hP⟩ : ∃ P, P = numb (bs.take 2) := ⟨_, rfl⟩
    rw [← hP] at H1 hp
    clear h h4 hP h2 h3
    go_enter Tryd.func61, Tryd.ntmps61
    go_wp2_with (first
      | (go_at_call 59; ((with_reducible refine (Hid.out H1).mono ?_); rintro e w1 ⟨rfl, hr1, ho1⟩; have G1 := Lib.hid ho1))
      | (go_at_call 59; ((with_reducible refine (Hid.out H2 _ hr1).mono ?_); rintro e w2 ⟨rfl, rfl⟩)))
    exact ⟨rfl, rfl, G1.out.grown⟩
  have hwl := wdN_lt bs
  have H2 : Hid (∀ wx, RdrR wx g (bs.drop 2) → Calls Tryd.prog 59 #[.pointer (some ⟨g, 0, none⟩), .int .i64 2] wx fun e w' => e = .returned (.int .u64 (wdN bs : Nat)) ∧ RdrR w' g (bs.drop 4) ∧ Only g wx w') := Lib.hid fun wx hx => by
    have := number_okR g 2 2 rfl (bs.drop 2) wx hx (by omega) (by omega) (by rw [List.length_drop]; omega)
    rw [List.drop_drop] at this
    exact this
  have H3 := Lib.hid (fun wx (hx : RdrR wx g (bs.drop 4)) => bytes_no g ((wdN bs : Int) * 4) (bs.drop 4) wx hx (by rw [List.length_drop]; omega))
  obtain ⟨P, hP⟩ : ∃ P, P = numb (bs.take 2) := ⟨_, rfl⟩
  obtain ⟨W, hW⟩ : ∃ W, W = wdN bs := ⟨_, rfl⟩
  rw [← hP] at H1 hp
  simp only [← hW] at H2 H3 h4 hwl
  clear hP hW h h4 h2 h3
  go_enter Tryd.func61, Tryd.ntmps61
  go_wp2_with (first
    | (go_at_call 59; ((with_reducible refine (Hid.out H1).mono ?_); rintro e w1 ⟨rfl, hr1, ho1⟩; have G1 := Lib.hid ho1))
    | (go_at_call 59; ((with_reducible refine (Hid.out H2 _ hr1).mono ?_); rintro e w2 ⟨rfl, hr2, ho2⟩; have G2 := Lib.hid ho2))
    | (go_at_call 69; ((with_reducible refine (Hid.out H3 _ hr2).mono ?_); rintro e w3 ⟨rfl, rfl⟩)))
  exact ⟨rfl, rfl, (G1.out.trans G2.out).grown⟩
end Go.Proofs.YtmkeioeodlidgaaDoor

namespace Go.Proofs.YtmkeioeodlidgaaDoor
open Go.RowKit
set_option linter.unusedVariables false

/-- The cells of a packet. -/
def rtpC (m : Bool) (ty sq st so : Nat) (O : Value) (x : Bool) (pf : Nat) (E L : Value) (pd : Nat) : List Value :=
  [.bool m, .int .u8 (ty : Int), .int .u16 (sq : Int), .int .u32 (st : Int), .int .u32 (so : Int), O, .bool x, .int .u16 (pf : Int), E, L, .int .u8 (pd : Int)]
theorem rtpC_len (m : Bool) (ty sq st so : Nat) (O : Value) (x : Bool) (pf : Nat) (E L : Value) (pd : Nat) : (rtpC m ty sq st so O x pf E L pd).length = 11 := rfl
def zeroC : List Value := rtpC false 0 0 0 0 (.slice none 0 0) false 0 (.slice none 0 0) (.slice none 0 0) 0
theorem zero28 (w : World) : (zeroValue 40).run Tryd.prog w = .ok (.agg zeroC.toArray) w := by kernel_rfl
theorem row11_ : RowTy Tryd.prog 40 11 := ⟨_, Tryd.underlying40, rfl, by kernel_rfl⟩
theorem row11 {n : Nat} (h : n = 11) : RowTy Tryd.prog 40 n := h ▸ row11_

/-- Byte i. -/
def bt (bs : List UInt8) (i : Nat) : Nat := (bs.getD i 0).toNat
theorem bt_lt (bs : List UInt8) (i : Nat) : bt bs i < 256 := (bs.getD i 0).toNat_lt
theorem numb_one (bs : List UInt8) (i : Nat) (h : i < bs.length) : numb ((bs.drop i).take 1) = bt bs i := by
  rw [List.drop_eq_getElem_cons h, List.take_succ_cons, List.take_zero]
  simp [numb, bt, List.getD, h]
def othN (bs : List UInt8) : Nat := bt bs 0 % 16
def at0 (bs : List UInt8) : Nat := 12 + 4 * othN bs
def sqN (bs : List UInt8) : Nat := numb ((bs.drop 2).take 2)
def stN (bs : List UInt8) : Nat := numb ((bs.drop 4).take 4)
def soN (bs : List UInt8) : Nat := numb ((bs.drop 8).take 4)
theorem sqN_lt (bs : List UInt8) : sqN bs < 65536 := by have := numb_take_lt (bs.drop 2) 2; simpa [sqN] using this
theorem stN_lt (bs : List UInt8) : stN bs < 4294967296 := by have := numb_take_lt (bs.drop 4) 4; simpa [stN] using this
theorem soN_lt (bs : List UInt8) : soN bs < 4294967296 := by have := numb_take_lt (bs.drop 8) 4; simpa [soN] using this

theorem and_u64 (x j : Nat) (hx : x < 18446744073709551616) (hj : j ≤ 32) (m : Int) (hm : m = ((2 ^ j - 1 : Nat) : Int)) : bits BinOp.and IntKind.u64 (x : Int) m = ((x % 2 ^ j : Nat) : Int) := by
  have h2 : 2 ^ j ≤ 2 ^ 32 := Nat.pow_le_pow_right (by omega) hj
  subst hm
  rw [u64_and_nat _ _ hx (by have : (2 : Nat) ^ 32 = 4294967296 := by decide
                             omega), Nat.and_two_pow_sub_one_eq_mod]
theorem rtpC_one (m : Bool) (ty sq st so : Nat) (A : Option Addr) (n a : Nat) (x : Bool) (pf : Nat) (B : Option Addr) (k b : Nat) (D : Option Addr) (l d : Nat) (pd : Nat) : ∀ v ∈ rtpC m ty sq st so (.slice A n a) x pf (.slice B k b) (.slice D l d) pd, v.oneCell' = true := by
  intro v hv
  simp only [rtpC, List.mem_cons, List.not_mem_nil, or_false] at hv
  rcases hv with rfl | rfl | rfl | rfl | rfl | rfl | rfl | rfl | rfl | rfl | rfl <;> rfl

/-- Among the blocks that were there none but g and p may have turned. -/
structure Two (g p : Nat) (w w' : World) : Prop where
  os : w'.os = w.os
  tape : w'.tape = w.tape
  output : w'.output = w.output
  size : w.heap.size ≤ w'.heap.size
  block : ∀ k, k < w.heap.size → k ≠ g → k ≠ p → w'.heap[k]? = w.heap[k]?
section
variable {g p : Nat} {w w' w'' : World}
theorem Two.refl (g p : Nat) (w : World) : Two g p w w := ⟨rfl, rfl, rfl, Nat.le_refl _, fun _ _ _ _ => rfl⟩
theorem Two.trans (h : Two g p w w') (k : Two g p w' w'') : Two g p w w'' := ⟨k.os.trans h.os, k.tape.trans h.tape, k.output.trans h.output, Nat.le_trans h.size k.size, fun i hi h1 h2 => (k.block i (Nat.lt_of_lt_of_le hi h.size) h1 h2).trans (h.block i hi h1 h2)⟩
theorem Two.of_g (h : Only g w w') : Two g p w w' := ⟨h.os, h.tape, h.output, by rw [h.size]; exact Nat.le_refl _, fun k _ h1 _ => h.block k h1⟩
theorem Two.of_p (h : Only p w w') : Two g p w w' := ⟨h.os, h.tape, h.output, by rw [h.size]; exact Nat.le_refl _, fun k _ _ h2 => h.block k h2⟩
theorem Two.of_grown (h : w.grownBy w' (some g)) : Two g p w w' := ⟨h.os, h.tape, h.output, h.size, fun k hk h1 _ => h.block k hk (fun e => h1 (by injection e))⟩
theorem Two.of_below (h : Below w.heap.size w w') : Two g p w w' := ⟨h.os, h.tape, h.output, h.size, fun k hk _ _ => h.block k hk⟩
theorem Two.alloc (w : World) (o : Obj) : Two g p w (w.alloc o) := Two.of_below ((Below.refl _ _).alloc (Nat.le_refl _) o)
theorem Two.set_ (w : World) (j : Nat) (v : Value) : Two g p w (w.setCell ⟨p, j, none⟩ v) := Two.of_p (Only.set w p j v)
theorem Two.grown (h : Two g p w w') (hp : w.heap.size ≤ p) : w.grownBy w' (some g) := ⟨h.os, h.tape, h.output, h.size, fun k hk h1 => h.block k hk (fun e => h1 (by rw [e])) (by omega)⟩
theorem Two.blk {r : Nat} {e : TypeId} {cs : List Value} (h : Two g p w w') (hB : BlkV w r e cs) (h1 : r ≠ g) (h2 : r ≠ p) : BlkV w' r e cs := (h.block r hB.lt h1 h2).trans hB
theorem Two.own {base n : Nat} {e : TypeId} {v : Value} {xs : List Value} (h : Two g p w w') (ho : w.ownsRow base e 1 v n xs) (h1 : g < base) (h2 : ∀ q, v.ownBlock = some q → q ≠ p) : w'.ownsRow base e 1 v n xs := by
  obtain ⟨hl, hr⟩ := ho
  refine ⟨hl, ?_⟩
  rcases hr with hr | ⟨q, cap, cur, hv, hg, hh, hrest⟩
  · exact .inl hr
  · exact .inr ⟨q, cap, cur, hv, hg, (h.block q (Array.getElem?_eq_some_iff.1 hh).1 (by omega) (h2 q (by rw [hv]; rfl))).trans hh, hrest⟩
end

/-- A packet, plain. -/
structure Pkt where
  m : Bool
  ty : Nat
  sq : Nat
  st : Nat
  so : Nat
  ot : List Nat
  x : Bool
  pf : Nat
  xt : List UInt8
  pl : List UInt8
  pd : Nat
/-- The cells are a packet's whose slices are the call's own, above base. -/
def PkOwn (w : World) (base : Nat) (cs : List Value) (p : Pkt) : Prop := ∃ A a B b D d, cs = rtpC p.m p.ty p.sq p.st p.so (.slice A p.ot.length a) p.x p.pf (.slice B p.xt.length b) (.slice D p.pl.length d) p.pd ∧
  w.ownsRow base 24 1 (.slice A p.ot.length a) p.ot.length (ucells p.ot) ∧ w.ownsRow base 5 1 (.slice B p.xt.length b) p.xt.length (cells p.xt) ∧ w.ownsRow base 5 1 (.slice D p.pl.length d) p.pl.length (cells p.pl)

def exBR (bs : List UInt8) : Bool := bt bs 0 / 16 % 2 == 1
def pdB (bs : List UInt8) : Bool := bt bs 0 / 32 % 2 == 1
def wordsN (bs : List UInt8) : Nat := numb ((bs.drop (at0 bs + 2)).take 2)
def at1 (bs : List UInt8) : Nat := if exBR bs then at0 bs + 4 + 4 * wordsN bs else at0 bs
def padN (bs : List UInt8) : Nat := if pdB bs then bt bs (bs.length - 1) else 0
/-- The packet that bytes are, if they are one. -/
def pktR (bs : List UInt8) : Pkt where
  m := bt bs 1 / 128 == 1
  ty := bt bs 1 % 128
  sq := sqN bs
  st := stN bs
  so := soN bs
  ot := srcs (bs.drop 12) (othN bs)
  x := exBR bs
  pf := if exBR bs then numb ((bs.drop (at0 bs)).take 2) else 0
  xt := if exBR bs then (bs.drop (at0 bs + 4)).take (4 * wordsN bs) else []
  pl := (bs.drop (at1 bs)).take (bs.length - at1 bs - padN bs)
  pd := padN bs
/-- Why bytes are no packet; 0: they are one. -/
def whyR (bs : List UInt8) : Int :=
  if 1200 < bs.length then 3 else if bs.length < 12 then 2 else if bt bs 0 / 64 ≠ 2 then 3 else if bs.length < at0 bs then 2
  else if exBR bs = true ∧ bs.length < at0 bs + 4 then 2 else if exBR bs = true ∧ bs.length < at1 bs then 2 else if exBR bs = true ∧ 255 < wordsN bs then 3
  else if pdB bs = true ∧ (at1 bs = bs.length ∨ bt bs (bs.length - 1) = 0 ∨ bs.length - at1 bs < bt bs (bs.length - 1)) then 3 else 0
end Go.Proofs.YtmkeioeodlidgaaDoor

namespace Go.Proofs.YtmkeioeodlidgaaDoor
set_option linter.unusedVariables false

theorem beb_numb : ∀ (l : List UInt8), beb l.length (numb l) = l := by
  intro l
  obtain ⟨n, hn⟩ : ∃ n, n = l.length := ⟨_, rfl⟩
  induction n generalizing l with
  | zero => have : l = [] := List.eq_nil_of_length_eq_zero hn.symm
            subst this; rfl
  | succ n ih =>
    have hne : l ≠ [] := by intro h; subst h; cases hn
    have e : l = l.dropLast ++ [l.getLast hne] := (List.dropLast_concat_getLast hne).symm
    have hl : l.dropLast.length = n := by rw [List.length_dropLast]; omega
    rw [e]
    generalize l.getLast hne = b
    generalize l.dropLast = r at hl
    rw [List.length_append, List.length_singleton, numb_snoc, beb_succ]
    have hb := b.toNat_lt
    have e1 : (numb r * 256 + b.toNat) / 256 = numb r := by omega
    rw [e1, ih r hl.symm]
    congr 2
    rw [← UInt8.toNat_inj, UInt8.toNat_ofNat']
    omega
theorem beb_one (x : Nat) : beb 1 x = [UInt8.ofNat x] := by rw [beb_succ]; rfl
theorem beb_numb_of {l : List UInt8} {n : Nat} (h : l.length = n) : beb n (numb l) = l := h ▸ beb_numb l
theorem numb_beb_of {n x : Nat} (h : x < 256 ^ n) : numb (beb n x) = x := by rw [numb_beb, Nat.mod_eq_of_lt h]

/-- The bytes of so many bytes of padding. -/
def padB (n : Nat) : List UInt8 := if n = 0 then [] else List.replicate (n - 1) 0 ++ [UInt8.ofNat n]
theorem padB_len (n : Nat) : (padB n).length = n := by
  unfold padB
  split
  · rename_i h; rw [h]; rfl
  · simp; omega
def firstN (p : Pkt) : Nat := 128 + (if 0 < p.pd then 32 else 0) + (if p.x then 16 else 0) + p.ot.length
def secondN (p : Pkt) : Nat := (if p.m then 128 else 0) + p.ty
def hdB (p : Pkt) : List UInt8 := [UInt8.ofNat (firstN p)] ++ ([UInt8.ofNat (secondN p)] ++ (beb 2 p.sq ++ (beb 4 p.st ++ beb 4 p.so)))
def otB (L : List Nat) : List UInt8 := L.flatMap (beb 4)
def exBt (p : Pkt) : List UInt8 := if p.x then beb 2 p.pf ++ (beb 2 (p.xt.length / 4) ++ p.xt) else []
/-- The bytes of a packet that may be. -/
def wrB (p : Pkt) : List UInt8 := hdB p ++ (otB p.ot ++ (exBt p ++ (p.pl ++ padB p.pd)))
theorem hdB_len (p : Pkt) : (hdB p).length = 12 := by simp [hdB, length_beb]
theorem otB_len (L : List Nat) : (otB L).length = 4 * L.length := by
  induction L with
  | nil => rfl
  | cons a r ih =>
    have : otB (a :: r) = beb 4 a ++ otB r := rfl
    rw [this, List.length_append, length_beb, ih, List.length_cons]
    omega
def hdN' (p : Pkt) : Nat := 12 + 4 * p.ot.length + (if p.x then 4 + p.xt.length else 0)
theorem exBt_len (p : Pkt) : (exBt p).length = if p.x then 4 + p.xt.length else 0 := by
  unfold exBt
  split
  · simp [length_beb]; omega
  · rfl
theorem wrB_len (p : Pkt) : (wrB p).length = hdN' p + p.pl.length + p.pd := by
  unfold wrB hdN'
  rw [List.length_append, List.length_append, List.length_append, List.length_append, hdB_len, otB_len, exBt_len, padB_len]
  omega

/-- The packet may be written. -/
def mayB (p : Pkt) : Prop := p.ty ≤ 127 ∧ p.ot.length ≤ 15 ∧ (p.x = true ∨ (p.xt.length = 0 ∧ p.pf = 0)) ∧ p.xt.length % 4 = 0 ∧ p.xt.length ≤ 1020 ∧ hdN' p + p.pl.length + p.pd ≤ 1200
/-- Its numbers fit their fields. -/
def fits (p : Pkt) : Prop := p.sq < 65536 ∧ p.st < 4294967296 ∧ p.so < 4294967296 ∧ (∀ x ∈ p.ot, x < 4294967296) ∧ p.pf < 65536 ∧ p.pd < 256

theorem otB_srcs (S : List UInt8) : ∀ n, 4 * n ≤ S.length → otB (srcs S n) = S.take (4 * n)
  | 0, _ => by simp [srcs, otB]
  | n + 1, h => by
    have ih := otB_srcs S n (by omega)
    rw [srcs_succ]
    have e : otB (srcs S n ++ [numb ((S.drop (4 * n)).take 4)]) = otB (srcs S n) ++ beb 4 (numb ((S.drop (4 * n)).take 4)) := by simp [otB]
    rw [e, ih, beb_numb_of (by rw [List.length_take, List.length_drop]; omega), show 4 * (n + 1) = 4 * n + 4 by omega, List.take_add]

theorem srcs_otB (L : List Nat) (T : List UInt8) (h : ∀ x ∈ L, x < 4294967296) : srcs (otB L ++ T) L.length = L := by
  have key : ∀ (R : List Nat) (L : List Nat) (T : List UInt8), (∀ x ∈ L, x < 4294967296) → ∀ k, k < L.length → numb (((otB L ++ T).drop (4 * k)).take 4) = L.getD k 0 := by
    intro _ L
    induction L with
    | nil => intro T _ k hk; simp at hk
    | cons a r ih =>
      intro T h k hk
      have e : otB (a :: r) = beb 4 a ++ otB r := rfl
      rw [e, List.append_assoc]
      have hb : (beb 4 a).length = 4 := length_beb 4 a
      cases k with
      | zero =>
        rw [Nat.mul_zero, List.drop_zero, List.take_left' hb, numb_beb_of (by have := h a (by simp); omega)]
        rfl
      | succ k =>
        have e2 : ((beb 4 a ++ (otB r ++ T)).drop (4 * (k + 1))) = (otB r ++ T).drop (4 * k) := by
          rw [show 4 * (k + 1) = (beb 4 a).length + 4 * k by rw [hb]; omega, List.drop_append]
          simp
        rw [e2, ih T (fun x hx => h x (by simp [hx])) k (by simpa using hk)]
        rfl
  apply List.ext_getElem
  · simp [srcs]
  · intro k h1 h2
    simp only [srcs, List.getElem_map, List.getElem_range]
    rw [key [] L T h k h2]
    simp [List.getD, h2]
end Go.Proofs.YtmkeioeodlidgaaDoor
