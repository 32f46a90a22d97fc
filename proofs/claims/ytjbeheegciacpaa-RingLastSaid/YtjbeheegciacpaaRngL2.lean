/- The document's example of layer 19, and RingNone's walk. -/
import Derived.Test.YtjbeheegciacpaaRngL1
namespace Go.Proofs.Ytjbeheegciacpaa
open Go.RowKit
set_option linter.unusedVariables false

section
variable {T : World → Value → Rgs → (Nat → Prop) → Prop}
/-- A packet put into a ring of the call's own, its outcome known. -/
theorem On19.put_is (hT : Tells19 T) {w0 wx : World} {K : Nat → Prop} {q : Addr} {P B : Int} {L L2 : List Pck} (z : Int) (i : Int) (A : Option Addr) (n c : Nat) (b : List UInt8) (h : On19 T w0 K (.pointer (some q)) ⟨P, B, L⟩ wx) (hs : Srt L) (hP : 1 ≤ P) (hB : 0 ≤ B) (hr : RdS wx A n c b) (hoff : 0 < n → ∀ ad, A = some ad → ad.block < w0.heap.size ∨ K ad.block) (hl : L.length ≤ 200) (hz : sizD L + n ≤ 1000000000) (hi : -9223372036854775808 ≤ i ∧ i ≤ 9223372036854775807)
    (he : putE P B L i b = z) (hG : putG P B L i b = L2) :
    Calls Try.prog 11 #[.pointer (some q), .int .i64 i, .slice A n c] wx fun e w' => e = .returned (.int .i64 z) ∧ Hid (On19 T w0 K (.pointer (some q)) ⟨P, B, L2⟩ w' ∧ Sam K wx w') := by
  obtain ⟨F, h1, h2⟩ := h.ex
  refine (hT.put wx q ⟨P, B, L⟩ F i A n c b h1 hs hP hB hr (fun hn ad hA hf => by
    have h4 := h2 _ hf
    rcases hoff hn ad hA with h3 | h3
    · omega
    · exact h4.2 h3) hl hz hi).mono ?_
  rintro e w' ⟨rfl, hk⟩
  simp only [he, hG] at hk ⊢
  exact ⟨trivial, Lib.hid (h.stp h2 hk.out)⟩
theorem On19.get_in (hT : Tells19 T) {w0 wx : World} {K : Nat → Prop} {q : Addr} {s : Rgs} (i : Int) (b : List UInt8) (h : On19 T w0 K (.pointer (some q)) s wx) (hs : Srt s.L) (hl : s.L.length ≤ 201) (hm : (i, b) ∈ s.L) :
    Calls Try.prog 13 #[.pointer (some q), .int .i64 i] wx fun e w' => ∃ A c, e = .returned (.tuple #[.slice A b.length c, .bool true]) ∧ Hid (w'.ownsRow wx.heap.size 5 1 (.slice A b.length c) b.length (cells b) ∧ Below wx.heap.size wx w') := by
  obtain ⟨F, h1, h2⟩ := h.ex
  exact hT.get_yes wx q s F i b h1 hs hl hm
theorem On19.get_out (hT : Tells19 T) {w0 wx : World} {K : Nat → Prop} {q : Addr} {s : Rgs} (i : Int) (h : On19 T w0 K (.pointer (some q)) s wx) (hs : Srt s.L) (hl : s.L.length ≤ 201) (hm : i ∉ s.L.map (·.1)) :
    Calls Try.prog 13 #[.pointer (some q), .int .i64 i] wx fun e w' => ∃ A n c, e = .returned (.tuple #[.slice A n c, .bool false]) ∧ Hid (Below wx.heap.size wx w') := by
  obtain ⟨F, h1, h2⟩ := h.ex
  exact hT.get_no wx q s F i h1 hs hl hm
theorem On19.len_is (hT : Tells19 T) {w0 wx : World} {K : Nat → Prop} {q : Addr} {s : Rgs} (h : On19 T w0 K (.pointer (some q)) s wx) (hl : s.L.length ≤ 201) (z : Int) (hz : (s.L.length : Int) = z) :
    Calls Try.prog 15 #[.pointer (some q)] wx fun e w' => e = .returned (.int .i64 z) ∧ ∃ m, w' = wx.drewN m := by
  obtain ⟨F, h1, h2⟩ := h.ex
  subst hz
  exact hT.len wx q s F h1 hl
theorem On19.size_is (hT : Tells19 T) {w0 wx : World} {K : Nat → Prop} {q : Addr} {s : Rgs} (h : On19 T w0 K (.pointer (some q)) s wx) (hl : s.L.length ≤ 201) (hb : sizD s.L ≤ 1000000000) (z : Int) (hz : (sizD s.L : Int) = z) :
    Calls Try.prog 16 #[.pointer (some q)] wx fun e w' => e = .returned (.int .i64 z) ∧ ∃ m, w' = wx.drewN m := by
  obtain ⟨F, h1, h2⟩ := h.ex
  subst hz
  exact hT.size wx q s F h1 hl hb
end

theorem ringNone_walk {T : World → Value → Rgs → (Nat → Prop) → Prop} (hT : Tells19 T) (HAL : ∀ w, Calls Try.prog 7 #[] w fun e w' => e = .returned (.bool true) ∧ Below w.heap.size w w') (i : Int) (A : Option Addr) (n c : Nat) (w : World) :
    Calls Try.prog 6 #[.int .i64 i, .slice A n c] w fun e w' => e = .returned (.bool true) ∧ Below w.heap.size w w' := by
  have HA := Lib.hid (HAL w)
  have H := Lib.hid hT
  clear HAL hT
  go_enter Try.func6, Try.ntmps6
  go_wp2_with (first
    | (go_at_call 7; ((with_reducible refine (Hid.out HA).mono ?_); rintro e w1 ⟨rfl, hb1⟩; have HB := Lib.hid hb1; clear hb1))
    | (go_at_call 13; ((with_reducible refine (H.out.getNil _ _).mono ?_); rintro e w2 ⟨A2, n2, c2, rfl, hb2⟩))
    | (go_at_call 11; ((with_reducible refine (H.out.putNil _ _ _ _ _).mono ?_); rintro e w3 ⟨rfl, hb3⟩))
    | (go_at_call 15; ((with_reducible refine (H.out.lenNil _).mono ?_); rintro e w4 ⟨rfl, hb4⟩))
    | (go_at_call 16; ((with_reducible refine (H.out.sizeNil _).mono ?_); rintro e w5 ⟨rfl, hb5⟩))
    | (go_at_call 18; ((with_reducible refine (H.out.indicesNil _).mono ?_); rintro e w6 ⟨A6, c6, rfl, hb6⟩))
    | (go_at_call 9; ((with_reducible refine (H.out.forgetNil _ _).mono ?_); rintro e w7 ⟨rfl, hb7⟩)))
  go_ret
  have b1 := HB.out
  have b2 := b1.trans (hb2.out.mono b1.size)
  have b3 := b2.trans (hb3.out.mono b2.size)
  have b4 := b3.trans (hb4.out.mono b3.size)
  have b5 := b4.trans (hb5.out.mono b4.size)
  have b6 := b5.trans (hb6.out.mono b5.size)
  have b7 := b6.trans (hb7.out.mono b6.size)
  exact ⟨rfl, b7⟩

def Z4r : List UInt8 := List.replicate 4 0
/-- A ring that has just been made, and a block of its own beside it. -/
theorem on_new {T : World → Value → Rgs → (Nat → Prop) → Prop} {w w1 : World} {v : Value} {s : Rgs} {F : Nat → Prop} (h : T w1 v s F ∧ (∀ k, F k → w.heap.size ≤ k) ∧ Below w.heap.size w w1) : On19 T w (fun _ => False) v s w1 :=
  ⟨⟨F, h.1, fun k hk => ⟨h.2.1 k hk, fun hf => hf⟩⟩, fun k hk => hk.elim, h.2.2⟩
set_option maxRecDepth 100000 in
theorem alive_any19 {T : World → Value → Rgs → (Nat → Prop) → Prop} (hT : Tells19 T) (w : World) : Calls Try.prog 7 #[] w fun e w' => e = .returned (.bool true) ∧ Below w.heap.size w w' := by
  have H := Lib.hid hT
  have HN := Lib.hid (hT.new_ok 2 10 w (by decide) (by decide) (by decide) (by decide))
  have hmk : ∀ wx : World, (Instr.makeSlice 31 (.int .i64 4) (.int .i64 4)).run Try.prog wx = .ok (.slice (some ⟨wx.heap.size, 0, none⟩) 4 4) (wx.alloc (.cells (cells Z4r).toArray 5)) := fun wx => run_makeB (P := Try.prog) Try.underlying31 u8_info .i64 .i64 4 4 4 rfl rfl (by omega) wx
  clear hT
  go_enter Try.func7, Try.ntmps7
  go_wp2_with (first
    | (go_at_call 8; ((with_reducible refine (Hid.out HN).mono ?_); rintro e w1 ⟨q, F, rfl, HK⟩; have HO := (on_new HK.out).more H.out (.cells (cells Z4r).toArray 5); have HBK : Blk (w1.alloc (.cells (cells Z4r).toArray 5)) w1.heap.size 5 Z4r := Blk.new _ _ _; have P1 := Lib.hid (HO.put_is H.out 0 1 (some ⟨w1.heap.size, 0, none⟩) 4 4 Z4r (by simp [Srt]) (by decide) (by decide) (HBK.rd rfl (by omega) (by simp only [maxLen]; omega)) (fun _ ad hA => .inr (.inr (by injection hA with hA; rw [← hA]))) (by simp) (by simp [sizD]) (by decide) (L2 := [(1, Z4r)]) rfl rfl); have HBH := Lib.hid HBK; clear HO HBK))
    | (go_at_call 11; ((with_reducible refine (Hid.out P1).mono ?_); rintro e w2 ⟨rfl, HK2⟩; have HB2 := Lib.hid (BlkV.sam HBH.out.v HK2.out.2 (.inr rfl)); have P2 := Lib.hid (HK2.out.1.put_is H.out 0 2 (some ⟨w1.heap.size, 0, none⟩) 4 4 Z4r (by simp [Srt]) (by decide) (by decide) (Blk.rd (show Blk w2 w1.heap.size 5 Z4r from HB2.out) rfl (by omega) (by simp only [maxLen]; omega)) (fun _ ad hA => .inr (.inr (by injection hA with hA; rw [← hA]))) (by simp) (by simp [sizD, Z4r]) (by decide) (L2 := [(1, Z4r), (2, Z4r)]) rfl rfl)))
    | (go_at_call 11; ((with_reducible refine (Hid.out P2).mono ?_); rintro e w3 ⟨rfl, HK3⟩; have HB3 := Lib.hid (BlkV.sam HB2.out HK3.out.2 (.inr rfl)); have P3 := Lib.hid (HK3.out.1.put_is H.out 0 3 (some ⟨w1.heap.size, 0, none⟩) 4 4 Z4r (by simp [Srt]) (by decide) (by decide) (Blk.rd (show Blk w3 w1.heap.size 5 Z4r from HB3.out) rfl (by omega) (by simp only [maxLen]; omega)) (fun _ ad hA => .inr (.inr (by injection hA with hA; rw [← hA]))) (by simp) (by simp [sizD, Z4r]) (by decide) (L2 := [(2, Z4r), (3, Z4r)]) rfl rfl)))
    | (go_at_call 11; ((with_reducible refine (Hid.out P3).mono ?_); rintro e w4 ⟨rfl, HK4⟩; have G1 := Lib.hid (HK4.out.1.get_out H.out 1 (by simp [Srt]) (by simp) (by decide))))
    | (go_at_call 13; ((with_reducible refine (Hid.out G1).mono ?_); rintro e w5 ⟨A5, n5, c5, rfl, HK5⟩; have HK5' := Lib.hid (HK4.out.1.on H.out HK5.out); have G2 := Lib.hid (HK5'.out.1.get_in H.out 2 Z4r (by simp [Srt]) (by simp) (by simp))))
    | (go_at_call 13; ((with_reducible refine (Hid.out G2).mono ?_); rintro e w6 ⟨A6, c6, rfl, HK6⟩; have HK6' := Lib.hid (HK5'.out.1.on H.out HK6.out.2); have N1 := Lib.hid (HK6'.out.1.len_is H.out (by simp) 2 rfl)))
    | (go_at_call 15; ((with_reducible refine (Hid.out N1).mono ?_); rintro e w7 ⟨rfl, m7, hm7⟩; have HK7 := Lib.hid (HK6'.out.1.on H.out (show Below w6.heap.size w6 w7 from hm7 ▸ ⟨rfl, rfl, rfl, Nat.le_refl _, fun _ _ => rfl⟩)); have N2 := Lib.hid (HK7.out.1.size_is H.out (by simp) (by simp [sizD, Z4r]) 8 rfl); clear hm7))
    | (go_at_call 16; ((with_reducible refine (Hid.out N2).mono ?_); rintro e w8 ⟨rfl, m8, hm8⟩; have HK8 := Lib.hid (HK7.out.1.on H.out (show Below w7.heap.size w7 w8 from hm8 ▸ ⟨rfl, rfl, rfl, Nat.le_refl _, fun _ _ => rfl⟩)); clear hm8)))
  go_ret
  exact ⟨rfl, HK8.out.1.below⟩
end Go.Proofs.Ytjbeheegciacpaa
