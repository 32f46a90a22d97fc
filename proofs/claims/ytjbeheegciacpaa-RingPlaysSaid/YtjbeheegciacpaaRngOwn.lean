/- RingOwn's walk: what was put, and what is got, may be written over. -/
import Derived.Test.YtjbeheegciacpaaRngL2
namespace Go.Proofs.Ytjbeheegciacpaa
open Go.RowKit
set_option linter.unusedVariables false

/-- A row of the call's own that isn't empty: its block, its cells, which may be written. -/
theorem own_cellsR {w : World} {base n c : Nat} {e : TypeId} {A : Option Addr} {xs : List Value} (h : w.ownsRow base e 1 (.slice A n c) n xs) (hn : 0 < n) : ∃ g, A = some ⟨g, 0, none⟩ ∧ base ≤ g ∧ g < w.heap.size ∧ ∀ j, j < n → w.cell? ⟨g, j, none⟩ = xs[j]? ∧ w.frozen? ⟨g, j, none⟩ = false := by
  rcases h.2 with ⟨_, h0⟩ | ⟨g, cap, cur, hv, hb, hg, _⟩
  · omega
  · injection hv with h1 h2 h3
    subst h1; subst h3
    exact ⟨g, rfl, hb, (Array.getElem?_eq_some_iff.1 hg).1, fun j hj => ⟨h.cellAt j (by omega), frozen_of_row w g j cur e hg⟩⟩

set_option maxRecDepth 100000 in
theorem ringOwn_walk {T : World → Value → Rgs → (Nat → Prop) → Prop} (hT : Tells19 T) (i : Int) (A : Option Addr) (n c : Nat) (b : List UInt8) (y : Int) (w : World) (hi : (Lit.int .i64 i).wf = true) (hr : RdS w A n c b) (hy : (Lit.int .u8 y).wf = true) :
    Calls Try.prog 4 #[.int .i64 i, .slice A n c, .int .u8 y] w fun e w' => e = .returned (.bool true) ∧ Below w.heap.size w w' := by
  have H := Lib.hid hT
  have HAL := Lib.hid (alive_any19 hT w)
  have bi := bounds_i64 hi
  have by_ := bounds_u8 hy
  have hnc := hr.2.1
  have hcm := hr.2.2.1
  have hlen := hr.len
  simp only [maxLen] at hcm
  have HR := Lib.hid hr
  have HLEN := Lib.hid hlen
  clear hi hy hr hlen
  by_cases h0 : n = 0
  · subst h0
    clear hT
    go_enter Try.func4, Try.ntmps4
    go_wp2_with (go_at_call 7; ((with_reducible refine (Hid.out HAL).mono ?_); rintro e w1 ⟨rfl, hb1⟩))
    go_ret
    exact ⟨rfl, hb1⟩
  have hn0 : 0 < n := by omega
  have hnb : ((n : Int) == 0) = false := by simp; omega
  clear h0
  by_cases h300 : 300 < n
  · have h300i : (300 : Int) < (n : Int) := by omega
    clear hT
    go_enter Try.func4, Try.ntmps4
    go_wp2_with (go_at_call 7; ((with_reducible refine (Hid.out HAL).mono ?_); rintro e w1 ⟨rfl, hb1⟩))
    go_ret
    exact ⟨rfl, hb1⟩
  have h300' : (n : Int) ≤ 300 := by omega
  clear h300
  by_cases hi0 : i < 0
  · clear hT
    go_enter Try.func4, Try.ntmps4
    go_wp2_with (go_at_call 7; ((with_reducible refine (Hid.out HAL).mono ?_); rintro e w1 ⟨rfl, hb1⟩))
    go_ret
    exact ⟨rfl, hb1⟩
  have hi0' : 0 ≤ i := by omega
  clear hi0
  have HN := Lib.hid (fun wx => hT.new_ok 1 (n : Int) wx (by omega) (by omega) (by omega) (by omega))
  have hE : putE 1 (n : Int) [] i b = 0 := by
    unfold putE
    rw [if_neg (by omega), HLEN.out, if_neg (by omega), if_neg]
    simp
  have hG : putG 1 (n : Int) [] i b = [(i, b)] := by
    unfold putG
    rw [if_pos hE]
    have : insL (i, b) [] = [(i, b)] := rfl
    rw [this]
    unfold fitL
    rw [if_neg]
    have h1 : sizD [(i, b)] = n := by simp [sizD, HLEN.out]
    rw [h1]
    simp
  have HE := Lib.hid (And.intro hE hG)
  clear hT hE hG
  go_enter Try.func4, Try.ntmps4
  go_wp2_with (first
    | (go_at_call 7; ((with_reducible refine (Hid.out HAL).mono ?_); rintro e w1 ⟨rfl, hb1⟩; have HB := Lib.hid hb1; clear hb1))
    | (go_at_call 8; ((with_reducible refine (Hid.out HN _).mono ?_); rintro e w2 ⟨q, F, rfl, HK⟩; have HB2 := Lib.hid (HB.out.trans (HK.out.2.2.mono HB.out.size)); have hcv := run_conv (HR.out.below HB2.out) 31 9 5 Try.underlying31 Try.underlying5 Try.underlying9))
    | (at_builtin; refine wpList_append_rd _ rfl (.tmp 33) (.tmp 34) rfl Try.underlying31 u8_info w2.heap.size (.slice (some ⟨w2.heap.size, 0, none⟩) 0 0) 0 [] rfl (own_empty w2) A n c b rfl ((HR.out.below HB2.out).below ((Below.refl _ _).alloc (Nat.le_refl _) _)) (by omega) (by simp) ?_; intro v3 w3 hown3 hg3 _; obtain ⟨ho3, hb3⟩ := own_first HLEN.out hown3 hg3; have H3 := Lib.hid (And.intro ho3 hb3); obtain ⟨A3, c3, hv3⟩ := own_formN ho3; subst hv3; obtain ⟨g3, hA3, hg3b, hg3l, hcells⟩ := own_cellsR ho3 hn0; subst hA3; have HG3 := Lib.hid (And.intro hg3b hg3l); clear hown3 hg3 ho3 hb3 hcells hcv hg3b hg3l))
  have ON2 : On19 T w (fun _ => False) (.pointer (some q)) ⟨1, (n : Int), []⟩ w2 := by
    have h1 := HK.out
    have hb := HB.out
    exact ⟨⟨F, h1.1, fun k hk => ⟨by have := h1.2.1 k hk; have := hb.size; omega, fun hf => hf⟩⟩, fun k hk => hk.elim, HB2.out⟩
  have ON3 := Lib.hid (ON2.span H.out H3.out.2)
  have HZ2 : Hid (w.heap.size ≤ w2.heap.size) := Lib.hid ON2.below.size
  have P1 := Lib.hid (ON3.out.put_is H.out 0 i (some ⟨g3, 0, none⟩) n c3 b (by simp [Srt]) (by decide) (by omega) (RdS.of_own H3.out.1) (fun _ ad hA => .inr (.inr (by injection hA with hA; rw [← hA]; exact HG3.out))) (by simp) (by simp [sizD]; omega) bi HE.out.1 HE.out.2)
  clear HK HB HN HAL HB2 ON2 hnc hcm
  refine P1.out.mono ?_
  rintro e w4 ⟨rfl, HK4⟩
  have HO4 := own_at_same H3.out.1 (fun k hk => HK4.out.2 k (.inr (by injection hk with hk; rw [← hk]; exact HG3.out)))
  obtain ⟨g3', hA, _, _, hcells⟩ := own_cellsR HO4 hn0
  injection hA with hA
  injection hA with hA _ _
  subst hA
  have hc0 := (hcells 0 hn0).1
  have hf0 := (hcells 0 hn0).2
  rw [cells_at (by rw [HLEN.out]; exact hn0)] at hc0
  have ON5 : Hid (On19 T w (fun k => False ∨ (w2.heap.size ≤ k ∧ k < w3.heap.size)) (.pointer (some q)) ⟨1, (n : Int), [(i, b)]⟩ (w4.setCell ⟨g3, 0, none⟩ (.int .u8 y))) := Lib.hid (HK4.out.1.poke H.out (.inr HG3.out) (by have := HZ2.out; have := HG3.out.1; omega) (Only.set _ _ _ _))
  obtain ⟨w5, hw5⟩ : ∃ w5, w5 = w4.setCell ⟨g3, 0, none⟩ (.int .u8 y) := ⟨_, rfl⟩
  rw [← hw5] at ON5
  have HW5 := Lib.hid hw5
  have g1 := ON5.out.get_in H.out i b (by simp [Srt]) (by simp) (by simp)
  rw [HLEN.out] at g1
  have G1 := Lib.hid g1
  obtain ⟨m, hm⟩ : ∃ m, n = m + 1 := ⟨n - 1, by omega⟩
  have hmi : (n : Int) - 1 = (m : Int) := by omega
  have hmn : m < n := by omega
  have HM := Lib.hid hm
  clear HO4 hcells P1 hw5 g1 hm HE
  go_wp2_with (go_at_call 13; (rw [← HW5.out]; (with_reducible refine (Hid.out G1).mono ?_); rintro e w6 ⟨A6, c6, rfl, HK6⟩; have hcv := run_conv (RdS.of_own HK6.out.1) 31 9 5 Try.underlying31 Try.underlying5 Try.underlying9; obtain ⟨g6, hA6, hg6b, hg6l, hcells6⟩ := own_cellsR HK6.out.1 hn0; subst hA6; have hc6 := (hcells6 m hmn).1; have hf6 := (hcells6 m hmn).2; rw [cells_at (by rw [HLEN.out]; exact hmn)] at hc6; have HG6 := Lib.hid (And.intro hg6b hg6l); clear hcells6 hg6b hg6l))
  have ON6 := (ON5.out.span H.out HK6.out.2).poke H.out (.inr HG6.out) (by have h1 := ON5.out.below.size; have := HG6.out.1; omega) (Only.set w6 g6 m (.int .u8 y))
  have g2 := ON6.get_in H.out i b (by simp [Srt]) (by simp) (by simp)
  rw [HLEN.out] at g2
  have HO6 := Lib.hid ON6
  clear ON6
  refine g2.mono ?_
  rintro e w8 ⟨A8, c8, rfl, HK8⟩
  have hcv8 := run_conv (RdS.of_own HK8.out.1) 31 9 5 Try.underlying31 Try.underlying5 Try.underlying9
  go_wp2
  go_ret
  exact ⟨rfl, (HO6.out.on H.out HK8.out.2).1.below⟩
end Go.Proofs.Ytjbeheegciacpaa
