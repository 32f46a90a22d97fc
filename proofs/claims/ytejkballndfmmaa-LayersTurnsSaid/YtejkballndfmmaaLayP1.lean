/- Contracts of package layers: a chooser's block, what is wanted and goes, is there such a layer, one anew, Want. No statement is proved here. -/
import Derived.Test.YtejkballndfmmaaLayL1
import Derived.BigQuiet
namespace Go.Proofs.Ytejkballndfmmaa
open Go.RowKit
set_option linter.unusedVariables false

def chc (s : Chs) : List Value := [.int .i64 s.m, .int .i64 (s.w + 1), .int .i64 (s.g + 1)]
/-- Block g is the chooser: where none is wanted none goes. -/
structure PLay (w : World) (g : Nat) (s : Chs) : Prop where
  blk : BlkV w g 42 (chc s)
  wg : s.w = -1 → s.g = -1
section
variable {w w' : World} {g : Nat} {s : Chs}
theorem PLay.lt (h : PLay w g s) : g < w.heap.size := BlkV.lt h.blk
theorem PLay.c0 (h : PLay w g s) : w.cell? ⟨g, 0, none⟩ = some (.int .i64 s.m) := (BlkV.cell h.blk 0).trans rfl
theorem PLay.c1 (h : PLay w g s) : w.cell? ⟨g, 1, none⟩ = some (.int .i64 (s.w + 1)) := (BlkV.cell h.blk 1).trans rfl
theorem PLay.c2 (h : PLay w g s) : w.cell? ⟨g, 2, none⟩ = some (.int .i64 (s.g + 1)) := (BlkV.cell h.blk 2).trans rfl
theorem PLay.fr (h : PLay w g s) (j : Nat) : w.frozen? ⟨g, j, none⟩ = false := BlkV.frozen h.blk j
theorem PLay.below (h : PLay w g s) (hb : Below w.heap.size w w') : PLay w' g s := ⟨BlkV.below h.blk hb h.lt, h.wg⟩
end
/-- What is said of a chooser: it lies in one block of its own. -/
def T23 (w : World) (v : Value) (s : Chs) (F : Nat → Prop) : Prop := ∃ g, v = .pointer (some ⟨g, 0, none⟩) ∧ PLay w g s ∧ ∀ k, F k ↔ k = g
theorem lone23 : Lone T23 where
  low := fun w p s F ⟨g, _, h, hF⟩ k hk => by rw [(hF k).1 hk]; exact h.lt
  stay := fun w w2 p s F ⟨g, h0, h, hF⟩ hz hk => ⟨g, h0, ⟨(hk g ((hF g).2 rfl)).trans h.blk, h.wg⟩, hF⟩
/-- A step behind which the chooser lies where it lay. -/
theorem t23_stp {w w1 w2 : World} {g : Nat} {s2 : Chs} {F : Nat → Prop} (hF : ∀ k, F k ↔ k = g) (hb : Below w.heap.size w w1) (ho : Only g w1 w2) (h : PLay w2 g s2) : StpK T23 (.pointer (some ⟨g, 0, none⟩)) s2 F w w2 :=
  ⟨F, ⟨g, rfl, h, hF⟩, Fr.behind hb (Fr.of_only ho ((hF g).2 rfl)), fun k hk => .inl hk⟩

theorem wanted_nil23 (w : World) :
    Calls Try.prog 13 #[.pointer none] w fun e w' => e = .returned (.int .i64 (-1)) ∧ w' = w := by
  go_enter Try.func13, Try.ntmps13
  go_wp2
  go_ret
  exact ⟨rfl, rfl⟩
theorem wanted_any23 (g : Nat) (s : Chs) (w : World) (h : PLay w g s) (ok : OkC s) :
    Calls Try.prog 13 #[.pointer (some ⟨g, 0, none⟩)] w fun e w' => e = .returned (.int .i64 s.w) ∧ w' = w := by
  have c1 := h.c1
  have ow := ok.w
  have om := ok.m
  obtain ⟨m, x, y⟩ := s
  simp only at c1 ow om
  clear h ok
  have e1 : x + 1 - 1 = x := by omega
  go_enter Try.func13, Try.ntmps13
  go_wp2
  go_ret
  exact ⟨rfl, rfl⟩
theorem goes_nil23 (w : World) :
    Calls Try.prog 14 #[.pointer none] w fun e w' => e = .returned (.int .i64 (-1)) ∧ w' = w := by
  go_enter Try.func14, Try.ntmps14
  go_wp2
  go_ret
  exact ⟨rfl, rfl⟩
theorem goes_any23 (g : Nat) (s : Chs) (w : World) (h : PLay w g s) (ok : OkC s) :
    Calls Try.prog 14 #[.pointer (some ⟨g, 0, none⟩)] w fun e w' => e = .returned (.int .i64 s.g) ∧ w' = w := by
  have c2 := h.c2
  have og := ok.g
  have om := ok.m
  obtain ⟨m, x, y⟩ := s
  simp only at c2 og om
  clear h ok
  have e1 : y + 1 - 1 = y := by omega
  go_enter Try.func14, Try.ntmps14
  go_wp2
  go_ret
  exact ⟨rfl, rfl⟩
theorem needs_nil23 (w : World) :
    Calls Try.prog 15 #[.pointer none] w fun e w' => e = .returned (.bool false) ∧ w' = w := by
  go_enter Try.func15, Try.ntmps15
  go_wp2_with (first
    | (go_at_call 13; ((with_reducible refine (wanted_nil23 _).mono ?_); rintro e w1 ⟨rfl, rfl⟩))
    | (go_at_call 14; ((with_reducible refine (goes_nil23 _).mono ?_); rintro e w1 ⟨rfl, rfl⟩)))
  go_ret
  exact ⟨rfl, rfl⟩
theorem needs_any23 (g : Nat) (s : Chs) (w : World) (h : PLay w g s) (ok : OkC s) :
    Calls Try.prog 15 #[.pointer (some ⟨g, 0, none⟩)] w fun e w' => e = .returned (.bool (s.w != s.g)) ∧ ∃ m, w' = w.drewN m := by
  have HW := Lib.hid (wanted_any23 g s w h ok)
  have HG := Lib.hid (goes_any23 g s w h ok)
  have hwg := h.wg
  obtain ⟨m, x, y⟩ := s
  simp only at HW HG hwg ⊢
  clear h ok
  by_cases hx : x = -1
  · have hy := hwg hx
    subst hx
    subst hy
    clear hwg
    go_enter Try.func15, Try.ntmps15
    go_wp2_with (first
      | (go_at_call 13; ((with_reducible refine HW.out.mono ?_); rintro e w1 ⟨rfl, rfl⟩))
      | (go_at_call 14; ((with_reducible refine HG.out.mono ?_); rintro e w1 ⟨rfl, rfl⟩)))
    go_ret
    exact ⟨rfl, 0, rfl⟩
  · have hd : decide (x = -1) = false := decide_eq_false hx
    clear hwg
    go_enter Try.func15, Try.ntmps15
    go_wp2_with (first
      | (go_at_call 13; ((with_reducible refine HW.out.mono ?_); rintro e w1 ⟨rfl, rfl⟩))
      | (go_at_call 14; ((with_reducible refine HG.out.mono ?_); rintro e w1 ⟨rfl, rfl⟩)))
    go_ret
    exact ⟨by simp [bne, hx], 0, rfl⟩

/-- Is there such a layer? -/
theorem has_any23 (g : Nat) (s : Chs) (l : Int) (w : World) (h : PLay w g s) :
    Calls Try.prog 16 #[.pointer (some ⟨g, 0, none⟩), .int .i64 l] w fun e w' => e = .returned (.bool (decide (0 ≤ l ∧ l < s.m))) ∧ w' = w := by
  have c0 := h.c0
  obtain ⟨m, x, y⟩ := s
  simp only at c0 ⊢
  clear h
  by_cases h1 : 0 ≤ l
  · by_cases h2 : l < m
    · rw [decide_eq_true (And.intro h1 h2)]
      go_enter Try.func16, Try.ntmps16
      go_wp2
      go_ret
      exact ⟨rfl, rfl⟩
    · rw [decide_eq_false (fun x : 0 ≤ l ∧ l < m => h2 x.2)]
      go_enter Try.func16, Try.ntmps16
      go_wp2
      go_ret
      exact ⟨rfl, rfl⟩
  · rw [decide_eq_false (fun x : 0 ≤ l ∧ l < m => h1 x.1)]
    go_enter Try.func16, Try.ntmps16
    go_wp2
    go_ret
    exact ⟨rfl, rfl⟩

theorem new_no23 (m : Int) (w : World) (hm : -9223372036854775808 ≤ m ∧ m ≤ 9223372036854775807) (h : ¬ (1 ≤ m ∧ m ≤ 4)) :
    Calls Try.prog 7 #[.int .i64 m] w fun e w' => e = .returned (.pointer none) ∧ Hid (Below w.heap.size w w') := by
  by_cases h1 : m < 1
  · clear h
    go_enter Try.func7, Try.ntmps7
    go_wp2
    go_ret
    exact ⟨rfl, Lib.hid (Below.refl _ _)⟩
  · have h2 : 4 < m := by omega
    clear h h1
    go_enter Try.func7, Try.ntmps7
    go_wp2
    go_ret
    exact ⟨rfl, Lib.hid (Below.refl _ _)⟩
theorem new_ok23 (m : Int) (w : World) (h : 1 ≤ m ∧ m ≤ 4) :
    Calls Try.prog 7 #[.int .i64 m] w fun e w' => ∃ q F, e = .returned (.pointer (some q)) ∧ Hid (T23 w' (.pointer (some q)) (newC m) F ∧ (∀ k, F k → w.heap.size ≤ k) ∧ Below w.heap.size w w') := by
  have h1 := h.1
  have h2 := h.2
  clear h
  go_enter Try.func7, Try.ntmps7
  go_wp2
  go_ret
  exact ⟨_, (fun k => k = w.heap.size), rfl, Lib.hid ⟨⟨_, rfl, ⟨BlkV.new w _ (chc (newC m)), fun _ => rfl⟩, fun k => Iff.rfl⟩, fun k hk => by omega, (Below.refl _ _).alloc (Nat.le_refl _) _⟩⟩

theorem want_nil23 (w : World) (l : Int) :
    Calls Try.prog 11 #[.pointer none, .int .i64 l] w fun e w' => e = .returned (.int .i64 1) ∧ Hid (Below w.heap.size w w') := by
  go_enter Try.func11, Try.ntmps11
  go_wp2
  go_ret
  exact ⟨rfl, Lib.hid (Below.refl _ _)⟩
theorem want_any23 (g : Nat) (s : Chs) (F : Nat → Prop) (l : Int) (w : World) (h : PLay w g s) (hF : ∀ k, F k ↔ k = g) (ok : OkC s) (hl : -9223372036854775808 ≤ l ∧ l ≤ 9223372036854775807) :
    Calls Try.prog 11 #[.pointer (some ⟨g, 0, none⟩), .int .i64 l] w fun e w' => e = .returned (.int .i64 (wantE s l)) ∧ Hid (StpK T23 (.pointer (some ⟨g, 0, none⟩)) (wantS s l) F w w') := by
  have f1 := h.fr 1
  have f2 := h.fr 2
  have c1 := h.c1
  have c2 := h.c2
  have om := ok.m
  have HH := Lib.hid h
  have HF := Lib.hid hF
  have HC := Lib.hid (has_any23 g s l w h)
  by_cases h1 : l = -1
  · subst h1
    have e1 : wantE s (-1) = 0 := by unfold wantE; rw [if_neg (by omega)]
    have HS : Hid (∀ wx, PLay wx g s → PLay ((wx.setCell ⟨g, 1, none⟩ (.int .i64 0)).setCell ⟨g, 2, none⟩ (.int .i64 0)) g (wantS s (-1))) := Lib.hid fun wx hx => by
      unfold wantS
      rw [if_neg (by omega), if_pos rfl]
      exact ⟨BlkV.set_ (BlkV.set_ hx.blk 1 _) 2 _, fun _ => rfl⟩
    rw [e1]
    clear h hF ok e1
    go_enter Try.func11, Try.ntmps11
    go_wp2
    go_ret
    exact ⟨rfl, Lib.hid (t23_stp HF.out (Below.refl _ _) ((Only.set _ _ _ _).trans (Only.set _ _ _ _)) (HS.out w HH.out))⟩
  · by_cases h2 : 0 ≤ l ∧ l < s.m
    · have e1 : wantE s l = 0 := by unfold wantE; rw [if_neg (by omega)]
      have HS : Hid (∀ wx, PLay wx g s → PLay (wx.setCell ⟨g, 1, none⟩ (.int .i64 (l + 1))) g (wantS s l)) := Lib.hid fun wx hx => by
        unfold wantS
        rw [if_neg (by omega), if_neg h1]
        exact ⟨BlkV.set_ hx.blk 1 _, fun e => absurd e h1⟩
      rw [decide_eq_true h2] at HC
      rw [e1]
      have h20 := h2.1
      have h21 := h2.2
      clear h hF ok e1 h2
      go_enter Try.func11, Try.ntmps11
      go_wp2_with (go_at_call 16; ((with_reducible refine HC.out.mono ?_); rintro e w1 ⟨rfl, rfl⟩))
      go_ret
      exact ⟨rfl, Lib.hid (t23_stp HF.out (Below.refl _ _) (Only.set _ _ _ _) (HS.out _ HH.out))⟩
    · have e1 : wantE s l = 9 := by unfold wantE; rw [if_pos (by omega)]
      have e2 : wantS s l = s := by unfold wantS; rw [if_pos (by omega)]
      rw [decide_eq_false h2] at HC
      rw [e1, e2]
      clear h hF ok e1 e2 h2
      go_enter Try.func11, Try.ntmps11
      go_wp2_with (go_at_call 16; ((with_reducible refine HC.out.mono ?_); rintro e w1 ⟨rfl, rfl⟩))
      go_ret
      exact ⟨rfl, Lib.hid (t23_stp HF.out (Below.refl _ _) (Only.refl _ _) HH.out)⟩
end Go.Proofs.Ytejkballndfmmaa
