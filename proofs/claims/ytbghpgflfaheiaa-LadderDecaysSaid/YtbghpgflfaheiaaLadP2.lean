/- Contracts of package ladder: one anew, a reset, a copy, strikes. No statement is proved here. -/
import Derived.Test.YtbghpgflfaheiaaLadP1
import Derived.Test.YtbghpgflfaheiaaLadL1
namespace Go.Proofs.Ytbghpgflfaheiaa
open Go.RowKit
set_option linter.unusedVariables false

theorem rowLad21 : RowTy Try.prog 43 5 := ⟨_, Try.underlying43, rfl, by kernel_rfl⟩
theorem zeroLad21 (w : World) : (zeroValue 43).run Try.prog w = .ok (.agg #[.int .i64 0, .int .i64 0, .int .i64 0, .int .i64 0, .int .i64 0]) w := by kernel_rfl
theorem first_any21 (S H D : Int) (w : World) :
    Calls Try.prog 20 #[.agg #[.int .i64 S, .int .i64 H, .int .i64 D]] w fun e w' => e = .returned (.agg #[.int .i64 S, .int .i64 H, .int .i64 D, .int .i64 0, .int .i64 D]) ∧ Below w.heap.size w w' := by
  have hz := zeroLad21
  have b0 : Below w.heap.size w ((w.alloc (.cells #[.int .i64 S, .int .i64 H, .int .i64 D] 23)).alloc (.cells #[.int .i64 S, .int .i64 H, .int .i64 D, .int .i64 0, .int .i64 D] 43)) := ((Below.refl _ _).alloc (Nat.le_refl _) _).alloc (by simp) _
  have hB : BlkV ((w.alloc (.cells #[.int .i64 S, .int .i64 H, .int .i64 D] 23)).alloc (.cells #[.int .i64 S, .int .i64 H, .int .i64 D, .int .i64 0, .int .i64 D] 43)) (w.heap.size + 1) 43 [.int .i64 S, .int .i64 H, .int .i64 D, .int .i64 0, .int .i64 D] := by
    have e : (w.alloc (.cells #[.int .i64 S, .int .i64 H, .int .i64 D] 23)).heap.size = w.heap.size + 1 := by simp
    rw [← e]
    exact BlkV.new _ _ _
  go_enter Try.func20, Try.ntmps20
  go_wp2
  exact ret_row (by rfl) (by rfl) hB rowLad21 (by rfl) ⟨rfl, b0⟩

theorem new_no21 (S H D : Int) (w : World) (h : ¬ mayR S H D) :
    Calls Try.prog 8 #[.agg #[.int .i64 S, .int .i64 H, .int .i64 D]] w fun e w' => e = .returned (.pointer none) ∧ Hid (Below w.heap.size w w') := by
  by_cases h1 : S < 1
  · clear h
    go_enter Try.func8, Try.ntmps8
    go_wp2
    go_ret
    exact ⟨rfl, Lib.hid ((Below.refl _ _).alloc (Nat.le_refl _) _)⟩
  have h1' : 1 ≤ S := by omega
  by_cases h2 : H ≤ S
  · clear h h1
    go_enter Try.func8, Try.ntmps8
    go_wp2
    go_ret
    exact ⟨rfl, Lib.hid ((Below.refl _ _).alloc (Nat.le_refl _) _)⟩
  have h2' : S < H := by omega
  by_cases h3 : 1000 < H
  · clear h h1 h2
    go_enter Try.func8, Try.ntmps8
    go_wp2
    go_ret
    exact ⟨rfl, Lib.hid ((Below.refl _ _).alloc (Nat.le_refl _) _)⟩
  have h3' : H ≤ 1000 := by omega
  have h4 : D < 1 := by
    by_cases h4 : D < 1
    · exact h4
    · exact absurd ⟨h1', h2', h3', by omega⟩ h
  clear h h1 h2 h3
  go_enter Try.func8, Try.ntmps8
  go_wp2
  go_ret
  exact ⟨rfl, Lib.hid ((Below.refl _ _).alloc (Nat.le_refl _) _)⟩
theorem t21_new (w : World) (s : Ldr) (hs : s.sh = decide (s.H ≤ s.k)) : T21 (w.alloc (.cells #[.int .i64 s.S, .int .i64 s.H, .int .i64 s.D, .int .i64 s.k, .int .i64 s.l] 43)) (.pointer (some ⟨w.heap.size, 0, none⟩)) s (fun k => k = w.heap.size) :=
  ⟨_, rfl, ⟨BlkV.new w _ s.cellsP, hs⟩, fun k => Iff.rfl⟩
theorem new_ok21 (S H D : Int) (w : World) (h : mayR S H D) :
    Calls Try.prog 8 #[.agg #[.int .i64 S, .int .i64 H, .int .i64 D]] w fun e w' => ∃ q F, e = .returned (.pointer (some q)) ∧ Hid (T21 w' (.pointer (some q)) (newR S H D) F ∧ (∀ k, F k → w.heap.size ≤ k) ∧ Below w.heap.size w w') := by
  obtain ⟨h1, h2, h3, h4⟩ := h
  have HS : Hid ((newR S H D).sh = decide ((newR S H D).H ≤ (newR S H D).k)) := Lib.hid (decide_eq_false (show ¬ H ≤ 0 by omega)).symm
  go_enter Try.func8, Try.ntmps8
  go_wp2_with (go_at_call 20; ((with_reducible refine (first_any21 S H D _).mono ?_); rintro e w1 ⟨rfl, hb⟩; have HB : Hid (Below w.heap.size w w1) := Lib.hid (((Below.refl w.heap.size w).alloc (Nat.le_refl _) _).trans (hb.mono (by simp))); clear hb))
  go_ret
  exact ⟨_, _, rfl, Lib.hid ⟨t21_new w1 (newR S H D) HS.out, fun k hk => by have := HB.out.size; omega, HB.out.alloc HB.out.size _⟩⟩

theorem copy_nil21 (w : World) :
    Calls Try.prog 11 #[.pointer none] w fun e w' => e = .returned (.pointer none) ∧ Hid (Below w.heap.size w w') := by
  go_enter Try.func11, Try.ntmps11
  go_wp2
  go_ret
  exact ⟨rfl, Lib.hid (Below.refl _ _)⟩
theorem copy_any21 (g : Nat) (s : Ldr) (w : World) (h : PLad w g s) :
    Calls Try.prog 11 #[.pointer (some ⟨g, 0, none⟩)] w fun e w' => ∃ q2 F2, e = .returned (.pointer (some q2)) ∧ Hid (T21 w' (.pointer (some q2)) s F2 ∧ (∀ k, F2 k → w.heap.size ≤ k) ∧ Below w.heap.size w w') := by
  have c0 := h.c0
  have c1 := h.c1
  have c2 := h.c2
  have c3 := h.c3
  have c4 := h.c4
  have HS := Lib.hid h.sh
  clear h
  go_enter Try.func11, Try.ntmps11
  go_wp2
  go_ret
  exact ⟨_, _, rfl, Lib.hid ⟨t21_new w s HS.out, fun k hk => by omega, (Below.refl _ _).alloc (Nat.le_refl _) _⟩⟩

theorem reset_nil21 (w : World) :
    Calls Try.prog 15 #[.pointer none] w fun e w' => e = .returned (.tuple #[]) ∧ Hid (Below w.heap.size w w') := by
  go_enter Try.func15, Try.ntmps15
  go_wp2
  go_end0
  exact ⟨rfl, Lib.hid (Below.refl _ _)⟩
/-- A step behind which the ladder lies where it lay. -/
theorem t21_stp {w w1 w2 : World} {g : Nat} {s2 : Ldr} {F : Nat → Prop} (hF : ∀ k, F k ↔ k = g) (hg : g < w.heap.size) (hb : Below w.heap.size w w1) (ho : Only g w1 w2) (h : PLad w2 g s2) : StpK T21 (.pointer (some ⟨g, 0, none⟩)) s2 F w w2 :=
  ⟨F, ⟨g, rfl, h, hF⟩, Fr.behind hb (Fr.of_only ho ((hF g).2 rfl)), fun k hk => .inl hk⟩
theorem reset_any21 (g : Nat) (s : Ldr) (F : Nat → Prop) (w : World) (h : PLad w g s) (hF : ∀ k, F k ↔ k = g) (ok : OkR s) :
    Calls Try.prog 15 #[.pointer (some ⟨g, 0, none⟩)] w fun e w' => e = .returned (.tuple #[]) ∧ Hid (StpK T21 (.pointer (some ⟨g, 0, none⟩)) (newR s.S s.H s.D) F w w') := by
  have c0 := h.c0
  have c1 := h.c1
  have c2 := h.c2
  have HS : Hid ((newR s.S s.H s.D).sh = decide ((newR s.S s.H s.D).H ≤ (newR s.S s.H s.D).k)) := Lib.hid (decide_eq_false (show ¬ s.H ≤ 0 by have := ok.may.1; have := ok.may.2.1; omega)).symm
  have HH := Lib.hid h
  have HF := Lib.hid hF
  clear h hF ok
  go_enter Try.func15, Try.ntmps15
  go_wp2_with (go_at_call 20; ((with_reducible refine (first_any21 s.S s.H s.D _).mono ?_); rintro e w1 ⟨rfl, hb⟩; have HB := Lib.hid hb; have HP : PLad w1 g s := ⟨BlkV.below HH.out.blk hb HH.out.lt, HH.out.sh⟩; have k0 := HP.c0; have k1 := HP.c1; have k2 := HP.c2; have k3 := HP.c3; have k4 := HP.c4; have j0 := HP.fr 0; have j1 := HP.fr 1; have j2 := HP.fr 2; have j3 := HP.fr 3; have j4 := HP.fr 4; have HP2 := Lib.hid HP; clear hb HP))
  go_end0
  exact ⟨rfl, Lib.hid (t21_stp HF.out HH.out.lt HB.out (((((Only.set _ _ _ _).trans (Only.set _ _ _ _)).trans (Only.set _ _ _ _)).trans (Only.set _ _ _ _)).trans (Only.set _ _ _ _)) ⟨BlkV.set_ (BlkV.set_ (BlkV.set_ (BlkV.set_ (BlkV.set_ HP2.out.blk 0 _) 1 _) 2 _) 3 _) 4 _, HS.out⟩)⟩

theorem strike_nil21 (n : Int) (w : World) :
    Calls Try.prog 13 #[.pointer none, .int .i64 n] w fun e w' => e = .returned (.tuple #[]) ∧ Hid (Below w.heap.size w w') := by
  go_enter Try.func13, Try.ntmps13
  go_wp2
  exact bodyPost_ret (results_none rfl _ _ _) rfl ⟨rfl, Lib.hid (Below.refl _ _)⟩
theorem strike_any21 (g : Nat) (s : Ldr) (n : Int) (F : Nat → Prop) (w : World) (h : PLad w g s) (hF : ∀ k, F k ↔ k = g) (ok : OkR s) (hn : -9223372036854775808 ≤ n ∧ n ≤ 9223372036854775807) :
    Calls Try.prog 13 #[.pointer (some ⟨g, 0, none⟩), .int .i64 n] w fun e w' => e = .returned (.tuple #[]) ∧ Hid (StpK T21 (.pointer (some ⟨g, 0, none⟩)) (strR s n) F w w') := by
  have HF := Lib.hid hF
  have HH := Lib.hid h
  by_cases h1 : n < 1
  · have e : strR s n = s := by unfold strR; rw [if_pos h1]
    rw [e]
    clear h hF ok e
    go_enter Try.func13, Try.ntmps13
    go_wp2
    exact bodyPost_ret (results_none rfl _ _ _) rfl ⟨rfl, Lib.hid (t21_stp HF.out HH.out.lt (Below.refl _ _) (Only.refl _ _) HH.out)⟩
  · have c2 := h.c2
    have c3 := h.c3
    have c4 := h.c4
    have f3 := h.fr 3
    have f4 := h.fr 4
    have k0 := ok.k0
    have k1 := ok.k1
    have h1' : 1 ≤ n := by omega
    have HS : Hid (∀ K, addR s.k n = K → T21 ((w.setCell ⟨g, 3, none⟩ (.int .i64 K)).setCell ⟨g, 4, none⟩ (.int .i64 s.D)) (.pointer (some ⟨g, 0, none⟩)) (strR s n) F) := Lib.hid fun K hK => by
      unfold strR
      rw [if_neg h1, hK]
      refine ⟨g, rfl, ⟨BlkV.set_ (BlkV.set_ h.blk 3 _) 4 _, ?_⟩, hF⟩
      show (s.sh || decide (s.H ≤ K)) = decide (s.H ≤ K)
      rw [h.sh]
      by_cases hH : s.H ≤ s.k
      · have : s.H ≤ K := by rw [← hK]; unfold addR; split <;> omega
        simp [this]
      · simp [hH]
    obtain ⟨S, H, D, k, l, sh⟩ := s
    simp only at c2 c3 c4 k0 k1 HS
    clear h hF ok h1
    by_cases hk : n ≤ 1000 - k
    · have HK : Hid (addR k n = k + n) := Lib.hid (by unfold addR; rw [if_neg (by omega)])
      go_enter Try.func13, Try.ntmps13
      go_wp2
      go_region
      all_goals (try go_wp2)
      go_end0
      have HT := lone21.below (HS.out _ HK.out) (below_drewN (Below.refl _ _) 1)
      exact ⟨rfl, Lib.hid ⟨F, HT, (Fr.of_only (((Only.set w g _ _).trans (Only.set _ _ _ _)).trans ⟨rfl, rfl, rfl, rfl, fun _ _ => rfl⟩) ((HF.out g).2 rfl)), fun k hk => .inl hk⟩⟩
    · have HK : Hid (addR k n = k + (1000 - k)) := Lib.hid (by unfold addR; split <;> omega)
      have hk' : 1000 - k < n := by omega
      go_enter Try.func13, Try.ntmps13
      go_wp2
      go_region
      all_goals (try go_wp2)
      go_end0
      have HT := lone21.below (HS.out _ HK.out) (below_drewN (Below.refl _ _) 1)
      exact ⟨rfl, Lib.hid ⟨F, HT, (Fr.of_only (((Only.set w g _ _).trans (Only.set _ _ _ _)).trans ⟨rfl, rfl, rfl, rfl, fun _ _ => rfl⟩) ((HF.out g).2 rfl)), fun k hk => .inl hk⟩⟩


theorem tick_nil21 (w : World) :
    Calls Try.prog 16 #[.pointer none] w fun e w' => e = .returned (.tuple #[]) ∧ Hid (Below w.heap.size w w') := by
  go_enter Try.func16, Try.ntmps16
  go_wp2
  exact bodyPost_ret (results_none rfl _ _ _) rfl ⟨rfl, Lib.hid (Below.refl _ _)⟩
theorem fld21 (b : Bool) (w : World) : (Instr.field 46 (.agg #[.bool b]) 0).run Try.prog w = .ok (.bool b) w := by kernel_rfl
theorem tick_any21 (g : Nat) (s : Ldr) (F : Nat → Prop) (w : World) (h : PLad w g s) (hF : ∀ k, F k ↔ k = g) (ok : OkR s) :
    Calls Try.prog 16 #[.pointer (some ⟨g, 0, none⟩)] w fun e w' => e = .returned (.tuple #[]) ∧ Hid (StpK T21 (.pointer (some ⟨g, 0, none⟩)) (tikR s) F w w') := by
  have HF := Lib.hid hF
  have HH := Lib.hid h
  have hfl := fld21
  have HC := Lib.hid (fun wx (hx : PLad wx g s) => stands_any21 g s wx hx)
  by_cases hH : s.H ≤ s.k
  · have hsh : s.sh = true := by rw [h.sh]; exact decide_eq_true hH
    have e : tikR s = s := by unfold tikR; rw [if_pos hsh]
    have e2 : staR s = 2 := by unfold staR; rw [if_pos hsh]
    rw [e]
    rw [e2] at HC
    clear h hF ok e e2 hsh hH
    go_enter Try.func16, Try.ntmps16
    go_wp2_with (first
      | (go_at_call 21; ((with_reducible refine (lets_any21 _).mono ?_); rintro e w1 ⟨rfl, hm⟩; have HP : Hid (PLad w1 g s) := Lib.hid ⟨BlkV.below HH.out.blk hm.out.2 HH.out.lt, HH.out.sh⟩))
      | (go_at_call 22; ((with_reducible refine (HC.out _ HP.out).mono ?_); rintro e w2 ⟨rfl, m, hm2⟩; have hlk := run_lkp21 w2 _ ents3 3 2 2 (.agg #[.bool false]) (by rw [hm2]; exact hm.out.1) rfl rfl; have HB2 : Hid (Below w.heap.size w w2) := Lib.hid (by rw [hm2]; exact below_drewN hm.out.2 m); have HP2 : Hid (PLad w2 g s) := Lib.hid (by rw [hm2]; exact ⟨HP.out.blk, HP.out.sh⟩); clear hm2)))
    exact bodyPost_ret (results_none rfl _ _ _) rfl ⟨rfl, Lib.hid (t21_stp HF.out HH.out.lt HB2.out (Only.refl _ _) HP2.out)⟩
  · have hsh : s.sh = false := by rw [h.sh]; exact decide_eq_false hH
    obtain ⟨z, hz, HL⟩ : ∃ z, staR s = z ∧ Hid (∀ (w2 : World) (b : Nat), w2.heap[b]? = some (.map ents3 3) → (Instr.lookup 47 (.map (some b)) (.int .i64 z) false).run Try.prog w2 = .ok (.agg #[.bool true]) w2) := by
      unfold staR
      rw [if_neg (by rw [hsh]; simp)]
      by_cases hS : s.S ≤ s.k
      · exact ⟨1, by rw [if_pos hS], Lib.hid fun w2 b hb => run_lkp21 w2 b ents3 3 1 1 _ hb rfl rfl⟩
      · exact ⟨0, by rw [if_neg hS], Lib.hid fun w2 b hb => run_lkp21 w2 b ents3 3 0 0 _ hb rfl rfl⟩
    rw [hz] at HC
    have l0 := ok.l0
    have l1 := ok.l1
    have k0 := ok.k0
    have k1 := ok.k1
    have hD := ok.D
    by_cases hl : s.l = 1
    · obtain ⟨K, hK⟩ : ∃ K, K = (if 0 < s.k then s.k - 1 else s.k) := ⟨_, rfl⟩
      have HK : Hid (∀ wx, PLad wx g s → PLad (((wx.setCell ⟨g, 4, none⟩ (.int .i64 0)).setCell ⟨g, 3, none⟩ (.int .i64 K)).setCell ⟨g, 4, none⟩ (.int .i64 s.D)) g (tikR s)) := Lib.hid fun wx hx => by
        unfold tikR
        rw [if_neg (by rw [hsh]; simp), if_pos hl, ← hK]
        refine ⟨BlkV.set_ (BlkV.set_ (BlkV.set_ hx.blk 4 _) 3 _) 4 _, ?_⟩
        show s.sh = decide (s.H ≤ K)
        rw [hsh]
        exact (decide_eq_false (by rw [hK]; split <;> omega)).symm
      by_cases hk : 0 < s.k
      · rw [if_pos hk] at hK
        subst hK
        have hkk : ¬ s.k - 1 < 0 := by omega
        clear h hF ok hz hsh hH
        obtain ⟨S, H, D, k, l, sh⟩ := s
        simp only at l0 l1 k0 k1 hD hl hk hkk HK
        subst hl
        go_enter Try.func16, Try.ntmps16
        go_wp2_with (first
          | (go_at_call 21; ((with_reducible refine (lets_any21 _).mono ?_); rintro e w1 ⟨rfl, hm⟩; have HP : Hid (PLad w1 g ⟨S, H, D, k, 1, sh⟩) := Lib.hid ⟨BlkV.below HH.out.blk hm.out.2 HH.out.lt, HH.out.sh⟩))
          | (go_at_call 22; ((with_reducible refine (HC.out _ HP.out).mono ?_); rintro e w2 ⟨rfl, m, hm2⟩; have hlk := HL.out w2 w.heap.size (by rw [hm2]; exact hm.out.1); have HB2 : Hid (Below w.heap.size w w2) := Lib.hid (by rw [hm2]; exact below_drewN hm.out.2 m); have HP2 : PLad w2 g ⟨S, H, D, k, 1, sh⟩ := (by rw [hm2]; exact ⟨HP.out.blk, HP.out.sh⟩); have c2 := HP2.c2; have c3 := HP2.c3; have c4 := HP2.c4; have f3 := HP2.fr 3; have f4 := HP2.fr 4; have HP3 := Lib.hid HP2; clear hm2 HP2)))
        go_end0
        exact ⟨rfl, Lib.hid (t21_stp HF.out HH.out.lt HB2.out (((Only.set _ _ _ _).trans (Only.set _ _ _ _)).trans (Only.set _ _ _ _)) (HK.out w2 HP3.out))⟩
      · rw [if_neg hk] at hK
        subst hK
        have hk2 : s.k = 0 := by omega
        clear h hF ok hz hsh hH hk
        obtain ⟨S, H, D, k, l, sh⟩ := s
        simp only at l0 l1 k0 k1 hD hl hk2 HK
        subst hl
        subst hk2
        go_enter Try.func16, Try.ntmps16
        go_wp2_with (first
          | (go_at_call 21; ((with_reducible refine (lets_any21 _).mono ?_); rintro e w1 ⟨rfl, hm⟩; have HP : Hid (PLad w1 g ⟨S, H, D, 0, 1, sh⟩) := Lib.hid ⟨BlkV.below HH.out.blk hm.out.2 HH.out.lt, HH.out.sh⟩))
          | (go_at_call 22; ((with_reducible refine (HC.out _ HP.out).mono ?_); rintro e w2 ⟨rfl, m, hm2⟩; have hlk := HL.out w2 w.heap.size (by rw [hm2]; exact hm.out.1); have HB2 : Hid (Below w.heap.size w w2) := Lib.hid (by rw [hm2]; exact below_drewN hm.out.2 m); have HP2 : PLad w2 g ⟨S, H, D, 0, 1, sh⟩ := (by rw [hm2]; exact ⟨HP.out.blk, HP.out.sh⟩); have c2 := HP2.c2; have c3 := HP2.c3; have c4 := HP2.c4; have f3 := HP2.fr 3; have f4 := HP2.fr 4; have HP3 := Lib.hid HP2; clear hm2 HP2)))
        go_end0
        exact ⟨rfl, Lib.hid (t21_stp HF.out HH.out.lt HB2.out (((Only.set _ _ _ _).trans (Only.set _ _ _ _)).trans (Only.set _ _ _ _)) (HK.out w2 HP3.out))⟩
    · have HK : Hid (∀ wx, PLad wx g s → PLad (wx.setCell ⟨g, 4, none⟩ (.int .i64 (s.l - 1))) g (tikR s)) := Lib.hid fun wx hx => by
        unfold tikR
        rw [if_neg (by rw [hsh]; simp), if_neg hl]
        exact ⟨BlkV.set_ hx.blk 4 _, hx.sh⟩
      have hl2 : 0 < s.l - 1 := by omega
      clear h hF ok hz hsh hH hl
      obtain ⟨S, H, D, k, l, sh⟩ := s
      simp only at l0 l1 k0 k1 hD hl2 HK
      go_enter Try.func16, Try.ntmps16
      go_wp2_with (first
        | (go_at_call 21; ((with_reducible refine (lets_any21 _).mono ?_); rintro e w1 ⟨rfl, hm⟩; have HP : Hid (PLad w1 g ⟨S, H, D, k, l, sh⟩) := Lib.hid ⟨BlkV.below HH.out.blk hm.out.2 HH.out.lt, HH.out.sh⟩))
        | (go_at_call 22; ((with_reducible refine (HC.out _ HP.out).mono ?_); rintro e w2 ⟨rfl, m, hm2⟩; have hlk := HL.out w2 w.heap.size (by rw [hm2]; exact hm.out.1); have HB2 : Hid (Below w.heap.size w w2) := Lib.hid (by rw [hm2]; exact below_drewN hm.out.2 m); have HP2 : PLad w2 g ⟨S, H, D, k, l, sh⟩ := (by rw [hm2]; exact ⟨HP.out.blk, HP.out.sh⟩); have c2 := HP2.c2; have c3 := HP2.c3; have c4 := HP2.c4; have f3 := HP2.fr 3; have f4 := HP2.fr 4; have HP3 := Lib.hid HP2; clear hm2 HP2)))
      exact bodyPost_ret (results_none rfl _ _ _) rfl ⟨rfl, Lib.hid (t21_stp HF.out HH.out.lt HB2.out (Only.set _ _ _ _) (HK.out w2 HP3.out))⟩

theorem tells21 : Tells21 T21 where
  lone := lone21
  new_no := new_no21
  new_ok := fun S H D w h _ => new_ok21 S H D w h
  state := fun w q s F ⟨g, e, h, hF⟩ ok => by injection e with e; injection e with e; subst e; exact state_any21 g s w h
  strikes := fun w q s F ⟨g, e, h, hF⟩ ok => by injection e with e; injection e with e; subst e; exact strikes_any21 g s w h
  strike := fun w q s F n ⟨g, e, h, hF⟩ ok hn => by injection e with e; injection e with e; subst e; exact strike_any21 g s n F w h hF ok hn
  tick := fun w q s F ⟨g, e, h, hF⟩ ok => by injection e with e; injection e with e; subst e; exact tick_any21 g s F w h hF ok
  reset := fun w q s F ⟨g, e, h, hF⟩ ok => by injection e with e; injection e with e; subst e; exact reset_any21 g s F w h hF ok
  copy := fun w q s F ⟨g, e, h, hF⟩ ok => by injection e with e; injection e with e; subst e; exact copy_any21 g s w h
  stateNil := fun w => (state_nil21 w).mono fun _ _ ⟨a, m, b⟩ => ⟨a, Lib.hid (b ▸ drewN_bel w m)⟩
  strikesNil := fun w => (strikes_nil21 w).mono fun _ _ ⟨a, m, b⟩ => ⟨a, Lib.hid (b ▸ drewN_bel w m)⟩
  strikeNil := fun w n => strike_nil21 n w
  tickNil := tick_nil21
  resetNil := reset_nil21
  copyNil := copy_nil21
end Go.Proofs.Ytbghpgflfaheiaa
