/- What the document's answers for layer 20 (tenailleref20) answer: an index comes above the highest one. No statement is proved here. -/
import Derived.Test.YtkmacpmdgbhhkaaLosR3
namespace Go.Proofs.Ytkmacpmdgbhhkaa
open Go.RowKit
set_option linter.unusedVariables false

/-- Indices are being filled in. -/
def Fil20 (w : World) (g : Nat) (F : Nat → Prop) (p h : Int) (M : List Mis) (f tk : Int) (j : Nat) (wr : World) : Prop := ∃ vI vT vN, Way20 w g F ⟨p, h, M ++ fillM f j tk⟩ vI vT vN wr
/-- The eldest are being dropped. -/
def Old20 (w : World) (g : Nat) (F : Nat → Prop) (p h : Int) (M : List Mis) (wr : World) : Prop := ∃ vI vT vN L, Way20 w g F ⟨p, h, L⟩ vI vT vN wr ∧ lastM L = lastM M ∧ L.length ≤ 1000

/-- How many a keeper's cell says are missed. -/
def lenK (w : World) (g : Nat) : Nat := match w.cell? ⟨g, 2, none⟩ with | some (.slice _ n _) => n | _ => 0
theorem lenK_is {w : World} {b g : Nat} {s : Kpr} {vI vT vN : Value} (h : RKp b g s vI vT vN w) : lenK w g = s.M.length := by
  obtain ⟨A, c, hv⟩ := own_formN h.oi
  subst hv
  unfold lenK
  rw [h.c2]

set_option maxRecDepth 100000 in
set_option maxHeartbeats 1000000 in
theorem rcame_far20 (g : Nat) (s : Kpr) (vI vT vN : Value) (i tk : Int) (w : World) (h : RKp 0 g s vI vT vN w) (hk : KOk s) (hi1 : 0 ≤ i) (hi2 : i ≤ 9223372036854775807) (hs : 0 ≤ s.h) (hf : i - s.h ≤ 1099511627776) (hgt : s.h < i) :
    Calls Try.prog 14 #[.pointer (some ⟨g, 0, none⟩), .int .i64 i, .int .i64 tk] w fun e w' => e = .returned (.tuple #[]) ∧ ∃ vI' vT' vN', Way20 w g (FKp g vI vT vN) (cameK s i tk) vI' vT' vN' w' := by
  have hc1 := h.c1
  have hml := hk.len
  have HW := Lib.hid (Way20.start h)
  have HE : Hid (cameK s i tk = { s with h := i, M := lastM (s.M ++ fillM (fromM s.h i) (i - fromM s.h i).toNat tk) }) := Lib.hid (by unfold cameK; rw [if_neg (by omega), if_neg (by omega), if_pos hgt])
  obtain ⟨p, hh, M⟩ := s
  simp only at hs hf hgt hc1 hml HE
  have hfb := fromM_bd hgt
  have hfc : i - fromM hh i ≤ 100 := by unfold fromM; split <;> omega
  obtain ⟨F, hF⟩ : ∃ F, F = FKp g vI vT vN := ⟨_, rfl⟩
  obtain ⟨f, hff⟩ : ∃ f, f = fromM hh i := ⟨_, rfl⟩
  rw [← hF] at HW ⊢
  rw [← hff] at HE hfb hfc
  have hfv : (100 < i - (hh + 1) ∧ f = i - 100) ∨ (¬ 100 < i - (hh + 1) ∧ f = hh + 1) := by
    unfold fromM at hff
    by_cases e : 100 < i - (hh + 1)
    · rw [if_pos e] at hff; exact .inl ⟨e, hff⟩
    · rw [if_neg e] at hff; exact .inr ⟨e, hff⟩
  clear hF hk h hff
  go_enter Try.func14, Try.ntmps14
  go_wp2
  all_goals (
    go_loopw [7] (fun vx wr => ∃ (j : Nat), vx = .int .i64 (f + j) ∧ f + j ≤ i ∧ Hid (Fil20 w g F p hh M f tk j wr)) (fun vx _ => (i - intOf vx).toNat)
    case atStart => exact ⟨0, congrArg (Value.int .i64) (by omega), by omega, Lib.hid ⟨vI, vT, vN, by simpa [fillM] using HW.out⟩⟩
    case round =>
      clear hc1
      obtain ⟨j, rfl, hj, HL⟩ := hrel
      by_cases hlt : f + j < i
      · obtain ⟨vI1, vT1, vN1, h1⟩ := HL.out
        have hk1 := h1.kp3
        simp only at hk1
        obtain ⟨LI, hLI⟩ : ∃ LI, LI = (M ++ fillM f j tk).map (·.i) := ⟨_, rfl⟩
        obtain ⟨LT, hLT⟩ : ∃ LT, LT = (M ++ fillM f j tk).map (·.t) := ⟨_, rfl⟩
        obtain ⟨LN, hLN⟩ : ∃ LN, LN = (M ++ fillM f j tk).map (·.n) := ⟨_, rfl⟩
        rw [← hLI, ← hLT, ← hLN] at hk1
        have hll : LI.length ≤ 1000 ∧ LT.length ≤ 1000 ∧ LN.length ≤ 1000 := by
          rw [hLI, hLT, hLN]; simp only [List.length_map, List.length_append, fillM_len]; omega
        have HLS : Hid ((M ++ fillM f (j + 1) tk).map (·.i) = LI ++ [f + j] ∧ (M ++ fillM f (j + 1) tk).map (·.t) = LT ++ [0] ∧ (M ++ fillM f (j + 1) tk).map (·.n) = LN ++ [tk]) := Lib.hid (by
          rw [hLI, hLT, hLN, fillM_next]; simp)
        obtain ⟨A1, d1, hv1⟩ := own_formN hk1.oi
        obtain ⟨A2, d2, hv2⟩ := own_formN hk1.ot
        obtain ⟨A3, d3, hv3⟩ := own_formN hk1.on
        subst hv1; subst hv2; subst hv3
        clear hLI hLT hLN HL h1
        obtain ⟨l1, l2, l3⟩ := hll
        have hq := kp_cells hk1.blk
        obtain ⟨q1, q2, q3, q4, q5, q6, q7, q8⟩ := hq
        have HK := Lib.hid hk1
        clear hk1
        obtain ⟨N1, hN1⟩ : ∃ N1, N1 = LI.length := ⟨_, rfl⟩
        obtain ⟨N2, hN2⟩ : ∃ N2, N2 = LT.length := ⟨_, rfl⟩
        obtain ⟨N3, hN3⟩ : ∃ N3, N3 = LN.length := ⟨_, rfl⟩
        rw [← hN1] at HK q2 l1
        rw [← hN2] at HK q3 l2
        rw [← hN3] at HK q4 l3
        have HN := Lib.hid (And.intro hN1 (And.intro hN2 hN3))
        clear hN1 hN2 hN3
        go_wp2_with (first
          | (at_builtin; refine wpList_appV rfl (.tmp 63) (.tmp 65) e64K rfl 0 (.slice A1 N1 d1) N1 (icells LI) rfl ((own_cast HK.out.oi HN.out.1).alloc _) wr.heap.size rfl [.int .i64 (f + j)] rfl (by simp [Value.oneCell']) (BlkV.new wr 2 [.int .i64 (f + j)]) (by omega) (Nat.zero_le _) ?_; intro u1 w2 hown hg hnw; obtain ⟨B1, e1, hv⟩ := own_formN hown; subst hv; have K2 := HK.out.grown_i (own_uncast hown HN.out.1) hg hnw; have r1 := kp_cells K2.1; obtain ⟨r1, r2, r3, r4, r5, r6, r7, r8⟩ := r1; have HK2 := Lib.hid K2.2; clear K2 hown hg hnw)
          | (at_builtin; refine wpList_appV rfl (.tmp 73) (.tmp 75) e64K rfl 0 (.slice A3 N3 d3) N3 (icells LN) rfl ((own_cast HK2.out.on HN.out.2.2).alloc _) _ rfl [.int .i64 tk] rfl (by simp [Value.oneCell']) (BlkV.new_at _ _ _ _ _ (by simp) rfl) (by omega) (Nat.zero_le _) ?_; intro u2 w3 hown hg hnw; obtain ⟨B3, e3, hv⟩ := own_formN hown; subst hv; have K3 := HK2.out.grown_n (own_uncast hown HN.out.2.2) hg hnw; have s1 := kp_cells K3.1; obtain ⟨s1, s2, s3, s4, s5, s6, s7, s8⟩ := s1; have HK3 := Lib.hid K3.2; clear K3 hown hg hnw)
          | (at_builtin; refine wpList_appV rfl (.tmp 83) (.tmp 84) eintK rfl 0 (.slice A2 N2 d2) N2 (icells LT) rfl ((own_cast HK3.out.ot HN.out.2.1).alloc _) _ rfl [.int .i64 0] rfl (by simp [Value.oneCell']) (BlkV.new_at _ _ _ _ _ (by simp) rfl) (by omega) (Nat.zero_le _) ?_; intro u3 w4 hown hg hnw; obtain ⟨B2, e2, hv⟩ := own_formN hown; subst hv; have K4 := HK3.out.grown_t (own_uncast hown HN.out.2.1) hg hnw; have t1 := kp_cells K4.1; obtain ⟨t1, t2, t3, t4, t5, t6, t7, t8⟩ := t1; have HK4 := Lib.hid K4.2; clear K4 hown hg hnw))
        go_roundw
        case rel =>
          refine ⟨j + 1, by go_num, by omega, Lib.hid ⟨.slice B1 (N1 + 1) e1, .slice B2 (N2 + 1) e2, .slice B3 (N3 + 1) e3, Way20.of_kp3 ?_⟩⟩
          simp only
          rw [HLS.out.1, HLS.out.2.1, HLS.out.2.2]
          exact HK4.out
        case measure => simp [intOf]; omega
      · have hj2 : j = (i - f).toNat := by omega
        have HO : Hid (Old20 w g F p hh (M ++ fillM f (i - f).toNat tk) wr) := Lib.hid (by
          obtain ⟨vI1, vT1, vN1, h1⟩ := HL.out
          rw [hj2] at h1
          exact ⟨vI1, vT1, vN1, _, h1, rfl, by rw [List.length_append, fillM_len]; omega⟩)
        clear HL HW
        go_wp2
        go_loopw [] (fun wr => Hid (Old20 w g F p hh (M ++ fillM f (i - f).toNat tk) wr)) (fun wr => lenK wr g)
        case atStart => exact HO
        case round =>
          clear HO hj hj2 hlt
          obtain ⟨vI1, vT1, vN1, L, h1, hL, hl⟩ := hrel.out
          clear hrel
          have hln : Hid (∀ wx vI vT vN L, Way20 w g F ⟨p, hh, L⟩ vI vT vN wx → lenK wx g = L.length) := Lib.hid fun wx vI vT vN L h => lenK_is h.kp
          have HLN := Lib.hid (hln.out _ _ _ _ _ h1)
          obtain ⟨A1, d1, hv1⟩ := own_formN h1.kp.oi
          subst hv1
          have q2 := h1.kp.c2
          obtain ⟨N, hN⟩ : ∃ N, N = L.length := ⟨_, rfl⟩
          simp only at q2
          rw [← hN] at q2 hl
          by_cases h32 : 32 < N
          · have HD : Hid (Calls Try.prog 25 #[.pointer (some ⟨g, 0, none⟩), .int .i64 0] wr fun e w' => e = .returned (.tuple #[]) ∧ Hid (Old20 w g F p hh (M ++ fillM f (i - f).toNat tk) w' ∧ lenK w' g < lenK wr g)) := Lib.hid (by
              refine (rdrop_any20 0 g ⟨p, hh, L⟩ _ vT1 vN1 0 wr h1.kp (show L.length ≤ 1000 by omega) (show 0 < L.length by omega)).mono ?_
              rintro e w' ⟨rfl, vI2, vT2, vN2, hr, hg⟩
              refine ⟨rfl, Lib.hid ⟨⟨vI2, vT2, vN2, _, h1.dropped hr hg, (lastM_step (show 32 < L.length by omega)).trans hL, ?_⟩, ?_⟩⟩
              · show (L.eraseIdx 0).length ≤ 1000; simp only [List.length_eraseIdx]; split <;> omega
              · rw [HLN.out, lenK_is hr]; show (L.eraseIdx 0).length < L.length; simp only [List.length_eraseIdx]; split <;> omega)
            clear HLN hln h1 hL hN
            go_wp2_with (go_at_call 25; ((with_reducible refine (Hid.out HD).mono ?_); rintro e w6 ⟨rfl, HK6⟩))
            go_roundw
            case rel => exact Lib.hid HK6.out.1
            case measure => exact HK6.out.2
          · have HX : Hid (Way20 w g F ⟨p, i, lastM (M ++ fillM f (i - f).toNat tk)⟩ (.slice A1 L.length d1) vT1 vN1 (wr.setCell ⟨g, 1, none⟩ (.int .i64 i))) := Lib.hid (by
              rw [← hL, lastM_self (by omega)]; exact h1.high i)
            have q5 := h1.kp.blk.frozen 1
            have q1 := h1.kp.c1
            simp only at q1
            clear HLN hln h1 hL hN
            go_wp2
            exact bodyPost_ret (results_none rfl _ _ _) rfl ⟨rfl, _, _, _, by rw [HE.out]; exact HX.out⟩)
end Go.Proofs.Ytkmacpmdgbhhkaa
