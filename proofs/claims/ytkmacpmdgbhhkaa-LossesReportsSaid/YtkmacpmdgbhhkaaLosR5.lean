/- What the document's answers for layer 20 (tenailleref20) answer: any index comes. No statement is proved here. -/
import Derived.Test.YtkmacpmdgbhhkaaLosR4
namespace Go.Proofs.Ytkmacpmdgbhhkaa
open Go.RowKit
set_option linter.unusedVariables false

theorem dropM_at {L : List Mis} {i : Int} {k : Nat} (hk : k < L.length) (hi : L[k].i = i) (hb : ∀ j (hj : j < L.length), j < k → L[j].i ≠ i) : dropM L i = L.eraseIdx k := by
  induction L generalizing k with
  | nil => simp at hk
  | cons x r ih =>
    unfold dropM at ih ⊢
    cases k with
    | zero => rw [List.eraseP_cons_of_pos (by simpa using hi)]; rfl
    | succ k =>
      have h0 : x.i ≠ i := hb 0 (by simp) (by omega)
      rw [List.eraseP_cons_of_neg (by simpa using h0), List.eraseIdx_cons_succ, ih (k := k) (by simpa using hk) (by simpa using hi) (fun j hj h => by have := hb (j + 1) (by simp; omega) (by omega); simpa using this)]
theorem dropM_none {L : List Mis} {i : Int} (hb : ∀ j (hj : j < L.length), L[j].i ≠ i) : dropM L i = L := by
  unfold dropM
  refine List.eraseP_of_forall_not fun x hx => ?_
  obtain ⟨j, hj, rfl⟩ := List.mem_iff_getElem.1 hx
  simpa using hb j hj

set_option maxRecDepth 100000 in
theorem rcame_old20 (g : Nat) (s : Kpr) (vI vT vN : Value) (i tk : Int) (w : World) (h : RKp 0 g s vI vT vN w) (hk : KOk s) (hi1 : 0 ≤ i) (hi2 : i ≤ 9223372036854775807) (hs : 0 ≤ s.h) (hle : i ≤ s.h) (hm : s.h ≤ 9223372036854775807) :
    Calls Try.prog 14 #[.pointer (some ⟨g, 0, none⟩), .int .i64 i, .int .i64 tk] w fun e w' => e = .returned (.tuple #[]) ∧ ∃ vI' vT' vN', Way20 w g (FKp g vI vT vN) (cameK s i tk) vI' vT' vN' w' := by
  have hc1 := h.c1
  have hml := hk.len
  have HW := Lib.hid (Way20.start h)
  have HE : Hid (cameK s i tk = { s with M := dropM s.M i }) := Lib.hid (by unfold cameK; rw [if_neg (by omega), if_neg (by omega), if_neg (by omega)])
  obtain ⟨p, hh, M⟩ := s
  simp only at hs hle hm hc1 hml HE
  obtain ⟨A1, d1, hv1⟩ := own_formN h.oi
  subst hv1
  have hc2 := h.c2
  obtain ⟨N, hN⟩ : ∃ N, N = M.length := ⟨_, rfl⟩
  simp only at hc2
  have HR : Hid (∀ k (hk : k < M.length), ∃ b1, A1 = some ⟨b1, 0, none⟩ ∧ w.cell? ⟨b1, k, none⟩ = some (.int .i64 M[k].i)) := Lib.hid fun k hk => by
    obtain ⟨b1, c1, e1, _, l1, cc⟩ := own_ints h.oi (by simp only; omega)
    injection e1 with e1 _ _
    have q1 := cc k (by simp only; omega)
    have f1 : (M.map (·.i)).getD k 0 = M[k].i := by simp [List.getD, hk]
    simp only at q1
    rw [f1] at q1
    exact ⟨b1, e1, q1⟩
  have HD := Lib.hid (fun k (hk : k < M.length) => rdrop_any20 0 g ⟨p, hh, M⟩ _ _ _ k w h (show M.length ≤ 1000 by omega) hk)
  rw [← hN] at hc2 hml
  have HN := Lib.hid hN
  have HF : Hid (∀ L vI2 vT2 vN2 wr, (dropM M i = L) → Way20 w g (FKp g (.slice A1 M.length d1) vT vN) ⟨p, hh, L⟩ vI2 vT2 vN2 wr → ∃ vI' vT' vN', Way20 w g (FKp g (.slice A1 M.length d1) vT vN) (cameK ⟨p, hh, M⟩ i tk) vI' vT' vN' wr) := Lib.hid fun L v1 v2 v3 wr h1 h2 => by
    rw [HE.out]; simp only [h1]; exact ⟨_, _, _, h2⟩
  clear h hk hN HE
  go_enter Try.func14, Try.ntmps14
  go_wp2
  go_loopw [8] (fun vx wr => wr = w ∧ ∃ k : Nat, vx = .int .i64 k ∧ k ≤ N ∧ Hid (∀ j (hj : j < M.length), j < k → M[j].i ≠ i)) (fun vx _ => N - (intOf vx).toNat)
  case atStart => exact ⟨rfl, 0, rfl, by omega, Lib.hid fun j _ hj => by omega⟩
  case round =>
    obtain ⟨rfl, k, rfl, hkN, HB⟩ := hrel
    by_cases hlt : k < N
    · have hki : (k : Int) < (N : Int) := by omega
      have hkl : k < M.length := by rw [← HN.out]; exact hlt
      obtain ⟨b1, rfl, hx⟩ := HR.out k hkl
      by_cases he : M[k].i = i
      · have HDD : Hid (Calls Try.prog 25 #[.pointer (some ⟨g, 0, none⟩), .int .i64 k] wr fun e w' => e = .returned (.tuple #[]) ∧ Hid (∃ vI' vT' vN', Way20 wr g (FKp g (.slice (some ⟨b1, 0, none⟩) M.length d1) vT vN) (cameK ⟨p, hh, M⟩ i tk) vI' vT' vN' w')) := Lib.hid (by
          refine (HD.out k hkl).mono ?_
          rintro e w' ⟨rfl, vI2, vT2, vN2, hr, hg⟩
          exact ⟨rfl, Lib.hid (HF.out _ _ _ _ _ (dropM_at hkl he HB.out) (HW.out.dropped hr hg))⟩)
        rw [he] at hx
        clear HD HF HR HB HW he hkl
        go_wp2_with (go_at_call 25; ((with_reducible refine (Hid.out HDD).mono ?_); rintro e w6 ⟨rfl, HK6⟩))
        exact bodyPost_ret (results_none rfl _ _ _) rfl ⟨rfl, HK6.out⟩
      · have HB2 : Hid (∀ j (hj : j < M.length), j < k + 1 → M[j].i ≠ i) := Lib.hid fun j hj h => by
          by_cases e : j = k
          · subst e; exact he
          · exact HB.out j hj (by omega)
        obtain ⟨y, hy⟩ : ∃ y, y = M[k].i := ⟨_, rfl⟩
        rw [← hy] at hx he
        have hey : (y == i) = false := by simpa using he
        clear HB hy hkl HF HR HW HD
        go_wp2
        go_roundw
        case rel => exact ⟨trivial, k + 1, by go_num, by omega, HB2⟩
        case measure => simp [intOf]; omega
    · obtain rfl : k = N := by omega
      have HX := Lib.hid (HF.out M _ _ _ _ (dropM_none fun j hj => HB.out j hj (by have := HN.out; omega)) HW.out)
      clear HB HF HR HW HD
      go_wp2
      go_end0
      exact ⟨rfl, HX.out⟩

theorem rcame_out20 (g : Nat) (s : Kpr) (vI vT vN : Value) (i tk : Int) (w : World) (h : RKp 0 g s vI vT vN w) (hi2 : -9223372036854775808 ≤ i ∧ i ≤ 9223372036854775807) (hm : -1 ≤ s.h ∧ s.h ≤ 9223372036854775807) (ho : i < 0 ∨ (0 ≤ s.h ∧ 1099511627776 < i - s.h)) :
    Calls Try.prog 14 #[.pointer (some ⟨g, 0, none⟩), .int .i64 i, .int .i64 tk] w fun e w' => e = .returned (.tuple #[]) ∧ ∃ vI' vT' vN', Way20 w g (FKp g vI vT vN) (cameK s i tk) vI' vT' vN' w' := by
  have hc1 := h.c1
  have HX : Hid (Way20 w g (FKp g vI vT vN) (cameK s i tk) vI vT vN w) := Lib.hid (by unfold cameK; rw [if_pos ho]; exact Way20.start h)
  obtain ⟨p, hh, M⟩ := s
  simp only at hc1 ho hm
  clear h
  by_cases hi : i < 0
  · clear ho
    go_enter Try.func14, Try.ntmps14
    go_wp2
    all_goals exact bodyPost_ret (results_none rfl _ _ _) rfl ⟨rfl, _, _, _, HX.out⟩
  · obtain ⟨h1, h2⟩ : 0 ≤ hh ∧ 1099511627776 < i - hh := by omega
    clear ho
    go_enter Try.func14, Try.ntmps14
    go_wp2
    all_goals exact bodyPost_ret (results_none rfl _ _ _) rfl ⟨rfl, _, _, _, HX.out⟩

theorem rcame_first20 (g : Nat) (s : Kpr) (vI vT vN : Value) (i tk : Int) (w : World) (h : RKp 0 g s vI vT vN w) (hi1 : 0 ≤ i) (hi2 : i ≤ 9223372036854775807) (hm : s.h = -1) :
    Calls Try.prog 14 #[.pointer (some ⟨g, 0, none⟩), .int .i64 i, .int .i64 tk] w fun e w' => e = .returned (.tuple #[]) ∧ ∃ vI' vT' vN', Way20 w g (FKp g vI vT vN) (cameK s i tk) vI' vT' vN' w' := by
  have hc1 := h.c1
  have hf1 := h.blk.frozen 1
  have HX : Hid (Way20 w g (FKp g vI vT vN) (cameK s i tk) vI vT vN (w.setCell ⟨g, 1, none⟩ (.int .i64 i))) := Lib.hid (by unfold cameK; rw [if_neg (by omega), if_pos (by omega)]; exact (Way20.start h).high i)
  obtain ⟨p, hh, M⟩ := s
  simp only at hc1 hm
  subst hm
  clear h
  go_enter Try.func14, Try.ntmps14
  go_wp2
  all_goals exact bodyPost_ret (results_none rfl _ _ _) rfl ⟨rfl, _, _, _, HX.out⟩

theorem rcame_any20 (g : Nat) (s : Kpr) (vI vT vN : Value) (i tk : Int) (w : World) (h : RKp 0 g s vI vT vN w) (hk : KOk s) (hi : -9223372036854775808 ≤ i ∧ i ≤ 9223372036854775807) (hm : s.h ≤ 9223372036854775807) :
    Calls Try.prog 14 #[.pointer (some ⟨g, 0, none⟩), .int .i64 i, .int .i64 tk] w fun e w' => e = .returned (.tuple #[]) ∧ ∃ vI' vT' vN', Way20 w g (FKp g vI vT vN) (cameK s i tk) vI' vT' vN' w' := by
  have := hk.h
  by_cases ho : i < 0 ∨ (0 ≤ s.h ∧ 1099511627776 < i - s.h)
  · exact rcame_out20 g s vI vT vN i tk w h hi ⟨this, hm⟩ ho
  · by_cases h0 : s.h < 0
    · exact rcame_first20 g s vI vT vN i tk w h (by omega) hi.2 (by omega)
    · by_cases h1 : s.h < i
      · exact rcame_far20 g s vI vT vN i tk w h hk (by omega) hi.2 (by omega) (by omega) h1
      · exact rcame_old20 g s vI vT vN i tk w h hk (by omega) hi.2 (by omega) (by omega) hm
end Go.Proofs.Ytkmacpmdgbhhkaa
