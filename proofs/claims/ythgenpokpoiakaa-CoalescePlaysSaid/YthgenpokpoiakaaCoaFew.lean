/- CoalesceFew's walk: few requests go out, each within the interval. -/
import Derived.Test.YthgenpokpoiakaaCoaL1
import Derived.Test.YthgenpokpoiakaaBools
import Derived.Deep.DeepCutAuto
namespace Go.Proofs.Ythgenpokpoiakaa
open Go.RowKit
set_option linter.unusedVariables false

/-- What is so of a gate asked at each tick up to k: cnt requests from a up to b, wt the first tick that still waits. -/
structure FewG (s : Gte) (a b cnt wt : Int) (k : Nat) (d : Int) : Prop where
  lt : ∀ x ∈ s.O, x < (k : Int)
  len : s.O.length ≤ k
  idle : s.a = false → wt = -1
  busy : s.a = true → 0 ≤ wt ∧ wt < k + d ∧ ∀ x ∈ s.O, x < wt
  num : cnt = 0 ∨ ∃ y, a + (cnt - 1) * s.I ≤ y ∧ y < b ∧ ∃ x ∈ s.O.getLast?, y ≤ x
  num0 : 0 ≤ cnt ∧ cnt ≤ k
section
variable {s : Gte} {a b cnt wt : Int} {k : Nat}
theorem FewG.wait (h : FewG s a b cnt wt k 0) : -1 ≤ wt ∧ wt < k := by
  cases ha : s.a with
  | false => have := h.idle ha; omega
  | true => have := h.busy ha; omega
theorem FewG.asks (h : FewG s a b cnt wt k 0) : FewG (askG s) a b cnt (if wt < 0 then k else wt) k 1 := by
  refine ⟨h.lt, h.len, fun h2 => by simp [askG] at h2, fun _ => ?_, h.num, h.num0⟩
  split
  · exact ⟨by omega, by omega, h.lt⟩
  · rename_i hw
    have ha : s.a = true := by
      cases ha : s.a with
      | true => rfl
      | false => have := h.idle ha; omega
    obtain ⟨h1, h2, h3⟩ := h.busy ha
    exact ⟨h1, by omega, h3⟩
theorem FewG.more (h : FewG s a b cnt wt k 0) : FewG s a b cnt wt k 1 := ⟨h.lt, h.len, h.idle, fun ha => by obtain ⟨h1, h2, h3⟩ := h.busy ha; exact ⟨h1, by omega, h3⟩, h.num, h.num0⟩
theorem FewG.stays (h : FewG s a b cnt wt k 1) : FewG s a b cnt wt (k + 1) 0 :=
  ⟨fun x hx => by have := h.lt x hx; omega, by have := h.len; omega, h.idle, fun ha => by obtain ⟨h1, h2, h3⟩ := h.busy ha; exact ⟨h1, by omega, h3⟩, h.num, by have := h.num0; omega⟩
theorem FewG.soon (h : FewG s a b cnt wt k 1) (hd : s.a = true → ∃ x ∈ s.O.getLast?, (k : Int) - x < s.I) : wt < 0 ∨ (0 ≤ wt ∧ (k : Int) - wt < s.I) := by
  cases ha : s.a with
  | false => have := h.idle ha; omega
  | true =>
    obtain ⟨x, hx, h1⟩ := hd ha
    obtain ⟨h2, _, h3⟩ := h.busy ha
    have := h3 x (List.mem_of_getLast? hx)
    omega
theorem FewG.goes (h : FewG s a b cnt wt k 1) (hI : 1 ≤ s.I) (hl : lateG s k) : FewG ⟨s.I, false, s.O ++ [(k : Int)]⟩ a b (if a ≤ k ∧ (k : Int) < b then cnt + 1 else cnt) (-1) (k + 1) 0 := by
  refine ⟨fun x hx => ?_, ?_, fun _ => rfl, fun h2 => by simp at h2, ?_, ?_⟩
  · simp only [List.mem_append, List.mem_singleton] at hx
    rcases hx with hx | rfl
    · have := h.lt x hx; omega
    · omega
  · have := h.len; simp only [List.length_append, List.length_singleton]; omega
  · simp only [List.getLast?_append, List.getLast?_singleton]
    have hlast : ∀ x ∈ s.O.getLast?, x + s.I ≤ k := fun x hx => by have := hl x hx; omega
    split
    · right
      refine ⟨k, ?_, by omega, k, by simp, Int.le_refl _⟩
      rcases h.num with e | ⟨y, h1, h2, x, hx, h3⟩
      · rw [e]; simp; omega
      · have := hlast x hx
        have e : (cnt + 1 - 1) * s.I = (cnt - 1) * s.I + s.I := by rw [show cnt + 1 - 1 = (cnt - 1) + 1 by omega, Int.add_mul, Int.one_mul]
        omega
    · rcases h.num with e | ⟨y, h1, h2, x, hx, h3⟩
      · exact .inl e
      · exact .inr ⟨y, h1, h2, k, by simp, by have := hlast x hx; omega⟩
  · have := h.num0; split <;> omega
theorem FewG.few (h : FewG s a b cnt wt k 0) (hI : 1 ≤ s.I) : (b ≤ a → cnt = 0) ∧ (a < b → cnt ≤ (b - a + s.I - 1) / s.I + 1) := by
  have h0 := h.num0
  refine ⟨fun hab => ?_, fun hab => ?_⟩
  · rcases h.num with e | ⟨y, h1, h2, _⟩
    · exact e
    · rcases Int.lt_or_le cnt 1 with h3 | h3
      · omega
      · have : 0 ≤ (cnt - 1) * s.I := Int.mul_nonneg (by omega) (by omega)
        omega
  · rcases h.num with e | ⟨y, h1, h2, _⟩
    · have : 0 ≤ (b - a + s.I - 1) / s.I := Int.ediv_nonneg (by omega) (by omega)
      omega
    · have : cnt - 1 ≤ (b - a + s.I - 1) / s.I := Int.le_ediv_of_mul_le (by omega) (by omega)
      omega
theorem few0 (i : Int) (a b : Int) : FewG (newG i) a b 0 (-1) 0 0 := ⟨by simp [newG], by simp [newG], fun _ => rfl, fun h => by simp [newG] at h, .inl rfl, by omega⟩
end
/-- A gate of the call's own. -/
def Few24 (T : World → Value → Gte → (Nat → Prop) → Prop) (w0 : World) (q : Addr) (N : Int) (s : Gte) (wx : World) : Prop := OnK T w0 (fun _ => False) (.pointer (some q)) s wx ∧ OkG s ∧ s.I = N
theorem dueG_I (s : Gte) (t : Int) : (dueG s t).I = s.I := by unfold dueG; split <;> rfl
theorem FewG.wait1 {s : Gte} {a b cnt wt : Int} {k : Nat} (h : FewG s a b cnt wt k 1) : -1 ≤ wt ∧ wt < k + 1 := by
  cases ha : s.a with
  | false => have := h.idle ha; omega
  | true => have := h.busy ha; omega

set_option maxRecDepth 100000 in
set_option maxHeartbeats 2000000 in
theorem coalesceFew_walk {T : World → Value → Gte → (Nat → Prop) → Prop} (hT : Tells24 T) (iv : Int) (A : Option Addr) (n cap : Nat) (B : Nat → Bool) (av bv : Int) (w : World) (hi : 0 ≤ iv ∧ iv ≤ 255) (hr : RdB w A n B) (hav : 0 ≤ av ∧ av ≤ 255) (hbv : 0 ≤ bv ∧ bv ≤ 255) :
    Calls Try.prog 4 #[.int .u8 iv, .slice A n cap, .int .u8 av, .int .u8 bv] w fun e w' => e = .returned (.bool true) ∧ Below w.heap.size w w' := by
  have H := Lib.hid hT
  have HAL := Lib.hid (alive_any24 hT w)
  have hn := hr.small
  have HR := Lib.hid hr
  have HN := Lib.hid (fun wx => hT.new iv wx (by omega))
  obtain ⟨N, hN⟩ : ∃ N, N = (newG iv).I := ⟨_, rfl⟩
  have O1 : Hid (OkG (newG iv) ∧ (newG iv).I = N) := Lib.hid ⟨newG_ok (by omega), hN.symm⟩
  have HF0 : Hid (FewG (newG iv) av bv 0 (-1) 0 0) := Lib.hid (few0 iv av bv)
  have hN1 : (iv < 1 ∧ N = 1) ∨ (1 ≤ iv ∧ N = iv) := by
    rw [hN]; unfold newG; simp only
    split <;> omega
  have hNb : 1 ≤ N ∧ N ≤ 255 := by omega
  clear hT hr hN
  go_enter Try.func4, Try.ntmps4
  go_upto_if 22 with (go_at_call 6; ((with_reducible refine (Hid.out HAL).mono ?_); rintro e w1 ⟨rfl, hb1⟩; have HB1 := Lib.hid hb1; clear hb1))
  go_cut [9] (fun vn wx => vn = .int .i64 N ∧ wx = w1)
  case first =>
    rcases hN1 with ⟨h1, rfl⟩ | ⟨h1, rfl⟩
    · go_wp2
      go_meet
      exact ⟨rfl, rfl⟩
    · go_wp2
      go_meet
      exact ⟨rfl, rfl⟩
  case rest =>
    obtain ⟨rfl, rfl⟩ := hcut
    go_wp2_with (go_at_call 7; ((with_reducible refine (Hid.out HN _).mono ?_); rintro e w2 ⟨q, F, rfl, HK⟩; have HO : Hid (Few24 T w q N (newG iv) w2) := Lib.hid ⟨OnK.new HB1.out HK.out, O1.out⟩; clear HK))
    go_loopw [11, 14, 15] (fun vc vt vi wr => ∃ (k : Nat) (s : Gte) (cnt wt : Int), k ≤ n ∧ k ≤ 200 ∧ vc = .int .i64 cnt ∧ vt = .int .i64 wt ∧ vi = .int .i64 k ∧ Hid (FewG s av bv cnt wt k 0) ∧ Hid (Few24 T w q N s wr)) (fun _ _ i _ => n - (intOf i).toNat)
    case atStart => exact ⟨0, _, 0, -1, by omega, by omega, rfl, rfl, rfl, HF0, HO⟩
    case round =>
      clear HO HN HAL HB1 O1 HF0
      obtain ⟨k, s, cnt, wt, hk, hk80, rfl, rfl, rfl, HM, HS⟩ := hrel
      by_cases hlt : k < n
      · by_cases hk8 : k < 200
        · have hki : (k : Int) < (n : Int) := by omega
          have hk8i : (k : Int) < 200 := by omega
          obtain ⟨b, off, rfl, hcs⟩ := HR.out.at_ (by omega)
          have c0 := hcs wr HS.out.1.below k hlt
          obtain ⟨bb, hbb⟩ : ∃ bb, bb = B k := ⟨_, rfl⟩
          rw [← hbb] at c0
          have hw := HM.out.wait
          clear hcs hbb
          go_upto_if 43 with (fail)
          go_cut [14] (fun vt wx => ∃ (s1 : Gte) (wt1 : Int), vt = .int .i64 wt1 ∧ Hid (FewG s1 av bv cnt wt1 k 1) ∧ Hid (Few24 T w q N s1 wx))
          case first =>
            cases bb with
            | true =>
              have P1 := Lib.hid (Coa.ask H.out HS.out.1 HS.out.2.1)
              have HA := Lib.hid HM.out.asks
              have HOK := Lib.hid (And.intro (askG_ok HS.out.2.1) (show (askG s).I = N from HS.out.2.2))
              clear HM HS
              by_cases hw0 : wt < 0
              · rw [if_pos hw0] at HA
                go_wp2_with (go_at_call 9; ((with_reducible refine (Hid.out P1).mono ?_); rintro e w4 ⟨rfl, HK4⟩))
                go_meet
                exact ⟨_, _, rfl, HA, Lib.hid ⟨HK4.out, HOK.out⟩⟩
              · rw [if_neg hw0] at HA
                go_wp2_with (go_at_call 9; ((with_reducible refine (Hid.out P1).mono ?_); rintro e w4 ⟨rfl, HK4⟩))
                go_meet
                exact ⟨_, _, rfl, HA, Lib.hid ⟨HK4.out, HOK.out⟩⟩
            | false =>
              have HA := Lib.hid HM.out.more
              go_wp2
              go_meet
              exact ⟨_, _, rfl, HA, HS⟩
          case rest =>
            clear HM HS c0 hw
            obtain ⟨s1, wt1, rfl, HM, HS⟩ := hcut
            obtain ⟨x, hx⟩ : ∃ x, x = dueB s1 k := ⟨_, rfl⟩
            have hlen := HM.out.len
            have P2 := Lib.hid (Coa.due H.out HS.out.1 HS.out.2.1 (by omega) (k : Int) (by omega) x hx.symm)
            have HOK := Lib.hid (And.intro (dueG_ok HS.out.2.1 (t := (k : Int)) (by omega)) ((dueG_I s1 k).trans HS.out.2.2))
            have hw := HM.out.wait1
            have hnm := HM.out.num0
            rcases due_ways s1 k with ⟨h1, h2, h3⟩ | ⟨h1, h2, h3, h4⟩
            · have hsoon := HM.out.soon h3
              obtain rfl : x = false := hx.trans h1
              rw [HS.out.2.2] at hsoon
              have HN2 := Lib.hid (HM.out.stays)
              rw [h2] at P2 HOK
              clear h1 h2 h3 hx HM HS
              rcases hsoon with hw0 | ⟨hw0, hw1⟩
              · go_wp2_with (go_at_call 10; ((with_reducible refine (Hid.out P2).mono ?_); rintro e w5 ⟨rfl, HK5⟩))
                go_roundw
                case rel => exact ⟨k + 1, s1, cnt, wt1, by omega, by omega, rfl, rfl, by go_num, HN2, Lib.hid ⟨HK5.out, HOK.out⟩⟩
                case measure => (simp [intOf]; try omega)
              · go_wp2_with (go_at_call 10; ((with_reducible refine (Hid.out P2).mono ?_); rintro e w5 ⟨rfl, HK5⟩))
                go_roundw
                case rel => exact ⟨k + 1, s1, cnt, wt1, by omega, by omega, rfl, rfl, by go_num, HN2, Lib.hid ⟨HK5.out, HOK.out⟩⟩
                case measure => (simp [intOf]; try omega)
            · obtain ⟨hb1, _⟩ := HM.out.busy h3
              obtain rfl : x = true := hx.trans h1
              have HN2 := Lib.hid (HM.out.goes (by have := HS.out.2.1.I.1; omega) h4)
              rw [h2] at P2 HOK
              clear h1 h2 h3 h4 hx HM HS
              by_cases ha : av ≤ (k : Int)
              · by_cases hb : (k : Int) < bv
                · rw [if_pos ⟨ha, hb⟩] at HN2
                  go_wp2_with (go_at_call 10; ((with_reducible refine (Hid.out P2).mono ?_); rintro e w5 ⟨rfl, HK5⟩))
                  go_roundw
                  case rel => exact ⟨k + 1, _, cnt + 1, -1, by omega, by omega, rfl, rfl, by go_num, HN2, Lib.hid ⟨HK5.out, HOK.out⟩⟩
                  case measure => (simp [intOf]; try omega)
                · rw [if_neg (fun h => hb h.2)] at HN2
                  go_wp2_with (go_at_call 10; ((with_reducible refine (Hid.out P2).mono ?_); rintro e w5 ⟨rfl, HK5⟩))
                  go_roundw
                  case rel => exact ⟨k + 1, _, cnt, -1, by omega, by omega, rfl, rfl, by go_num, HN2, Lib.hid ⟨HK5.out, HOK.out⟩⟩
                  case measure => (simp [intOf]; try omega)
              · rw [if_neg (fun h => ha h.1)] at HN2
                go_wp2_with (go_at_call 10; ((with_reducible refine (Hid.out P2).mono ?_); rintro e w5 ⟨rfl, HK5⟩))
                go_roundw
                case rel => exact ⟨k + 1, _, cnt, -1, by omega, by omega, rfl, rfl, by go_num, HN2, Lib.hid ⟨HK5.out, HOK.out⟩⟩
                case measure => (simp [intOf]; try omega)
        · obtain rfl : k = 200 := by omega
          have hki : (200 : Int) < (n : Int) := by omega
          have hfew := HM.out.few (by have := HS.out.2.1.I.1; omega)
          rw [HS.out.2.2] at hfew
          have hnm := HM.out.num0
          have HE := Lib.hid HS.out.1.below
          clear HS HM
          by_cases hab : bv ≤ av
          · obtain rfl := hfew.1 hab
            go_wp2
            go_ret
            exact ⟨rfl, HE.out⟩
          · obtain ⟨Q, hQ⟩ : ∃ Q, Q = (bv - av + N - 1) / N := ⟨_, rfl⟩
            have hq1 := hfew.2 (by omega)
            rw [← hQ] at hq1
            have hq0 : 0 ≤ Q := by rw [hQ]; exact Int.ediv_nonneg (by omega) (by omega)
            have hq2 : Q ≤ bv - av + N - 1 := by rw [hQ]; exact Int.ediv_le_self _ (by omega)
            have hq3 : (bv - av + N - 1).tdiv N = Q := by rw [hQ]; exact Int.tdiv_eq_ediv_of_nonneg (by omega)
            have hq4 : (N = 0) = False := eq_false (by omega)
            clear hfew hQ
            go_wp2
            go_ret
            exact ⟨rfl, HE.out⟩
      · obtain rfl : k = n := by omega
        have hfew := HM.out.few (by have := HS.out.2.1.I.1; omega)
        rw [HS.out.2.2] at hfew
        have hnm := HM.out.num0
        have HE := Lib.hid HS.out.1.below
        clear HS HM
        by_cases hab : bv ≤ av
        · obtain rfl := hfew.1 hab
          go_wp2
          go_ret
          exact ⟨rfl, HE.out⟩
        · obtain ⟨Q, hQ⟩ : ∃ Q, Q = (bv - av + N - 1) / N := ⟨_, rfl⟩
          have hq1 := hfew.2 (by omega)
          rw [← hQ] at hq1
          have hq0 : 0 ≤ Q := by rw [hQ]; exact Int.ediv_nonneg (by omega) (by omega)
          have hq2 : Q ≤ bv - av + N - 1 := by rw [hQ]; exact Int.ediv_le_self _ (by omega)
          have hq3 : (bv - av + N - 1).tdiv N = Q := by rw [hQ]; exact Int.tdiv_eq_ediv_of_nonneg (by omega)
          have hq4 : (N = 0) = False := eq_false (by omega)
          clear hfew hQ
          go_wp2
          go_ret
          exact ⟨rfl, HE.out⟩
end Go.Proofs.Ythgenpokpoiakaa
