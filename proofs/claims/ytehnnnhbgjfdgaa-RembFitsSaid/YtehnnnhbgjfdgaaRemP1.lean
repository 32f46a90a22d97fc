/- Contracts of package remb: what a layer costs, whether the next one is within the rate, what layers cost, the least rate. No statement is proved here. -/
import Derived.Test.YtehnnnhbgjfdgaaRemRd
import Derived.Test.YtehnnnhbgjfdgaaOct
import Derived.BigQuiet
namespace Go.Proofs.Ytehnnnhbgjfdgaa
open Go.RowKit
set_option linter.unusedVariables false

/-- A layer's cost. -/
theorem cost_any25 (A : Option Addr) (n c : Nat) (l : List Int) (k : Int) (w : World) (hr : RdV w A n l) (hk : -9223372036854775808 ≤ k ∧ k ≤ 9223372036854775807) :
    Calls Try.prog 15 #[.slice A n c, .int .i64 k] w fun e w' => e = .returned (.int .u64 (cst l k)) ∧ w = w' := by
  have h1 := hr.1
  have hn := hr.2.1
  by_cases g : k < 0
  · have e : cst l k = 0 := by unfold cst; rw [if_pos (by omega)]
    rw [e]
    clear hr e
    go_enter Try.func15, Try.ntmps15
    go_wp2
    go_ret
    exact ⟨rfl, rfl⟩
  · by_cases g2 : (n : Int) ≤ k
    · have e : cst l k = 0 := by unfold cst; rw [if_pos (by omega)]
      rw [e]
      clear hr e
      go_enter Try.func15, Try.ntmps15
      go_wp2
      go_ret
      exact ⟨rfl, rfl⟩
    · obtain ⟨j, rfl⟩ := Int.eq_ofNat_of_zero_le (show 0 ≤ k by omega)
      have hj : j < n := by omega
      obtain ⟨b, off, rfl, hc, h0, h2⟩ := hr.at_ hj
      have e : cst l (j : Int) = l.getD j 0 := by unfold cst; rw [if_neg (by omega)]; simp
      rw [e]
      generalize l.getD j 0 = x at *
      clear hr e
      have hji : (j : Int) < (n : Int) := by omega
      go_enter Try.func15, Try.ntmps15
      go_wp2
      go_ret
      exact ⟨rfl, rfl⟩
theorem cost_q25 (A : Option Addr) (n c : Nat) (l : List Int) (k : Int) (w : World) (hr : RdV w A n l) (hk : -9223372036854775808 ≤ k ∧ k ≤ 9223372036854775807) (q : Nat) :
    Calls Try.prog 15 #[.slice A n c, .int .i64 k] (w.drewN q) fun e w' => e = .returned (.int .u64 (cst l k)) ∧ w' = w.drewN q :=
  (cost_any25 A n c l k (w.drewN q) hr hk).mono fun _ _ ⟨h, h2⟩ => ⟨h, h2.symm⟩
set_option maxHeartbeats 1000000 in
/-- Is there a next layer for which there is rate enough? -/
theorem within_any25 (x : Int) (A : Option Addr) (n c : Nat) (l : List Int) (k : Int) (w : World) (hr : RdV w A n l) (hk : -1 ≤ k ∧ k ≤ 7) (hx : 0 ≤ x) (hs : x + cst l k ≤ 18446744073709551615) (b : Bool)
    (hb : b = true ↔ (k + 1 < (n : Int) ∧ k + 1 < 8 ∧ cst l (k + 1) ≤ x + cst l k)) :
    Calls Try.prog 14 #[.int .u64 x, .slice A n c, .int .i64 k] w fun e w' => e = .returned (.bool b) ∧ ∃ q, w' = w.drewN q := by
  have hn := hr.2.1
  have HC := Lib.hid (fun q => cost_q25 A n c l k w hr (by omega) q)
  have hc0 := cst_ok hr.2.2.1 k
  by_cases g : k + 1 < (n : Int) ∧ k + 1 < 8
  · obtain ⟨g1, g2⟩ := g
    obtain ⟨j, hj⟩ := Int.eq_ofNat_of_zero_le (show 0 ≤ k + 1 by omega)
    obtain ⟨b0, off, hA, hc, h0, h2⟩ := hr.at_ (j := j) (by omega)
    have e : cst l (k + 1) = l.getD j 0 := by rw [hj]; unfold cst; rw [if_neg (by have := hr.1; omega)]; simp
    rw [e] at hb
    clear e
    subst hA
    obtain rfl : k = (j : Int) - 1 := by omega
    have e1 : (j : Int) - 1 + 1 = j := by omega
    rw [e1] at hb g1 g2
    have hw : IntKind.i64.wrap ((j : Int) - 1 + 1) = j := by rw [IntKind.wrap_i64]; omega
    generalize l.getD j 0 = y at *
    generalize cst l ((j : Int) - 1) = z at *
    clear hr e1 hj
    obtain rfl : b = decide (y ≤ x + z) := by
      cases b with
      | true => exact (decide_eq_true (hb.1 rfl).2.2).symm
      | false => exact (decide_eq_false (fun h => by have := hb.2 ⟨g1, g2, h⟩; cases this)).symm
    clear hb
    by_cases g4 : (8 : Int) < (n : Int)
    · go_enter Try.func14, Try.ntmps14
      go_wp2
      go_quiet ((go_at_call 15; with_reducible exact Calls.quiet_of_same (Hid.out HC _)))
      go_wp2
      go_ret
      exact ⟨rfl, _, rfl⟩
    · go_enter Try.func14, Try.ntmps14
      go_wp2
      go_quiet ((go_at_call 15; with_reducible exact Calls.quiet_of_same (Hid.out HC _)))
      go_wp2
      go_ret
      exact ⟨rfl, _, rfl⟩
  · obtain rfl : b = false := by cases b with | false => rfl | true => exact absurd ⟨(hb.1 rfl).1, (hb.1 rfl).2.1⟩ g
    clear hb hr
    by_cases g4 : (8 : Int) < (n : Int)
    · have g5 : ¬ k + 1 < 8 := by omega
      have g6 := decide_eq_false g5
      clear g
      go_enter Try.func14, Try.ntmps14
      go_wp2
      go_quiet (fail)
      go_wp2
      go_ret
      exact ⟨rfl, _, rfl⟩
    · have g5 : ¬ k + 1 < (n : Int) := by omega
      have g6 := decide_eq_false g5
      clear g
      go_enter Try.func14, Try.ntmps14
      go_wp2
      go_quiet (fail)
      go_wp2
      go_ret
      exact ⟨rfl, _, rfl⟩
set_option maxHeartbeats 1000000 in
/-- The least rate. -/
theorem lowest_any25 (A : Option Addr) (n c : Nat) (l : List Int) (w : World) (hr : RdV w A n l) :
    Calls Try.prog 12 #[.slice A n c] w fun e w' => e = .returned (.int .u64 (lowR l)) ∧ w = w' := by
  have hn := hr.2.1
  have HT : ∀ k, k ≤ n → lowR (l.take k) = lowR (l.take k) := fun _ _ => rfl
  have HR := Lib.hid hr
  have HST : Hid (∀ k, k < n → lowR (l.take (k + 1)) = if l.getD k 0 < lowR (l.take k) then l.getD k 0 else lowR (l.take k)) := Lib.hid (fun k hk => by
    have hl := hr.1
    have : l.take (k + 1) = l.take k ++ [l.getD k 0] := by
      rw [List.take_add_one, List.getElem?_eq_getElem (by omega)]
      simp [List.getD, show k < l.length by omega]
    rw [this]
    have hok := hr.2.2.1
    generalize l.getD k 0 = y
    have hh : ∀ m : List Int, lowR (m ++ [y]) = if y < lowR m then y else lowR m := by
      intro m
      induction m with
      | nil => simp only [List.nil_append, lowR]; by_cases h : y < 18446744073709551615 <;> by_cases h2 : y ≤ 18446744073709551615 <;> simp only [h, h2, if_true, if_false] <;> omega
      | cons a m ih => simp only [List.cons_append, lowR, ih]; (repeat' split) <;> omega
    exact hh _)
  have HOK := Lib.hid (fun k => lowR_ok (l := l.take k) (fun x hx => hr.2.2.1 x (List.mem_of_mem_take hx)))
  have HEND : Hid (lowR (l.take n) = lowR l) := Lib.hid (by rw [List.take_of_length_le (by have := hr.1; omega)])
  clear hr HT
  go_enter Try.func12, Try.ntmps12
  go_wp2
  go_loopw [3, 8] (fun vx vi wr => ∃ (k : Nat) (x : Int), k ≤ n ∧ vx = .int .u64 x ∧ vi = .int .i64 k ∧ Hid (x = lowR (l.take k)) ∧ Hid (w = wr)) (fun _ i _ => n - (intOf i).toNat)
  case atStart => exact ⟨0, 18446744073709551615, by omega, rfl, rfl, Lib.hid (by simp [lowR]), Lib.hid rfl⟩
  case round =>
    obtain ⟨k, x, hk, rfl, rfl, HX, HW⟩ := hrel
    by_cases g1 : k < n
    · have g1i : (k : Int) < (n : Int) := by omega
      obtain ⟨b, off, rfl, hc, hy0, hy1⟩ := (show RdV wr A n l by rw [← HW.out]; exact HR.out).at_ g1
      have hx := HOK.out k
      rw [← HX.out] at hx
      have hs := HST.out k g1
      rw [← HX.out] at hs
      generalize l.getD k 0 = y at *
      by_cases g : y < x
      · rw [if_pos g] at hs
        have HS := Lib.hid hs.symm
        clear hs
        go_wp2
        go_roundw
        case rel => exact ⟨k + 1, y, by omega, rfl, by go_num, HS, HW⟩
        case measure => (simp [intOf]; try omega)
      · rw [if_neg g] at hs
        have HS := Lib.hid hs.symm
        clear hs
        go_wp2
        go_roundw
        case rel => exact ⟨k + 1, x, by omega, rfl, by go_num, HS, HW⟩
        case measure => (simp [intOf]; try omega)
    · have g1i : ¬ (k : Int) < (n : Int) := by omega
      obtain rfl : k = n := by omega
      have HE : Hid (x = lowR l) := Lib.hid (by rw [HX.out]; exact HEND.out)
      go_wp2
      go_ret
      exact ⟨by rw [HE.out]; rfl, HW.out⟩
end Go.Proofs.Ytehnnnhbgjfdgaa
