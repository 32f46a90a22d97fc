/- Contracts of package remb: what layers cost. No statement is proved here. -/
import Derived.Test.YtehnnnhbgjfdgaaRemP1
import Derived.LoopTactic
namespace Go.Proofs.Ytehnnnhbgjfdgaa
open Go.RowKit
set_option linter.unusedVariables false

set_option maxRecDepth 100000 in
set_option maxHeartbeats 4000000 in
/-- What layers cost. -/
theorem Cost_any25 (A B : Option Addr) (ca cb : Nat) (C : List (List Int)) (m : Nat) (L : List Int) (w : World) (hr : MatRd w A C) (hca : C.length ≤ ca) (hb : RdI w B m L) :
    Calls Try.prog 10 #[.slice A C.length ca, .slice B m cb] w fun e w' => e = .returned (.int .u64 (costR C L (min m C.length))) ∧ w = w' := by
  have hn := hr.1
  have hm := hb.small
  have hC := hr.ok
  have HC := Lib.hid (fun k => costR_ok hC L k)
  have HM := Lib.hid hr
  have HB := Lib.hid hb
  obtain ⟨n, hnn⟩ : ∃ n, n = C.length := ⟨_, rfl⟩
  have HN := Lib.hid hnn
  rw [← hnn] at hn hca ⊢
  clear hr hb hC hnn
  by_cases g0 : (m : Int) < (n : Int)
  · have hkm : m ≤ m := by omega
    have hkn : m ≤ n := by omega
    have hkc : (m : Int) ≤ (ca : Int) := by omega
    have hE : min m n = m := by omega
    rw [hE]
    clear hE
    go_enter Try.func10, Try.ntmps10
    go_wp2
    go_loopw [5, 16] (fun vx vi wr => ∃ (k : Nat) (x : Int), k ≤ m ∧ vx = .int .u64 x ∧ vi = .int .i64 k ∧ Hid (x = costR C L k) ∧ Hid (w = wr)) (fun _ i _ => m - (intOf i).toNat)
    case atStart => exact ⟨0, 0, by omega, rfl, rfl, Lib.hid rfl, Lib.hid rfl⟩
    case round =>
      obtain ⟨k, x, hk, rfl, rfl, HX, HW⟩ := hrel
      by_cases g1 : k < m
      · have g1i : (k : Int) < (m : Int) := by omega
        have g1m : (k : Int) < (m : Int) := by omega
        obtain ⟨b, off, R, cr, rfl, hc, hrow⟩ := (show MatRd wr A C by rw [← HW.out]; exact HM.out).at_ (j := k) (by have := HN.out; omega)
        obtain ⟨b2, off2, rfl, _, hc2⟩ := (show RdI wr B m L by rw [← HW.out]; exact HB.out).2.2.2 (by omega)
        have hc2k := hc2 k (by omega)
        have hbd := HB.out.bd (j := k) (by omega)
        have P1 := Lib.hid (cost_any25 R (C.getD k []).length cr (C.getD k []) (L.getD k 0) wr hrow hbd)
        have hx0 := HC.out k
        rw [← HX.out] at hx0
        have hy := cst_ok hrow.2.2.1 (L.getD k 0)
        have HNS : Hid (satN x (cst (C.getD k []) (L.getD k 0)) = costR C L (k + 1)) := Lib.hid (by rw [HX.out]; rfl)
        have P2 := Lib.hid (fun wx => sat_any x (cst (C.getD k []) (L.getD k 0)) wx (by omega) (by omega) (by omega) (by omega))
        clear hrow hc2
        generalize satN x (cst (C.getD k []) (L.getD k 0)) = xy at *
        generalize cst (C.getD k []) (L.getD k 0) = y at *
        generalize L.getD k 0 = z at *
        generalize (C.getD k []).length = nr at *
        go_wp2_with (first
          | (go_at_call 15; ((with_reducible refine (Hid.out P1).mono ?_); rintro e w5 ⟨rfl, rfl⟩))
          | (go_at_call 18; ((with_reducible refine (Hid.out P2 _).mono ?_); rintro e w6 ⟨rfl, rfl⟩)))
        go_roundw
        case rel => exact ⟨k + 1, xy, by omega, rfl, by go_num, HNS, HW⟩
        case measure => (simp [intOf]; try omega)
      · have g1i : ¬ (k : Int) < (m : Int) := by omega
        have HR : Hid (x = costR C L m) := Lib.hid (by rw [HX.out]; congr 1; omega)
        go_wp2
        go_ret
        exact ⟨by rw [← HR.out]; rfl, HW.out⟩
  · have hkm : n ≤ m := by omega
    have hkn : n ≤ n := by omega
    have hkc : (n : Int) ≤ (ca : Int) := by omega
    have hE : min m n = n := by omega
    rw [hE]
    clear hE
    go_enter Try.func10, Try.ntmps10
    go_wp2
    go_loopw [5, 16] (fun vx vi wr => ∃ (k : Nat) (x : Int), k ≤ n ∧ vx = .int .u64 x ∧ vi = .int .i64 k ∧ Hid (x = costR C L k) ∧ Hid (w = wr)) (fun _ i _ => n - (intOf i).toNat)
    case atStart => exact ⟨0, 0, by omega, rfl, rfl, Lib.hid rfl, Lib.hid rfl⟩
    case round =>
      obtain ⟨k, x, hk, rfl, rfl, HX, HW⟩ := hrel
      by_cases g1 : k < n
      · have g1i : (k : Int) < (n : Int) := by omega
        have g1m : (k : Int) < (m : Int) := by omega
        obtain ⟨b, off, R, cr, rfl, hc, hrow⟩ := (show MatRd wr A C by rw [← HW.out]; exact HM.out).at_ (j := k) (by have := HN.out; omega)
        obtain ⟨b2, off2, rfl, _, hc2⟩ := (show RdI wr B m L by rw [← HW.out]; exact HB.out).2.2.2 (by omega)
        have hc2k := hc2 k (by omega)
        have hbd := HB.out.bd (j := k) (by omega)
        have P1 := Lib.hid (cost_any25 R (C.getD k []).length cr (C.getD k []) (L.getD k 0) wr hrow hbd)
        have hx0 := HC.out k
        rw [← HX.out] at hx0
        have hy := cst_ok hrow.2.2.1 (L.getD k 0)
        have HNS : Hid (satN x (cst (C.getD k []) (L.getD k 0)) = costR C L (k + 1)) := Lib.hid (by rw [HX.out]; rfl)
        have P2 := Lib.hid (fun wx => sat_any x (cst (C.getD k []) (L.getD k 0)) wx (by omega) (by omega) (by omega) (by omega))
        clear hrow hc2
        generalize satN x (cst (C.getD k []) (L.getD k 0)) = xy at *
        generalize cst (C.getD k []) (L.getD k 0) = y at *
        generalize L.getD k 0 = z at *
        generalize (C.getD k []).length = nr at *
        go_wp2_with (first
          | (go_at_call 15; ((with_reducible refine (Hid.out P1).mono ?_); rintro e w5 ⟨rfl, rfl⟩))
          | (go_at_call 18; ((with_reducible refine (Hid.out P2 _).mono ?_); rintro e w6 ⟨rfl, rfl⟩)))
        go_roundw
        case rel => exact ⟨k + 1, xy, by omega, rfl, by go_num, HNS, HW⟩
        case measure => (simp [intOf]; try omega)
      · have g1i : ¬ (k : Int) < (n : Int) := by omega
        have HR : Hid (x = costR C L n) := Lib.hid (by rw [HX.out]; congr 1; omega)
        go_wp2
        go_ret
        exact ⟨by rw [← HR.out]; rfl, HW.out⟩
end Go.Proofs.Ytehnnnhbgjfdgaa
