/- The document's cost of a layer and of layers. No statement is proved here. -/
import Derived.Test.YtehnnnhbgjfdgaaRemRd
import Derived.Test.YtehnnnhbgjfdgaaOctRef
import Derived.BigQuiet
namespace Go.Proofs.Ytehnnnhbgjfdgaa
open Go.RowKit
set_option linter.unusedVariables false

/-- A layer's cost. -/
theorem rcost_any (A : Option Addr) (n c : Nat) (l : List Int) (k : Int) (w : World) (hr : RdV w A n l) (hk : -9223372036854775808 ≤ k ∧ k ≤ 9223372036854775807) :
    Calls Try.prog 16 #[.slice A n c, .int .i64 k] w fun e w' => e = .returned (.int .u64 (cst l k)) ∧ w = w' := by
  have h1 := hr.1
  have hn := hr.2.1
  by_cases g : k < 0
  · have e : cst l k = 0 := by unfold cst; rw [if_pos (by omega)]
    rw [e]
    clear hr e
    go_enter Try.func16, Try.ntmps16
    go_wp2
    go_ret
    exact ⟨rfl, rfl⟩
  · by_cases g2 : (n : Int) ≤ k
    · have e : cst l k = 0 := by unfold cst; rw [if_pos (by omega)]
      rw [e]
      clear hr e
      go_enter Try.func16, Try.ntmps16
      go_wp2
      go_ret
      exact ⟨rfl, rfl⟩
    · obtain ⟨j, rfl⟩ := Int.eq_ofNat_of_zero_le (show 0 ≤ k by omega)
      have hj : j < n := by omega
      obtain ⟨b, off, rfl, hc, h0, h2⟩ := hr.at_ hj
      have e : cst l (j : Int) = l.getD j 0 := by unfold cst; rw [if_neg (by omega)]; simp
      rw [e]
      generalize l.getD j 0 = x at *
      clear hr e
      have hji : (j : Int) < (n : Int) := by omega
      go_enter Try.func16, Try.ntmps16
      go_wp2
      go_ret
      exact ⟨rfl, rfl⟩
theorem rcost_q (A : Option Addr) (n c : Nat) (l : List Int) (k : Int) (w : World) (hr : RdV w A n l) (hk : -9223372036854775808 ≤ k ∧ k ≤ 9223372036854775807) (q : Nat) :
    Calls Try.prog 16 #[.slice A n c, .int .i64 k] (w.drewN q) fun e w' => e = .returned (.int .u64 (cst l k)) ∧ w' = w.drewN q :=
  (rcost_any A n c l k (w.drewN q) hr hk).mono fun _ _ ⟨h, h2⟩ => ⟨h, h2.symm⟩
theorem rsat_q (a b : Int) (w : World) (ha : 0 ≤ a) (ha' : a ≤ 18446744073709551615) (hb : 0 ≤ b) (hb' : b ≤ 18446744073709551615) (q : Nat) :
    Calls Try.prog 17 #[.int .u64 a, .int .u64 b] (w.drewN q) fun e w' => e = .returned (.int .u64 (satN a b)) ∧ w' = w.drewN q :=
  (rsat_any a b (w.drewN q) ha ha' hb hb').mono fun _ _ ⟨h, h2⟩ => ⟨h, h2.symm⟩
set_option maxRecDepth 100000 in
set_option maxHeartbeats 2000000 in
/-- What layers cost. -/
theorem rCost_any (A B : Option Addr) (ca cb : Nat) (C : List (List Int)) (m : Nat) (L : List Int) (w : World) (hr : MatRd w A C) (hb : RdI w B m L) :
    Calls Try.prog 11 #[.slice A C.length ca, .slice B m cb] w fun e w' => e = .returned (.int .u64 (costR C L (min m C.length))) ∧ ∃ q, w' = w.drewN q := by
  have hn := hr.1
  have hm := hb.small
  have hC := hr.ok
  have HC := Lib.hid (fun k => costR_ok hC L k)
  have HM := Lib.hid hr
  have HB := Lib.hid hb
  obtain ⟨n, hnn⟩ : ∃ n, n = C.length := ⟨_, rfl⟩
  have HN := Lib.hid hnn
  rw [← hnn] at hn ⊢
  clear hr hb hC hnn
  go_enter Try.func11, Try.ntmps11
  go_wp2
  go_loopw [5, 6] (fun vx vi wr => ∃ (k : Nat) (x : Int), k ≤ m ∧ k ≤ n ∧ vi = .int .i64 k ∧ vx = .int .u64 x ∧ Hid (x = costR C L k) ∧ Hid (∃ q, wr = w.drewN q)) (fun _ i _ => n - (intOf i).toNat)
  case atStart => exact ⟨0, 0, by omega, by omega, rfl, rfl, Lib.hid rfl, Lib.hid ⟨0, rfl⟩⟩
  case round =>
    obtain ⟨k, x, hk1, hk2, rfl, rfl, HX, HW⟩ := hrel
    by_cases g1 : k < m
    · have g1i : (k : Int) < (m : Int) := by omega
      by_cases g2 : k < n
      · have g2i : (k : Int) < (n : Int) := by omega
        obtain ⟨b, off, R, cr, rfl, hc, hrow⟩ := HM.out.at_ (j := k) (by have := HN.out; omega)
        obtain ⟨b2, off2, rfl, _, hc2⟩ := HB.out.2.2.2 (by omega)
        have hc2k := hc2 k g1
        have hbd := HB.out.bd g1
        have hrowr : RdV wr R (C.getD k []).length (C.getD k []) := by obtain ⟨q, e⟩ := HW.out; rw [e]; exact hrow
        have hcq : wr.cell? ⟨b, off + k, none⟩ = some (.slice R (C.getD k []).length cr) := by obtain ⟨q, e⟩ := HW.out; rw [e]; exact hc
        have hcq2 : wr.cell? ⟨b2, off2 + k, none⟩ = some (.int .i64 (L.getD k 0)) := by obtain ⟨q, e⟩ := HW.out; rw [e]; exact hc2k
        have P1 := Lib.hid (fun q2 => rcost_q R (C.getD k []).length cr (C.getD k []) (L.getD k 0) wr hrowr hbd q2)
        have hx0 := HC.out k
        rw [← HX.out] at hx0
        have hy := cst_ok hrow.2.2.1 (L.getD k 0)
        have hns : costR C L (k + 1) = satN x (cst (C.getD k []) (L.getD k 0)) := by rw [HX.out]; rfl
        have P2 := Lib.hid (fun q2 => rsat_q x (cst (C.getD k []) (L.getD k 0)) wr (by omega) (by omega) (by omega) (by omega) q2)
        have HNS := Lib.hid hns
        clear hrow hrowr hc2 hc2k hc hns
        generalize satN x (cst (C.getD k []) (L.getD k 0)) = xy at *
        generalize cst (C.getD k []) (L.getD k 0) = y at *
        generalize L.getD k 0 = z at *
        generalize (C.getD k []).length = nr at *
        go_wp2
        go_quiet (first
          | (go_at_call 16; with_reducible exact Calls.quiet_of_same (Hid.out P1 _))
          | (go_at_call 17; with_reducible exact Calls.quiet_of_same (Hid.out P2 _)))
        go_wp2
        go_roundw
        case rel => exact ⟨k + 1, xy, by omega, by omega, by go_num, rfl, Lib.hid HNS.out.symm, Lib.hid (by obtain ⟨q, e⟩ := HW.out; rw [e, World.drewN_drewN]; exact ⟨_, rfl⟩)⟩
        case measure => (simp [intOf]; try omega)
      · have g2i : ¬ (k : Int) < (n : Int) := by omega
        go_wp2
        have e : min m n = k := by omega
        rw [e, ← HX.out]
        go_ret
        exact ⟨rfl, HW.out⟩
    · have g1i : ¬ (k : Int) < (m : Int) := by omega
      go_wp2
      have e : min m n = k := by omega
      rw [e, ← HX.out]
      go_ret
      exact ⟨rfl, HW.out⟩
end Go.Proofs.Ytehnnnhbgjfdgaa
