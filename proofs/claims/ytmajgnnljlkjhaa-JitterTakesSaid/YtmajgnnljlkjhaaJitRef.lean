/- What the document's answer for layer 18 (tenailleref18) answers: sixteen times the jitter. No statement is proved here. -/
import Derived.Test.YtmajgnnljlkjhaaJit1
import Derived.Test.YtmajgnnljlkjhaaSeqsRef
import Derived.Test.YtmajgnnljlkjhaaKnt
import Derived.Deep.RegionLaw
namespace Go.Proofs.Ytmajgnnljlkjhaa
open Go.RowKit
set_option linter.unusedVariables false

/-- How long the k-th packet was on its way. -/
def wayJ (cs ss : List Int) (k : Nat) : Int := (cs.getD k 0 - ss.getD k 0) % 4294967296
theorem wayJ_bd (cs ss : List Int) (k : Nat) : 0 ≤ wayJ cs ss k ∧ wayJ cs ss k ≤ 4294967295 := by unfold wayJ; omega
theorem u32wR (n : Int) : IntKind.u32.wrap n = n % 4294967296 := by simp [IntKind.wrap, IntKind.bits, IntKind.signed]

theorem rsixteen_any (A B : Option Addr) (n ca cb : Nat) (cs ss : List Int) (w : World) (hA : RdK .u32 w A n cs) (hB : RdK .u32 w B n ss) :
    Calls Try.prog 8 #[.slice A n ca, .slice B n cb] w fun e w' => e = .returned (.int .u64 (sixJ (wayJ cs ss) n)) ∧ Below w.heap.size w w' := by
  have hn := hA.small
  have HA := Lib.hid hA
  have HB := Lib.hid hB
  clear hA hB
  go_enter Try.func8, Try.ntmps8
  go_wp2
  go_loopw [5, 6] (fun vx vi wr => ∃ (k : Nat) (x : Int), 1 ≤ k ∧ (k = 1 ∨ k ≤ n) ∧ vx = .int .i64 x ∧ vi = .int .i64 k ∧ 0 ≤ x ∧ x ≤ 4294967295 ∧ Hid (x = sixJ (wayJ cs ss) k) ∧ Hid (Below w.heap.size w wr)) (fun _ i _ => n - (intOf i).toNat)
  case atStart => exact ⟨1, 0, by omega, by omega, rfl, rfl, by omega, by omega, Lib.hid rfl, Lib.hid (Below.refl _ _)⟩
  case round =>
    obtain ⟨k, x, hk, hkn, rfl, rfl, hx0, hx1, HX, HE⟩ := hrel
    by_cases hlt : k < n
    · have hki : (k : Int) < (n : Int) := by omega
      obtain ⟨ba, oa, rfl, hca⟩ := HA.out.at_ (by omega)
      obtain ⟨bb, ob, rfl, hcb⟩ := HB.out.at_ (by omega)
      obtain ⟨j, rfl⟩ : ∃ j, k = j + 1 := ⟨k - 1, by omega⟩
      have a0 := hca wr HE.out j (by omega)
      have a1 := hca wr HE.out (j + 1) hlt
      have b0 := hcb wr HE.out j (by omega)
      have b1 := hcb wr HE.out (j + 1) hlt
      have za0 := bounds_u32 (HA.out.wf (j := j) (by omega))
      have za1 := bounds_u32 (HA.out.wf hlt)
      have zb0 := bounds_u32 (HB.out.wf (j := j) (by omega))
      have zb1 := bounds_u32 (HB.out.wf hlt)
      have hs : sixJ (wayJ cs ss) (j + 1 + 1) = smoJ (sixJ (wayJ cs ss) (j + 1)) (difJ (wayJ cs ss j) (wayJ cs ss (j + 1))) := by simp [sixJ]
      have v0 := wayJ_bd cs ss j
      have v1 := wayJ_bd cs ss (j + 1)
      have e0 : IntKind.u32.wrap (cs.getD j 0 - ss.getD j 0) = wayJ cs ss j := u32wR _
      have e1 : IntKind.u32.wrap (cs.getD (j + 1) 0 - ss.getD (j + 1) 0) = wayJ cs ss (j + 1) := u32wR _
      have m0 : (cs.getD j 0 - ss.getD j 0) % 4294967296 = wayJ cs ss j := rfl
      have m1 : (cs.getD (j + 1) 0 - ss.getD (j + 1) 0) % 4294967296 = wayJ cs ss (j + 1) := rfl
      obtain ⟨p0, hp0⟩ : ∃ p, p = wayJ cs ss j := ⟨_, rfl⟩
      obtain ⟨p1, hp1⟩ : ∃ p, p = wayJ cs ss (j + 1) := ⟨_, rfl⟩
      rw [← hp0] at v0 e0 m0 hs
      rw [← hp1] at v1 e1 m1 hs
      rw [← HX.out] at hs
      have HG : Hid (∀ wx, Calls Try.prog 14 #[.int .u32 p0, .int .u32 p1] wx fun e w' => e = .returned (.int .i64 (goneZ p0 p1)) ∧ wx = w') := Lib.hid fun wx => rgone_any p0 p1 wx v0.1 v0.2 v1.1 v1.2
      have hz := goneZ_bd p0 p1
      have hd : difJ p0 p1 = if goneZ p0 p1 < 0 then - goneZ p0 p1 else goneZ p0 p1 := rfl
      obtain ⟨z, hzz⟩ : ∃ z, z = goneZ p0 p1 := ⟨_, rfl⟩
      rw [← hzz] at HG hz hd
      rw [hd] at hs
      generalize cs.getD j 0 = q0 at *
      generalize cs.getD (j + 1) 0 = q1 at *
      generalize ss.getD j 0 = r0 at *
      generalize ss.getD (j + 1) 0 = r1 at *
      have HS := Lib.hid hs
      clear hs hd hzz hp0 hp1 hca hcb HX
      have hj1 : ((j + 1 : Nat) : Int) - 1 = (j : Int) := by omega
      have HE' := HE
      go_wp2
      go_quiet ((go_at_call 14; exact Calls.quiet_of_same ((HG.out _).mono fun _ _ ⟨h, h2⟩ => ⟨h, h2.symm⟩)))
      obtain ⟨W, hW⟩ : ∃ W, W = wr.drewN nq := ⟨_, rfl⟩
      have HW : Hid (Below w.heap.size w W) := Lib.hid (by rw [hW]; exact HE'.out.trans ⟨rfl, rfl, rfl, Nat.le_refl _, fun _ _ => rfl⟩)
      rw [← hW]
      clear hW HE HE' a0 a1 b0 b1 e0 e1 m0 m1
      have hj2 : ((j + 1 : Nat) : Int) + 1 = ((j + 1 + 1 : Nat) : Int) := by omega
      by_cases hn0 : z < 0
      · rw [if_pos hn0] at HS
        by_cases hbig : 4294967295 < x + -z - (x + 8) / 16
        · go_wp2
          go_roundw
          case rel => exact ⟨j + 1 + 1, _, by omega, by omega, rfl, by go_num, by omega, by omega, Lib.hid (by rw [HS.out]; simp only [smoJ]; rw [if_pos hbig]), HW⟩
          case measure => simp [intOf]; omega
        · have hbig' : x + -z - (x + 8) / 16 ≤ 4294967295 := by omega
          go_wp2
          go_roundw
          case rel => exact ⟨j + 1 + 1, _, by omega, by omega, rfl, by go_num, by omega, by omega, Lib.hid (by rw [HS.out]; simp only [smoJ]; rw [if_neg hbig]), HW⟩
          case measure => simp [intOf]; omega
      · rw [if_neg hn0] at HS
        have hn0' : 0 ≤ z := by omega
        by_cases hbig : 4294967295 < x + z - (x + 8) / 16
        · go_wp2
          go_roundw
          case rel => exact ⟨j + 1 + 1, _, by omega, by omega, rfl, by go_num, by omega, by omega, Lib.hid (by rw [HS.out]; simp only [smoJ]; rw [if_pos hbig]), HW⟩
          case measure => simp [intOf]; omega
        · have hbig' : x + z - (x + 8) / 16 ≤ 4294967295 := by omega
          go_wp2
          go_roundw
          case rel => exact ⟨j + 1 + 1, _, by omega, by omega, rfl, by go_num, by omega, by omega, Lib.hid (by rw [HS.out]; simp only [smoJ]; rw [if_neg hbig]), HW⟩
          case measure => simp [intOf]; omega
    · have hki : (n : Int) ≤ (k : Int) := by omega
      have HX2 : Hid (x = sixJ (wayJ cs ss) n) := Lib.hid (by
        rcases hkn with rfl | h
        · rw [HX.out]
          rcases (show n = 0 ∨ n = 1 by omega) with rfl | rfl
          · rfl
          · rfl
        · rw [HX.out, show k = n by omega])
      clear HX
      go_wp2
      go_ret
      exact ⟨ret_num HX2.out, HE.out⟩
end Go.Proofs.Ytmajgnnljlkjhaa
