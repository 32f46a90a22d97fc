/- Contracts of package rtcp: losses of numbers. No statement is proved here. -/
import Derived.Test.YtkmacpmdgbhhkaaRtcpP1
namespace Go.Proofs.Ytkmacpmdgbhhkaa
open Go.RowKit
set_option linter.unusedVariables false

theorem far_wrap (s x : Nat) (hs : s < 65536) (hx : x < 65536) : IntKind.u16.wrap ((x : Int) - (s : Int)) = (far s x : Int) := by
  rw [IntKind.wrap_u16]; unfold far; omega
theorem tell_no (g o s b x : Nat) (w : World) (hs : s < 65536) (hx : x < 65536) (c0 : w.cell? ⟨g, o, none⟩ = some (.int .u16 (s : Int))) (hd : ¬ (1 ≤ far s x ∧ far s x ≤ 16)) :
    Calls Try.prog 32 #[.pointer (some ⟨g, o, none⟩), .int .u16 (x : Int)] w fun e w' => e = .returned (.bool false) ∧ w = w' := by
  have e0 := far_wrap s x hs hx
  obtain ⟨D, hD⟩ : ∃ D, D = far s x := ⟨_, rfl⟩
  rw [← hD] at e0 hd
  clear hD
  by_cases h1 : D < 1
  · go_enter Try.func32, Try.ntmps32
    go_wp2
    go_ret
    exact ⟨rfl, rfl⟩
  · have h2 : 16 < D := by omega
    go_enter Try.func32, Try.ntmps32
    go_wp2
    go_ret
    exact ⟨rfl, rfl⟩
theorem tell_yes (g o s b x : Nat) (w : World) (hs : s < 65536) (hb : b < 65536) (hx : x < 65536) (c0 : w.cell? ⟨g, o, none⟩ = some (.int .u16 (s : Int))) (c1 : w.cell? ⟨g, o + 1, none⟩ = some (.int .u16 (b : Int))) (cf : w.frozen? ⟨g, o + 1, none⟩ = false) (hd : 1 ≤ far s x ∧ far s x ≤ 16) :
    Calls Try.prog 32 #[.pointer (some ⟨g, o, none⟩), .int .u16 (x : Int)] w fun e w' => e = .returned (.bool true) ∧ w' = w.setCell ⟨g, o + 1, none⟩ (.int .u16 ((b ||| 2 ^ (far s x - 1) : Nat) : Int)) := by
  have e0 := far_wrap s x hs hx
  obtain ⟨D, hD⟩ : ∃ D, D = far s x := ⟨_, rfl⟩
  rw [← hD] at e0 hd ⊢
  clear hD
  obtain ⟨h1, h2⟩ := hd
  obtain ⟨Q, hQ⟩ : ∃ Q, Q = D - 1 := ⟨_, rfl⟩
  have e1 : IntKind.u16.wrap ((D : Int) - 1) = (Q : Int) := by rw [IntKind.wrap_u16]; omega
  have hQ16 : Q < 16 := by omega
  rw [← hQ]
  clear hQ
  obtain ⟨P, hP⟩ : ∃ P, P = 2 ^ Q := ⟨_, rfl⟩
  have hP2 : P < 65536 := by rw [hP]; exact Nat.lt_of_lt_of_le (Nat.pow_lt_pow_right (by omega) hQ16) (by decide)
  have e4 : IntKind.u16.wrap ((2 : Int) ^ Q) = (P : Int) := by
    have e : (2 : Int) ^ Q = (P : Int) := by rw [hP]; simp
    rw [e, IntKind.wrap_u16]; omega
  have hor := u16_or_nat b P hb hP2
  rw [← hP]
  clear hP
  go_enter Try.func32, Try.ntmps32
  go_wp2
  go_ret
  exact ⟨rfl, rfl⟩

set_option maxRecDepth 100000 in
set_option maxHeartbeats 1000000 in
theorem losses_any (A : Option Addr) (n c : Nat) (L : List Nat) (w : World) (h : RdH w A n L) (hn : n ≤ 1000) :
    Calls Try.prog 21 #[.slice A n c] w fun e w' => ∃ A' c', e = .returned (.slice A' (lsL L).length c') ∧ w'.ownsRow w.heap.size 35 2 (.slice A' (lsL L).length c') (lsL L).length (lcells (lsL L)) ∧ Below w.heap.size w w' := by
  have HR := Lib.hid h
  have hz := zeroLoss
  clear h
  go_enter Try.func21, Try.ntmps21
  go_wp2
  go_loopw [3, 8] (fun v i wr => ∃ (k M : Nat) (A' : Option Addr) (c' : Nat), k ≤ n ∧ M ≤ k ∧ i = .int .i64 k ∧ v = .slice A' M c' ∧ Hid (M = (lsL (L.take k)).length) ∧ Hid (wr.ownsRow w.heap.size 35 2 (.slice A' M c') M (lcells (lsL (L.take k))) ∧ Below w.heap.size w wr)) (fun _ i _ => n - (intOf i).toNat)
  case atStart => exact ⟨0, 0, none, 0, by omega, by omega, rfl, rfl, Lib.hid rfl, Lib.hid ⟨World.ownsRow_nil w _ _ _, Below.refl _ _⟩⟩
  case round =>
    obtain ⟨k, M, A1, c1, hk, hM, rfl, rfl, HM, HL⟩ := hrel
    by_cases hkn : k < n
    · obtain ⟨b, off, rfl, hlt, hc⟩ := HR.out.2.2.2 (by omega)
      have q1 := hc k hkn
      have hxl : L.getD k 0 < 65536 := by
        have : k < L.length := by rw [HR.out.1]; exact hkn
        have h2 : L.getD k 0 = L[k] := by simp [List.getD, this]
        rw [h2]; exact HR.out.2.2.1 _ (List.getElem_mem _)
      have hsn : L.take (k + 1) = L.take k ++ [L.getD k 0] := by
        have : k < L.length := by rw [HR.out.1]; exact hkn
        rw [List.take_add_one, List.getD, List.getElem?_eq_getElem this]; rfl
      obtain ⟨x, hx⟩ : ∃ x, x = L.getD k 0 := ⟨_, rfl⟩
      rw [← hx] at q1 hxl hsn
      have r1 : wr.cell? ⟨b, off + k, none⟩ = some (.int .u16 (x : Int)) := (HL.out.2.cell (p := ⟨b, off + k, none⟩) hlt).trans q1
      have HSN : Hid (lsL (L.take (k + 1)) = lsS (lsL (L.take k)) x) := Lib.hid (by rw [hsn, lsL_snoc])
      obtain ⟨O, hO⟩ : ∃ O, O = lsL (L.take k) := ⟨_, rfl⟩
      rw [← hO] at HM HL HSN
      have HF : Hid (∀ a ∈ O, a.1 < 65536 ∧ a.2 < 65536) := Lib.hid (by rw [hO]; exact lsL_fit _ (fun y hy => HR.out.2.2.1 y (List.mem_of_mem_take hy)))
      have hsz := HL.out.2.size
      clear q1 hsn hx hc hO
      rcases List.eq_nil_or_concat O with hO | ⟨O1, a, hO⟩
      · subst hO
        have hM0 : M = 0 := HM.out
        subst hM0
        have HS2 : Hid (lsL (L.take (k + 1)) = [(x, 0)]) := Lib.hid (HSN.out.trans (lsS_nil x))
        clear HSN
        go_wp2_with (at_builtin; refine wpList_app2 rfl (.tmp 24) (.tmp 27) rfl w.heap.size (.slice A1 0 c1) 0 (lcells []) rfl (HL.out.1.alloc _) wr.heap.size rfl x 0 (new_loss wr x 0).1 (new_loss wr x 0).2 (by omega) (by simp; omega) ?_; intro v3 w3 hown3 hg3; obtain ⟨A3, c3, hv3⟩ := own_form2 hown3; subst hv3; have b3 := Lib.hid ((HL.out.2.alloc HL.out.2.size _).grown hg3 (by simp; omega) (fun q hq => (HL.out.1.lt q hq).1)); have o3 := Lib.hid hown3; clear hown3 hg3)
        go_roundw
        case rel => exact ⟨k + 1, 1, A3, c3, by omega, by omega, by go_num, rfl, Lib.hid (by rw [HS2.out]; rfl), Lib.hid ⟨by rw [HS2.out]; exact o3.out, b3.out⟩⟩
        case measure => simp [intOf]; omega
      · rw [List.concat_eq_append] at hO
        subst hO
        obtain ⟨s, bb⟩ := a
        obtain ⟨hs1, hs2⟩ := HF.out (s, bb) (by simp)
        simp only at hs1 hs2
        obtain ⟨m, hm⟩ : ∃ m, m = O1.length := ⟨_, rfl⟩
        have HMm : Hid (M = m + 1) := Lib.hid (by rw [HM.out, hm]; simp)
        have Hm := Lib.hid hm
        have hM1 : 0 < M := by have := HMm.out; omega
        have e0 : IntKind.i64.wrap ((M : Int) - 1) = (m : Int) := by have := HMm.out; rw [IntKind.wrap_i64]; omega
        have hmM : (m : Int) < (M : Int) := by have := HMm.out; omega
        obtain ⟨g, rfl, hg⟩ := own_block2 HL.out.1 hM1
        have CS : wr.cell? ⟨g, m * 2, none⟩ = some (.int .u16 (s : Int)) := (HL.out.1.cellAt (m * 2) (by have := HMm.out; omega)).trans (by rw [Hm.out]; exact lcells_s O1 s bb)
        have CB : wr.cell? ⟨g, m * 2 + 1, none⟩ = some (.int .u16 (bb : Int)) := (HL.out.1.cellAt (m * 2 + 1) (by have := HMm.out; omega)).trans (by rw [Hm.out]; exact lcells_b O1 s bb)
        have CF : wr.frozen? ⟨g, m * 2 + 1, none⟩ = false := HL.out.1.frozenAt (m * 2 + 1)
        clear HF HM hm
        by_cases hD : 1 ≤ far s x ∧ far s x ≤ 16
        · have T := Lib.hid (tell_yes g (m * 2) s bb x wr hs1 hs2 hxl CS CB CF hD)
          have HS2 : Hid (lsL (L.take (k + 1)) = O1 ++ [(s, bb ||| 2 ^ (far s x - 1))]) := Lib.hid (by rw [HSN.out, lsS_in O1 s bb x hD.1 hD.2])
          have HT : Hid ((wr.setCell ⟨g, m * 2 + 1, none⟩ (.int .u16 ((bb ||| 2 ^ (far s x - 1) : Nat) : Int))).ownsRow w.heap.size 35 2 (.slice (some ⟨g, 0, none⟩) M c1) M (lcells (O1 ++ [(s, bb ||| 2 ^ (far s x - 1))])) ∧ Below w.heap.size w (wr.setCell ⟨g, m * 2 + 1, none⟩ (.int .u16 ((bb ||| 2 ^ (far s x - 1) : Nat) : Int)))) := Lib.hid (by
            have h3 := (HL.out.1.stored (m * 2 + 1) (.int .u16 ((bb ||| 2 ^ (far s x - 1) : Nat) : Int))).1
            rw [Hm.out, lcells_set] at h3
            rw [Hm.out]
            exact ⟨h3, HL.out.2.setCell hg _⟩)
          clear CS CB CF hD HSN
          generalize bb ||| 2 ^ (far s x - 1) = Z at T HS2 HT
          go_wp2_with (go_at_call 32; ((with_reducible refine (Hid.out T).mono ?_); rintro e w2 ⟨rfl, hw2⟩; have HW2 := Lib.hid hw2; clear hw2))
          go_roundw
          case rel => exact ⟨k + 1, M, _, c1, by omega, by omega, by go_num, rfl, Lib.hid (by rw [HS2.out, HMm.out, Hm.out]; simp), Lib.hid ⟨by rw [HS2.out, HW2.out]; exact HT.out.1, by rw [HW2.out]; exact HT.out.2⟩⟩
          case measure => simp [intOf]; omega
        · have T := Lib.hid (tell_no g (m * 2) s bb x wr hs1 hxl CS hD)
          have HS2 : Hid (lsL (L.take (k + 1)) = (O1 ++ [(s, bb)]) ++ [(x, 0)]) := Lib.hid (by rw [HSN.out, lsS_new O1 s bb x hD])
          clear CS CB CF hD HSN
          go_wp2_with (first
            | (go_at_call 32; ((with_reducible refine (Hid.out T).mono ?_); rintro e w2 ⟨rfl, rfl⟩))
            | (at_builtin; refine wpList_app2 rfl (.tmp 24) (.tmp 27) rfl w.heap.size (.slice (some ⟨g, 0, none⟩) M c1) M (lcells (O1 ++ [(s, bb)])) rfl (HL.out.1.alloc _) wr.heap.size rfl x 0 (new_loss wr x 0).1 (new_loss wr x 0).2 (by omega) (by simp; omega) ?_; intro v3 w3 hown3 hg3; obtain ⟨A3, c3, hv3⟩ := own_form2 hown3; subst hv3; have b3 := Lib.hid ((HL.out.2.alloc HL.out.2.size _).grown hg3 (by simp; omega) (fun q hq => (HL.out.1.lt q hq).1)); have o3 := Lib.hid hown3; clear hown3 hg3))
          go_roundw
          case rel => exact ⟨k + 1, M + 1, A3, c3, by omega, by omega, by go_num, rfl, Lib.hid (by rw [HS2.out, HMm.out, Hm.out]; simp), Lib.hid ⟨by rw [HS2.out, lcells_snoc]; exact o3.out, b3.out⟩⟩
          case measure => simp [intOf]; omega
    · obtain rfl : k = n := by omega
      rw [show L.take k = L by rw [← HR.out.1, List.take_length]] at HL HM
      have hm : M = (lsL L).length := HM.out
      subst hm
      go_wp2
      go_ret
      exact ⟨A1, c1, rfl, HL.out.1, HL.out.2⟩
end Go.Proofs.Ytkmacpmdgbhhkaa
