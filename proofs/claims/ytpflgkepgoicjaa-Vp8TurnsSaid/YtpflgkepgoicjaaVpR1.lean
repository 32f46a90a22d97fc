/- What the document's answer for layer 13 (tenailleref13) tells of a payload. No statement is proved here. -/
import Derived.Test.YtpflgkepgoicjaaVpNum
import Derived.Test.YtpflgkepgoicjaaElts
import Derived.Test.YtpflgkepgoicjaaReg
import Derived.Deep.DeepCutAuto
namespace Go.Proofs.Ytpflgkepgoicjaa
open Go.RowKit
set_option linter.unusedVariables false

/-- What the document's Read tells. -/
def R13 (bs : List UInt8) (w : World) (e : Ending) (w' : World) : Prop := e = .returned (.tuple #[.agg (vC (vpV bs)).toArray, .int .i64 (plcV bs : Int), .int .i64 (whyV bs : Int)]) ∧ Below w.heap.size w w'
theorem R13.no {bs : List UInt8} {w w' : World} {q : Nat} (h : whyV bs = q) (h0 : ¬ q = 0) (hb : Below w.heap.size w w') : R13 bs w (.returned (.tuple #[.agg #[.bool false, .int .u8 0, .bool false, .bool false, .int .u16 0, .bool false, .int .i64 0], .int .i64 0, .int .i64 (q : Int)])) w' := by
  refine ⟨?_, hb⟩
  unfold vpV plcV
  rw [h, if_neg h0, if_neg (fun h => h0 h.1)]
  rfl
theorem firstB (w : World) (cs : List Value) (e : TypeId) (o2 o3 : Obj) : BlkV (((w.alloc (.cells cs.toArray e)).alloc o2).alloc o3) w.heap.size e cs := (BlkV.new w e cs).below (twoBelow _ o2 o3) (BlkV.new w e cs).lt
theorem threeBelow (w : World) (o o2 o3 : Obj) : Below w.heap.size w (((w.alloc o).alloc o2).alloc o3) := (twoBelow w o o2).alloc (by show _ ≤ ((w.heap.push o).push o2).size; simp; omega) _
theorem rowVp {cs : List Value} (h : cs.length = 7) : RowTy Try.prog 26 cs.length := by
  rw [h]
  exact ⟨_, Try.underlying26, rfl, by kernel_rfl⟩
abbrev zerV : Array Value := #[.bool false, .int .u8 0, .bool false, .bool false, .int .u16 0, .bool false, .int .i64 0]
abbrev W3 (w : World) (X : Array Value) : World := ((w.alloc (.cells #[.bool false, .int .u8 0, .bool false, .bool false, .int .u16 0, .bool false, .int .i64 0] 26)).alloc (.cells #[.bool false, .int .u8 0, .bool false, .bool false, .int .u16 0, .bool false, .int .i64 0] 26)).alloc (.cells X 26)
set_option maxRecDepth 100000 in
set_option maxHeartbeats 2000000 in
theorem rread13_any (A : Option Addr) (n c : Nat) (bs : List UInt8) (w : World) (hr : RdS w A n c bs) :
    Calls Try.prog 7 #[.slice A n c] w (R13 bs w) := by
  have hl := hr.len
  have hs := hr.small
  by_cases h1 : n < 1
  · have hw : whyV bs = 2 := by unfold whyV; rw [if_pos (by omega)]
    clear hr hl
    go_enter Try.func7, Try.ntmps7
    go_wp2
    exact ret_row3 rfl rfl (firstB w [.bool false, .int .u8 0, .bool false, .bool false, .int .u16 0, .bool false, .int .i64 0] _ _ _) (rowVp rfl) rfl (R13.no hw (by decide) (threeBelow _ _ _ _))
  · obtain ⟨b, off, rfl, hlt, hcs⟩ := hr.2.2.2.2 (by omega)
    have HCS : Hid (∀ (X : Array Value) (i : Nat), i < n → (W3 w X).cell? ⟨b, off + i, none⟩ = some (.int .u8 (bV bs i : Int))) := Lib.hid (fun X i hi => ((threeBelow w _ _ _).cell hlt).trans (hcs i hi))
    have c0 : ∀ X, (W3 w X).cell? ⟨b, off, none⟩ = some (.int .u8 (bV bs 0 : Int)) := fun X => HCS.out X 0 (by omega)
    obtain ⟨x0, e0⟩ : ∃ x, x = bV bs 0 := ⟨_, rfl⟩
    have l0 : x0 < 256 := by rw [e0]; exact bV_lt _ _
    rw [← e0] at c0
    have HE0 := Lib.hid e0
    have HL := Lib.hid hl
    clear hr hl hcs hlt e0
    go_enter Try.func7, Try.ntmps7
    go_upto_if 46 with (fail)
    · rename_i h
      exact ret_row3 rfl rfl (firstB w [.bool false, .int .u8 0, .bool false, .bool false, .int .u16 0, .bool false, .int .i64 0] _ _ _) (rowVp rfl) rfl (R13.no (q := 3) (why_bits (by rw [HL.out]; exact h1) (by rw [← HE0.out]; omega)) (by decide) (threeBelow _ _ _ _))
    · rename_i h
      exact ret_row3 rfl rfl (firstB w [.bool false, .int .u8 0, .bool false, .bool false, .int .u16 0, .bool false, .int .i64 0] _ _ _) (rowVp rfl) rfl (R13.no (q := 3) (why_bits (by rw [HL.out]; exact h1) (by rw [← HE0.out]; rcases h with h | h <;> have h := eq_of_beq h <;> omega)) (by decide) (threeBelow _ _ _ _))
    have hbits : (((x0 : Int) / 64 % 2 == 1) = false ∧ ((x0 : Int) / 8 % 2 == 1) = false) := by assumption
    have HG1 : Hid (G1 bs) := Lib.hid ⟨by rw [HL.out]; exact h1, by rw [← HE0.out]; have h5 := ne_of_beq_false hbits.1; have h6 := ne_of_beq_false hbits.2; omega⟩
    clear hbits
    go_cut [8, 10] (fun v s wx => (v = .int .i64 (fstV bs : Int) ∧ s = .int .u8 (secV bs : Int) ∧ Hid (G2 bs)) ∧ wx = W3 w #[.bool ((x0 : Int) / 16 % 2 == 1), .int .u8 ((x0 : Int) % 8), .bool false, .bool false, .int .u16 0, .bool false, .int .i64 0])
    case first =>
      by_cases hx : (128 : Int) ≤ (x0 : Int)
      · by_cases hn : (n : Int) < 2
        · go_wp2_with (fail)
          exact ret_row3 rfl rfl (firstB w [.bool false, .int .u8 0, .bool false, .bool false, .int .u16 0, .bool false, .int .i64 0] _ _ _) (rowVp rfl) rfl (R13.no (q := 2) (why_second HG1.out (by rw [← HE0.out]; omega) (by rw [HL.out]; omega)) (by decide) (threeBelow _ _ _ _))
        · have c1 : ∀ X, (W3 w X).cell? ⟨b, off + 1, none⟩ = some (.int .u8 (bV bs 1 : Int)) := fun X => HCS.out X 1 (by omega)
          obtain ⟨x1, e1⟩ : ∃ x, x = bV bs 1 := ⟨_, rfl⟩
          have l1 : x1 < 256 := by rw [e1]; exact bV_lt _ _
          rw [← e1] at c1
          have HS : Hid (secV bs = x1) := Lib.hid (by unfold secV; rw [if_pos (by rw [← HE0.out]; omega), ← e1])
          have HF : Hid (fstV bs = 2) := Lib.hid (by unfold fstV; rw [if_pos (by rw [← HE0.out]; omega)])
          have HN2 : Hid (¬ (128 ≤ bV bs 0 ∧ bs.length < 2)) := Lib.hid (fun h => by have := h.2; rw [HL.out] at this; omega)
          clear e1
          go_wp2_with (fail)
          · rename_i h
            exact ret_row3 rfl rfl (firstB w [.bool false, .int .u8 0, .bool false, .bool false, .int .u16 0, .bool false, .int .i64 0] _ _ _) (rowVp rfl) rfl (R13.no (q := 3) (why_low HG1.out HN2.out (by rw [HS.out]; omega)) (by decide) (threeBelow _ _ _ _))
          · rename_i h
            go_meet
            exact ⟨⟨by rw [HF.out]; rfl, by rw [HS.out], Lib.hid ⟨HG1.out, HN2.out, by rw [HS.out]; omega⟩⟩, rfl⟩
      · have HS : Hid (secV bs = 0) := Lib.hid (by unfold secV; rw [if_neg (by rw [← HE0.out]; omega)])
        have HF : Hid (fstV bs = 1) := Lib.hid (by unfold fstV; rw [if_neg (by rw [← HE0.out]; omega)])
        go_wp2_with (fail)
        go_meet
        exact ⟨⟨by rw [HF.out]; rfl, by rw [HS.out]; rfl, Lib.hid ⟨HG1.out, fun h => by have := h.1; rw [← HE0.out] at this; omega, by rw [HS.out]; decide⟩⟩, rfl⟩
    case rest =>
      obtain ⟨⟨rfl, rfl, HG2⟩, hwc⟩ := hcut
      rw [hwc]
      clear hwc
      have HHA : Hid (128 ≤ secV bs → fstV bs = 2) := Lib.hid (fun h => by unfold fstV secV at *; split at h <;> simp_all)
      have HKR : Hid (fstV bs ≤ 2 ∧ secV bs < 256) := Lib.hid (by unfold fstV secV; have := bV_lt bs 1; constructor <;> split <;> omega)
      have HSE : Hid (hasV bs = true ↔ 128 ≤ secV bs) := Lib.hid (by unfold hasV; exact decide_eq_true_iff)
      have HAT : Hid (at1V bs = fstV bs + (if hasV bs then (if wideV bs then 2 else 1) else 0)) := Lib.hid rfl
      obtain ⟨K, hK⟩ : ∃ K, K = fstV bs := ⟨_, rfl⟩
      obtain ⟨S, hS⟩ : ∃ S, S = secV bs := ⟨_, rfl⟩
      rw [← hK, ← hS]
      have HK := Lib.hid hK
      have HS := Lib.hid hS
      have lS : S < 256 := by rw [hS]; exact HKR.out.2
      have lK : K ≤ 2 := by rw [hK]; exact HKR.out.1
      clear hK hS
      go_upto_if 58 with (fail)
      go_cut [8, 9] (fun v p wx => (v = .int .i64 (at1V bs : Int) ∧ p = .int .i64 (if hasV bs then 2 else 0) ∧ Hid (G3 bs)) ∧ ∃ nq, wx = (W3 w #[.bool ((x0 : Int) / 16 % 2 == 1), .int .u8 ((x0 : Int) % 8), .bool (hasV bs), .bool (wideV bs), .int .u16 (picV bs : Int), .bool false, .int .i64 0]).drewN nq)
      case first =>
        by_cases hx : (128 : Int) ≤ (S : Int)
        · have hK2 : K = 2 := by rw [HK.out]; exact HHA.out (by rw [← HS.out]; omega)
          subst hK2
          have HH : Hid (hasV bs = true) := Lib.hid (HSE.out.2 (by rw [← HS.out]; omega))
          by_cases hn : (n : Int) ≤ 2
          · go_wp2_with (fail)
            exact ret_row3 rfl rfl (firstB w [.bool false, .int .u8 0, .bool false, .bool false, .int .u16 0, .bool false, .int .i64 0] _ _ _) (rowVp rfl) rfl (R13.no (q := 2) (why_num HG2.out HH.out (by rw [HL.out]; omega)) (by decide) (threeBelow _ _ _ _))
          · have c2 : ∀ X, (W3 w X).cell? ⟨b, off + 2, none⟩ = some (.int .u8 (bV bs 2 : Int)) := fun X => HCS.out X 2 (by omega)
            obtain ⟨x2, e2⟩ : ∃ x, x = bV bs 2 := ⟨_, rfl⟩
            have l2 : x2 < 256 := by rw [e2]; exact bV_lt _ _
            rw [← e2] at c2
            have HE2 := Lib.hid e2
            have HN2 : Hid (¬ (hasV bs = true ∧ bs.length ≤ 2)) := Lib.hid (fun h => by have := h.2; rw [HL.out] at this; omega)
            clear e2
            by_cases hw : (128 : Int) ≤ (x2 : Int)
            · have HW2 : Hid (wideV bs = true) := Lib.hid (by unfold wideV; rw [HH.out, ← HE2.out]; simp; omega)
              by_cases hn3 : (n : Int) ≤ 3
              · go_wp2_with (fail)
                exact ret_row3 rfl rfl (firstB w [.bool false, .int .u8 0, .bool false, .bool false, .int .u16 0, .bool false, .int .i64 0] _ _ _) (rowVp rfl) rfl (R13.no (q := 2) (why_wide HG2.out HN2.out HW2.out (by rw [HL.out]; omega)) (by decide) (threeBelow _ _ _ _))
              · have c3 : ∀ X, (W3 w X).cell? ⟨b, off + 3, none⟩ = some (.int .u8 (bV bs 3 : Int)) := fun X => HCS.out X 3 (by omega)
                obtain ⟨x3, e3⟩ : ∃ x, x = bV bs 3 := ⟨_, rfl⟩
                have l3 : x3 < 256 := by rw [e3]; exact bV_lt _ _
                rw [← e3] at c3
                have HE3 := Lib.hid e3
                clear e3
                go_wp2_with (fail)
                generalize hW : ((w.alloc (.cells #[.bool false, .int .u8 0, .bool false, .bool false, .int .u16 0, .bool false, .int .i64 0] 26)).alloc (.cells #[.bool false, .int .u8 0, .bool false, .bool false, .int .u16 0, .bool false, .int .i64 0] 26)).alloc (.cells #[.bool ((x0 : Int) / 16 % 2 == 1), .int .u8 ((x0 : Int) % 8), .bool true, .bool true, .int .u16 (x2 : Int), .bool false, .int .i64 0] 26) = W
                have d2 : W.cell? ⟨b, off + 2, none⟩ = some (.int .u8 (x2 : Int)) := by rw [← hW]; exact c2 _
                have d3 : W.cell? ⟨b, off + 3, none⟩ = some (.int .u8 (x3 : Int)) := by rw [← hW]; exact c3 _
                go_still_tail 14, (by kernel_rfl)
                change wpList _ _ _ _ _ W.drew
                rw [← hW]
                clear hW d2 d3
                go_wp2_with (fail)
                go_meet
                have HP : (picV bs : Int) = ((x2 : Int) - 128) * 256 + (x3 : Int) := by unfold picV; rw [HW2.out, if_pos rfl, ← HE2.out, ← HE3.out]; omega
                exact ⟨⟨by rw [HAT.out, HH.out, HW2.out, ← HK.out]; rfl, by rw [HH.out]; rfl, Lib.hid ⟨HG2.out, HN2.out, fun h => by have := h.2; rw [HL.out] at this; omega⟩⟩, 1, by rw [HH.out, HW2.out, HP]; rfl⟩
            · have HW2 : Hid (wideV bs = false) := Lib.hid (by unfold wideV; rw [HH.out, ← HE2.out]; simp; omega)
              have HP : Hid (picV bs = x2) := Lib.hid (by unfold picV; rw [HW2.out, HH.out, ← HE2.out]; rfl)
              go_wp2_with (fail)
              go_meet
              exact ⟨⟨by rw [HAT.out, HH.out, HW2.out, ← HK.out]; rfl, by rw [HH.out]; rfl, Lib.hid ⟨HG2.out, HN2.out, fun h => by rw [HW2.out] at h; simp at h⟩⟩, 0, by rw [HH.out, HW2.out, HP.out]; rfl⟩
        · have HH : Hid (hasV bs = false) := Lib.hid (by cases h : hasV bs with
            | false => rfl
            | true => exact absurd (HSE.out.1 h) (by rw [← HS.out]; omega))
          have HW2 : Hid (wideV bs = false) := Lib.hid (by unfold wideV; rw [HH.out]; rfl)
          have HP : Hid (picV bs = 0) := Lib.hid (by unfold picV; rw [HW2.out, HH.out]; rfl)
          go_wp2_with (fail)
          go_meet
          exact ⟨⟨by rw [HAT.out, HH.out, ← HK.out]; rfl, by rw [HH.out]; rfl, Lib.hid ⟨HG2.out, fun h => by rw [HH.out] at h; simp at h, fun h => by rw [HW2.out] at h; simp at h⟩⟩, 0, by rw [HH.out, HW2.out, HP.out]; rfl⟩
      case rest =>
        obtain ⟨⟨rfl, rfl, HG3⟩, nq, hwc⟩ := hcut
        rw [hwc]
        clear hwc
        have HC9 : Hid (∀ (X : Array Value) (i : Nat), i < n → (W3 (w.drewN nq) X).cell? ⟨b, off + i, none⟩ = some (.int .u8 (bV bs i : Int))) := Lib.hid (fun X i hi => HCS.out X i hi)
        have HB9 : Hid (∀ wz, Below (w.drewN nq).heap.size (w.drewN nq) wz → Below w.heap.size w wz) := Lib.hid (fun wz h => (⟨rfl, rfl, rfl, Nat.le_refl _, fun _ _ => rfl⟩ : Below w.heap.size w (w.drewN nq)).trans h)
        rw [show ∀ X, (W3 w X).drewN nq = W3 (w.drewN nq) X from fun _ => rfl]
        generalize hw9 : w.drewN nq = w9 at HC9 HB9 ⊢
        have hSZ : w.heap.size = w9.heap.size := by rw [← hw9]; rfl
        rw [hSZ]
        clear hSZ hw9 HCS c0
        unfold W3
        have HA2 : Hid (at2V bs = at1V bs + (if secV bs / 64 % 2 = 1 then 1 else 0)) := Lib.hid rfl
        have HA3 : Hid (at3V bs = at2V bs + (if secV bs / 32 % 2 = 1 ∨ secV bs / 16 % 2 = 1 then 1 else 0)) := Lib.hid rfl
        obtain ⟨A1, hA1⟩ : ∃ A, A = at1V bs := ⟨_, rfl⟩
        have lA1 : A1 ≤ 4 := by rw [hA1, HAT.out]; have := HKR.out.1; split <;> (try split) <;> omega
        rw [← hA1] at HA2 ⊢
        obtain ⟨pl, hpl⟩ : ∃ pl : Int, pl = (if hasV bs then 2 else 0) := ⟨_, rfl⟩
        rw [← hpl]
        have HPL := Lib.hid hpl
        clear hA1 hpl HAT HHA HSE HKR
        go_upto_if 102 with (fail)
        go_cut [8] (fun v wx => v = .int .i64 (at2V bs : Int) ∧ wx = W3 w9 #[.bool ((x0 : Int) / 16 % 2 == 1), .int .u8 ((x0 : Int) % 8), .bool (hasV bs), .bool (wideV bs), .int .u16 (picV bs : Int), .bool false, .int .i64 0])
        case first =>
          by_cases hq : (S : Int) / 64 % 2 = 1
          · go_wp2_with (fail)
            go_meet
            exact ⟨by rw [HA2.out, if_pos (by rw [← HS.out]; omega)]; rfl, rfl⟩
          · go_wp2_with (fail)
            go_meet
            exact ⟨by rw [HA2.out, if_neg (by rw [← HS.out]; omega)]; rfl, rfl⟩
        case rest =>
          obtain ⟨rfl, hwc⟩ := hcut
          rw [hwc]
          clear hwc
          unfold W3
          have lA2 : at2V bs ≤ 5 := by rw [HA2.out]; split <;> omega
          obtain ⟨A2, hA2⟩ : ∃ A, A = at2V bs := ⟨_, rfl⟩
          rw [← hA2] at HA3 lA2 ⊢
          clear hA2 HA2 lA1
          obtain ⟨tt, htt⟩ : ∃ tt : Bool, tt = true ↔ (S / 32 % 2 = 1 ∨ S / 16 % 2 = 1) := ⟨decide _, decide_eq_true_iff⟩
          have HTT := Lib.hid htt
          clear htt
          go_upto_region 33 with (fail)
          go_cut [114] (fun t wx => t = .bool tt ∧ wx = W3 w9 #[.bool ((x0 : Int) / 16 % 2 == 1), .int .u8 ((x0 : Int) % 8), .bool (hasV bs), .bool (wideV bs), .int .u16 (picV bs : Int), .bool false, .int .i64 0])
          case first =>
            by_cases q1 : (S : Int) / 32 % 2 = 1
            · have e : tt = true := HTT.out.2 (by omega)
              subst e
              go_wp2_with (fail)
              go_meet
              exact ⟨rfl, rfl⟩
            · have q2 : ((S : Int) / 32 % 2 == 1) = false := by simp; omega
              have e : ((S : Int) / 16 % 2 == 1) = tt := by
                rw [Bool.eq_iff_iff, HTT.out, beq_iff_eq]; omega
              go_wp2_with (fail)
              go_meet
              exact ⟨by first | rfl | rw [e], rfl⟩
          case rest =>
            obtain ⟨rfl, hwc⟩ := hcut
            rw [hwc]
            clear hwc
            unfold W3
            go_upto_if 114 with (fail)
            go_cut [8] (fun v wx => v = .int .i64 (at3V bs : Int) ∧ wx = W3 w9 #[.bool ((x0 : Int) / 16 % 2 == 1), .int .u8 ((x0 : Int) % 8), .bool (hasV bs), .bool (wideV bs), .int .u16 (picV bs : Int), .bool false, .int .i64 0])
            case first =>
              have ht : tt = true ∨ tt = false := by cases tt <;> simp
              rcases ht with ht | ht
              · have e3 : at3V bs = A2 + 1 := by rw [HA3.out, if_pos (by rw [← HS.out]; exact HTT.out.1 ht)]
                rw [ht]
                go_wp2_with (fail)
                go_meet
                exact ⟨by rw [e3]; rfl, rfl⟩
              · have e3 : at3V bs = A2 := by rw [HA3.out, if_neg (by rw [← HS.out]; exact fun h => by rw [HTT.out.2 h] at ht; simp at ht)]; rfl
                rw [ht]
                go_wp2_with (fail)
                go_meet
                exact ⟨by rw [e3], rfl⟩
            case rest =>
              obtain ⟨rfl, hwc⟩ := hcut
              rw [hwc]
              clear hwc
              unfold W3
              have lA3 : at3V bs ≤ 6 := by rw [HA3.out]; split <;> omega
              obtain ⟨A3, hA3⟩ : ∃ A, A = at3V bs := ⟨_, rfl⟩
              rw [← hA3] at lA3 ⊢
              have HAE := Lib.hid hA3
              clear hA3 HA3 lA2 HTT HS lS
              by_cases hn : (n : Int) < (A3 : Int)
              · go_wp2_with (fail)
                exact ret_row3 rfl rfl (firstB w9 [.bool false, .int .u8 0, .bool false, .bool false, .int .u16 0, .bool false, .int .i64 0] _ _ _) (rowVp rfl) rfl (R13.no (q := 2) (why_end HG3.out (by rw [HL.out, ← HAE.out]; omega)) (by decide) (HB9.out _ (threeBelow _ _ _ _)))
              · have HWH : Hid (whyV bs = 0) := Lib.hid (why_ok HG3.out (by rw [HL.out, ← HAE.out]; omega))
                have HKE : Hid (keyV bs = decide ((x0 / 16 % 2 = 1 ∧ x0 % 8 = 0) ∧ A3 < n ∧ bV bs A3 % 2 = 0)) := Lib.hid (by unfold keyV; rw [HE0.out, HAE.out, HL.out])
                have HAN : Hid (∀ key wz, keyV bs = key → pl = (plcV bs : Int) → Below w9.heap.size w9 wz → R13 bs w (.returned (.tuple #[.agg #[.bool ((x0 : Int) / 16 % 2 == 1), .int .u8 ((x0 : Int) % 8), .bool (hasV bs), .bool (wideV bs), .int .u16 (picV bs : Int), .bool key, .int .i64 (A3 : Int)], .int .i64 pl, .int .i64 0])) wz) := Lib.hid (fun key wz hk hp hb => by
                  refine ⟨?_, HB9.out _ hb⟩
                  unfold vpV
                  rw [HWH.out, if_pos rfl, ← hp]
                  unfold vC
                  simp only [hk, ← HE0.out, ← HAE.out]
                  have t1 : ((x0 : Int) / 16 % 2 == 1) = decide (x0 / 16 % 2 = 1) := by rw [Bool.eq_iff_iff, beq_iff_eq, decide_eq_true_iff]; omega
                  rw [t1]
                  rfl)
                have HPP : Hid (pl = (plcV bs : Int)) := Lib.hid (by rw [HPL.out]; unfold plcV; rw [HWH.out]; cases hasV bs <;> rfl)
                clear HPL
                by_cases k1 : (x0 : Int) / 16 % 2 = 1
                · have kb : ((x0 : Int) / 16 % 2 == 1) = true := by simp; omega
                  rw [kb] at HAN ⊢
                  by_cases k2 : (x0 : Int) % 8 = 0
                  · rw [k2] at HAN ⊢
                    by_cases k3 : (A3 : Int) < (n : Int)
                    · have cA : ∀ X, (W3 w9 X).cell? ⟨b, off + A3, none⟩ = some (.int .u8 (bV bs A3 : Int)) := fun X => HC9.out X A3 (by omega)
                      obtain ⟨xa, ea⟩ : ∃ x, x = bV bs A3 := ⟨_, rfl⟩
                      have la : xa < 256 := by rw [ea]; exact bV_lt _ _
                      rw [← ea] at cA HKE
                      clear ea
                      have hk : Hid (keyV bs = ((xa : Int) % 2 == 0)) := Lib.hid (by rw [HKE.out, Bool.eq_iff_iff, decide_eq_true_iff, beq_iff_eq]; omega)
                      go_wp2_with (fail)
                      exact ret_row3 rfl rfl (firstB w9 _ _ _ _) (rowVp rfl) rfl (HAN.out _ _ hk.out HPP.out (threeBelow _ _ _ _))
                    · have hk : Hid (keyV bs = false) := Lib.hid (by rw [HKE.out, decide_eq_false_iff_not]; omega)
                      go_wp2_with (fail)
                      exact ret_row3 rfl rfl (firstB w9 _ _ _ _) (rowVp rfl) rfl (HAN.out _ _ hk.out HPP.out (threeBelow _ _ _ _))
                  · have hk : Hid (keyV bs = false) := Lib.hid (by rw [HKE.out, decide_eq_false_iff_not]; omega)
                    go_wp2_with (fail)
                    exact ret_row3 rfl rfl (firstB w9 _ _ _ _) (rowVp rfl) rfl (HAN.out _ _ hk.out HPP.out (threeBelow _ _ _ _))
                · have kb : ((x0 : Int) / 16 % 2 == 1) = false := by simp; omega
                  rw [kb] at HAN ⊢
                  have hk : Hid (keyV bs = false) := Lib.hid (by rw [HKE.out, decide_eq_false_iff_not]; omega)
                  go_wp2_with (fail)
                  exact ret_row3 rfl rfl (firstB w9 _ _ _ _) (rowVp rfl) rfl (HAN.out _ _ hk.out HPP.out (threeBelow _ _ _ _))
end Go.Proofs.Ytpflgkepgoicjaa
