/- The walks of the laws RembShares, RembFits and RembLowest over what they ask of package remb. No statement is proved here. -/
import Derived.Test.YtehnnnhbgjfdgaaRemL1
namespace Go.Proofs.Ytehnnnhbgjfdgaa
open Go.RowKit
set_option linter.unusedVariables false

theorem RdJ.at_ {w : World} {A : Option Addr} {n : Nat} {xs : List Int} (h : RdJ w A n xs) {j : Nat} (hj : j < n) : ∃ b off, A = some ⟨b, off, none⟩ ∧ w.cell? ⟨b, off + j, none⟩ = some (.int .i64 (xs.getD j 0)) := by
  obtain ⟨b, off, hA, _, hc⟩ := h.2 (by omega)
  exact ⟨b, off, hA, hc j hj⟩
theorem RdI.of_rdj {w : World} {A : Option Addr} {n : Nat} {xs : List Int} (h : RdJ w A n xs) (hn : n ≤ 9223372036854775807) (hb : ∀ x ∈ xs, -9223372036854775808 ≤ x ∧ x ≤ 9223372036854775807) : RdI w A n xs := ⟨h.1, hn, hb, h.2⟩
/-- What stays as it is behind the two sharings. -/
structure Env25 (w : World) (n : Nat) (R : List Int) (B1 B2 : Option Addr) (wx : World) : Prop where
  a : RdJ wx B1 n R
  b : RdJ wx B2 n R
  below : Below w.heap.size w wx
theorem Env25.drewN {w : World} {n : Nat} {R : List Int} {B1 B2 : Option Addr} {wx : World} (h : Env25 w n R B1 B2 wx) (q : Nat) : Env25 w n R B1 B2 (wx.drewN q) :=
  ⟨h.a, h.b, ⟨h.below.os, h.below.tape, h.below.output, h.below.size, h.below.block⟩⟩
set_option maxRecDepth 100000 in
set_option maxHeartbeats 4000000 in
theorem rembShares_walk (hT : Tells25) (rate : Int) (A : Option Addr) (ca : Nat) (C : List (List Int)) (B : Option Addr) (m cb : Nat) (L : List Int) (w : World) (h0 : 0 ≤ rate) (h1 : rate ≤ 18446744073709551615) (hr : MatRd w A C) (hca : C.length ≤ ca) (hb : RdI w B m L) :
    Calls Try.prog 3 #[.int .u64 rate, .slice A C.length ca, .slice B m cb] w fun e w' => e = .returned (.bool true) ∧ Below w.heap.size w w' := by
  have H := Lib.hid hT
  have hm := hb.small
  have hn := hr.1
  have P0 := Lib.hid (alive_any25 hT w)
  by_cases hs : Sm C
  · have PG := Lib.hid (fun wx (hm : MatRd wx A C) => great_any25 A ca C wx hm false (fun h => by cases h) (fun _ => hs))
    have P1 := Lib.hid (fun wx (hm : MatRd wx A C) => hT.share wx A ca C rate hm hca hs h0 h1)
    have P2 := Lib.hid (fun wx (hm : MatRd wx A C) => rshare_any A ca C rate wx hm (by have := hs.1; omega) h0 h1)
    have P3 := Lib.hid (fun wx (hm : MatRd wx A C) (hb : RdI wx B m L) (h2 : m ≤ 200) => hT.cost wx A ca C B m cb L hm hca hs hb h2)
    have P4 := Lib.hid (fun wx (hm : MatRd wx A C) (hb : RdI wx B m L) => rCost_any A B ca cb C m L wx hm hb)
    have HR := Lib.hid hr
    have HBI := Lib.hid hb
    obtain ⟨n, hnn⟩ : ∃ n, n = C.length := ⟨_, rfl⟩
    rw [← hnn] at PG P1 P2 P3 P4 hn ⊢
    clear hT hr hb hs hnn hca
    by_cases h2 : m ≤ 200
    · have h2i : ¬ (200 : Int) < (m : Int) := by omega
      go_enter Try.func3, Try.ntmps3
      go_wp2_with (first
        | (go_at_call 6; ((with_reducible refine (Hid.out P0).mono ?_); rintro e wa ⟨rfl, hba⟩; have HBA := Lib.hid hba; have PGa := Lib.hid (PG.out _ (HR.out.below hba)); clear hba PG P0))
        | (go_at_call 7; ((with_reducible refine (Hid.out PGa).mono ?_); rintro e wb ⟨rfl, rfl⟩; have P1a := Lib.hid (P1.out _ (HR.out.below HBA.out)); clear P1 PGa))
        | (go_at_call 8; ((with_reducible refine (Hid.out P1a).mono ?_); rintro e w2 ⟨B1, c1, rfl, HK⟩; have HB2 := Lib.hid (HBA.out.trans (HK.out.choose_spec.2.2.mono HBA.out.size)); have P2a := Lib.hid (P2.out _ (HR.out.below HB2.out)); clear P1a P2))
        | (go_at_call 9; ((with_reducible refine (Hid.out P2a).mono ?_); rintro e w3 ⟨rfl, HK3⟩; obtain ⟨R1, k1, k2, k3⟩ := HK.out; obtain ⟨R2, m1, m2, m3⟩ := HK3.out; obtain rfl := k1.one m1; have HE : Hid (Env25 w n R1 B1 (some ⟨w2.heap.size, 0, none⟩) w3) := Lib.hid ⟨k2.below m3, m2, HB2.out.trans (m3.mono HB2.out.size)⟩; clear P2a k1 k2 k3 m1 m2 m3 HK HK3 HB2)))
      generalize (some ⟨w2.heap.size, 0, none⟩ : Option Addr) = B2 at *
      go_loopw [9] (fun vi wr => ∃ k : Nat, k ≤ n ∧ vi = .int .i64 k ∧ Hid (Env25 w n R1 B1 B2 wr)) (fun i _ => n - (intOf i).toNat)
      case atStart => exact ⟨0, by omega, rfl, HE⟩
      case round =>
        clear HE
        obtain ⟨k, hk, rfl, HE⟩ := hrel
        by_cases g1 : k < n
        · have g1i : (k : Int) < (n : Int) := by omega
          obtain ⟨b1, o1, rfl, d1⟩ := HE.out.a.at_ g1
          obtain ⟨b2, o2, rfl, d2⟩ := HE.out.b.at_ g1
          have HE2 := Lib.hid (fun q => HE.out.drewN q)
          generalize R1.getD k 0 = y at *
          clear HE
          go_wp2
          go_quiet (fail)
          go_wp2
          go_roundw
          case rel => exact ⟨k + 1, by omega, by go_num, Lib.hid (HE2.out _)⟩
          case measure => (simp [intOf]; try omega)
        · have g1i : ¬ (k : Int) < (n : Int) := by omega
          have P3a := Lib.hid (P3.out _ (HR.out.below HE.out.below) (HBI.out.below HE.out.below (Nat.le_refl _)) h2)
          go_wp2_with (first
            | (go_at_call 10; ((with_reducible refine (Hid.out P3a).mono ?_); rintro e w4 ⟨rfl, HK4⟩; have HB4 := Lib.hid (HE.out.below.trans (HK4.out.mono HE.out.below.size)); have P4a := Lib.hid (P4.out _ (HR.out.below HB4.out) (HBI.out.below HB4.out (Nat.le_refl _)))))
            | (go_at_call 11; ((with_reducible refine (Hid.out P4a).mono ?_); rintro e w5 ⟨rfl, q5, rfl⟩)))
          go_ret
          exact ⟨rfl, HB4.out.os, HB4.out.tape, HB4.out.output, HB4.out.size, HB4.out.block⟩
    · have h2i : (200 : Int) < (m : Int) := by omega
      go_enter Try.func3, Try.ntmps3
      go_wp2_with (first
        | (go_at_call 6; ((with_reducible refine (Hid.out P0).mono ?_); rintro e wa ⟨rfl, hba⟩; have HBA := Lib.hid hba; have PGa := Lib.hid (PG.out _ (HR.out.below hba)); clear hba PG P0))
        | (go_at_call 7; ((with_reducible refine (Hid.out PGa).mono ?_); rintro e wb ⟨rfl, rfl⟩)))
      go_ret
      exact ⟨rfl, HBA.out⟩
  · have PG := Lib.hid (fun wx (hm : MatRd wx A C) => great_any25 A ca C wx hm true (fun _ => hs) (fun h => by cases h))
    have HR := Lib.hid hr
    clear hca
    generalize C.length = n at *
    clear hT hr hb
    go_enter Try.func3, Try.ntmps3
    go_wp2_with (first
      | (go_at_call 6; ((with_reducible refine (Hid.out P0).mono ?_); rintro e wa ⟨rfl, hba⟩; have HBA := Lib.hid hba; have PGa := Lib.hid (PG.out _ (HR.out.below hba)); clear hba PG P0))
      | (go_at_call 7; ((with_reducible refine (Hid.out PGa).mono ?_); rintro e wb ⟨rfl, rfl⟩)))
    go_ret
    exact ⟨rfl, HBA.out⟩
set_option maxRecDepth 100000 in
set_option maxHeartbeats 4000000 in
theorem rembFits_walk (hT : Tells25) (rate : Int) (A : Option Addr) (ca : Nat) (C : List (List Int)) (w : World) (h0 : 0 ≤ rate) (h1 : rate ≤ 4294967295) (hr : MatRd w A C) (hca : C.length ≤ ca) :
    Calls Try.prog 4 #[.int .u32 rate, .slice A C.length ca] w fun e w' => e = .returned (.bool true) ∧ Below w.heap.size w w' := by
  have hn := hr.1
  have P0 := Lib.hid (alive_any25 hT w)
  by_cases hs : Sm C
  · have PG := Lib.hid (fun wx (hm : MatRd wx A C) => great_any25 A ca C wx hm false (fun h => by cases h) (fun _ => hs))
    have P1 := Lib.hid (fun wx (hm : MatRd wx A C) => hT.share wx A ca C rate hm hca hs h0 (by omega))
    have P3 := Lib.hid (fun wx R B cb (hm : MatRd wx A C) (hb : RdI wx B C.length R) => hT.cost wx A ca C B C.length cb R hm hca hs hb (by have := hs.1; omega))
    have HFIT := Lib.hid (fun R (h : Shr C rate (List.replicate C.length (-1)) R) => fits25 hr.ok h0 (by omega) h)
    have HCK := Lib.hid (fun R k => costR_ok hr.ok R k)
    have HBD := Lib.hid (fun R (h : Shr C rate (List.replicate C.length (-1)) R) => h.bound)
    have HR := Lib.hid hr
    have HN : Hid (∀ j, j < C.length → j < C.length) := Lib.hid (fun _ h => h)
    rw [Nat.min_self] at P3
    obtain ⟨n, hnn⟩ : ∃ n, n = C.length := ⟨_, rfl⟩
    rw [← hnn] at PG P1 P3 HFIT HBD hn ⊢
    rw (occs := .pos [1]) [← hnn] at HN
    clear hT hr hs hnn hca
    have hw : IntKind.u64.wrap rate = rate := by rw [IntKind.wrap_u64]; omega
    go_enter Try.func4, Try.ntmps4
    go_wp2_with (first
      | (go_at_call 6; ((with_reducible refine (Hid.out P0).mono ?_); rintro e wa ⟨rfl, hba⟩; have HBA := Lib.hid hba; have PGa := Lib.hid (PG.out _ (HR.out.below hba)); clear hba PG P0))
      | (go_at_call 7; ((with_reducible refine (Hid.out PGa).mono ?_); rintro e wb ⟨rfl, rfl⟩)))
    go_loopw [5] (fun vi wr => ∃ k : Nat, k ≤ n ∧ vi = .int .i64 k ∧ Hid (Below w.heap.size w wr)) (fun i _ => n - (intOf i).toNat)
    case atStart => exact ⟨0, by omega, rfl, HBA⟩
    case round =>
      clear HBA PGa
      obtain ⟨k, hk, rfl, HBA⟩ := hrel
      by_cases g1 : k < n
      · have g1i : (k : Int) < (n : Int) := by omega
        obtain ⟨b, off, R, cr, rfl, hc, hrow⟩ := (HR.out.below HBA.out).at_ (HN.out k g1)
        have hnr := hrow.2.1
        have HROW := Lib.hid hrow
        have HCELL : Hid (∀ wx, Below w.heap.size w wx → wx.cell? ⟨b, off + k, none⟩ = some (.slice R (C.getD k []).length cr) ∧ RdV wx R (C.getD k []).length (C.getD k [])) := Lib.hid (fun wx hb => by
          have hm := (HR.out.below hb)
          have hm0 := HR.out
          obtain ⟨b', off', R', cr', hA, hc', hrow'⟩ := hm0.at_ (HN.out k g1)
          injection hA with hA
          injection hA with e1 e2
          subst e1
          subst e2
          obtain ⟨b2, off2, hA2, hlt2, hc2⟩ := hm0.2 (by have := HN.out k g1; omega)
          injection hA2 with hA2
          injection hA2 with e1 e2
          subst e1
          subst e2
          have c1 := (HBA.out.cell (p := ⟨b, off + k, none⟩) hlt2).trans hc'
          rw [hc] at c1
          injection c1 with c1
          injection c1 with e3 e4 e5
          subst e3
          subst e5
          exact ⟨(hb.cell (p := ⟨b, off + k, none⟩) hlt2).trans hc', hrow'.below hb⟩)
        clear hrow hc
        generalize C.getD k [] = row at *
        obtain ⟨nr, hnrr⟩ : ∃ nr, nr = row.length := ⟨_, rfl⟩
        rw [← hnrr] at HCELL HROW hnr
        clear hnrr
        go_wp2
        go_loopw [6] (fun vi wr => ∃ j : Nat, j ≤ nr ∧ vi = .int .i64 j ∧ Hid (Below w.heap.size w wr)) (fun i _ => nr - (intOf i).toNat)
        case atStart => exact ⟨0, by omega, rfl, HBA⟩
        case round =>
          clear HBA HROW
          obtain ⟨j, hj, rfl, HBA⟩ := hrel
          obtain ⟨hc, hrow⟩ := HCELL.out _ HBA.out
          by_cases g2 : j < nr
          · have g2i : (j : Int) < (nr : Int) := by omega
            obtain ⟨b2, off2, rfl, hc2, hx0, hx1⟩ := hrow.at_ g2
            clear hrow
            generalize row.getD j 0 = x at *
            by_cases g3 : 4294967295 < x
            · go_wp2
              go_ret
              exact ⟨rfl, HBA.out⟩
            · go_wp2
              go_roundw
              case rel => exact ⟨j + 1, by omega, by go_num, HBA⟩
              case measure => (simp [intOf]; try omega)
          · have g2i : ¬ (j : Int) < (nr : Int) := by omega
            clear hrow
            go_wp2
            go_roundw
            case rel => exact ⟨k + 1, by omega, by go_num, HBA⟩
            case measure => (simp [intOf]; try omega)
      · have g1i : ¬ (k : Int) < (n : Int) := by omega
        have P1a := Lib.hid (P1.out _ (HR.out.below HBA.out))
        go_wp2_with (first
          | (go_at_call 8; ((with_reducible refine (Hid.out P1a).mono ?_); rintro e w2 ⟨B1, c1, rfl, HK⟩; obtain ⟨R1, k1, k2, k3⟩ := HK.out; have hf := HFIT.out R1 k1; have hl : R1.length = n := k2.1; rw [hl] at hf; have hc0 := HCK.out R1 n; have HB2 := Lib.hid (HBA.out.trans (k3.mono HBA.out.size)); have P3a := Lib.hid (P3.out _ R1 B1 c1 (HR.out.below HB2.out) (RdI.of_rdj k2 hn (HBD.out R1 k1))); clear k1 k2 k3 HK P1a))
          | (go_at_call 10; ((with_reducible refine (Hid.out P3a).mono ?_); rintro e w4 ⟨rfl, HK4⟩; have HB4 := Lib.hid (HB2.out.trans (HK4.out.mono HB2.out.size)))))
        go_ret
        exact ⟨rfl, HB4.out⟩
  · have PG := Lib.hid (fun wx (hm : MatRd wx A C) => great_any25 A ca C wx hm true (fun _ => hs) (fun h => by cases h))
    have HR := Lib.hid hr
    clear hca
    generalize C.length = n at *
    clear hT hr
    go_enter Try.func4, Try.ntmps4
    go_wp2_with (first
      | (go_at_call 6; ((with_reducible refine (Hid.out P0).mono ?_); rintro e wa ⟨rfl, hba⟩; have HBA := Lib.hid hba; have PGa := Lib.hid (PG.out _ (HR.out.below hba)); clear hba PG P0))
      | (go_at_call 7; ((with_reducible refine (Hid.out PGa).mono ?_); rintro e wb ⟨rfl, rfl⟩)))
    go_ret
    exact ⟨rfl, HBA.out⟩
set_option maxRecDepth 100000 in
set_option maxHeartbeats 4000000 in
theorem rembLowest_walk (hT : Tells25) (A : Option Addr) (n c : Nat) (l : List Int) (w : World) (hr : RdV w A n l) :
    Calls Try.prog 5 #[.slice A n c] w fun e w' => e = .returned (.bool true) ∧ Below w.heap.size w w' := by
  have hn := hr.2.1
  have P0 := Lib.hid (alive_any25 hT w)
  have P1 := Lib.hid (fun wx (hm : RdV wx A n l) (h : n ≤ 1000) => hT.lowest wx A n c l hm h)
  have HR := Lib.hid hr
  have hx := lowR_ok hr.2.2.1
  have HLE : Hid (∀ j, j < n → lowR l ≤ l.getD j 0) := Lib.hid (fun j hj => lowR_le hr.2.2.1 _ (by
    have := hr.1
    rw [List.getD_eq_getElem?_getD, List.getElem?_eq_getElem (by omega), Option.getD_some]
    exact List.getElem_mem (by omega)))
  have HIN : Hid (0 < n → ∃ j, j < n ∧ l.getD j 0 = lowR l) := Lib.hid (fun h => by
    have hl := hr.1
    obtain ⟨j, hj, e⟩ := List.getElem_of_mem (lowR_in hr.2.2.1 (by rintro rfl; simp at hl; omega))
    exact ⟨j, by omega, by rw [List.getD_eq_getElem?_getD, List.getElem?_eq_getElem hj, Option.getD_some]; exact e⟩)
  have HNIL : Hid (n = 0 → lowR l = 18446744073709551615) := Lib.hid (fun h => by
    have hl := hr.1
    rw [h] at hl
    obtain rfl := List.eq_nil_of_length_eq_zero hl
    rfl)
  generalize lowR l = x at *
  clear hT hr
  by_cases h2 : n ≤ 1000
  · have h2i : ¬ (1000 : Int) < (n : Int) := by omega
    by_cases hz : n = 0
    · have hxz := HNIL.out hz
      subst hz
      subst hxz
      go_enter Try.func5, Try.ntmps5
      go_wp2_with (first
        | (go_at_call 6; ((with_reducible refine (Hid.out P0).mono ?_); rintro e wa ⟨rfl, hba⟩; have HBA := Lib.hid hba; have P1a := Lib.hid (P1.out _ (HR.out.below hba) h2); clear hba P1 P0))
        | (go_at_call 12; ((with_reducible refine (Hid.out P1a).mono ?_); rintro e w2 ⟨rfl, HK⟩; have HB2 := Lib.hid (HBA.out.trans (HK.out.mono HBA.out.size)); clear P1a HK)))
      go_loopw [4, 5] (fun vf vi wr => vf = .bool true ∧ vi = .int .i64 0 ∧ Hid (Below w.heap.size w wr)) (fun _ _ _ => 0)
      case atStart => exact ⟨rfl, rfl, HB2⟩
      case round =>
        clear HB2
        obtain ⟨rfl, rfl, HB2⟩ := hrel
        go_wp2
        go_ret
        exact ⟨rfl, HB2.out⟩
    · have hzi : ((n : Int) == 0) = false := beq_eq_false_iff_ne.2 (by omega)
      go_enter Try.func5, Try.ntmps5
      go_wp2_with (first
        | (go_at_call 6; ((with_reducible refine (Hid.out P0).mono ?_); rintro e wa ⟨rfl, hba⟩; have HBA := Lib.hid hba; have P1a := Lib.hid (P1.out _ (HR.out.below hba) h2); clear hba P1 P0))
        | (go_at_call 12; ((with_reducible refine (Hid.out P1a).mono ?_); rintro e w2 ⟨rfl, HK⟩; have HB2 := Lib.hid (HBA.out.trans (HK.out.mono HBA.out.size)); clear P1a HK)))
      go_loopw [4, 5] (fun vf vi wr => ∃ (k : Nat) (f : Bool), k ≤ n ∧ vi = .int .i64 k ∧ vf = .bool f ∧ Hid ((∃ j, j < k ∧ l.getD j 0 = x) → f = true) ∧ Hid (Below w.heap.size w wr)) (fun _ i _ => n - (intOf i).toNat)
      case atStart => exact ⟨0, false, by omega, rfl, rfl, Lib.hid (fun ⟨j, h, _⟩ => by omega), HB2⟩
      case round =>
        clear HB2 HBA
        obtain ⟨k, f, hk, rfl, rfl, HF, HB2⟩ := hrel
        by_cases g1 : k < n
        · have g1i : (k : Int) < (n : Int) := by omega
          obtain ⟨b, off, rfl, hc, hy0, hy1⟩ := (HR.out.below HB2.out).at_ g1
          have hle := HLE.out k g1
          have hlt : ¬ l.getD k 0 < x := by omega
          by_cases he : l.getD k 0 = x
          · have HX : Hid ((∃ j, j < k + 1 ∧ l.getD j 0 = x) → true = true) := Lib.hid (fun _ => rfl)
            rw [he] at hc
            clear hle hlt he hy0 hy1
            cases f with
            | true =>
              go_wp2
              go_roundw
              case rel => exact ⟨k + 1, true, by omega, by go_num, rfl, HX, HB2⟩
              case measure => (simp [intOf]; try omega)
            | false =>
              go_wp2
              go_roundw
              case rel => exact ⟨k + 1, true, by omega, by go_num, by go_num, HX, HB2⟩
              case measure => (simp [intOf]; try omega)
          · have HX : Hid ((∃ j, j < k + 1 ∧ l.getD j 0 = x) → f = true) := Lib.hid (fun ⟨j, h, e⟩ => by
              rcases Nat.lt_or_ge j k with h3 | h3
              · exact HF.out ⟨j, h3, e⟩
              · obtain rfl : j = k := by omega
                exact absurd e he)
            generalize l.getD k 0 = y at *
            have heb : (y == x) = false := beq_eq_false_iff_ne.2 he
            have hgt : x < y := by omega
            cases f with
            | true =>
              go_wp2
              go_roundw
              case rel => exact ⟨k + 1, true, by omega, by go_num, rfl, HX, HB2⟩
              case measure => (simp [intOf]; try omega)
            | false =>
              go_wp2
              go_roundw
              case rel => exact ⟨k + 1, false, by omega, by go_num, by go_num, HX, HB2⟩
              case measure => (simp [intOf]; try omega)
        · have g1i : ¬ (k : Int) < (n : Int) := by omega
          obtain rfl : f = true := HF.out (by obtain ⟨j, h, e⟩ := HIN.out (by omega); exact ⟨j, by omega, e⟩)
          go_wp2
          go_ret
          exact ⟨rfl, HB2.out⟩
  · have h2i : (1000 : Int) < (n : Int) := by omega
    go_enter Try.func5, Try.ntmps5
    go_wp2_with (first
      | (go_at_call 6; ((with_reducible refine (Hid.out P0).mono ?_); rintro e wa ⟨rfl, hba⟩; have HBA := Lib.hid hba)))
    go_ret
    exact ⟨rfl, HBA.out⟩
end Go.Proofs.Ytehnnnhbgjfdgaa
