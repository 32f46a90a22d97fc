/- What the laws of layer 25 ask of package remb, as one structure; the document's example. No statement is proved here. -/
import Derived.Test.YtehnnnhbgjfdgaaRemR3
import Derived.BigQuiet
namespace Go.Proofs.Ytehnnnhbgjfdgaa
open Go.RowKit
set_option linter.unusedVariables false

/-- What the laws ask of package remb. -/
structure Tells25 : Prop where
  share : ∀ (w : World) (A : Option Addr) (ca : Nat) (C : List (List Int)) (rate : Int), MatRd w A C → C.length ≤ ca → Sm C → 0 ≤ rate → rate ≤ 18446744073709551615 →
    Calls Try.prog 8 #[.int .u64 rate, .slice A C.length ca] w fun e w' => ∃ B c, e = .returned (.slice B C.length c) ∧ Hid (∃ R, Shr C rate (List.replicate C.length (-1)) R ∧ RdJ w' B C.length R ∧ Below w.heap.size w w')
  cost : ∀ (w : World) (A : Option Addr) (ca : Nat) (C : List (List Int)) (B : Option Addr) (m cb : Nat) (L : List Int), MatRd w A C → C.length ≤ ca → Sm C → RdI w B m L → m ≤ 200 →
    Calls Try.prog 10 #[.slice A C.length ca, .slice B m cb] w fun e w' => e = .returned (.int .u64 (costR C L (min m C.length))) ∧ Hid (Below w.heap.size w w')
  lowest : ∀ (w : World) (A : Option Addr) (n c : Nat) (l : List Int), RdV w A n l → n ≤ 1000 →
    Calls Try.prog 12 #[.slice A n c] w fun e w' => e = .returned (.int .u64 (lowR l)) ∧ Hid (Below w.heap.size w w')
theorem Tells25.share_n (hT : Tells25) (w : World) (A : Option Addr) (ca : Nat) (C : List (List Int)) (rate : Int) (n : Nat) (hn : C.length = n) (hr : MatRd w A C) (hc : n ≤ ca) (hs : Sm C) (h0 : 0 ≤ rate) (h1 : rate ≤ 18446744073709551615) :
    Calls Try.prog 8 #[.int .u64 rate, .slice A n ca] w fun e w' => ∃ B c, e = .returned (.slice B n c) ∧ Hid (∃ R, Shr C rate (List.replicate n (-1)) R ∧ RdJ w' B n R ∧ Below w.heap.size w w') := by
  subst hn
  exact hT.share w A ca C rate hr hc hs h0 h1

theorem rdv_two (w : World) (e : TypeId) (x y : Int) (hx : 0 ≤ x ∧ x ≤ 18446744073709551615) (hy : 0 ≤ y ∧ y ≤ 18446744073709551615) : RdV (w.alloc (.cells #[.int .u64 x, .int .u64 y] e)) (some ⟨w.heap.size, 0, none⟩) 2 [x, y] := by
  refine ⟨rfl, by omega, ?_, fun _ => ⟨w.heap.size, 0, rfl, (BlkV.new w e [.int .u64 x, .int .u64 y]).lt, fun j hj => ?_⟩⟩
  · intro z hz
    simp only [List.mem_cons, List.mem_nil_iff, or_false] at hz
    rcases hz with rfl | rfl
    · exact hx
    · exact hy
  · match j, hj with
    | 0, _ => exact (BlkV.new w e [.int .u64 x, .int .u64 y]).cell 0
    | 1, _ => exact (BlkV.new w e [.int .u64 x, .int .u64 y]).cell 1
/-- The example's costs, just laid. -/
theorem mat_ex (w : World) (e f : TypeId) :
    MatRd (((w.alloc (.cells #[.int .u64 3, .int .u64 8] e)).alloc (.cells #[.int .u64 4, .int .u64 9] e)).alloc (.cells #[.slice (some ⟨w.heap.size, 0, none⟩) 2 2, .slice (some ⟨w.heap.size + 1, 0, none⟩) 2 2] f)) (some ⟨w.heap.size + 1 + 1, 0, none⟩) [[3, 8], [4, 9]] ∧
    Below w.heap.size w (((w.alloc (.cells #[.int .u64 3, .int .u64 8] e)).alloc (.cells #[.int .u64 4, .int .u64 9] e)).alloc (.cells #[.slice (some ⟨w.heap.size, 0, none⟩) 2 2, .slice (some ⟨w.heap.size + 1, 0, none⟩) 2 2] f)) := by
  have b1 : Below w.heap.size w (w.alloc (.cells #[.int .u64 3, .int .u64 8] e)) := (Below.refl _ _).alloc (Nat.le_refl _) _
  have h1 := rdv_two w e 3 8 (by omega) (by omega)
  generalize hw1 : w.alloc (.cells #[.int .u64 3, .int .u64 8] e) = w1 at *
  have s1 : w1.heap.size = w.heap.size + 1 := by rw [← hw1]; simp
  have b2 : Below w1.heap.size w1 (w1.alloc (.cells #[.int .u64 4, .int .u64 9] e)) := (Below.refl _ _).alloc (Nat.le_refl _) _
  have h2 := rdv_two w1 e 4 9 (by omega) (by omega)
  have h1' := h1.below b2
  generalize hw2 : w1.alloc (.cells #[.int .u64 4, .int .u64 9] e) = w2 at *
  have s2 : w2.heap.size = w.heap.size + 2 := by rw [← hw2]; simp [s1]
  have h := mat_lit2 (c := 2) (d := 2) h1' h2 f
  rw [s1, s2] at h
  refine ⟨h, (b1.trans (b2.mono b1.size)).trans (((Below.refl _ _).alloc (Nat.le_refl _) _ : Below w2.heap.size w2 _).mono (by omega))⟩
/-- Is a list more than statements look at? -/
theorem great_any25 (A : Option Addr) (ca : Nat) (C : List (List Int)) (w : World) (hr : MatRd w A C) (g : Bool) (hg1 : g = true → ¬ Sm C) (hg2 : g = false → Sm C) :
    Calls Try.prog 7 #[.slice A C.length ca] w fun e w' => e = .returned (.bool g) ∧ w = w' := by
  have hn := hr.1
  have HM := Lib.hid hr
  have HG1 := Lib.hid hg1
  have HG2 := Lib.hid hg2
  obtain ⟨n, hnn⟩ : ∃ n, n = C.length := ⟨_, rfl⟩
  have HN := Lib.hid hnn
  rw [← hnn] at hn ⊢
  clear hr hnn hg1 hg2
  go_enter Try.func7, Try.ntmps7
  go_wp2
  go_loopw [3] (fun vi wr => ∃ k : Nat, k ≤ n ∧ vi = .int .i64 k ∧ Hid (∀ i, i < k → (C.getD i []).length ≤ 30) ∧ Hid (w = wr)) (fun i _ => n - (intOf i).toNat)
  case atStart => exact ⟨0, by omega, rfl, Lib.hid (fun i h => by omega), Lib.hid rfl⟩
  case round =>
    obtain ⟨k, hk, rfl, HS, HW⟩ := hrel
    by_cases g1 : k < n
    · have g1i : (k : Int) < (n : Int) := by omega
      obtain ⟨b, off, R, cr, rfl, hc, hrow⟩ := (show MatRd wr A C by rw [← HW.out]; exact HM.out).at_ (j := k) (by have := HN.out; omega)
      have hnr := hrow.2.1
      clear hrow
      by_cases g2 : 30 < (C.getD k []).length
      · have hgt : g = true := by
          cases hgg : g with
          | true => rfl
          | false => exact absurd ((HG2.out hgg).2 k (by have := HN.out; omega)) (by omega)
        subst hgt
        generalize (C.getD k []).length = nr at *
        have g2i : (30 : Int) < (nr : Int) := by omega
        go_wp2
        go_ret
        exact ⟨rfl, HW.out⟩
      · have HX : Hid (∀ i, i < k + 1 → (C.getD i []).length ≤ 30) := Lib.hid (fun i hi => by
          rcases Nat.lt_or_ge i k with h | h
          · exact HS.out i h
          · obtain rfl : i = k := by omega
            omega)
        generalize (C.getD k []).length = nr at *
        have g2i : ¬ (30 : Int) < (nr : Int) := by omega
        go_wp2
        go_roundw
        case rel => exact ⟨k + 1, by omega, by go_num, HX, HW⟩
        case measure => (simp [intOf]; try omega)
    · have g1i : ¬ (k : Int) < (n : Int) := by omega
      obtain rfl : k = n := by omega
      by_cases g2 : 100 < k
      · have g2i : (100 : Int) < (k : Int) := by omega
        have hgt : g = true := by
          cases hgg : g with
          | true => rfl
          | false => exact absurd (HG2.out hgg).1 (by have := HN.out; omega)
        subst hgt
        go_wp2
        go_ret
        exact ⟨rfl, HW.out⟩
      · have g2i : ¬ (100 : Int) < (k : Int) := by omega
        have HX : Hid (Sm C) := Lib.hid ⟨by have := HN.out; omega, fun i hi => HS.out i (by have := HN.out; omega)⟩
        have hgf : g = false := by
          cases hgg : g with
          | true => exact absurd HX.out (HG1.out hgg)
          | false => rfl
        subst hgf
        go_wp2
        go_ret
        exact ⟨rfl, HW.out⟩
theorem rdj_two {w : World} {A : Option Addr} {x y : Int} (h : RdJ w A 2 [x, y]) : ∃ b off, A = some ⟨b, off, none⟩ ∧ w.cell? ⟨b, off, none⟩ = some (.int .i64 x) ∧ w.cell? ⟨b, off + 1, none⟩ = some (.int .i64 y) := by
  obtain ⟨b, off, hA, _, hc⟩ := h.2 (by omega)
  exact ⟨b, off, hA, hc 0 (by omega), hc 1 (by omega)⟩
set_option maxRecDepth 100000 in
set_option maxHeartbeats 2000000 in
/-- The document's example. -/
theorem alive_any25 (hT : Tells25) (w : World) : Calls Try.prog 6 #[] w fun e w' => e = .returned (.bool true) ∧ Below w.heap.size w w' := by
  have H := Lib.hid hT
  obtain ⟨hm, hb⟩ := mat_ex w 22 31
  have HM := Lib.hid hm
  have HB := Lib.hid hb
  have P1 := Lib.hid (H.out.share_n _ (some ⟨w.heap.size + 1 + 1, 0, none⟩) 2 _ 10 2 rfl hm (by omega) sm_ex (by omega) (by omega))
  clear hm hb
  go_enter Try.func6, Try.ntmps6
  go_wp2_with (first
    | (go_at_call 8; ((with_reducible refine (Hid.out P1).mono ?_); rintro e w2 ⟨B1, c1, rfl, HK⟩; obtain ⟨R1, k1, k2, k3⟩ := HK.out; obtain rfl := k1.one ex25a; have P2 := Lib.hid (H.out.share_n w2 (some ⟨w.heap.size + 1 + 1, 0, none⟩) 2 _ 12 2 rfl (HM.out.below k3) (by omega) sm_ex (by omega) (by omega)); have HK2 := Lib.hid k2; have HB2 := Lib.hid (HB.out.trans (k3.mono HB.out.size)); clear P1 k1 k2 k3 HK HM HB))
    | (go_at_call 8; ((with_reducible refine (Hid.out P2).mono ?_); rintro e w3 ⟨B2, c2, rfl, HK3⟩; obtain ⟨R2, k1, k2, k3⟩ := HK3.out; obtain rfl := k1.one ex25b; obtain ⟨b1, o1, rfl, d1, d2⟩ := rdj_two (HK2.out.below k3); obtain ⟨b2, o2, rfl, d3, d4⟩ := rdj_two k2; have HB3 := Lib.hid (HB2.out.trans (k3.mono HB2.out.size)); clear P2 k1 k2 k3 HK2 HK3 HB2)))
  go_ret
  exact ⟨rfl, HB3.out⟩
end Go.Proofs.Ytehnnnhbgjfdgaa
