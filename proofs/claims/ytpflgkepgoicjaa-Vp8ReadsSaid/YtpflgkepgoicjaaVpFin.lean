/- What package vp8's Turn tells; all that the laws of layer 13 ask of package vp8. No statement is proved here. -/
import Derived.Test.YtpflgkepgoicjaaVpP2
import Derived.Test.YtpflgkepgoicjaaVpL2
import Derived.Test.YtpflgkepgoicjaaVpL3
namespace Go.Proofs.Ytpflgkepgoicjaa
open Go.RowKit
set_option linter.unusedVariables false

theorem own_fromnil {w1 w2 : World} {o : Obj} {v : Value} {n : Nat} {bs : List UInt8} (h : w2.ownsRow (w1.heap.size + 1) 5 1 v (0 + n) (cells ([] ++ bs))) (hg : (w1.alloc o).grownBy w2 (Value.ownBlock (.slice none 0 0))) :
    w2.ownsRow (w1.heap.size + 1) 5 1 v n (cells bs) ∧ Below (w1.heap.size + 1) (w1.alloc o) w2 :=
  ⟨by simpa using h, below_of_grown hg (Nat.le_of_eq (size_alloc w1 o)) (fun k hk => by simp [Value.ownBlock] at hk)⟩
theorem or128 (y : Nat) (h : y < 256) : bits .or .u8 (y : Int) 128 = ((y % 128 + 128 : Nat) : Int) := by
  have e : ∀ x : Fin 256, x.val ||| 128 = x.val % 128 + 128 := by decide +kernel
  rw [show (128 : Int) = ((128 : Nat) : Int) from rfl, u8_or_nat _ _ h (by omega), e ⟨y, h⟩]
set_option maxRecDepth 100000 in
set_option maxHeartbeats 2000000 in
theorem turn13_any (A : Option Addr) (n c : Nat) (bs : List UInt8) (p : Nat) (w : World) (hr : RdS w A n c bs) (hp : p < 65536) (hn : n ≤ 100000) :
    Calls Try.prog 8 #[.slice A n c, .int .u16 (p : Int)] w (T13 bs p w) := by
  have hl := hr.len
  obtain ⟨Q, hQ⟩ : ∃ Q, Q = whyV bs := ⟨_, rfl⟩
  have hRD := read13_any A n c bs w hr
  unfold P13 vC at hRD
  rw [← hQ] at hRD
  have hN : Q ≠ 0 → (vpV bs).has = false := fun h => by unfold vpV; rw [← hQ, if_neg h]; rfl
  have hY : Q = 0 → (vpV bs).has = hasV bs ∧ (vpV bs).wide = wideV bs := fun h => by unfold vpV; rw [← hQ, if_pos h]; exact ⟨rfl, rfl⟩
  generalize vpV bs = v at hN hY hRD
  obtain ⟨st, part, has, wide, pic, key, head⟩ := v
  simp only at hN hY hRD
  have HRD : Hid (Calls Try.prog 6 #[.slice A n c] w fun e w' => e = .returned (.tuple #[.agg #[.bool st, .int .u8 (part : Int), .bool has, .bool wide, .int .u16 (pic : Int), .bool key, .int .i64 (head : Int)], .int .i64 (Q : Int)]) ∧ Below w.heap.size w w') := Lib.hid hRD
  have HQ := Lib.hid hQ
  have HL := Lib.hid hl
  by_cases hy : whyV bs = 0 ∧ hasV bs = true
  case neg =>
    have HY := Lib.hid hy
    by_cases q0 : (Q : Int) = 0
    · have hh : has = false := by
        rw [(hY (by omega)).1]
        cases h : hasV bs with
        | false => rfl
        | true => exact absurd ⟨by omega, h⟩ hy
      subst hh
      clear hQ hRD hN hY hy hr hl
      go_enter Try.func8, Try.ntmps8
      go_wp2_with (go_at_call 6; ((with_reducible refine (Hid.out HRD).mono ?_); rintro e w1 ⟨rfl, hb1⟩; have f1 := Lib.hid (hb1.alloc hb1.size (.cells (vA st part false wide pic key head) 26)); clear hb1))
      go_ret2
      exact ⟨fun h => absurd h HY.out, fun _ => rfl, f1.out⟩
    · clear hQ hRD hN hY hy hr hl
      go_enter Try.func8, Try.ntmps8
      go_wp2_with (go_at_call 6; ((with_reducible refine (Hid.out HRD).mono ?_); rintro e w1 ⟨rfl, hb1⟩; have f1 := Lib.hid (hb1.alloc hb1.size (.cells (vA st part has wide pic key head) 26)); clear hb1))
      go_ret2
      exact ⟨fun h => absurd h HY.out, fun _ => rfl, f1.out⟩
  case pos =>
    have hq0 : Q = 0 := by rw [hQ]; exact hy.1
    subst hq0
    obtain ⟨hh, hwd⟩ := hY rfl
    rw [hy.2] at hh
    subst hh
    have hG := why_zero hy.1
    have hn3 : 3 ≤ n := by
      have := hG.1.2.1
      rw [hy.2, hl] at this
      by_cases h : n ≤ 2
      · exact absurd ⟨rfl, h⟩ this
      · omega
    have HY := Lib.hid hy
    have HR := Lib.hid hr
    cases wide with
    | false =>
      have HT : Hid (trnV bs p = bs.set 2 (UInt8.ofNat (p % 128))) := Lib.hid (by unfold trnV; rw [← hwd]; rfl)
      have hb : ((UInt8.ofNat (p % 128)).toNat : Int) = (p : Int) % 128 := by rw [UInt8.toNat_ofNat']; omega
      have HB := Lib.hid hb
      have bn : bits .andNot .u8 ((p : Int) % 256) 128 = (p : Int) % 128 := by
        have := not128 (p % 256) (by omega)
        rw [show ((p % 256 : Nat) : Int) = (p : Int) % 256 by omega] at this
        rw [this]; omega
      clear hQ hRD hN hY hy hr hl hG hb hwd
      go_enter Try.func8, Try.ntmps8
      go_wp2_with (first
        | (go_at_call 6; ((with_reducible refine (Hid.out HRD).mono ?_); rintro e w1 ⟨rfl, hb1⟩; have f1 := Lib.hid (hb1.alloc hb1.size (.cells (vA st part true false pic key head) 26)); have r1 := Lib.hid (HR.out.below (hb1.alloc hb1.size (.cells (vA st part true false pic key head) 26))); have s1 := Lib.hid hb1.size; clear hb1))
        | (at_builtin; (refine wpList_append_rd _ rfl (.const (.slice none 0 0)) (.tmp 21) rfl Try.underlying22 u8_infoR (w1.heap.size + 1) (.slice none 0 0) 0 [] rfl (World.ownsRow_nil _ _ _ _) A n c bs rfl r1.out (by omega) (Nat.le_of_eq (size_alloc w1 _)) ?_); intro v2 w2 hown2 hg2 hat2; obtain ⟨ho, hb⟩ := own_fromnil hown2 hg2; obtain ⟨A1, c1, hv1⟩ := own_formN ho; subst hv1; obtain ⟨g, rfl, hgb, hcg⟩ := own_at ho (by omega); have b2 := (hcg 2 (by omega)).1; have z2 := (hcg 2 (by omega)).2; have q3 : w2.cell? ⟨w1.heap.size, 3, none⟩ = some (.bool false) := vA_3 hb; have OW := Lib.hid ho; have HBB := Lib.hid hb; have HGB := Lib.hid hgb; clear hown2 hg2 hat2 ho hb hcg hgb))
      go_ret2
      have hbw : Below w.heap.size w w2 := f1.out.trans (HBB.out.mono (Nat.le_succ_of_le s1.out))
      refine ⟨fun _ => ⟨some ⟨g, 0, none⟩, c1, n, HL.out.symm, rfl, ?_⟩, fun h => absurd HY.out h, hbw.setCell (by have h1 := HGB.out; have h2 := s1.out; simp; omega) _⟩
      have ho := own_set OW.out (by omega) 2 (UInt8.ofNat (p % 128))
      rw [HB.out] at ho
      rw [HT.out]
      exact RdS.of_own ho
    | true =>
      have hn4 : 4 ≤ n := by
        have := hG.1.2.2
        rw [← hwd, hl] at this
        by_cases h : n ≤ 3
        · exact absurd ⟨rfl, h⟩ this
        · omega
      have HT : Hid (trnV bs p = (bs.set 2 (UInt8.ofNat (p / 256 % 128 + 128))).set 3 (UInt8.ofNat (p % 256))) := Lib.hid (by unfold trnV; rw [← hwd]; rfl)
      have hb : ((UInt8.ofNat (p / 256 % 128 + 128)).toNat : Int) = (p : Int) / 256 % 128 + 128 := by rw [UInt8.toNat_ofNat']; omega
      have hb2 : ((UInt8.ofNat (p % 256)).toNat : Int) = (p : Int) % 256 := by rw [UInt8.toNat_ofNat']; omega
      have HB := Lib.hid hb
      have HB2 := Lib.hid hb2
      have bo : bits .or .u8 ((p : Int) / 256) 128 = (p : Int) / 256 % 128 + 128 := by
        have := or128 (p / 256) (by omega)
        rw [show ((p / 256 : Nat) : Int) = (p : Int) / 256 by omega] at this
        rw [this]; omega
      clear hQ hRD hN hY hy hr hl hG hb hb2 hwd
      go_enter Try.func8, Try.ntmps8
      go_wp2_with (first
        | (go_at_call 6; ((with_reducible refine (Hid.out HRD).mono ?_); rintro e w1 ⟨rfl, hb1⟩; have f1 := Lib.hid (hb1.alloc hb1.size (.cells (vA st part true true pic key head) 26)); have r1 := Lib.hid (HR.out.below (hb1.alloc hb1.size (.cells (vA st part true true pic key head) 26))); have s1 := Lib.hid hb1.size; clear hb1))
        | (at_builtin; (refine wpList_append_rd _ rfl (.const (.slice none 0 0)) (.tmp 21) rfl Try.underlying22 u8_infoR (w1.heap.size + 1) (.slice none 0 0) 0 [] rfl (World.ownsRow_nil _ _ _ _) A n c bs rfl r1.out (by omega) (Nat.le_of_eq (size_alloc w1 _)) ?_); intro v2 w2 hown2 hg2 hat2; obtain ⟨ho, hb⟩ := own_fromnil hown2 hg2; obtain ⟨A1, c1, hv1⟩ := own_formN ho; subst hv1; obtain ⟨g, rfl, hgb, hcg⟩ := own_at ho (by omega); have b2 := (hcg 2 (by omega)).1; have z2 := (hcg 2 (by omega)).2; have b3 := (hcg 3 (by omega)).1; have z3 := (hcg 3 (by omega)).2; have q3 : w2.cell? ⟨w1.heap.size, 3, none⟩ = some (.bool true) := vA_3 hb; have OW := Lib.hid ho; have HBB := Lib.hid hb; have HGB := Lib.hid hgb; clear hown2 hg2 hat2 ho hb hcg hgb))
      go_ret2
      have hbw : Below w.heap.size w w2 := f1.out.trans (HBB.out.mono (Nat.le_succ_of_le s1.out))
      refine ⟨fun _ => ⟨some ⟨g, 0, none⟩, c1, n, HL.out.symm, rfl, ?_⟩, fun h => absurd HY.out h, (hbw.setCell (by have h1 := HGB.out; have h2 := s1.out; simp; omega) _).setCell (by have h1 := HGB.out; have h2 := s1.out; simp; omega) _⟩
      have ho := own_set (own_set OW.out (by omega) 2 (UInt8.ofNat (p / 256 % 128 + 128))) (by omega) 3 (UInt8.ofNat (p % 256))
      rw [HB.out, HB2.out] at ho
      rw [HT.out]
      exact RdS.of_own ho
theorem tells13 : Tells13 (fun _ => True) where
  keep := fun _ _ _ _ => trivial
  read := fun A n c bs w _ hr _ => read13_any A n c bs w hr
  turn := fun A n c bs p w _ hr hn hp => turn13_any A n c bs p w hr hp (by omega)
end Go.Proofs.Ytpflgkepgoicjaa
