/- What the document's answer for layer 13 (tenailleref13) tells of a payload with another number (Turn). No statement is proved here. -/
import Derived.Test.YtpflgkepgoicjaaVpR1
import Derived.Test.YtpflgkepgoicjaaOctRef
namespace Go.Proofs.Ytpflgkepgoicjaa
open Go.RowKit
set_option linter.unusedVariables false

/-- A row of the call's own: its cells; one of them written. -/
theorem own_at {w : World} {base : Nat} {e : TypeId} {A : Option Addr} {n c : Nat} {xs : List UInt8} (h : w.ownsRow base e 1 (.slice A n c) n (cells xs)) (hn : 0 < n) :
    ∃ g, A = some ⟨g, 0, none⟩ ∧ base ≤ g ∧ ∀ j, j < n → w.cell? ⟨g, j, none⟩ = some (.int .u8 ((xs.getD j 0).toNat : Int)) ∧ w.frozen? ⟨g, j, none⟩ = false := by
  have hr := RdS.of_own h
  obtain ⟨g, rfl, hb⟩ := own_blockN h hn
  obtain ⟨b, o, he, _, hc⟩ := hr.2.2.2.2 hn
  injection he with he
  injection he with h1 h2 _
  subst h1; subst h2
  refine ⟨g, rfl, hb, fun j hj => ⟨by have := hc j hj; rwa [Nat.zero_add] at this, ?_⟩⟩
  rcases h.2 with ⟨_, h0⟩ | ⟨g2, cap, cur, hv, _, hg, _⟩
  · omega
  · injection hv with h1 _ _
    injection h1 with h1
    injection h1 with h1 _ _
    subst h1
    exact frozen_of_row w g j _ e hg
theorem own_set {w : World} {base : Nat} {e : TypeId} {g n c : Nat} {xs : List UInt8} (h : w.ownsRow base e 1 (.slice (some ⟨g, 0, none⟩) n c) n (cells xs)) (hn : 0 < n) (j : Nat) (b : UInt8) :
    (w.setCell ⟨g, j, none⟩ (.int .u8 (b.toNat : Int))).ownsRow base e 1 (.slice (some ⟨g, 0, none⟩) n c) n (cells (xs.set j b)) := by
  obtain ⟨hl, h2⟩ := h
  refine ⟨by rw [length_cells, List.length_set, ← length_cells]; exact hl, ?_⟩
  rcases h2 with ⟨_, h0⟩ | ⟨g2, cap, cur, hv, hb, hg, h4, h5, h6, h7⟩
  · omega
  · injection hv with h1 _ hc
    injection h1 with h1
    injection h1 with h1 _ _
    subst h1; subst hc
    refine .inr ⟨g, c, cur.setIfInBounds j (.int .u8 (b.toNat : Int)), rfl, hb, heap_setCell_same w g j cur e _ hg, h4, h5, by simpa using h6, ?_⟩
    rw [Array.toList_setIfInBounds, List.take_set, h7, cells_set]
theorem own_empty1 (w : World) (o : Obj) : ((w.alloc o).alloc (.cells #[] 5)).ownsRow (w.heap.size + 1) 5 1 (.slice (some ⟨w.heap.size + 1, 0, none⟩) 0 0) 0 (cells []) := by
  have h := own_empty (w.alloc o)
  rwa [show (w.alloc o).heap.size = w.heap.size + 1 by show (w.heap.push o).size = _; simp] at h
/-- Behind the append onto an empty row that was made behind a block. -/
theorem own_first1 {w w1 : World} {o : Obj} {v1 : Value} {nb : Nat} {bs : List UInt8} (hl : bs.length = nb) (h : w1.ownsRow (w.heap.size + 1) 5 1 v1 (0 + nb) (cells ([] ++ bs)))
    (hg : ((w.alloc o).alloc (.cells #[] 5)).grownBy w1 (Value.ownBlock (.slice (some ⟨w.heap.size + 1, 0, none⟩) 0 0))) :
    w1.ownsRow (w.heap.size + 1) 5 1 v1 nb (cells bs) ∧ Below (w.heap.size + 1) (w.alloc o) w1 := by
  have e : (w.alloc o).heap.size = w.heap.size + 1 := by show (w.heap.push o).size = _; simp
  rw [← e] at h hg ⊢
  exact own_first hl h hg
theorem two_size (w : World) (o o2 : Obj) : w.heap.size + 1 ≤ ((w.alloc o).alloc o2).heap.size := by show _ ≤ ((w.heap.push o).push o2).size; simp
theorem vA_at {w1 w2 : World} {X : Array Value} {t : TypeId} (h : Below (w1.heap.size + 1) (w1.alloc (.cells X t)) w2) (j : Nat) : w2.cell? ⟨w1.heap.size, j, none⟩ = X[j]? := by
  have hB : BlkV (w1.alloc (.cells X t)) w1.heap.size t X.toList := BlkV.new_at w1 _ t X.toList X rfl (by simp)
  have := (hB.below h (by omega)).cell j
  rw [this]; simp
/-- What Turn tells. -/
def T13 (bs : List UInt8) (p : Nat) (w : World) (e : Ending) (w' : World) : Prop :=
  ((whyV bs = 0 ∧ hasV bs = true) → ∃ A' c' N, N = bs.length ∧ e = .returned (.tuple #[.slice A' N c', .bool true]) ∧ RdS w' A' N c' (trnV bs p)) ∧ (¬ (whyV bs = 0 ∧ hasV bs = true) → e = .returned (.tuple #[.slice none 0 0, .bool false])) ∧ Below w.heap.size w w'
abbrev vA (st : Bool) (part : Nat) (has wide : Bool) (pic : Nat) (key : Bool) (head : Nat) : Array Value := #[.bool st, .int .u8 (part : Int), .bool has, .bool wide, .int .u16 (pic : Int), .bool key, .int .i64 (head : Int)]
theorem vA_3 {w1 w2 : World} {st : Bool} {part : Nat} {has wide : Bool} {pic : Nat} {key : Bool} {head : Nat} {t : TypeId} (h : Below (w1.heap.size + 1) (w1.alloc (.cells (vA st part has wide pic key head) t)) w2) : w2.cell? ⟨w1.heap.size, 3, none⟩ = some (.bool wide) := by rw [vA_at h 3]; rfl
set_option maxRecDepth 100000 in
set_option maxHeartbeats 2000000 in
theorem rturn13_any (A : Option Addr) (n c : Nat) (bs : List UInt8) (p : Nat) (w : World) (hr : RdS w A n c bs) (hp : p < 65536) (hn : n ≤ 100000) :
    Calls Try.prog 9 #[.slice A n c, .int .u16 (p : Int)] w (T13 bs p w) := by
  have hl := hr.len
  obtain ⟨Q, hQ⟩ : ∃ Q, Q = whyV bs := ⟨_, rfl⟩
  obtain ⟨P, hP⟩ : ∃ P, P = plcV bs := ⟨_, rfl⟩
  have hRD := rread13_any A n c bs w hr
  unfold R13 vC at hRD
  rw [← hQ, ← hP] at hRD
  have hN : Q ≠ 0 → (vpV bs).has = false := fun h => by unfold vpV; rw [← hQ, if_neg h]; rfl
  have hY : Q = 0 → (vpV bs).has = hasV bs ∧ (vpV bs).wide = wideV bs := fun h => by unfold vpV; rw [← hQ, if_pos h]; exact ⟨rfl, rfl⟩
  generalize vpV bs = v at hN hY hRD
  obtain ⟨st, part, has, wide, pic, key, head⟩ := v
  simp only at hN hY hRD
  have HRD : Hid (Calls Try.prog 7 #[.slice A n c] w fun e w' => e = .returned (.tuple #[.agg #[.bool st, .int .u8 (part : Int), .bool has, .bool wide, .int .u16 (pic : Int), .bool key, .int .i64 (head : Int)], .int .i64 (P : Int), .int .i64 (Q : Int)]) ∧ Below w.heap.size w w') := Lib.hid hRD
  have HQ := Lib.hid hQ
  have HL := Lib.hid hl
  by_cases hy : whyV bs = 0 ∧ hasV bs = true
  case neg =>
    have HY := Lib.hid hy
    by_cases q0 : (Q : Int) = 0
    · have hh : has = false := by
        rw [(hY (by omega)).1]
        cases h : hasV bs with
        | false => rfl
        | true => exact absurd ⟨by omega, h⟩ hy
      subst hh
      clear hQ hP hRD hN hY hy hr hl
      go_enter Try.func9, Try.ntmps9
      go_wp2_with (go_at_call 7; ((with_reducible refine (Hid.out HRD).mono ?_); rintro e w1 ⟨rfl, hb1⟩; have f1 := Lib.hid (hb1.alloc hb1.size (.cells (vA st part false wide pic key head) 26)); clear hb1))
      go_ret2
      exact ⟨fun h => absurd h HY.out, fun _ => rfl, f1.out⟩
    · clear hQ hP hRD hN hY hy hr hl
      go_enter Try.func9, Try.ntmps9
      go_wp2_with (go_at_call 7; ((with_reducible refine (Hid.out HRD).mono ?_); rintro e w1 ⟨rfl, hb1⟩; have f1 := Lib.hid (hb1.alloc hb1.size (.cells (vA st part has wide pic key head) 26)); clear hb1))
      go_ret2
      exact ⟨fun h => absurd h HY.out, fun _ => rfl, f1.out⟩
  case pos =>
    have hq0 : Q = 0 := by rw [hQ]; exact hy.1
    subst hq0
    obtain ⟨hh, hwd⟩ := hY rfl
    rw [hy.2] at hh
    subst hh
    have hP2 : P = 2 := by rw [hP]; unfold plcV; rw [if_pos hy]
    subst hP2
    have hG := why_zero hy.1
    have hn3 : 3 ≤ n := by
      have := hG.1.2.1
      rw [hy.2, hl] at this
      by_cases h : n ≤ 2
      · exact absurd ⟨rfl, h⟩ this
      · omega
    have HY := Lib.hid hy
    have HR := Lib.hid hr
    cases wide with
    | false =>
      have HT : Hid (trnV bs p = bs.set 2 (UInt8.ofNat (p % 128))) := Lib.hid (by unfold trnV; rw [← hwd]; rfl)
      have hb : ((UInt8.ofNat (p % 128)).toNat : Int) = (p : Int) % 128 := by rw [UInt8.toNat_ofNat']; omega
      have HB := Lib.hid hb
      clear hQ hP hRD hN hY hy hr hl hG hb hwd
      go_enter Try.func9, Try.ntmps9
      go_wp2_with (first
        | (go_at_call 7; ((with_reducible refine (Hid.out HRD).mono ?_); rintro e w1 ⟨rfl, hb1⟩; have f1 := Lib.hid (hb1.alloc hb1.size (.cells (vA st part true false pic key head) 26)); have r1 := Lib.hid (HR.out.below (hb1.alloc hb1.size (.cells (vA st part true false pic key head) 26))); have s1 := Lib.hid hb1.size; clear hb1))
        | (at_builtin; (refine wpList_append_rd _ rfl (.tmp 23) (.tmp 24) rfl Try.underlying22 u8_infoR (w1.heap.size + 1) (.slice (some ⟨w1.heap.size + 1, 0, none⟩) 0 0) 0 [] rfl (own_empty1 w1 _) A n c bs rfl (r1.out.below ((Below.refl _ _).alloc (Nat.le_refl _) _)) (by omega) (two_size w1 _ _) ?_); intro v2 w2 hown2 hg2 hat2; obtain ⟨ho, hb⟩ := own_first1 HL.out hown2 hg2; obtain ⟨A1, c1, hv1⟩ := own_formN ho; subst hv1; obtain ⟨g, rfl, hgb, hcg⟩ := own_at ho (by omega); have b2 := (hcg 2 (by omega)).1; have z2 := (hcg 2 (by omega)).2; have q3 : w2.cell? ⟨w1.heap.size, 3, none⟩ = some (.bool false) := vA_3 hb; have OW := Lib.hid ho; have HBB := Lib.hid hb; have HGB := Lib.hid hgb; clear hown2 hg2 hat2 ho hb hcg hgb))
      go_ret2
      have hbw : Below w.heap.size w w2 := f1.out.trans (HBB.out.mono (Nat.le_succ_of_le s1.out))
      refine ⟨fun _ => ⟨some ⟨g, 0, none⟩, c1, n, HL.out.symm, rfl, ?_⟩, fun h => absurd HY.out h, hbw.setCell (by have h1 := HGB.out; have h2 := s1.out; simp; omega) _⟩
      have ho := own_set OW.out (by omega) 2 (UInt8.ofNat (p % 128))
      rw [HB.out] at ho
      rw [HT.out]
      exact RdS.of_own ho
    | true =>
      have hn4 : 4 ≤ n := by
        have := hG.1.2.2
        rw [← hwd, hl] at this
        by_cases h : n ≤ 3
        · exact absurd ⟨rfl, h⟩ this
        · omega
      have HT : Hid (trnV bs p = (bs.set 2 (UInt8.ofNat (p / 256 % 128 + 128))).set 3 (UInt8.ofNat (p % 256))) := Lib.hid (by unfold trnV; rw [← hwd]; rfl)
      have hb : ((UInt8.ofNat (p / 256 % 128 + 128)).toNat : Int) = (p : Int) / 256 % 128 + 128 := by rw [UInt8.toNat_ofNat']; omega
      have hb2 : ((UInt8.ofNat (p % 256)).toNat : Int) = (p : Int) % 256 := by rw [UInt8.toNat_ofNat']; omega
      have HB := Lib.hid hb
      have HB2 := Lib.hid hb2
      clear hQ hP hRD hN hY hy hr hl hG hb hb2 hwd
      go_enter Try.func9, Try.ntmps9
      go_wp2_with (first
        | (go_at_call 7; ((with_reducible refine (Hid.out HRD).mono ?_); rintro e w1 ⟨rfl, hb1⟩; have f1 := Lib.hid (hb1.alloc hb1.size (.cells (vA st part true true pic key head) 26)); have r1 := Lib.hid (HR.out.below (hb1.alloc hb1.size (.cells (vA st part true true pic key head) 26))); have s1 := Lib.hid hb1.size; clear hb1))
        | (at_builtin; (refine wpList_append_rd _ rfl (.tmp 23) (.tmp 24) rfl Try.underlying22 u8_infoR (w1.heap.size + 1) (.slice (some ⟨w1.heap.size + 1, 0, none⟩) 0 0) 0 [] rfl (own_empty1 w1 _) A n c bs rfl (r1.out.below ((Below.refl _ _).alloc (Nat.le_refl _) _)) (by omega) (two_size w1 _ _) ?_); intro v2 w2 hown2 hg2 hat2; obtain ⟨ho, hb⟩ := own_first1 HL.out hown2 hg2; obtain ⟨A1, c1, hv1⟩ := own_formN ho; subst hv1; obtain ⟨g, rfl, hgb, hcg⟩ := own_at ho (by omega); have b2 := (hcg 2 (by omega)).1; have z2 := (hcg 2 (by omega)).2; have b3 := (hcg 3 (by omega)).1; have z3 := (hcg 3 (by omega)).2; have q3 : w2.cell? ⟨w1.heap.size, 3, none⟩ = some (.bool true) := vA_3 hb; have OW := Lib.hid ho; have HBB := Lib.hid hb; have HGB := Lib.hid hgb; clear hown2 hg2 hat2 ho hb hcg hgb))
      go_ret2
      have hbw : Below w.heap.size w w2 := f1.out.trans (HBB.out.mono (Nat.le_succ_of_le s1.out))
      refine ⟨fun _ => ⟨some ⟨g, 0, none⟩, c1, n, HL.out.symm, rfl, ?_⟩, fun h => absurd HY.out h, (hbw.setCell (by have h1 := HGB.out; have h2 := s1.out; simp; omega) _).setCell (by have h1 := HGB.out; have h2 := s1.out; simp; omega) _⟩
      have ho := own_set (own_set OW.out (by omega) 2 (UInt8.ofNat (p / 256 % 128 + 128))) (by omega) 3 (UInt8.ofNat (p % 256))
      rw [HB.out, HB2.out] at ho
      rw [HT.out]
      exact RdS.of_own ho
end Go.Proofs.Ytpflgkepgoicjaa
