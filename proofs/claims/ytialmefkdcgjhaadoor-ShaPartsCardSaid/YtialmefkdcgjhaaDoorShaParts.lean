/- ShaParts's walk: however a message is cut, what its sum is under way is the document's, each time it is asked. -/
import Derived.Test.YtialmefkdcgjhaaDoorShaLaws
namespace Go.Proofs.YtialmefkdcgjhaaDoor
open Go.RowKit
set_option linter.unusedVariables false

theorem own_off {v : Value} {p n : Nat} (h : ∀ k, v.ownBlock = some k → p + 1 ≤ k ∧ k < n) : v.ownBlock = none ∨ v.ownBlock ≠ some p := by
  cases hv : v.ownBlock with
  | none => exact .inl rfl
  | some g => exact .inr fun e => by injection e with e; have := (h g hv).1; omega
theorem own_ne {v : Value} {p n : Nat} (h : ∀ k, v.ownBlock = some k → p + 1 ≤ k ∧ k < n) : some p ≠ v.ownBlock := fun e => by have := (h p e.symm).1; omega
theorem own_below {w w' : World} {base n : Nat} {e : TypeId} {v : Value} {xs : List Value} (h : w.ownsRow base e 1 v n xs) (hb : Below w.heap.size w w') : w'.ownsRow base e 1 v n xs :=
  h.kept (grown_of_below hb none) (by cases v.ownBlock <;> simp)

set_option maxHeartbeats 1000000 in
theorem shaParts_walk (A : Option Addr) (k c : Nat) (ps : List (List UInt8)) (w : World) (ht : Tab w) (hw : 0 < w.heap.size) (hp : PartsRd w A k ps) (hk : k ≤ 9223372036854775807) :
    Calls Tryd.prog 4 #[.slice A k c] w fun e w' => e = .returned (.bool true) ∧ Below w.heap.size w w' := by
  have HAL := Lib.hid (alive_any w ht hw)
  have hpl := hp.1
  have HPL := Lib.hid hpl
  clear hpl
  by_cases h1 : 20 < k
  · have hd : (20 : Int) < (k : Int) := by omega
    go_enter Tryd.func4, Tryd.ntmps4
    go_wp2_with (go_at_call 6; ((with_reducible refine (Hid.out HAL).mono ?_); rintro e w1 ⟨rfl, hb1⟩))
    go_ret
    exact ⟨rfl, hb1⟩
  have hd : decide ((20 : Int) < (k : Int)) = false := by simp; omega
  have hk20 : k ≤ 20 := by omega
  clear h1
  go_enter Tryd.func4, Tryd.ntmps4
  go_wp2_with (first
    | (go_at_call 6; ((with_reducible refine (Hid.out HAL).mono ?_); rintro e w1 ⟨rfl, hb1⟩))
    | (go_at_call 9; ((with_reducible refine (new_any _).mono ?_); rintro e w2 ⟨rfl, hst2, hb2, hz2⟩)))
  obtain ⟨p, hpp⟩ : ∃ p, p = w1.heap.size := ⟨_, rfl⟩
  have hbw2 := hb1.trans (hb2.mono hb1.size)
  have hpw : w.heap.size ≤ p := by rw [hpp]; exact hb1.size
  rw [← hpp] at hst2 ⊢
  have hp0 : 0 < p := by omega
  clear hb2 hz2 hpp
  go_loopw [4, 5] (fun v i wr => ∃ (j M : Nat) (A4 : Option Addr) (c4 : Nat), j ≤ k ∧ i = .int .i64 j ∧ v = .slice A4 M c4 ∧ Hid ((ps.take j).flatten.length = M) ∧ M ≤ 300 * j ∧ wr.ownsRow (p + 1) 5 1 (.slice A4 M c4) M (cells (ps.take j).flatten) ∧ StIs wr p (ps.take j).flatten ∧ Below w.heap.size w wr) (fun _ i _ => k - (intOf i).toNat)
  case atStart => exact ⟨0, 0, none, 0, by omega, rfl, rfl, Lib.hid rfl, by omega, World.ownsRow_nil _ _ _ _, hst2, hbw2⟩
  case round =>
    clear hst2 hbw2 hb1
    obtain ⟨j, M, A4, c4, hj, rfl, rfl, hM, hMj, hown, hst, hb⟩ := hrel
    have htr := tab_below ht hb
    have hpl := hst.lt
    by_cases hlt : j < k
    · obtain ⟨b, off, rfl, hblt, hc⟩ := hp.2 (by omega)
      obtain ⟨Aj, nj, cj, hcj, hrj⟩ := hc j hlt
      have hcell := (hb.cell (p := ⟨b, off + j, none⟩) hblt).trans hcj
      have hnjs := hrj.small
      by_cases hn : 300 < nj
      · have hdn : (300 : Int) < (nj : Int) := by omega
        go_wp2
        go_ret
        exact ⟨rfl, hb⟩
      · have hdn : decide ((300 : Int) < (nj : Int)) = false := by simp; omega
        have hnj : nj ≤ 300 := by omega
        have hrr := hrj.below hb
        have hof := hrj.off_lt hpw
        have hfl := flat_take ps j (by rw [HPL.out]; exact hlt)
        have hnx : (ps.take (j + 1)).flatten.length = M + nj := by rw [hfl, List.length_append, hM.out, hrj.len]
        have hwr := write_any p (ps.take j).flatten (ps.getD j []) Aj nj cj wr htr hp0 hst hrr hof (by rw [hM.out]; omega)
        rw [← hfl] at hwr
        obtain ⟨nx, hnxx⟩ : ∃ nx, nx = (ps.take (j + 1)).flatten := ⟨_, rfl⟩
        rw [← hnxx] at hwr hfl hnx
        have hdone : ∀ w5, Tab w5 → 0 < w5.heap.size → StIs w5 p nx → Calls Tryd.prog 11 #[.pointer (some ⟨p, 0, none⟩)] w5 fun e w' => e = .returned (.agg (cells (shaSum nx)).toArray) ∧ Below w5.heap.size w5 w' := fun w5 h1 h2 h3 => done_some p nx w5 h1 h2 h3 (by omega)
        have hrs : ∀ (A5 : Option Addr) (c5 : Nat) (w6 : World), RdS w6 A5 (M + nj) c5 nx → Calls Tryd.prog 8 #[.slice A5 (M + nj) c5] w6 fun e w' => e = .returned (.agg (cells (shaSum nx)).toArray) ∧ Below w6.heap.size w6 w' := fun A5 c5 w6 h => rsum_any A5 (M + nj) c5 nx w6 h (by omega)
        have hsz : ∀ w7, StIs w7 p nx → Calls Tryd.prog 12 #[.pointer (some ⟨p, 0, none⟩)] w7 fun e w' => e = .returned (.int .i64 ((M : Int) + nj)) ∧ w7 = w' := by
          intro w7 h
          have := size_some p nx w7 h
          rw [hnx, show ((M + nj : Nat) : Int) = (M : Int) + nj by omega] at this
          exact this
        obtain ⟨D, hD⟩ : ∃ D, D = shaSum nx := ⟨_, rfl⟩
        have q := eq20_same D (by rw [hD]; exact shaSum_len nx)
        rw [← hD] at hdone hrs
        have HWR := Lib.hid hwr
        have HDONE := Lib.hid hdone
        have HRS := Lib.hid hrs
        have HSZ := Lib.hid hsz
        have HCJ := Lib.hid hcj
        have HFL := Lib.hid hfl
        have HNX := Lib.hid hnx
        have HNXX := Lib.hid hnxx
        have hltv := hown.lt
        have HLTV := Lib.hid hltv
        clear hwr hdone hrs hsz hfl hnx hnxx hD hltv hcj hc
        have hwpos : 0 < wr.heap.size := by omega
        go_wp2_with (first
          | (go_at_call 10; ((with_reducible refine (Hid.out HWR).mono ?_); rintro e w4 ⟨rfl, hst4, hg4⟩; have hown4 := hown.kept hg4 (own_off HLTV.out); have hr4 := hrr.keep hg4 (fun q hq => by injection hq with hq; exact hq ▸ hof); have hb4 := hb.grown hg4 hb.size (fun q hq => by injection hq with hq; omega); have hsz4 := hg4.size; have hcell4 := (hb4.cell (p := ⟨b, off + j, none⟩) hblt).trans HCJ.out))
          | (at_builtin; refine wpList_append_rd _ rfl (.tmp 30) (.tmp 34) rfl Tryd.underlying22 u8_info (p + 1) (.slice A4 M c4) M (ps.take j).flatten rfl hown4 Aj nj cj (ps.getD j []) rfl hr4 (by omega) (by omega) ?_; intro v5 w5 hown5 hg5 hat5; obtain ⟨A5, c5, hv5⟩ := own_form hown5; have hst5 := hst4.grown hg5 (own_ne HLTV.out); have hb5 := hb4.grown hg5 hb4.size (fun q hq => by have := (HLTV.out q hq).1; omega); have hsz5 := hg5.size; rw [← HFL.out] at hown5; have hlt5 := hown5.lt; have HLT5 := Lib.hid hlt5; clear hlt5; subst hv5; have htb5 := tab_below ht hb5; have hp5 : 0 < w5.heap.size := (by omega))
          | (go_at_call 11; ((with_reducible refine (Hid.out HDONE w5 htb5 hp5 hst5).mono ?_); rintro e w6 ⟨rfl, hb6⟩; have hown6 := own_below hown5 hb6; have hst6 := hst5.grown (grown_of_below hb6 none) (by simp); have hbb6 := hb5.trans (hb6.mono hb5.size); have hr6 := RdS.of_own hown6))
          | (go_at_call 8; ((with_reducible refine (Hid.out HRS _ _ w6 hr6).mono ?_); rintro e w7 ⟨rfl, hb7⟩; have hown7 := own_below hown6 hb7; have hst7 := hst6.grown (grown_of_below hb7 none) (by simp); have hbb7 := hbb6.trans (hb7.mono hbb6.size)))
          | (go_at_call 12; ((with_reducible refine (Hid.out HSZ w7 hst7).mono ?_); rintro e w' ⟨rfl, rfl⟩)))
        go_roundw
        case rel => exact ⟨j + 1, M + nj, A5, c5, by omega, by go_num, rfl, Lib.hid (by rw [← HNXX.out]; exact HNX.out), by omega, by rw [← HNXX.out]; exact hown7, by rw [← HNXX.out]; exact hst7, hbb7⟩
        case measure => simp [intOf]; omega
    · obtain rfl : j = k := by omega
      have hall : ps.take j = ps := List.take_of_length_le (by rw [HPL.out]; exact Nat.le_refl _)
      rw [hall] at hst hM
      have hle : ps.flatten.length ≤ 500000 := by rw [hM.out]; omega
      have hdn := done_some p ps.flatten wr htr (by omega) hst hle
      have hsm : ∀ w6, Below w.heap.size w w6 → Calls Tryd.prog 7 #[.slice A j c] w6 fun e w' => e = .returned (.agg (cells (shaSum ps.flatten)).toArray) ∧ Below w6.heap.size w6 w' := fun w6 h =>
        sum_any A j c ps w6 (tab_below ht h) (Nat.lt_of_lt_of_le hw h.size) (hp.below h) hk hle
      obtain ⟨D, hD⟩ : ∃ D, D = shaSum ps.flatten := ⟨_, rfl⟩
      have q := eq20_same D (by rw [hD]; exact shaSum_len _)
      rw [← hD] at hdn hsm
      have HDN := Lib.hid hdn
      have HSM := Lib.hid hsm
      clear hdn hsm hD hall hle hown hst
      go_wp2_with (first
        | (go_at_call 11; ((with_reducible refine (Hid.out HDN).mono ?_); rintro e w6 ⟨rfl, hb6⟩; have hbb6 := hb.trans (hb6.mono hb.size)))
        | (go_at_call 7; ((with_reducible refine (Hid.out HSM w6 hbb6).mono ?_); rintro e w7 ⟨rfl, hb7⟩; have hbb7 := hbb6.trans (hb7.mono hbb6.size))))
      go_ret
      exact ⟨rfl, hbb7⟩
/-- A slice of slices of bytes that came in, as the lists that it reads as. -/
theorem parts_of_rows {w : World} {a : Addr} {len cap : Nat} {A : Nat → Option Addr} {L C : Nat → Nat} {Z : Nat → List Int} (hl : len ≤ cap)
    (h : ∀ r, r < cap → w.cell? (a.add r) = some (.slice (A r) (L r) (C r)) ∧ L r ≤ C r ∧ C r ≤ maxLen ∧ (Z r).length = C r ∧ (∀ n ∈ Z r, (Lit.int .u8 n).wf = true) ∧ (A r = none → C r = 0) ∧
      ∀ a', A r = some a' → 0 ≤ a'.block ∧ ∀ c, c < C r → w.cell? (a'.add c) = some (.int .u8 ((Z r).getD c 0))) : ∃ ps, PartsRd w (some a) len ps := by
  have hex : ∀ r, ∃ bs, r < len → RdS w (A r) (L r) (C r) bs := by
    intro r
    rcases Nat.lt_or_ge r len with hr | hr
    · obtain ⟨_, h2, h3, h4, h5, h6, h7⟩ := h r (by omega)
      have : ∃ bs, RdS w (A r) (L r) (C r) bs := by
        refine RdS.of_row (zs := Z r) ?_
        cases hA : A r with
        | none =>
          have hc := h6 hA
          exact .inl ⟨rfl, by omega, hc, List.eq_nil_of_length_eq_zero (by omega)⟩
        | some x => exact .inr ⟨x, rfl, h2, h3, h4, fun i hi => (h7 x hA).2 i (by omega), h5⟩
      obtain ⟨bs, hb⟩ := this
      exact ⟨bs, fun _ => hb⟩
    · exact ⟨[], fun h => absurd h (by omega)⟩
  have hch : ∀ r, r < len → RdS w (A r) (L r) (C r) (Classical.choose (hex r)) := fun r => Classical.choose_spec (hex r)
  refine ⟨(List.range len).map fun r => Classical.choose (hex r), by simp, fun hk => ?_⟩
  obtain ⟨b, off, spot⟩ := a
  have h0 := (h 0 (by omega)).1
  have hs : spot = none := by simpa [Addr.add] using World.cell?_spot h0
  subst hs
  refine ⟨b, off, rfl, ?_, fun j hj => ⟨A j, L j, C j, ?_, ?_⟩⟩
  · have := World.block_lt_of_cell? w _ h0
    rw [add_lit] at this
    exact this
  · have := (h j (by omega)).1
    rwa [add_lit] at this
  · have e : ((List.range len).map fun r => Classical.choose (hex r)).getD j [] = Classical.choose (hex j) := by simp [List.getD, hj]
    rw [e]
    exact hch j hj
end Go.Proofs.YtialmefkdcgjhaaDoor
