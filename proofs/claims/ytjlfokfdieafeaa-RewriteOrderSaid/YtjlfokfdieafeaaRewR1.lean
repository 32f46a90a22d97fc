/- What the document's answers for layer 22 (tenailleref22) answer: the highest one. No statement is proved here. -/
import Derived.Test.YtjlfokfdieafeaaProg
import Derived.Test.YtjlfokfdieafeaaRewNum
import Derived.Test.YtjlfokfdieafeaaElts
import Derived.Test.YtjlfokfdieafeaaFoot
import Derived.WalkKit
import Derived.KernelRfl
import Derived.IntWalk
import Derived.LoopTactic
import Derived.Lib.Hide
import Derived.OpenShut
import Derived.BigQuiet
import Derived.Deep.DeepCutAuto
namespace Go.Proofs.Ytjlfokfdieafeaa
open Go.RowKit
set_option linter.unusedVariables false

/-- A rewriter's cells. -/
def wcells (s : Wtr) (vO : Value) : List Value := [.int .i64 s.first, .bool s.fol, .int .i64 s.th.i, .int .u32 s.th.st, .int .u16 s.th.pc, .int .i64 s.he.i, .int .u32 s.he.st, .int .u16 s.he.pc, vO]
/-- The document's rewriter at a pointer. -/
def R22 (w : World) (v : Value) (s : Wtr) (F : Nat → Prop) : Prop := ∃ g vO, v = .pointer (some ⟨g, 0, none⟩) ∧ BlkV w g 38 (wcells s vO) ∧ w.ownsRow 0 35 3 vO s.O.length (mcells s.O) ∧ ∀ k, F k ↔ k = g ∨ vO.ownBlock = some k
/-- A row of places that isn't empty. -/
theorem own_mpds {w : World} {base n : Nat} {e : TypeId} {v : Value} {L : List Mpd} (h : w.ownsRow base e 3 v n (mcells L)) (hn : 0 < n) :
    ∃ b c, v = .slice (some ⟨b, 0, none⟩) n c ∧ base ≤ b ∧ b < w.heap.size ∧ ∀ j, j < n → w.cell? ⟨b, j * 3, none⟩ = some (.int .i64 (L.getD j mz).i) ∧ w.cell? ⟨b, j * 3 + 1, none⟩ = some (.int .u32 (L.getD j mz).st) ∧ w.cell? ⟨b, j * 3 + 2, none⟩ = some (.int .u16 (L.getD j mz).pc) := by
  have hl : L.length = n := by have := h.1; rw [mcells_len] at this; omega
  have hat := h
  obtain ⟨b, c, rfl, hb, hlt⟩ := h.form hn
  refine ⟨b, c, rfl, hb, hlt, fun j hj => ⟨?_, ?_, ?_⟩⟩
  · exact (hat.cellAt (j * 3) (by omega)).trans ((mcells_at (L := L) (by omega) 0 (by omega)).trans rfl)
  · exact (hat.cellAt (j * 3 + 1) (by omega)).trans ((mcells_at (L := L) (by omega) 1 (by omega)).trans rfl)
  · exact (hat.cellAt (j * 3 + 2) (by omega)).trans ((mcells_at (L := L) (by omega) 2 (by omega)).trans rfl)
theorem idxW_at (L : List Mpd) (j : Nat) : (idxW L).getD j 0 = (L.getD j mz).i := by
  unfold idxW
  simp only [List.getD, List.getElem?_map]
  cases L[j]? <;> rfl
theorem ret_i64W {a b : Int} (h : a = b) : Ending.returned (.int .i64 a) = .returned (.int .i64 b) := by rw [h]
theorem rtop_any22 (g : Nat) (s : Wtr) (vO : Value) (w : World) (hB : BlkV w g 38 (wcells s vO)) (ho : w.ownsRow 0 35 3 vO s.O.length (mcells s.O)) (hl : s.O.length ≤ 1000) :
    Calls Try.prog 19 #[.pointer (some ⟨g, 0, none⟩)] w fun e w' => e = .returned (.int .i64 (topW s)) ∧ ∃ q, w' = w.drewN q := by
  obtain ⟨A, c, rfl⟩ := own_formN ho
  have hc : w.cell? ⟨g, 8, none⟩ = some (.slice A s.O.length c) := (hB.cell 8).trans rfl
  unfold topW
  obtain ⟨xs, hxs⟩ : ∃ xs, xs = idxW s.O := ⟨_, rfl⟩
  obtain ⟨n, hn⟩ : ∃ n, n = s.O.length := ⟨_, rfl⟩
  have HO : Hid (0 < n → ∃ b c', Value.slice A n c = .slice (some ⟨b, 0, none⟩) n c' ∧ ∀ j, j < n → w.cell? ⟨b, j * 3, none⟩ = some (.int .i64 (xs.getD j 0))) := Lib.hid (fun h => by
    rw [hn] at h ⊢
    obtain ⟨b, c', e, _, _, hcell⟩ := own_mpds ho h
    exact ⟨b, c', e, fun j hj => by rw [hxs, idxW_at]; exact (hcell j hj).1⟩)
  rw [← hxs, ← hn]
  rw [← hn] at hc hl
  have HC : Hid (∀ q, (w.drewN q).cell? ⟨g, 8, none⟩ = some (.slice A n c)) := Lib.hid fun q => hc
  clear hn ho hB hxs
  go_enter Try.func19, Try.ntmps19
  go_wp2
  go_loopw [3, 4] (fun va vi wr => ∃ k : Nat, k ≤ n ∧ va = .int .i64 (topI xs k) ∧ vi = .int .i64 k ∧ Hid (∃ q, wr = w.drewN q)) (fun _ i _ => n - (intOf i).toNat)
  case atStart => exact ⟨0, by omega, rfl, rfl, Lib.hid ⟨0, rfl⟩⟩
  case round =>
    clear hc
    obtain ⟨k, hk, rfl, rfl, HW⟩ := hrel
    have hc : wr.cell? ⟨g, 8, none⟩ = some (.slice A n c) := by obtain ⟨q, rfl⟩ := HW.out; exact HC.out q
    by_cases hlt : k < n
    · obtain ⟨b, c', hv, hcell⟩ := HO.out (by omega)
      injection hv with e1 e2 e3
      subst e1; subst e3
      have hki : (k : Int) < (n : Int) := by omega
      have hcw : ∀ j, j < n → wr.cell? ⟨b, j * 3, none⟩ = some (.int .i64 (xs.getD j 0)) := by obtain ⟨q, rfl⟩ := HW.out; exact fun j hj => hcell j hj
      have hck := hcw k hlt
      have hdef : topI xs (k + 1) = if topI xs k < 0 ∨ xs.getD (topI xs k).toNat 0 ≤ xs.getD k 0 then (k : Int) else topI xs k := rfl
      by_cases h0 : k = 0
      · subst h0
        rw [if_pos (.inl (by simp [topI]))] at hdef
        have HD := Lib.hid hdef
        have e : topI xs 0 = -1 := rfl
        rw [e]
        clear hcell hcw hdef e
        go_wp2
        go_quiet (fail)
        obtain ⟨W, hW⟩ : ∃ W, W = wr.drewN nq := ⟨_, rfl⟩
        have HW2 : Hid (∃ q, W = w.drewN q) := Lib.hid (by obtain ⟨q, h⟩ := HW.out; exact ⟨q + nq, by rw [hW, h]; simp [World.drewN, Nat.add_assoc]⟩)
        rw [← hW]
        clear hW HW hc hck
        go_wp2
        go_roundw
        case rel => exact ⟨0 + 1, by omega, by rw [HD.out]; rfl, by go_num, HW2⟩
        case measure => simp [intOf]; omega
      · obtain ⟨m, hm1, hm2, hm3⟩ := topI_facts xs k (by omega)
        have hcm := hcw m (by omega)
        rw [hm1, Int.toNat_natCast] at hdef
        rw [hm1]
        have hmi : (m : Int) < (n : Int) := by omega
        obtain ⟨x, hx⟩ : ∃ x, x = xs.getD k 0 := ⟨_, rfl⟩
        obtain ⟨y, hy⟩ : ∃ y, y = xs.getD m 0 := ⟨_, rfl⟩
        rw [← hx] at hck hdef
        rw [← hy] at hcm hdef
        clear hcell hcw hx hy hm1 hm3
        by_cases hxy : y ≤ x
        · rw [if_pos (.inr hxy)] at hdef
          have HD := Lib.hid hdef
          clear hdef
          go_wp2
          go_quiet (fail)
          obtain ⟨W, hW⟩ : ∃ W, W = wr.drewN nq := ⟨_, rfl⟩
          have HW2 : Hid (∃ q, W = w.drewN q) := Lib.hid (by obtain ⟨q, h⟩ := HW.out; exact ⟨q + nq, by rw [hW, h]; simp [World.drewN, Nat.add_assoc]⟩)
          rw [← hW]
          clear hW HW hc hck hcm
          go_wp2
          go_roundw
          case rel => exact ⟨k + 1, by omega, by rw [HD.out], by go_num, HW2⟩
          case measure => simp [intOf]; omega
        · rw [if_neg (by omega)] at hdef
          have hxy' : x < y := by omega
          have HD := Lib.hid hdef
          clear hdef hxy
          go_wp2
          go_quiet (fail)
          obtain ⟨W, hW⟩ : ∃ W, W = wr.drewN nq := ⟨_, rfl⟩
          have HW2 : Hid (∃ q, W = w.drewN q) := Lib.hid (by obtain ⟨q, h⟩ := HW.out; exact ⟨q + nq, by rw [hW, h]; simp [World.drewN, Nat.add_assoc]⟩)
          rw [← hW]
          clear hW HW hc hck hcm
          go_wp2
          go_roundw
          case rel => exact ⟨k + 1, by omega, by rw [HD.out], by go_num, HW2⟩
          case measure => simp [intOf]; omega
    · obtain rfl : k = n := by omega
      obtain ⟨y, hy⟩ : ∃ y, y = topI xs k := ⟨_, rfl⟩
      rw [← hy]
      have HY := Lib.hid hy
      clear hy
      go_wp2
      go_ret
      exact ⟨ret_i64W HY.out, HW.out⟩
/-- Where the highest one lies. -/
theorem topW_facts (s : Wtr) : (topW s = -1 ∧ s.O = []) ∨ ∃ m : Nat, topW s = m ∧ m < s.O.length ∧ ∀ x ∈ s.O, x.i ≤ (s.O.getD m mz).i := by
  by_cases h : s.O.length = 0
  · left
    have e : s.O = [] := List.eq_nil_of_length_eq_zero h
    exact ⟨by unfold topW; rw [e]; rfl, e⟩
  · right
    obtain ⟨m, h1, h2, h3⟩ := topI_facts (idxW s.O) s.O.length (by omega)
    refine ⟨m, h1, h2, fun x hx => ?_⟩
    obtain ⟨j, hj, rfl⟩ := List.mem_iff_getElem.1 hx
    have := h3 j hj
    rw [idxW_at, idxW_at] at this
    have e : s.O.getD j mz = s.O[j] := by simp [List.getD, hj]
    rw [e] at this
    exact this
theorem rhigh_any22 (g : Nat) (s : Wtr) (F : Nat → Prop) (w : World) (h : R22 w (.pointer (some ⟨g, 0, none⟩)) s F) (hl : s.O.length ≤ 1000) :
    Calls Try.prog 13 #[.pointer (some ⟨g, 0, none⟩)] w fun e w' => e = .returned (.int .i64 (highW s)) ∧ ∃ q, w' = w.drewN q := by
  obtain ⟨g2, vO, e, hB, ho, _⟩ := h
  cases e
  have HT := Lib.hid (rtop_any22 g s vO w hB ho hl)
  rcases topW_facts s with ⟨h1, h2⟩ | ⟨m, h1, h2, _⟩
  · have HE : Hid (highW s = -1) := Lib.hid (by unfold highW; rw [h1]; rfl)
    rw [h1] at HT
    clear hB ho h1 h2
    go_enter Try.func13, Try.ntmps13
    go_wp2_with (go_at_call 19; ((with_reducible refine (Hid.out HT).mono ?_); rintro e w1 ⟨rfl, q, rfl⟩))
    go_ret
    exact ⟨ret_i64W HE.out.symm, q, rfl⟩
  · have HE : Hid (highW s = (s.O.getD m mz).i) := Lib.hid (by unfold highW; rw [h1, if_neg (by omega), Int.toNat_natCast])
    obtain ⟨b, c, rfl, _, _, hcell⟩ := own_mpds ho (by omega)
    have c8 : w.cell? ⟨g, 8, none⟩ = some (.slice (some ⟨b, 0, none⟩) s.O.length c) := (hB.cell 8).trans rfl
    have ci := (hcell m h2).1
    obtain ⟨N, hN⟩ : ∃ N, N = s.O.length := ⟨_, rfl⟩
    obtain ⟨x, hx⟩ : ∃ x, x = (s.O.getD m mz).i := ⟨_, rfl⟩
    rw [← hN] at c8 hl h2
    rw [← hx] at ci HE
    rw [h1] at HT
    have hmi : (m : Int) < (N : Int) := by omega
    clear hB ho h1 hcell hx hN
    go_enter Try.func13, Try.ntmps13
    go_wp2_with (go_at_call 19; ((with_reducible refine (Hid.out HT).mono ?_); rintro e w1 ⟨rfl, q, rfl⟩))
    go_ret
    exact ⟨ret_i64W HE.out.symm, q, rfl⟩
end Go.Proofs.Ytjlfokfdieafeaa
