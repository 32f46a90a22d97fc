/- Numbers and losses that come in, opened. No statement is proved here. -/
import Derived.Test.YtkmacpmdgbhhkaaRtcpR3
import Derived.Test.YtkmacpmdgbhhkaaFields
namespace Go.Proofs.Ytkmacpmdgbhhkaa
open Go.RowKit Go.ChangeShapes Go.WideShapes Go.Deep
set_option linter.unusedVariables false

/-- Where a slice came in as a row of numbers that fit two bytes. -/
theorem RdH.of_row {w : World} {a : Option Addr} {len cap : Nat} {zs : List Int}
    (h : (a = none ∧ len = 0 ∧ cap = 0 ∧ zs = []) ∨
      ∃ x, a = some x ∧ len ≤ cap ∧ cap ≤ maxLen ∧ zs.length = cap ∧ (∀ i, i < zs.length → w.cell? (x.add i) = some (.int .u16 (zs.getD i 0))) ∧ ∀ n ∈ zs, (Lit.int .u16 n).wf = true) :
    ∃ L, RdH w a len L := by
  rcases h with ⟨rfl, rfl, rfl, rfl⟩ | ⟨x, rfl, hl, hm, hz, hc, hwz⟩
  · exact ⟨[], rfl, by omega, by simp, fun h => by omega⟩
  · refine ⟨(zs.take len).map Int.toNat, by simp; omega, by simp only [maxLen] at hm; omega, fun z hz' => ?_, fun hn => ?_⟩
    · obtain ⟨q, hq, rfl⟩ := List.mem_map.1 hz'
      have := bounds_u16 (hwz q (List.mem_of_mem_take hq))
      omega
    · obtain ⟨b, off, spot⟩ := x
      have h0 := hc 0 (by omega)
      have hs : spot = none := by simpa [Addr.add] using World.cell?_spot h0
      subst hs
      refine ⟨b, off, rfl, ?_, fun j hj => ?_⟩
      · have := World.block_lt_of_cell? w _ h0
        rw [add_at] at this
        exact this
      · have hcj := hc j (by omega)
        rw [add_at] at hcj
        have hjz : j < zs.length := by omega
        have hwj := bounds_u16 (hwz (zs[j]) (List.getElem_mem hjz))
        rw [hcj]
        simp only [List.getD, hjz, hj, List.getElem?_map, List.getElem?_take, if_true, List.getElem?_eq_getElem, Option.map_some, Option.getD_some]
        congr 2
        omega

def numOfV : Value → Nat
  | .int _ z => z.toNat
  | _ => 0
/-- Where losses came in. -/
theorem RdL.of_rdf {w : World} {A : Option Addr} {n : Nat} {rs : Nat → Nat → Value} (h : RdF [.int .u16, .int .u16] w A n rs) : ∃ L, RdL w A n L := by
  have hk : ∀ i, i < n → ∀ j, j < 2 → rs i j = .int .u16 ((numOfV (rs i j) : Nat) : Int) ∧ numOfV (rs i j) < 65536 := by
    intro i hi j hj
    have hkj : ([FK.int .u16, FK.int .u16] : List FK)[j]? = some (.int .u16) := by
      match j, hj with
      | 0, _ => rfl
      | 1, _ => rfl
    obtain ⟨z, hz, hw⟩ := h.2.1 i hi j _ hkj
    have := bounds_u16 hw
    rw [hz]
    refine ⟨?_, by simp only [numOfV]; omega⟩
    simp only [numOfV]
    congr 1
    omega
  refine ⟨(List.range n).map fun i => (numOfV (rs i 0), numOfV (rs i 1)), by simp, h.1, fun a ha => ?_, fun hn => ?_⟩
  · obtain ⟨i, hi, rfl⟩ := List.mem_map.1 ha
    have hi' := List.mem_range.1 hi
    exact ⟨(hk i hi' 0 (by omega)).2, (hk i hi' 1 (by omega)).2⟩
  · obtain ⟨b, off, hA, hlt, hc⟩ := h.2.2 hn
    refine ⟨b, off, hA, hlt, fun j hj => ?_⟩
    have e : ((List.range n).map fun i => (numOfV (rs i 0), numOfV (rs i 1))).getD j (0, 0) = (numOfV (rs j 0), numOfV (rs j 1)) := by
      simp [List.getD, hj]
    rw [e]
    have c0 := hc j hj 0 (by simp)
    have c1 := hc j hj 1 (by simp)
    simp only [List.length_cons, List.length_nil] at c0 c1
    rw [(hk j hj 0 (by omega)).1] at c0
    rw [(hk j hj 1 (by omega)).1] at c1
    refine ⟨?_, ?_⟩
    · rw [show off + j * 2 = off + (j * (0 + 1 + 1) + 0) by omega]; exact c0
    · rw [show off + j * 2 + 1 = off + (j * (0 + 1 + 1) + 1) by omega]; exact c1
/-- The call's own losses read as losses. -/
theorem RdL.of_own {w : World} {base : Nat} {e : TypeId} {A : Option Addr} {n c : Nat} {L : List (Nat × Nat)} (h : w.ownsRow base e 2 (.slice A n c) n (lcells L)) (hf : ∀ a ∈ L, a.1 < 65536 ∧ a.2 < 65536) : RdL w A n L := by
  have hl : L.length = n := by have := h.1; rw [lcells_len] at this; omega
  have hat := h
  rcases h.2 with ⟨hv, hn⟩ | ⟨g, cap, cur, hv, hb, hg, hnc, hcm, hcs, htake⟩
  · exact ⟨hl, by omega, hf, fun h => absurd h (by omega)⟩
  · injection hv with h1 h2 h3
    subst h1; subst h3
    refine ⟨hl, by simp only [maxLen] at hcm; omega, hf, fun hn => ⟨g, 0, rfl, (Array.getElem?_eq_some_iff.1 hg).1, fun j hj => ?_⟩⟩
    have hjl : j < L.length := by omega
    have hcut : L = L.take j ++ ([L.getD j (0, 0)] ++ L.drop (j + 1)) := by
      rw [show [L.getD j (0, 0)] ++ L.drop (j + 1) = L.drop j by
        rw [List.drop_eq_getElem_cons hjl, List.getD, List.getElem?_eq_getElem hjl]; rfl]
      exact (List.take_append_drop j L).symm
    have hx : ∀ d, d < 2 → (lcells L)[j * 2 + d]? = ([.int .u16 (((L.getD j (0, 0)).1 : Nat) : Int), .int .u16 (((L.getD j (0, 0)).2 : Nat) : Int)] : List Value)[d]? := by
      intro d hd
      have e : lcells L = lcells (L.take j) ++ ([.int .u16 (((L.getD j (0, 0)).1 : Nat) : Int), .int .u16 (((L.getD j (0, 0)).2 : Nat) : Int)] ++ lcells (L.drop (j + 1))) := by
        conv => lhs; rw [hcut]
        simp [lcells]
      have ht : (lcells (L.take j)).length = j * 2 := by rw [lcells_len, List.length_take]; omega
      rw [e, List.getElem?_append_right (by omega), ht, Nat.add_sub_cancel_left, List.getElem?_append_left (by simpa using hd)]
    have c0 := (hat.cellAt (j * 2) (by omega)).trans ((hx 0 (by omega)).trans rfl)
    have c1 := (hat.cellAt (j * 2 + 1) (by omega)).trans ((hx 1 (by omega)).trans rfl)
    rw [Nat.zero_add]
    exact ⟨c0, c1⟩
/-- The call's own numbers read as numbers. -/
theorem RdH.of_own {w : World} {base : Nat} {e : TypeId} {A : Option Addr} {n c : Nat} {L : List Nat} (h : w.ownsRow base e 1 (.slice A n c) n (hcells L)) (hf : ∀ a ∈ L, a < 65536) : RdH w A n L := by
  have hl : L.length = n := by simpa [hcells_len] using h.1
  have hat := h
  rcases h.2 with ⟨hv, hn⟩ | ⟨g, cap, cur, hv, hb, hg, hnc, hcm, hcs, htake⟩
  · exact ⟨hl, by omega, hf, fun h => absurd h (by omega)⟩
  · injection hv with h1 h2 h3
    subst h1; subst h3
    refine ⟨hl, by simp only [maxLen] at hcm; omega, hf, fun hn => ⟨g, 0, rfl, (Array.getElem?_eq_some_iff.1 hg).1, fun j hj => ?_⟩⟩
    rw [Nat.zero_add, hat.cellAt j (by omega), hcells_at (by omega)]
end Go.Proofs.Ytkmacpmdgbhhkaa
