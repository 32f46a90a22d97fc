/- Several texts in one: The document's way of layer 15 (tenailleref15.Way) as an object with blocks of its own: which sources it knows, how high they came. Plain words: what becomes of a way that opens ciphered bytes. A map of windows by sources (package srtp's): what it holds, as a list; a look-up, a store, its length. No statement is proved here. -/
import Derived.Test.YtmkeioeodlidgaaDoorZM16
import Derived.Test.YtmkeioeodlidgaaDoorZM1
import Derived.Maps.OwnSet
namespace Go.Proofs.YtmkeioeodlidgaaDoor
open Go.RowKit
set_option linter.unusedVariables false

/-- A way's names, and the pointers to their windows. -/
def nmC (ws : List (Nat × List Int)) : List Value := ucells (ws.map (·.1))
def ptC (r : Nat → Nat) (m : Nat) : List Value := (List.range m).map fun i => .pointer (some ⟨r i, 0, none⟩)
theorem nmC_len (ws : List (Nat × List Int)) : (nmC ws).length = ws.length := by simp [nmC, ucells]
theorem ptC_len (r : Nat → Nat) (m : Nat) : (ptC r m).length = m := by simp [ptC]
theorem nmC_at {ws : List (Nat × List Int)} {i : Nat} (h : i < ws.length) : (nmC ws)[i]? = some (.int .u32 ((ws.getD i (0, [])).1 : Int)) := by simp [nmC, ucells, List.getD, h]
theorem ptC_at {r : Nat → Nat} {m i : Nat} (h : i < m) : (ptC r m)[i]? = some (.pointer (some ⟨r i, 0, none⟩)) := by simp [ptC, h]
/-- A way's blocks. -/
def FW (g m : Nat) (nm ww : Value) (r : Nat → Nat) (v : Nat → Value) (k : Nat) : Prop := k = g ∨ nm.ownBlock = some k ∨ ww.ownBlock = some k ∨ ∃ i, i < m ∧ (k = r i ∨ (v i).ownBlock = some k)
/-- What is true of every way: its keys' lengths; its indices. -/
def Wy.good (y : Wy) : Prop := y.fit ∧ y.used ≤ 900 ∧ ∀ x ∈ y.ws, (x.2.length : Int) ≤ y.used ∧ ∀ i ∈ x.2, 0 ≤ i ∧ i < 281474976710656
theorem Wy.good.at_ {y : Wy} (h : y.good) {i : Nat} (hi : i < y.ws.length) : (y.ws.getD i (0, [])).1 < 4294967296 ∧ (y.ws.getD i (0, [])).2.length ≤ 900 ∧ hiL (y.ws.getD i (0, [])).2 < 281474976710656 ∧ ∀ x ∈ (y.ws.getD i (0, [])).2, 0 ≤ x ∧ x < 281474976710656 := by
  have e : y.ws.getD i (0, []) = y.ws[i] := by simp [List.getD, hi]
  have hm : y.ws.getD i (0, []) ∈ y.ws := e ▸ List.getElem_mem hi
  obtain ⟨hf, hu, hw⟩ := h
  obtain ⟨h1, h2⟩ := hw _ hm
  refine ⟨hf.2.2.2.2.2.2 _ hm, by omega, ?_, h2⟩
  rcases (hiL_facts (y.ws.getD i (0, [])).2).2.2 with h | h
  · omega
  · exact (h2 _ h).2
section
variable {w w2 : World} {g : Nat} {y : Wy} {nm ww : Value} {r : Nat → Nat} {v : Nat → Value}
theorem own_at_same {w w2 : World} {base n : Nat} {e : TypeId} {v : Value} {xs : List Value} (h : w.ownsRow base e 1 v n xs) (hk : ∀ k, v.ownBlock = some k → w2.heap[k]? = w.heap[k]?) : w2.ownsRow base e 1 v n xs := by
  refine ⟨h.1, h.2.imp id fun ⟨g, cap, cur, h1, h2, h3, h4⟩ => ⟨g, cap, cur, h1, h2, ?_, h4⟩⟩
  rw [hk g (by rw [h1]; rfl)]
  exact h3
end
/-- Where a source stands. -/
def atW : List (Nat × List Int) → Nat → Option Nat
  | [], _ => none
  | (n, _) :: l, x => if n = x then some 0 else (atW l x).map (· + 1)
theorem atW_some : ∀ {ws : List (Nat × List Int)} {x i : Nat}, atW ws x = some i → i < ws.length ∧ (ws.getD i (0, [])).1 = x ∧ lookW ws x = some (ws.getD i (0, [])).2
  | [], _, _, h => nomatch h
  | (n, L) :: l, x, i, h => by
    unfold atW at h
    unfold lookW
    by_cases e : n = x
    · rw [if_pos e] at h
      injection h with h
      subst h
      rw [if_pos e]
      exact ⟨by simp, e, rfl⟩
    · rw [if_neg e] at h
      rw [if_neg e]
      match hl : atW l x with
      | none => rw [hl] at h; exact nomatch h
      | some j =>
        rw [hl] at h
        simp only [Option.map_some, Option.some.injEq] at h
        subst h
        obtain ⟨h1, h2, h3⟩ := atW_some hl
        exact ⟨by simp only [List.length_cons]; omega, by simpa using h2, by simpa using h3⟩
theorem atW_none : ∀ {ws : List (Nat × List Int)} {x : Nat}, atW ws x = none → lookW ws x = none ∧ ∀ i, i < ws.length → (ws.getD i (0, [])).1 ≠ x
  | [], _, _ => ⟨rfl, fun _ h => absurd h (by simp)⟩
  | (n, L) :: l, x, h => by
    unfold atW at h
    unfold lookW
    by_cases e : n = x
    · rw [if_pos e] at h; exact nomatch h
    · rw [if_neg e] at h
      rw [if_neg e]
      have hl : atW l x = none := by simpa using h
      obtain ⟨h1, h2⟩ := atW_none hl
      refine ⟨h1, fun i hi => ?_⟩
      match i with
      | 0 => exact e
      | i + 1 => simpa using h2 i (by simp only [List.length_cons] at hi; omega)
/-- None ahead of k is it, and k is it. -/
theorem atW_first : ∀ {ws : List (Nat × List Int)} {x k : Nat}, (∀ j, j < k → (ws.getD j (0, [])).1 ≠ x) → k < ws.length → (ws.getD k (0, [])).1 = x → atW ws x = some k
  | [], _, _, _, hk, _ => absurd hk (by simp)
  | (n, L) :: l, x, 0, _, _, h => by
    unfold atW
    rw [if_pos (show n = x from h)]
  | (n, L) :: l, x, k + 1, h0, hk, h => by
    unfold atW
    rw [if_neg (show n ≠ x from h0 0 (by omega)), atW_first (ws := l) (k := k) (fun j hj => h0 (j + 1) (by omega)) (by simpa using hk) (by simpa using h)]
    rfl
theorem atW_never {ws : List (Nat × List Int)} {x : Nat} (h : ∀ j, j < ws.length → (ws.getD j (0, [])).1 ≠ x) : atW ws x = none := by
  match ha : atW ws x with
  | none => rfl
  | some i => obtain ⟨h1, h2, _⟩ := atW_some ha; exact absurd h2 (h i h1)
def atI (ws : List (Nat × List Int)) (x : Nat) : Int := match atW ws x with
  | none => -1
  | some i => (i : Int)
end Go.Proofs.YtmkeioeodlidgaaDoor

namespace Go.Proofs.YtmkeioeodlidgaaDoor
open Go.RowKit
set_option linter.unusedVariables false

theorem likely_ge (h s : Int) (hs : 0 ≤ s) : 0 ≤ likely h s := by
  have hb := aheadZ_bd s h
  unfold likely
  split
  · exact hs
  · split <;> omega
theorem likely_le (h s : Int) (hs : s ≤ 65535) (hh : -1 ≤ h) : likely h s ≤ h + 98305 := by
  have hb := aheadZ_bd s h
  unfold likely
  split
  · omega
  · split <;> omega
theorem putY_some : ∀ {ws : List (Nat × List Int)} {x i : Nat} (L : List Int), atW ws x = some i → putY ws x L = ws.set i ((ws.getD i (0, [])).1, L)
  | [], _, _, _, h => nomatch h
  | (n, M) :: l, x, i, L, h => by
    unfold atW at h
    unfold putY
    by_cases e : n = x
    · rw [if_pos e] at h
      injection h with h
      subst h
      rw [if_pos e]
      rfl
    · rw [if_neg e] at h
      rw [if_neg e]
      match hl : atW l x with
      | none => rw [hl] at h; exact nomatch h
      | some j =>
        rw [hl] at h
        simp only [Option.map_some, Option.some.injEq] at h
        subst h
        rw [putY_some L hl]
        simp
theorem putY_none : ∀ {ws : List (Nat × List Int)} {x : Nat} (L : List Int), atW ws x = none → putY ws x L = ws ++ [(x, L)]
  | [], _, _, _ => rfl
  | (n, M) :: l, x, L, h => by
    unfold atW at h
    unfold putY
    by_cases e : n = x
    · rw [if_pos e] at h; exact nomatch h
    · rw [if_neg e] at h
      rw [if_neg e]
      have hl : atW l x = none := by simpa using h
      rw [putY_none L hl]
      rfl
/-- A source's indices, none where it isn't known; the sources behind a mark. -/
def winW (ws : List (Nat × List Int)) (x : Nat) : List Int := (lookW ws x).getD []
def markW (ws : List (Nat × List Int)) (x : Nat) (i : Int) : List (Nat × List Int) := putY ws x (mkL (winW ws x) i)
theorem winW_some {ws : List (Nat × List Int)} {x i : Nat} (h : atW ws x = some i) : winW ws x = (ws.getD i (0, [])).2 := by unfold winW; rw [(atW_some h).2.2]; rfl
theorem winW_none {ws : List (Nat × List Int)} {x : Nat} (h : atW ws x = none) : winW ws x = [] := by unfold winW; rw [(atW_none h).1]; rfl
theorem highW_win (ws : List (Nat × List Int)) (x : Nat) : highW ws x = hiL (winW ws x) := by
  unfold highW winW
  cases lookW ws x <;> rfl
def pkZ : Pkt := ⟨false, 0, 0, 0, 0, [], false, 0, [], [], 0⟩
/-- What Open tells: an error's number, an index, a packet; the way behind it. -/
noncomputable def codeO (y : Wy) (b : List UInt8) : Int := open Classical in if whyOpen y b ≠ 0 then whyOpen y b else if whyR (plainW y b) ≠ 0 then 3 else 0
noncomputable def idxO (y : Wy) (b : List UInt8) : Int := open Classical in if codeO y b = 0 then idxW y b else 0
noncomputable def pktO (y : Wy) (b : List UInt8) : Pkt := open Classical in if codeO y b = 0 then pktR (plainW y b) else pkZ
noncomputable def yO (y : Wy) (b : List UInt8) : Wy := open Classical in if whyOpen y b = 0 then { y with used := y.used + 1, ws := markW y.ws (soN b) (idxW y b) } else y
theorem whyOpen_peek {y : Wy} {b : List UInt8} (h : whyPeek b ≠ 0) : whyOpen y b = whyPeek b := by unfold whyOpen; rw [if_pos h]
theorem whyOpen_7 {y : Wy} {b : List UInt8} (h : whyPeek b = 0) (h2 : y.limit ≤ y.used) : whyOpen y b = 7 := by unfold whyOpen; rw [if_neg (fun k => k h), if_pos h2]
theorem whyOpen_6 {y : Wy} {b : List UInt8} (h : whyPeek b = 0) (h2 : ¬ y.limit ≤ y.used) (h3 : lookW y.ws (soN b) = none ∧ 8 ≤ y.ws.length) : whyOpen y b = 6 := by unfold whyOpen; rw [if_neg (fun k => k h), if_neg h2, if_pos h3]
theorem whyOpen_3 {y : Wy} {b : List UInt8} (h : whyPeek b = 0) (h2 : ¬ y.limit ≤ y.used) (h3 : ¬ (lookW y.ws (soN b) = none ∧ 8 ≤ y.ws.length)) (h4 : 281474976710656 ≤ idxW y b) : whyOpen y b = 3 := by unfold whyOpen; rw [if_neg (fun k => k h), if_neg h2, if_neg h3, if_pos h4]
theorem whyOpen_5 {y : Wy} {b : List UInt8} (h : whyPeek b = 0) (h2 : ¬ y.limit ≤ y.used) (h3 : ¬ (lookW y.ws (soN b) = none ∧ 8 ≤ y.ws.length)) (h4 : ¬ 281474976710656 ≤ idxW y b) (h5 : ∃ L, lookW y.ws (soN b) = some L ∧ frL L (idxW y b) = false) : whyOpen y b = 5 := by unfold whyOpen; rw [if_neg (fun k => k h), if_neg h2, if_neg h3, if_neg h4, if_pos h5]
theorem whyOpen_4 {y : Wy} {b : List UInt8} (h : whyPeek b = 0) (h2 : ¬ y.limit ≤ y.used) (h3 : ¬ (lookW y.ws (soN b) = none ∧ 8 ≤ y.ws.length)) (h4 : ¬ 281474976710656 ≤ idxW y b) (h5 : ¬ ∃ L, lookW y.ws (soN b) = some L ∧ frL L (idxW y b) = false) (h6 : tagW y (b.take (b.length - 10)) (idxW y b).toNat ≠ b.drop (b.length - 10)) : whyOpen y b = 4 := by unfold whyOpen; rw [if_neg (fun k => k h), if_neg h2, if_neg h3, if_neg h4, if_neg h5, if_pos h6]
theorem whyOpen_0 {y : Wy} {b : List UInt8} (h : whyPeek b = 0) (h2 : ¬ y.limit ≤ y.used) (h3 : ¬ (lookW y.ws (soN b) = none ∧ 8 ≤ y.ws.length)) (h4 : ¬ 281474976710656 ≤ idxW y b) (h5 : ¬ ∃ L, lookW y.ws (soN b) = some L ∧ frL L (idxW y b) = false) (h6 : tagW y (b.take (b.length - 10)) (idxW y b).toNat = b.drop (b.length - 10)) : whyOpen y b = 0 := by unfold whyOpen; rw [if_neg (fun k => k h), if_neg h2, if_neg h3, if_neg h4, if_neg h5, if_neg (fun k => k h6)]
theorem open_zero {y : Wy} {b : List UInt8} (h : whyOpen y b = 0) : whyPeek b = 0 ∧ ¬ y.limit ≤ y.used ∧ ¬ (lookW y.ws (soN b) = none ∧ 8 ≤ y.ws.length) ∧ ¬ 281474976710656 ≤ idxW y b ∧ (¬ ∃ L, lookW y.ws (soN b) = some L ∧ frL L (idxW y b) = false) ∧ tagW y (b.take (b.length - 10)) (idxW y b).toNat = b.drop (b.length - 10) := by
  have a1 : whyPeek b = 0 := by
    by_cases k : whyPeek b = 0
    · exact k
    · exact absurd ((whyOpen_peek k).symm.trans h) k
  have a2 : ¬ y.limit ≤ y.used := fun k => absurd ((whyOpen_7 a1 k).symm.trans h) (by decide)
  have a3 : ¬ (lookW y.ws (soN b) = none ∧ 8 ≤ y.ws.length) := fun k => absurd ((whyOpen_6 a1 a2 k).symm.trans h) (by decide)
  have a4 : ¬ 281474976710656 ≤ idxW y b := fun k => absurd ((whyOpen_3 a1 a2 a3 k).symm.trans h) (by decide)
  have a5 : ¬ ∃ L, lookW y.ws (soN b) = some L ∧ frL L (idxW y b) = false := fun k => absurd ((whyOpen_5 a1 a2 a3 a4 k).symm.trans h) (by decide)
  refine ⟨a1, a2, a3, a4, a5, ?_⟩
  by_cases k : tagW y (b.take (b.length - 10)) (idxW y b).toNat = b.drop (b.length - 10)
  · exact k
  · exact absurd ((whyOpen_4 a1 a2 a3 a4 a5 k).symm.trans h) (by decide)
theorem idxW_ge (y : Wy) (b : List UInt8) : 0 ≤ idxW y b := likely_ge _ _ (by omega)
/-- A way stays good. -/
theorem good_once {y : Wy} (h : y.good) (hu : y.used + 1 ≤ 900) : y.once.good := by
  obtain ⟨⟨h1, h2, h3, h4, h5, h6, h7⟩, h8, h9⟩ := h
  refine ⟨⟨h1, h2, h3, h4, ?_, h6, h7⟩, hu, fun x hx => ⟨?_, (h9 x hx).2⟩⟩
  · show 0 ≤ y.used + 1; omega
  · show (x.2.length : Int) ≤ y.used + 1
    have := (h9 x hx).1
    omega
theorem win_facts {y : Wy} (h : y.good) (x : Nat) : ((winW y.ws x).length : Int) ≤ y.used ∧ ∀ i ∈ winW y.ws x, 0 ≤ i ∧ i < 281474976710656 := by
  match ha : atW y.ws x with
  | none =>
    rw [winW_none ha]
    exact ⟨by have := h.1.2.2.2.2.1; simpa using this, fun i hi => nomatch hi⟩
  | some k =>
    rw [winW_some ha]
    have hk := (atW_some ha).1
    have hm : y.ws.getD k (0, []) ∈ y.ws := by
      have e : y.ws.getD k (0, []) = y.ws[k] := by simp [List.getD, hk]
      rw [e]; exact List.getElem_mem _
    exact h.2.2 _ hm
theorem good_open {y : Wy} (h : y.good) (b : List UInt8) (hu : y.used + 1 ≤ 900) : (yO y b).good := by
  unfold yO
  by_cases hz : whyOpen y b = 0
  case neg => rw [if_neg hz]; exact h
  rw [if_pos hz]
  obtain ⟨a1, a2, a3, a4, a5, a6⟩ := open_zero hz
  obtain ⟨w1, w2⟩ := win_facts h (soN b)
  have hmk : ((mkL (winW y.ws (soN b)) (idxW y b)).length : Int) ≤ y.used + 1 ∧ ∀ i ∈ mkL (winW y.ws (soN b)) (idxW y b), 0 ≤ i ∧ i < 281474976710656 := by
    refine ⟨by have := mk_len (winW y.ws (soN b)) (idxW y b); omega, fun i hi => ?_⟩
    cases hf : frL (winW y.ws (soN b)) (idxW y b)
    · rw [mkL_not hf] at hi; exact w2 i hi
    · rw [mkL_of hf] at hi
      rcases List.mem_append.1 hi with hi | hi
      · exact w2 i hi
      · have : i = idxW y b := by simpa using hi
        rw [this]
        exact ⟨idxW_ge y b, by omega⟩
  obtain ⟨⟨h1, h2, h3, h4, h5, h6, h7⟩, h8, h9⟩ := h
  have hm : ∀ x ∈ markW y.ws (soN b) (idxW y b), (x ∈ y.ws) ∨ (x.1 < 4294967296 ∧ x.2 = mkL (winW y.ws (soN b)) (idxW y b)) := by
    intro x hx
    unfold markW at hx
    match ha : atW y.ws (soN b) with
    | none =>
      rw [putY_none _ ha] at hx
      rcases List.mem_append.1 hx with hx | hx
      · exact .inl hx
      · have : x = (soN b, mkL (winW y.ws (soN b)) (idxW y b)) := by simpa using hx
        rw [this]
        exact .inr ⟨soN_lt b, rfl⟩
    | some k =>
      rw [putY_some _ ha] at hx
      have hk := (atW_some ha).1
      rcases List.mem_or_eq_of_mem_set hx with hx | hx
      · exact .inl hx
      · rw [hx]
        refine .inr ⟨?_, rfl⟩
        show (y.ws.getD k (0, [])).1 < 4294967296
        rw [(atW_some ha).2.1]
        exact soN_lt b
  have hl : (markW y.ws (soN b) (idxW y b)).length ≤ 8 := by
    unfold markW
    match ha : atW y.ws (soN b) with
    | none =>
      rw [putY_none _ ha, List.length_append]
      have : ¬ 8 ≤ y.ws.length := fun k => a3 ⟨(atW_none ha).1, k⟩
      simp only [List.length_singleton]; omega
    | some k => rw [putY_some _ ha, List.length_set]; exact h6
  refine ⟨⟨h1, h2, h3, h4, by show 0 ≤ y.used + 1; omega, hl, fun x hx => ?_⟩, hu, fun x hx => ?_⟩
  · rcases hm x hx with k | k
    · exact h7 x k
    · exact k.1
  · show (x.2.length : Int) ≤ y.used + 1 ∧ _
    rcases hm x hx with k | k
    · have := h9 x k
      exact ⟨by omega, this.2⟩
    · rw [k.2]; exact hmk
end Go.Proofs.YtmkeioeodlidgaaDoor

namespace Go.Proofs.YtmkeioeodlidgaaDoor
open Go.RowKit Go.ChangeMaps Go.Maps
set_option linter.unusedVariables false

/-- Block b is a map that has, for each source, the window in which its indices were there. -/
def MapW (w : World) (b : Nat) (ws : List (Nat × List Int)) : Prop :=
  ∃ es clock, w.heap[b]? = some (.map es clock) ∧ es.size = ws.length ∧ (ws.map (·.1)).Nodup ∧
    ∀ i, i < ws.length → ∃ e h p, es[i]? = some e ∧ e.key = .int .u32 ((ws.getD i (0, [])).1 : Int) ∧ e.val = .agg #[.int .i64 h, .int .u64 (p : Nat)] ∧ WinS (ws.getD i (0, [])).2 h p
theorem MapW.lt {w : World} {b : Nat} {ws : List (Nat × List Int)} (h : MapW w b ws) : b < w.heap.size := by
  obtain ⟨es, clock, hb, _⟩ := h
  exact (Array.getElem?_eq_some_iff.1 hb).1
theorem MapW.stay {w w2 : World} {b : Nat} {ws : List (Nat × List Int)} (h : MapW w b ws) (hs : w2.heap[b]? = w.heap[b]?) : MapW w2 b ws := by
  obtain ⟨es, clock, hb, r⟩ := h
  exact ⟨es, clock, hs.trans hb, r⟩
theorem MapW.below {w w2 : World} {b : Nat} {ws : List (Nat × List Int)} (h : MapW w b ws) (hb : Below w.heap.size w w2) : MapW w2 b ws := h.stay (hb.block b h.lt)
theorem MapW.made (w : World) : MapW (w.alloc (.map #[] 0)) w.heap.size [] := ⟨#[], 0, (MapKept.heap_alloc w _).1, rfl, List.nodup_nil, fun i hi => absurd hi (Nat.not_lt_zero i)⟩
theorem map_blk {w : World} {b g : Nat} {ws : List (Nat × List Int)} {e : TypeId} {cs : List Value} (h : MapW w b ws) (hB : BlkV w g e cs) : b ≠ g := by
  rintro rfl
  obtain ⟨es, clock, hb, _⟩ := h
  unfold BlkV at hB
  rw [hb] at hB
  exact nomatch hB
theorem map_own {w : World} {b base n s : Nat} {e : TypeId} {v : Value} {xs : List Value} {ws : List (Nat × List Int)} (h : MapW w b ws) (ho : w.ownsRow base e s v n xs) : v.ownBlock ≠ some b := by
  intro hv
  obtain ⟨es, clock, hb, _⟩ := h
  rcases ho.2 with ⟨rfl, _⟩ | ⟨g, cap, cur, rfl, _, hg, _⟩
  · simp [Value.ownBlock] at hv
  · simp [Value.ownBlock] at hv
    subst hv
    rw [hb] at hg
    exact nomatch hg
theorem keyU {x : Nat} (hx : x < 4294967296) : keyOf Tryd.prog 24 (.int .u32 (x : Int)) = some (.int .u32 (x : Int)) :=
  keyOf_int_mk Tryd.underlying24 (by
    show (decide (IntKind.u32.min ≤ (x : Int)) && decide ((x : Int) ≤ IntKind.u32.max)) = true
    rw [show IntKind.u32.min = 0 from rfl, show IntKind.u32.max = 4294967295 from rfl]
    simp
    omega)
theorem keyed32 : Keyed Tryd.prog 24 := int_keyed Tryd.underlying24
theorem zeroWin (w : World) : (zeroValue 87).run Tryd.prog w = .ok (.agg #[.int .i64 0, .int .u64 0]) w := by kernel_rfl
/-- Where a key stands among the entries, if it does. -/
theorem MapW.spot {es : Array MapEntry} {ws : List (Nat × List Int)} (hs : es.size = ws.length) (hn : (ws.map (·.1)).Nodup)
    (he : ∀ i, i < ws.length → ∃ e h p, es[i]? = some e ∧ e.key = .int .u32 ((ws.getD i (0, [])).1 : Int) ∧ e.val = .agg #[.int .i64 h, .int .u64 (p : Nat)] ∧ WinS (ws.getD i (0, [])).2 h p) {x : Nat} :
    (∀ j e, es[j]? = some e → e.key = .int .u32 (x : Int) → atW ws x = some j) ∧ ((∀ e ∈ es.toList, e.key ≠ .int .u32 (x : Int)) → atW ws x = none) := by
  refine ⟨fun j e hj hk => ?_, fun hno => ?_⟩
  · have hjl : j < ws.length := hs ▸ (Array.getElem?_eq_some_iff.1 hj).1
    obtain ⟨e2, h, p, h1, h2, _⟩ := he j hjl
    rw [hj] at h1
    injection h1 with h1
    subst h1
    rw [hk] at h2
    have hx : x = (ws.getD j (0, [])).1 := by
      injection h2 with _ h2
      omega
    match ha : atW ws x with
    | none => exact absurd hx.symm ((atW_none ha).2 j hjl)
    | some i =>
      obtain ⟨hi, hi2, _⟩ := atW_some ha
      have e1 : (ws.map (·.1))[i]'(by simpa using hi) = (ws.map (·.1))[j]'(by simpa using hjl) := by
        simp only [List.getElem_map]
        have a1 : (ws.getD i (0, [])) = ws[i] := by simp [List.getD, hi]
        have a2 : (ws.getD j (0, [])) = ws[j] := by simp [List.getD, hjl]
        rw [← a1, ← a2, hi2, hx]
      have hp := List.pairwise_iff_getElem.1 hn
      rcases Nat.lt_trichotomy i j with k | k | k
      · exact absurd e1 (hp i j (by simpa using hi) (by simpa using hjl) k)
      · rw [k]
      · exact absurd e1.symm (hp j i (by simpa using hjl) (by simpa using hi) k)
  · match ha : atW ws x with
    | none => rfl
    | some i =>
      obtain ⟨hi, hi2, _⟩ := atW_some ha
      obtain ⟨e, h, p, h1, h2, _⟩ := he i hi
      rw [hi2] at h2
      exact absurd h2 (hno e (List.mem_of_getElem? (by simpa using h1)))
theorem MapW.keys {es : Array MapEntry} {ws : List (Nat × List Int)} (hs : es.size = ws.length) (hlt : ∀ y ∈ ws, y.1 < 4294967296)
    (he : ∀ i, i < ws.length → ∃ e h p, es[i]? = some e ∧ e.key = .int .u32 ((ws.getD i (0, [])).1 : Int) ∧ e.val = .agg #[.int .i64 h, .int .u64 (p : Nat)] ∧ WinS (ws.getD i (0, [])).2 h p) :
    ∀ e ∈ es.toList, ∃ l, keyOf Tryd.prog 24 e.key = some l := by
  intro e hm
  obtain ⟨i, hi, hie⟩ := List.getElem_of_mem hm
  have hil : i < ws.length := by rw [← hs]; simpa using hi
  obtain ⟨e2, h, p, h1, h2, _⟩ := he i hil
  have : e = e2 := by
    have h3 : es[i]? = some e := by
      have := List.getElem?_eq_getElem hi
      rw [hie] at this
      simpa using this
    rw [h3] at h1
    exact Option.some.inj h1
  subst this
  rw [h2]
  have hm2 : ws.getD i (0, []) ∈ ws := by
    have a1 : (ws.getD i (0, [])) = ws[i] := by simp [List.getD, hil]
    rw [a1]
    exact List.getElem_mem hil
  exact ⟨_, keyU (hlt _ hm2)⟩
/-- A look-up: the window in which a source's indices were there, and whether it is there. -/
theorem MapW.look {w : World} {b : Nat} {ws : List (Nat × List Int)} (h : MapW w b ws) (hlt : ∀ y ∈ ws, y.1 < 4294967296) {x : Nat} (hx : x < 4294967296) :
    ∃ (hh : Int) (p : Nat), WinS (winW ws x) hh p ∧ ∀ c, (Instr.lookup 60 (.map (some b)) (.int .u32 (x : Int)) c).run Tryd.prog w = .ok (if c then .tuple #[.agg #[.int .i64 hh, .int .u64 (p : Int)], .bool (atW ws x).isSome] else .agg #[.int .i64 hh, .int .u64 (p : Int)]) w := by
  obtain ⟨es, clock, hb, hs, hn, he⟩ := h
  have hkey := keyU hx
  have sp := MapW.spot (x := x) hs hn he
  rcases keyed32.find w hkey es.toList (MapW.keys hs hlt he) with ⟨h1, h2⟩ | ⟨j, e0, h1, h2, h3⟩
  · have ha := sp.2 h2
    refine ⟨0, 0, by rw [winW_none ha]; exact WinS.nil, fun c => ?_⟩
    rw [ha]
    cases c <;> simp [Instr.lookup, run_underlying Tryd.underlying60, MapKept.run_getObj_map hb, keyed32.check w _ hkey, h1, Result.andThen]
  · have hj : es[j]? = some e0 := by simpa using h2
    have ha := sp.1 j e0 hj h3
    obtain ⟨hjl, hj2, hj3⟩ := atW_some ha
    obtain ⟨e, hh, p, k1, k2, k3, k4⟩ := he j hjl
    rw [hj] at k1
    injection k1 with k1
    subst k1
    refine ⟨hh, p, by rw [winW_some ha]; exact k4, fun c => ?_⟩
    rw [ha]
    cases c <;> simp [Instr.lookup, run_underlying Tryd.underlying60, MapKept.run_getObj_map hb, keyed32.check w _ hkey, h1, k3, Result.andThen]
theorem MapW.len_ {w : World} {b : Nat} {ws : List (Nat × List Int)} (h : MapW w b ws) (ty : TypeId) : (Builtin.len_ #[60] ty #[.map (some b)]).run Tryd.prog w = .ok (.int .i64 (ws.length : Nat)) w := by
  obtain ⟨es, clock, hb, hs, _⟩ := h
  rw [← hs]
  simp [Builtin.len_, run_underlying Tryd.underlying60, MapKept.run_getObj_map hb, goInt, Result.andThen]
theorem names_put {ws : List (Nat × List Int)} {x : Nat} {L : List Int} (hn : (ws.map (·.1)).Nodup) : ((putY ws x L).map (·.1)).Nodup := by
  match ha : atW ws x with
  | none =>
    rw [putY_none L ha, List.map_append]
    refine List.nodup_append.2 ⟨hn, by simp, fun a h1 b h2 => ?_⟩
    have hb2 : b = x := by simpa using h2
    subst hb2
    rintro rfl
    obtain ⟨y, hy, rfl⟩ := List.mem_map.1 h1
    obtain ⟨i, hi, e⟩ := List.getElem_of_mem hy
    exact (atW_none ha).2 i hi (by rw [← e]; simp [List.getD, hi])
  | some i =>
    obtain ⟨hi, _, _⟩ := atW_some ha
    rw [putY_some L ha]
    have : (ws.set i ((ws.getD i (0, [])).1, L)).map (·.1) = ws.map (·.1) := by
      rw [List.map_set]
      refine List.ext_getElem? fun j => ?_
      rw [List.getElem?_set]
      by_cases e : i = j
      · subst e; simp [hi, List.getD]
      · rw [if_neg e]
    rw [this]
    exact hn
theorem only_block {w : World} {b : Nat} {es : Array MapEntry} {clock : Nat} (hb : w.heap[b]? = some (.map es clock)) (o : Obj) : Only b w (setBlock w b o) :=
  ⟨rfl, rfl, rfl, by simp [setBlock], fun i hi => heap_setBlock_other hb _ hi⟩
/-- A store. -/
theorem MapW.store {w : World} {b : Nat} {ws : List (Nat × List Int)} (h : MapW w b ws) (hlt : ∀ y ∈ ws, y.1 < 4294967296) {x : Nat} (hx : x < 4294967296) {hh : Int} {p : Nat} {L : List Int} (hW : WinS L hh p) :
    ∃ w', (Instr.mapUpdate 60 (.map (some b)) (.int .u32 (x : Int)) (.agg #[.int .i64 hh, .int .u64 (p : Int)])).run Tryd.prog w = .ok () w' ∧ MapW w' b (putY ws x L) ∧ Only b w w' := by
  obtain ⟨es, clock, hb, hs, hn, he⟩ := h
  have hkey := keyU hx
  have sp := MapW.spot (x := x) hs hn he
  rcases keyed32.find w hkey es.toList (MapW.keys hs hlt he) with ⟨h1, h2⟩ | ⟨j, e0, h1, h2, h3⟩
  · have ha := sp.2 h2
    refine ⟨setBlock w b (.map (es.push ⟨.int .u32 (x : Int), .agg #[.int .i64 hh, .int .u64 (p : Int)], clock⟩) (clock + 1)), ?_, ⟨_, _, heap_setBlock_same hb _, ?_, names_put hn, ?_⟩, only_block hb _⟩
    · simp [Instr.mapUpdate, run_underlying Tryd.underlying60, MapKept.run_getObj_map hb, keyed32.check w false hkey, h1, MapKept.run_setObj_map _ hb, Result.andThen, setBlock]
    · rw [putY_none L ha]; simp [hs]
    · rw [putY_none L ha]
      intro i hi
      by_cases e : i = ws.length
      · subst e
        refine ⟨⟨.int .u32 (x : Int), .agg #[.int .i64 hh, .int .u64 (p : Int)], clock⟩, hh, p, ?_, ?_, rfl, ?_⟩
        · rw [← hs]; simp
        · simp [List.getD]
        · simpa [List.getD] using hW
      · have hi' : i < ws.length := by simp only [List.length_append, List.length_singleton] at hi; omega
        obtain ⟨e1, h', p', k1, k2, k3, k4⟩ := he i hi'
        have e2 : (ws ++ [(x, L)]).getD i (0, []) = ws.getD i (0, []) := by simp [List.getD, List.getElem?_append_left hi']
        rw [e2]
        exact ⟨e1, h', p', by rw [Array.getElem?_push, if_neg (by omega)]; exact k1, k2, k3, k4⟩
  · have hj : es[j]? = some e0 := by simpa using h2
    have ha := sp.1 j e0 hj h3
    obtain ⟨hjl, hj2, hj3⟩ := atW_some ha
    refine ⟨setBlock w b (.map (es.modify j (fun e' => { e' with key := .int .u32 (x : Int), val := .agg #[.int .i64 hh, .int .u64 (p : Int)] })) clock), ?_, ⟨_, _, heap_setBlock_same hb _, ?_, names_put hn, ?_⟩, only_block hb _⟩
    · simp [Instr.mapUpdate, run_underlying Tryd.underlying60, MapKept.run_getObj_map hb, keyed32.check w false hkey, h1, hj, h3, keyed32.stays w hkey, MapKept.run_setObj_map _ hb, Result.andThen, setBlock]
    · rw [putY_some L ha]; simp [hs]
    · rw [putY_some L ha]
      intro i hi
      have hi' : i < ws.length := by simpa using hi
      obtain ⟨e1, h', p', k1, k2, k3, k4⟩ := he i hi'
      by_cases e : j = i
      · subst e
        have e2 : (ws.set j ((ws.getD j (0, [])).1, L)).getD j (0, []) = ((ws.getD j (0, [])).1, L) := by simp [List.getD, hi']
        rw [e2]
        refine ⟨_, hh, p, by rw [Array.getElem?_modify, if_pos rfl, k1]; rfl, ?_, rfl, hW⟩
        rw [hj2]
      · have e2 : (ws.set j ((ws.getD j (0, [])).1, L)).getD i (0, []) = ws.getD i (0, []) := by simp [List.getD, e]
        rw [e2]
        exact ⟨e1, h', p', by rw [Array.getElem?_modify, if_neg e]; exact k1, k2, k3, k4⟩
/-- 'm[k] = v' at the operation. -/
theorem wpList_mapW (w : World) {ops : Array Oper} {rest : List Oper} {o : Oper} {a : Act} {Q : Exit → Act → World → Prop} (hg : o.guard = none) (m x v : Operand) (hop : o.op = Op.mapUpdate 60 m x v) (b : Nat) (ws : List (Nat × List Int))
    (hm : a.eval m = .map (some b)) (h : MapW w b ws) (hlt : ∀ y ∈ ws, y.1 < 4294967296) (X : Nat) (hx : a.eval x = .int .u32 (X : Int)) (hX : X < 4294967296) (hh : Int) (p : Nat) (hv : a.eval v = .agg #[.int .i64 hh, .int .u64 (p : Int)]) (L : List Int) (hW : WinS L hh p)
    (hK : ∀ w', MapW w' b (putY ws X L) → Only b w w' → wpList Tryd.prog ops Q rest (a.put o.dst undef) w') : wpList Tryd.prog ops Q (o :: rest) a w := by
  refine wpList_plain hg fun K' hK' => ?_
  obtain ⟨w', hrun, r1, r2⟩ := h.store hlt hX hW
  unfold Oper.wp
  simp [execOp, hop, hm, hx, hv, hrun, Result.andThen]
  exact hK' _ _ (hK w' r1 r2)
end Go.Proofs.YtmkeioeodlidgaaDoor
