/- Plain words and states for LossesBound: what is asked in a tick, the rows of what was asked and when beside the keeper. No statement is proved here. -/
import Derived.Test.YtkmacpmdgbhhkaaLosL3
import Derived.Test.YtkmacpmdgbhhkaaLosR2
namespace Go.Proofs.Ytkmacpmdgbhhkaa
open Go.RowKit
set_option linter.unusedVariables false

/-- What was asked so far, j of this tick's being asked. -/
def hstB (A : List (Int × Int)) (asked : List Mis) (tk : Int) (j : Nat) : List (Int × Int) := A ++ (asked.take j).map fun x => (x.i, tk)
theorem hstB_zero (A : List (Int × Int)) (asked : List Mis) (tk : Int) : hstB A asked tk 0 = A := by simp [hstB]
theorem hstB_succ (A : List (Int × Int)) {asked : List Mis} (tk : Int) {j : Nat} (hj : j < asked.length) : hstB A asked tk (j + 1) = hstB A asked tk j ++ [(asked[j].i, tk)] := by
  unfold hstB
  rw [List.take_succ_eq_append_getElem hj, List.map_append, List.map_singleton, List.append_assoc]
theorem hstB_len (A : List (Int × Int)) {asked : List Mis} (tk : Int) {j : Nat} (hj : j ≤ asked.length) : (hstB A asked tk j).length = A.length + j := by
  unfold hstB
  rw [List.length_append, List.length_map, List.length_take, Nat.min_eq_left hj]
theorem rises_of (asked : List Mis) (h : asked.Pairwise fun a b => a.i < b.i) (hb : ∀ x ∈ asked, 0 ≤ x.i ∧ x.i < 65536) : rises (asked.map fun x => (x.i % 65536).toNat) := by
  intro j hj
  rw [List.length_map] at hj
  have h1 : j < asked.length := by omega
  have e : ∀ k (hk : k < asked.length), (asked.map fun x => (x.i % 65536).toNat).getD k 0 = (asked[k].i % 65536).toNat := fun k hk => by simp [List.getD, hk]
  rw [e j h1, e (j + 1) hj]
  have a := hb _ (List.getElem_mem h1)
  have b := hb _ (List.getElem_mem hj)
  have c := List.pairwise_iff_getElem.1 h j (j + 1) h1 hj (by omega)
  omega
theorem ask_facts {s : Kpr} {A : List (Int × Int)} (k : KOk s) (h : Hst s A) (tk : Int) (hb : s.h ≤ 65536) : ∃ asked : List Mis, asked.length ≤ 32 ∧ (askK s tk).2.length = asked.length ∧ nkL (lsL (askK s tk).2) = (askK s tk).2 ∧ (∀ x ∈ (askK s tk).2, x < 65536) ∧
    (∀ j (hj : j < asked.length), (((askK s tk).2.getD j 0 : Nat) : Int) = asked[j].i) ∧ (∀ j (hj : j < asked.length), (hstB A asked tk j).countP (fun a => decide (a.1 = asked[j].i)) < 3 ∧ ∀ a ∈ hstB A asked tk j, a.1 = asked[j].i → s.p ≤ tk - a.2) ∧ Hst (askK s tk).1 (hstB A asked tk asked.length) := by
  obtain ⟨asked, h1, h2, h3, h4⟩ := hst_ask k h tk
  have hris : asked.Pairwise fun a b => a.i < b.i := k.ris.sublist h2
  have hbd : ∀ x ∈ asked, 0 ≤ x.i ∧ x.i < 65536 := fun x hx => by have := k.bel x (h2.subset hx); omega
  have hlt : ∀ x ∈ (askK s tk).2, x < 65536 := fun x hx => by
    rw [h1] at hx
    obtain ⟨y, _, rfl⟩ := List.mem_map.1 hx
    omega
  refine ⟨asked, by have := h2.length_le; have := k.len; omega, by rw [h1, List.length_map], nk_ls _ hlt (by rw [h1]; exact rises_of asked hris hbd), hlt, fun j hj => ?_, fun j hj => ?_, ?_⟩
  · have a := hbd _ (List.getElem_mem hj)
    rw [h1]
    simp [List.getD, hj]
    omega
  · obtain ⟨c1, c2⟩ := h3 _ (List.getElem_mem hj)
    have hne : ∀ x ∈ asked.take j, x.i ≠ asked[j].i := fun x hx => by
      obtain ⟨i, hi, rfl⟩ := List.getElem_of_mem hx
      rw [List.length_take] at hi
      rw [List.getElem_take]
      have := List.pairwise_iff_getElem.1 hris i j (by omega) hj (by omega)
      omega
    refine ⟨?_, fun a ha he => ?_⟩
    · unfold hstB
      rw [List.countP_append]
      have : ((asked.take j).map fun x => (x.i, tk)).countP (fun a => decide (a.1 = asked[j].i)) = 0 := List.countP_eq_zero.2 fun a ha => by
        obtain ⟨x, hx, rfl⟩ := List.mem_map.1 ha
        have := hne x hx; simpa using this
      rw [this]
      exact c1
    · rcases List.mem_append.1 ha with ha | ha
      · exact c2 a ha he
      · obtain ⟨x, hx, rfl⟩ := List.mem_map.1 ha
        exact absurd he (hne x hx)
  · unfold hstB
    rw [List.take_of_length_le (Nat.le_refl _)]
    exact h4

/-- The blocks of two rows. -/
def RowsB (v1 v2 : Value) (k : Nat) : Prop := v1.ownBlock = some k ∨ v2.ownBlock = some k
theorem OnK.far {σ : Type} {T : World → Value → σ → (Nat → Prop) → Prop} {w0 wx wy : World} {K K2 G : Nat → Prop} {v : Value} {s : σ} (hL : Lone T) (h : OnK T w0 K v s wx) (hf : Fr G wx wy) (hG : ∀ k, G k → K k ∧ w0.heap.size ≤ k) (hK : ∀ k, K2 k → k < wy.heap.size ∧ (K k ∨ wx.heap.size ≤ k)) : OnK T w0 K2 v s wy := by
  obtain ⟨F, h1, h2⟩ := h.ex
  refine ⟨⟨F, hL.fr h1 hf (fun k hk hg => (h2 k hk).2 (hG k hg).1), fun k hk => ⟨(h2 k hk).1, fun hk2 => ?_⟩⟩, fun k hk => (hK k hk).1, h.below.trans (hf.below (fun k hk => (hG k hk).2) h.below.size)⟩
  rcases (hK k hk2).2 with h3 | h3
  · exact (h2 k hk).2 h3
  · have := hL.low _ _ _ _ h1 k hk; omega
/-- The keeper plays s, A was asked. -/
structure Hs20 (T : World → Value → Kpr → (Nat → Prop) → Prop) (w : World) (q : Addr) (s : Kpr) (A : List (Int × Int)) (v1 v2 : Value) (m : Nat) (wr : World) : Prop where
  kp : OnK T w (RowsB v1 v2) (.pointer (some q)) s wr
  a : wr.ownsRow w.heap.size 2 1 v1 m (icells (A.map (·.1)))
  b : wr.ownsRow w.heap.size 2 1 v2 m (icells (A.map (·.2)))
  ne : ∀ k, v1.ownBlock = some k → v2.ownBlock ≠ some k
section
variable {T : World → Value → Kpr → (Nat → Prop) → Prop} {w wr wy : World} {q : Addr} {s s2 : Kpr} {A : List (Int × Int)} {v1 v2 : Value} {m : Nat}
theorem Hs20.below (hL : Lone T) (h : Hs20 T w q s A v1 v2 m wr) (hb : Below wr.heap.size wr wy) : Hs20 T w q s A v1 v2 m wy := ⟨(h.kp.on hL hb).1, own_keep h.a hb, own_keep h.b hb, h.ne⟩
theorem Hs20.step {K2 : Nat → Prop} (h : Hs20 T w q s A v1 v2 m wr) (h1 : OnK T w (fun k => RowsB v1 v2 k ∨ K2 k) (.pointer (some q)) s2 wy) (h2 : SamK (RowsB v1 v2) wr wy) : Hs20 T w q s2 A v1 v2 m wy :=
  ⟨h1.less (fun k hk => .inl hk), own_at_same h.a (fun k hk => h2 k (.inl hk)), own_at_same h.b (fun k hk => h2 k (.inr hk)), h.ne⟩
/-- One more index is put behind those that were asked. -/
theorem Hs20.first {y : Int} {v1' : Value} {w2 : World} (hL : Lone T) (h : Hs20 T w q s A v1 v2 m wr) (ho : w2.ownsRow w.heap.size 2 1 v1' (m + 1) (icells (A.map (·.1)) ++ [.int .i64 y])) (hg : (wr.alloc (.cells #[.int .i64 y] 2)).grownBy w2 v1.ownBlock) (hn : v1'.ownBlock = v1.ownBlock ∨ v1'.ownBlock = some (wr.alloc (.cells #[.int .i64 y] 2)).heap.size) :
    OnK T w (RowsB v1' v2) (.pointer (some q)) s w2 ∧ w2.ownsRow w.heap.size 2 1 v2 m (icells (A.map (·.2))) ∧ (∀ k, v1'.ownBlock = some k → v2.ownBlock ≠ some k) := by
  have b1 : Below wr.heap.size wr (wr.alloc (.cells #[.int .i64 y] 2)) := (Below.refl _ _).alloc (Nat.le_refl _) _
  have k1 := (h.kp.on hL b1).1
  have ob := h.b.alloc (.cells #[.int .i64 y] 2)
  have sz : (wr.alloc (.cells #[.int .i64 y] 2)).heap.size = wr.heap.size + 1 := by simp
  have f1 : Fr (fun k => v1.ownBlock = some k) (wr.alloc (.cells #[.int .i64 y] 2)) w2 := Fr.of_grown hg (fun p hp => hp)
  have ob2 := own_other ob hg h.ne
  refine ⟨k1.far hL f1 (fun k hk => ⟨.inl hk, (h.a.lt k hk).1⟩) (fun k hk => ?_), ob2, fun k hk => ?_⟩
  · rcases hk with hk | hk
    · refine ⟨(ho.lt k hk).2, ?_⟩
      rcases hn with e | e
      · exact .inl (.inl (by rw [← e]; exact hk))
      · rw [e] at hk; injection hk with hk; exact .inr (by omega)
    · exact ⟨(ob2.lt k hk).2, .inl (.inr hk)⟩
  · rcases hn with e | e
    · exact h.ne k (by rw [← e]; exact hk)
    · rw [e] at hk
      injection hk with hk
      intro e2
      have := (h.b.lt k e2).2
      omega
/-- .. and its tick behind those. -/
theorem Hs20.second {y t : Int} {v1' v2' : Value} {w2 w3 : World} (hL : Lone T) (hk1 : OnK T w (RowsB v1' v2) (.pointer (some q)) s w2) (ho1 : w2.ownsRow w.heap.size 2 1 v1' (m + 1) (icells (A.map (·.1)) ++ [.int .i64 y])) (ho2 : w2.ownsRow w.heap.size 2 1 v2 m (icells (A.map (·.2)))) (hne : ∀ k, v1'.ownBlock = some k → v2.ownBlock ≠ some k)
    (ho : w3.ownsRow w.heap.size 2 1 v2' (m + 1) (icells (A.map (·.2)) ++ [.int .i64 t])) (hg : (w2.alloc (.cells #[.int .i64 t] 2)).grownBy w3 v2.ownBlock) (hn : v2'.ownBlock = v2.ownBlock ∨ v2'.ownBlock = some (w2.alloc (.cells #[.int .i64 t] 2)).heap.size) :
    Hs20 T w q s (A ++ [(y, t)]) v1' v2' (m + 1) w3 := by
  have b1 : Below w2.heap.size w2 (w2.alloc (.cells #[.int .i64 t] 2)) := (Below.refl _ _).alloc (Nat.le_refl _) _
  have k1 := (hk1.on hL b1).1
  have oa := ho1.alloc (.cells #[.int .i64 t] 2)
  have sz : (w2.alloc (.cells #[.int .i64 t] 2)).heap.size = w2.heap.size + 1 := by simp
  have f1 : Fr (fun k => v2.ownBlock = some k) (w2.alloc (.cells #[.int .i64 t] 2)) w3 := Fr.of_grown hg (fun p hp => hp)
  have oa2 := own_other oa hg (fun k h1 h2 => hne k h2 h1)
  refine ⟨k1.far hL f1 (fun k hk => ⟨.inr hk, (ho2.lt k hk).1⟩) (fun k hk => ?_), ?_, ?_, fun k hk => ?_⟩
  · rcases hk with hk | hk
    · exact ⟨(oa2.lt k hk).2, .inl (.inl hk)⟩
    · refine ⟨(ho.lt k hk).2, ?_⟩
      rcases hn with e | e
      · exact .inl (.inr (by rw [← e]; exact hk))
      · rw [e] at hk; injection hk with hk; exact .inr (by omega)
  · rw [List.map_append, List.map_singleton, icells_snoc]; exact oa2
  · rw [List.map_append, List.map_singleton, icells_snoc]; exact ho
  · rcases hn with e | e
    · rw [e]; exact hne k hk
    · rw [e]
      intro e2
      injection e2 with e2
      have := (ho1.lt k hk).2
      omega
end
theorem cameK_is {s : Kpr} {i tk : Int} (hi : 0 ≤ i) (h1 : s.h < i) (h2 : i - s.h ≤ 1099511627776) : (cameK s i tk).h = i := by
  unfold cameK
  rw [if_neg (by omega)]
  split
  · rfl
  · rfl
end Go.Proofs.Ytkmacpmdgbhhkaa
