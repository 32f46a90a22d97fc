/- What the document's answers for layer 20 (tenailleref20) answer: a keeper that is new, a place dropped. No statement is proved here. -/
import Derived.Test.YtkmacpmdgbhhkaaProg
import Derived.Test.YtkmacpmdgbhhkaaLosNum
import Derived.Test.YtkmacpmdgbhhkaaInts
import Derived.Test.YtkmacpmdgbhhkaaFoot
import Derived.WalkKit
import Derived.KernelRfl
import Derived.IntWalk
import Derived.LoopTactic
import Derived.Lib.Hide
import Derived.OpenShut
import Derived.BigQuiet
import Derived.Deep.DeepCutAuto
namespace Go.Proofs.Ytkmacpmdgbhhkaa
open Go.RowKit
set_option linter.unusedVariables false

theorem e64K : ElT 2 37 1 := elT (by8 := 8) (z := .int .i64 0) Try.underlying37 (by kernel_rfl) (by omega) rfl (by omega)
theorem eintK : ElT 3 39 1 := elT (by8 := 8) (z := .int .i64 0) Try.underlying39 (by kernel_rfl) (by omega) rfl (by omega)
theorem ne_64i : (2 : TypeId) ≠ 3 := by decide
theorem ne_i64 : (3 : TypeId) ≠ 2 := by decide
/-- A row's block holds elements of its type. -/
theorem own_typeK {w : World} {base s n p : Nat} {e : TypeId} {v : Value} {xs : List Value} (h : w.ownsRow base e s v n xs) (hp : v.ownBlock = some p) : ∃ (cur : Array Value) (fz : Nat × Nat), w.heap[p]? = some (.cells cur e fz) := by
  rcases h.2 with ⟨rfl, _⟩ | ⟨g, cap, cur, rfl, _, hg, _⟩
  · simp [Value.ownBlock] at hp
  · simp [Value.ownBlock] at hp
    subst hp
    exact ⟨_, _, hg⟩
/-- Rows of unlike elements lie apart. -/
theorem own_apart {w : World} {b1 b2 s1 s2 n1 n2 : Nat} {e1 e2 : TypeId} {v1 v2 : Value} {x1 x2 : List Value} (h1 : w.ownsRow b1 e1 s1 v1 n1 x1) (h2 : w.ownsRow b2 e2 s2 v2 n2 x2) (hne : e1 ≠ e2) : ∀ k, v1.ownBlock = some k → v2.ownBlock ≠ some k := fun k h3 h4 => by
  obtain ⟨c1, f1, g1⟩ := own_typeK h1 h3
  obtain ⟨c2, f2, g2⟩ := own_typeK h2 h4
  rw [g1] at g2
  injection g2 with g2
  injection g2 with _ g2
  exact hne g2
/-- A row is kept when another one's block turns. -/
theorem own_other {w w2 : World} {base s n : Nat} {e : TypeId} {v u : Value} {xs : List Value} (h : w.ownsRow base e s v n xs) (hg : w.grownBy w2 u.ownBlock) (hd : ∀ k, u.ownBlock = some k → v.ownBlock ≠ some k) : w2.ownsRow base e s v n xs :=
  own_fr h (Fr.of_grown (F := fun k => u.ownBlock = some k) hg (fun p hp => hp)) (fun k hk hf => hd k hf hk)

/-- Block g is the document's keeper. -/
structure RKp (base g : Nat) (s : Kpr) (vI vT vN : Value) (w : World) : Prop where
  blk : BlkV w g 41 [.int .i64 s.p, .int .i64 s.h, vI, vT, vN]
  oi : w.ownsRow base 2 1 vI s.M.length (icells (s.M.map (·.i)))
  ot : w.ownsRow base 3 1 vT s.M.length (icells (s.M.map (·.t)))
  on : w.ownsRow base 2 1 vN s.M.length (icells (s.M.map (·.n)))
  ne : ∀ k, vI.ownBlock = some k → vN.ownBlock ≠ some k
section
variable {base g : Nat} {s : Kpr} {vI vT vN : Value} {w w' : World}
theorem RKp.lt (h : RKp base g s vI vT vN w) : g < w.heap.size := h.blk.lt
theorem RKp.c0 (h : RKp base g s vI vT vN w) : w.cell? ⟨g, 0, none⟩ = some (.int .i64 s.p) := (h.blk.cell 0).trans rfl
theorem RKp.c1 (h : RKp base g s vI vT vN w) : w.cell? ⟨g, 1, none⟩ = some (.int .i64 s.h) := (h.blk.cell 1).trans rfl
theorem RKp.c2 (h : RKp base g s vI vT vN w) : w.cell? ⟨g, 2, none⟩ = some vI := (h.blk.cell 2).trans rfl
theorem RKp.c3 (h : RKp base g s vI vT vN w) : w.cell? ⟨g, 3, none⟩ = some vT := (h.blk.cell 3).trans rfl
theorem RKp.c4 (h : RKp base g s vI vT vN w) : w.cell? ⟨g, 4, none⟩ = some vN := (h.blk.cell 4).trans rfl
theorem RKp.below (h : RKp base g s vI vT vN w) (hb : Below w.heap.size w w') : RKp base g s vI vT vN w' := ⟨h.blk.below hb h.blk.lt, own_keep h.oi hb, own_keep h.ot hb, own_keep h.on hb, h.ne⟩
theorem RKp.low (h : RKp base g s vI vT vN w) : RKp 0 g s vI vT vN w := ⟨h.blk, own_moN h.oi (Nat.zero_le _), own_moN h.ot (Nat.zero_le _), own_moN h.on (Nat.zero_le _), h.ne⟩
end

/-- Three rows of the call's own: indices, ticks, tries. -/
structure Tri20 (w : World) (v1 v2 v3 : Value) (m : Nat) (L : List Mis) (wr : World) : Prop where
  a : wr.ownsRow w.heap.size 2 1 v1 m (icells (L.map (·.i)))
  b : wr.ownsRow w.heap.size 2 1 v2 m (icells (L.map (·.n)))
  c : wr.ownsRow w.heap.size 3 1 v3 m (icells (L.map (·.t)))
  ne : ∀ k, v1.ownBlock = some k → v2.ownBlock ≠ some k
  below : Below w.heap.size w wr
theorem Tri20.first {w wr w2 : World} {v1 v2 v3 v1' : Value} {m : Nat} {L : List Mis} {y : Int} (h : Tri20 w v1 v2 v3 m L wr) (hg : (wr.alloc (.cells #[.int .i64 y] 2)).grownBy w2 v1.ownBlock) (hn : v1'.ownBlock = v1.ownBlock ∨ v1'.ownBlock = some (wr.alloc (.cells #[.int .i64 y] 2)).heap.size) :
    Below w.heap.size w w2 ∧ w2.ownsRow w.heap.size 2 1 v2 m (icells (L.map (·.n))) ∧ w2.ownsRow w.heap.size 3 1 v3 m (icells (L.map (·.t))) ∧ (∀ k, v1'.ownBlock = some k → v2.ownBlock ≠ some k) := by
  have b1 := h.below.alloc h.below.size (.cells #[.int .i64 y] 2)
  refine ⟨b1.grown hg b1.size (fun p hp => (h.a.lt p hp).1), own_other (h.b.alloc _) hg h.ne, own_other (h.c.alloc _) hg (own_apart h.a h.c ne_64i), fun k hk => ?_⟩
  rcases hn with e | e
  · exact h.ne k (by rw [← e]; exact hk)
  · rw [e] at hk
    injection hk with hk
    intro e2
    have := (h.b.lt k e2).2
    rw [← hk] at this
    simp at this
    omega
theorem Tri20.second {w w2 w3 : World} {v1 v2 v3 v2' : Value} {m : Nat} {L : List Mis} {y z : Int} {xs : List Value} (ho1 : w2.ownsRow w.heap.size 2 1 v1 (m + 1) xs) (hb : Below w.heap.size w w2) (ho2 : w2.ownsRow w.heap.size 2 1 v2 m (icells (L.map (·.n)))) (ho3 : w2.ownsRow w.heap.size 3 1 v3 m (icells (L.map (·.t)))) (hne : ∀ k, v1.ownBlock = some k → v2.ownBlock ≠ some k)
    (hg : (w2.alloc (.cells #[.int .i64 z] 2)).grownBy w3 v2.ownBlock) (hn : v2'.ownBlock = v2.ownBlock ∨ v2'.ownBlock = some (w2.alloc (.cells #[.int .i64 z] 2)).heap.size) :
    Below w.heap.size w w3 ∧ w3.ownsRow w.heap.size 2 1 v1 (m + 1) xs ∧ w3.ownsRow w.heap.size 3 1 v3 m (icells (L.map (·.t))) ∧ (∀ k, v1.ownBlock = some k → v2'.ownBlock ≠ some k) := by
  have b1 := hb.alloc hb.size (.cells #[.int .i64 z] 2)
  refine ⟨b1.grown hg b1.size (fun p hp => (ho2.lt p hp).1), own_other (ho1.alloc _) hg (fun k h1 h2 => hne k h2 h1), own_other (ho3.alloc _) hg (own_apart ho2 ho3 ne_64i), fun k hk => ?_⟩
  rcases hn with e | e
  · rw [e]; exact hne k hk
  · rw [e]
    intro e2
    injection e2 with e2
    have := (ho1.lt k hk).2
    rw [← e2] at this
    simp at this
    omega
theorem Tri20.third {w w3 w4 : World} {v1 v2 v3 v3' : Value} {m : Nat} {L : List Mis} {x : Mis} (hb : Below w.heap.size w w3) (ho1 : w3.ownsRow w.heap.size 2 1 v1 (m + 1) (icells (L.map (·.i)) ++ [.int .i64 x.i])) (ho2 : w3.ownsRow w.heap.size 2 1 v2 (m + 1) (icells (L.map (·.n)) ++ [.int .i64 x.n])) (ho3 : w3.ownsRow w.heap.size 3 1 v3 m (icells (L.map (·.t)))) (hne : ∀ k, v1.ownBlock = some k → v2.ownBlock ≠ some k)
    (ho4 : w4.ownsRow w.heap.size 3 1 v3' (m + 1) (icells (L.map (·.t)) ++ [.int .i64 x.t])) (hg : (w3.alloc (.cells #[.int .i64 x.t] 3)).grownBy w4 v3.ownBlock) : Tri20 w v1 v2 v3' (m + 1) (L ++ [x]) w4 := by
  have b1 := hb.alloc hb.size (.cells #[.int .i64 x.t] 3)
  refine ⟨?_, ?_, ?_, hne, b1.grown hg b1.size (fun p hp => (ho3.lt p hp).1)⟩
  · rw [List.map_append, List.map_singleton, icells_snoc]; exact own_other (ho1.alloc _) hg (own_apart ho3 ho1 ne_i64)
  · rw [List.map_append, List.map_singleton, icells_snoc]; exact own_other (ho2.alloc _) hg (own_apart ho3 ho2 ne_i64)
  · rw [List.map_append, List.map_singleton, icells_snoc]; exact ho4
theorem erase_nextK {α : Type} (D : List α) (a k : Nat) (h : k < D.length) : (D.take (k + 1)).eraseIdx a = (D.take k).eraseIdx a ++ (if k = a then [] else [D[k]]) := by
  rw [List.take_succ_eq_append_getElem h]
  have hl : (D.take k).length = k := by rw [List.length_take]; omega
  by_cases e : k = a
  · subst e
    rw [if_pos rfl, List.append_nil, List.eraseIdx_append_of_length_le (by omega), hl, Nat.sub_self]
    simp
    rw [List.eraseIdx_of_length_le (by omega)]
  · rw [if_neg e]
    by_cases h2 : a < k
    · rw [List.eraseIdx_append_of_lt_length (by omega)]
    · rw [List.eraseIdx_append_of_length_le (by omega), hl, List.eraseIdx_of_length_le (l := [D[k]]) (by simp; omega), List.eraseIdx_of_length_le (l := D.take k) (by omega)]
end Go.Proofs.Ytkmacpmdgbhhkaa
