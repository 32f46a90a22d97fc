/- What the document's answers for layer 20 (tenailleref20) answer: a keeper under way, its rows grown. No statement is proved here. -/
import Derived.Test.YtkmacpmdgbhhkaaLosR2
namespace Go.Proofs.Ytkmacpmdgbhhkaa
open Go.RowKit
set_option linter.unusedVariables false

/-- A keeper's blocks. -/
def FKp (g : Nat) (vI vT vN : Value) (k : Nat) : Prop := k = g ∨ vI.ownBlock = some k ∨ vT.ownBlock = some k ∨ vN.ownBlock = some k
/-- A keeper under way: its rows, each as it stands; its blocks are the ones it had or new. -/
structure Kp3 (w : World) (g : Nat) (F : Nat → Prop) (p h : Int) (LI LT LN : List Int) (vI vT vN : Value) (wx : World) : Prop where
  blk : BlkV wx g 41 [.int .i64 p, .int .i64 h, vI, vT, vN]
  oi : wx.ownsRow 0 2 1 vI LI.length (icells LI)
  ot : wx.ownsRow 0 3 1 vT LT.length (icells LT)
  on : wx.ownsRow 0 2 1 vN LN.length (icells LN)
  ne : ∀ k, vI.ownBlock = some k → vN.ownBlock ≠ some k
  fr : Fr F w wx
  own : ∀ k, FKp g vI vT vN k → F k ∨ w.heap.size ≤ k
section
variable {w : World} {g : Nat} {F : Nat → Prop} {p h : Int} {LI LT LN : List Int} {vI vT vN : Value} {wx w2 : World}
theorem Kp3.size (k : Kp3 w g F p h LI LT LN vI vT vN wx) : w.heap.size ≤ wx.heap.size := k.fr.size
theorem Kp3.grown_i {x : Int} {v1 : Value} (k : Kp3 w g F p h LI LT LN vI vT vN wx) (ho : w2.ownsRow 0 2 1 v1 (LI.length + 1) (icells LI ++ [.int .i64 x])) (hg : (wx.alloc (.cells #[.int .i64 x] 2)).grownBy w2 vI.ownBlock) (hn : v1.ownBlock = vI.ownBlock ∨ v1.ownBlock = some (wx.alloc (.cells #[.int .i64 x] 2)).heap.size) :
    BlkV w2 g 41 [.int .i64 p, .int .i64 h, vI, vT, vN] ∧ Kp3 w g F p h (LI ++ [x]) LT LN v1 vT vN (w2.setCell ⟨g, 2, none⟩ v1) := by
  have hne := own_ne k.oi k.blk (show (2 : TypeId) ≠ 41 by decide)
  have n64 : (2 : TypeId) ≠ 41 := by decide
  have nin : (3 : TypeId) ≠ 41 := by decide
  have f1 : Fr F wx (wx.alloc (.cells #[.int .i64 x] 2)) := .of_below ((Below.refl _ _).alloc (Nat.le_refl _) _)
  have f2 : Fr (fun k => vI.ownBlock = some k) (wx.alloc (.cells #[.int .i64 x] 2)) w2 := .of_grown hg (fun p hp => hp)
  have hB : BlkV w2 g 41 [.int .i64 p, .int .i64 h, vI, vT, vN] := (k.blk.alloc _).fr f2 (fun e => hne e)
  have o2 := own_other (k.on.alloc (.cells #[.int .i64 x] 2)) hg k.ne
  have o3 := own_other (k.ot.alloc (.cells #[.int .i64 x] 2)) hg (own_apart k.oi k.ot ne_64i)
  have f3 : Fr (fun k => k = g) w2 (w2.setCell ⟨g, 2, none⟩ v1) := .of_only (Only.set _ _ _ _) rfl
  have hnew : ∀ b, v1.ownBlock = some b → vI.ownBlock = some b ∨ wx.heap.size ≤ b := fun b hb => by
    rcases hn with e | e
    · exact .inl (by rw [← e]; exact hb)
    · rw [e] at hb
      injection hb with hb
      right; rw [← hb]; simp
  have hsz := k.size
  refine ⟨hB, hB.set_ 2 v1, ?_, own_stepK o3 hB nin _ _, own_stepK o2 hB n64 _ _, fun b hb => ?_, ((k.fr.trans f1 (fun i hi => .inl hi)).trans f2 (fun b hb => k.own b (.inr (.inl hb)))).trans f3 (fun b hb => k.own b (.inl hb)), fun b hb => ?_⟩
  · rw [List.length_append, icells_snoc]; exact own_stepK ho hB n64 _ _
  · rcases hnew b hb with e | e
    · exact k.ne b e
    · intro e2; have := (k.on.lt b e2).2; omega
  · rcases hb with hb | hb | hb
    · exact k.own b (.inl hb)
    · rcases hnew b hb with e | e
      · exact k.own b (.inr (.inl e))
      · exact .inr (by omega)
    · exact k.own b (.inr (.inr hb))
theorem Kp3.grown_n {x : Int} {v1 : Value} (k : Kp3 w g F p h LI LT LN vI vT vN wx) (ho : w2.ownsRow 0 2 1 v1 (LN.length + 1) (icells LN ++ [.int .i64 x])) (hg : (wx.alloc (.cells #[.int .i64 x] 2)).grownBy w2 vN.ownBlock) (hn : v1.ownBlock = vN.ownBlock ∨ v1.ownBlock = some (wx.alloc (.cells #[.int .i64 x] 2)).heap.size) :
    BlkV w2 g 41 [.int .i64 p, .int .i64 h, vI, vT, vN] ∧ Kp3 w g F p h LI LT (LN ++ [x]) vI vT v1 (w2.setCell ⟨g, 4, none⟩ v1) := by
  have hne := own_ne k.on k.blk (show (2 : TypeId) ≠ 41 by decide)
  have n64 : (2 : TypeId) ≠ 41 := by decide
  have nin : (3 : TypeId) ≠ 41 := by decide
  have f1 : Fr F wx (wx.alloc (.cells #[.int .i64 x] 2)) := .of_below ((Below.refl _ _).alloc (Nat.le_refl _) _)
  have f2 : Fr (fun k => vN.ownBlock = some k) (wx.alloc (.cells #[.int .i64 x] 2)) w2 := .of_grown hg (fun p hp => hp)
  have hB : BlkV w2 g 41 [.int .i64 p, .int .i64 h, vI, vT, vN] := (k.blk.alloc _).fr f2 (fun e => hne e)
  have o2 := own_other (k.oi.alloc (.cells #[.int .i64 x] 2)) hg (fun b h1 h2 => k.ne b h2 h1)
  have o3 := own_other (k.ot.alloc (.cells #[.int .i64 x] 2)) hg (own_apart k.on k.ot ne_64i)
  have f3 : Fr (fun k => k = g) w2 (w2.setCell ⟨g, 4, none⟩ v1) := .of_only (Only.set _ _ _ _) rfl
  have hnew : ∀ b, v1.ownBlock = some b → vN.ownBlock = some b ∨ wx.heap.size ≤ b := fun b hb => by
    rcases hn with e | e
    · exact .inl (by rw [← e]; exact hb)
    · rw [e] at hb
      injection hb with hb
      right; rw [← hb]; simp
  have hsz := k.size
  refine ⟨hB, hB.set_ 4 v1, own_stepK o2 hB n64 _ _, own_stepK o3 hB nin _ _, ?_, fun b hb hb2 => ?_, ((k.fr.trans f1 (fun i hi => .inl hi)).trans f2 (fun b hb => k.own b (.inr (.inr (.inr hb))))).trans f3 (fun b hb => k.own b (.inl hb)), fun b hb => ?_⟩
  · rw [List.length_append, icells_snoc]; exact own_stepK ho hB n64 _ _
  · rcases hnew b hb2 with e | e
    · exact k.ne b hb e
    · have := (k.oi.lt b hb).2; omega
  · rcases hb with hb | hb | hb | hb
    · exact k.own b (.inl hb)
    · exact k.own b (.inr (.inl hb))
    · exact k.own b (.inr (.inr (.inl hb)))
    · rcases hnew b hb with e | e
      · exact k.own b (.inr (.inr (.inr e)))
      · exact .inr (by omega)
theorem Kp3.grown_t {x : Int} {v1 : Value} (k : Kp3 w g F p h LI LT LN vI vT vN wx) (ho : w2.ownsRow 0 3 1 v1 (LT.length + 1) (icells LT ++ [.int .i64 x])) (hg : (wx.alloc (.cells #[.int .i64 x] 3)).grownBy w2 vT.ownBlock) (hn : v1.ownBlock = vT.ownBlock ∨ v1.ownBlock = some (wx.alloc (.cells #[.int .i64 x] 3)).heap.size) :
    BlkV w2 g 41 [.int .i64 p, .int .i64 h, vI, vT, vN] ∧ Kp3 w g F p h LI (LT ++ [x]) LN vI v1 vN (w2.setCell ⟨g, 3, none⟩ v1) := by
  have hne := own_ne k.ot k.blk (show (3 : TypeId) ≠ 41 by decide)
  have n64 : (2 : TypeId) ≠ 41 := by decide
  have nin : (3 : TypeId) ≠ 41 := by decide
  have f1 : Fr F wx (wx.alloc (.cells #[.int .i64 x] 3)) := .of_below ((Below.refl _ _).alloc (Nat.le_refl _) _)
  have f2 : Fr (fun k => vT.ownBlock = some k) (wx.alloc (.cells #[.int .i64 x] 3)) w2 := .of_grown hg (fun p hp => hp)
  have hB : BlkV w2 g 41 [.int .i64 p, .int .i64 h, vI, vT, vN] := (k.blk.alloc _).fr f2 (fun e => hne e)
  have o2 := own_other (k.oi.alloc (.cells #[.int .i64 x] 3)) hg (own_apart k.ot k.oi ne_i64)
  have o3 := own_other (k.on.alloc (.cells #[.int .i64 x] 3)) hg (own_apart k.ot k.on ne_i64)
  have f3 : Fr (fun k => k = g) w2 (w2.setCell ⟨g, 3, none⟩ v1) := .of_only (Only.set _ _ _ _) rfl
  have hnew : ∀ b, v1.ownBlock = some b → vT.ownBlock = some b ∨ wx.heap.size ≤ b := fun b hb => by
    rcases hn with e | e
    · exact .inl (by rw [← e]; exact hb)
    · rw [e] at hb
      injection hb with hb
      right; rw [← hb]; simp
  have hsz := k.size
  refine ⟨hB, hB.set_ 3 v1, own_stepK o2 hB n64 _ _, ?_, own_stepK o3 hB n64 _ _, k.ne, ((k.fr.trans f1 (fun i hi => .inl hi)).trans f2 (fun b hb => k.own b (.inr (.inr (.inl hb))))).trans f3 (fun b hb => k.own b (.inl hb)), fun b hb => ?_⟩
  · rw [List.length_append, icells_snoc]; exact own_stepK ho hB nin _ _
  · rcases hb with hb | hb | hb | hb
    · exact k.own b (.inl hb)
    · exact k.own b (.inr (.inl hb))
    · rcases hnew b hb with e | e
      · exact k.own b (.inr (.inr (.inl e)))
      · exact .inr (by omega)
    · exact k.own b (.inr (.inr (.inr hb)))
end
/-- A keeper under way. -/
structure Way20 (w : World) (g : Nat) (F : Nat → Prop) (s : Kpr) (vI vT vN : Value) (wr : World) : Prop where
  kp : RKp 0 g s vI vT vN wr
  fr : Fr F w wr
  own : ∀ k, FKp g vI vT vN k → F k ∨ w.heap.size ≤ k
theorem Way20.start {w : World} {g : Nat} {s : Kpr} {vI vT vN : Value} (h : RKp 0 g s vI vT vN w) : Way20 w g (FKp g vI vT vN) s vI vT vN w := ⟨h, .refl _ _, fun _ hk => .inl hk⟩
theorem Way20.kp3 {w : World} {g : Nat} {F : Nat → Prop} {s : Kpr} {vI vT vN : Value} {wr : World} (h : Way20 w g F s vI vT vN wr) : Kp3 w g F s.p s.h (s.M.map (·.i)) (s.M.map (·.t)) (s.M.map (·.n)) vI vT vN wr :=
  ⟨h.kp.blk, by rw [List.length_map]; exact h.kp.oi, by rw [List.length_map]; exact h.kp.ot, by rw [List.length_map]; exact h.kp.on, h.kp.ne, h.fr, h.own⟩
theorem Way20.of_kp3 {w : World} {g : Nat} {F : Nat → Prop} {s : Kpr} {vI vT vN : Value} {wr : World} (h : Kp3 w g F s.p s.h (s.M.map (·.i)) (s.M.map (·.t)) (s.M.map (·.n)) vI vT vN wr) : Way20 w g F s vI vT vN wr :=
  ⟨⟨h.blk, by have := h.oi; rw [List.length_map] at this; exact this, by have := h.ot; rw [List.length_map] at this; exact this, by have := h.on; rw [List.length_map] at this; exact this, h.ne⟩, h.fr, h.own⟩
/-- A place was dropped. -/
theorem Way20.dropped {w : World} {g : Nat} {F : Nat → Prop} {s s2 : Kpr} {vI vT vN vI2 vT2 vN2 : Value} {wr w2 : World} (h : Way20 w g F s vI vT vN wr) (hr : RKp wr.heap.size g s2 vI2 vT2 vN2 w2) (hg : wr.grownBy w2 (some g)) : Way20 w g F s2 vI2 vT2 vN2 w2 := by
  refine ⟨hr.low, h.fr.trans (G := fun k => k = g) (Fr.of_grown hg (fun p hp => by injection hp with hp; exact hp.symm)) (fun i hi => h.own i (.inl hi)), ?_⟩
  have hsz := h.fr.size
  rintro k (hk | hk | hk | hk)
  · exact h.own k (.inl hk)
  · exact .inr (by have := (hr.oi.lt k hk).1; omega)
  · exact .inr (by have := (hr.ot.lt k hk).1; omega)
  · exact .inr (by have := (hr.on.lt k hk).1; omega)
/-- The highest one is set. -/
theorem Way20.high {w : World} {g : Nat} {F : Nat → Prop} {s : Kpr} {vI vT vN : Value} {wr : World} (k : Way20 w g F s vI vT vN wr) (i : Int) : Way20 w g F { s with h := i } vI vT vN (wr.setCell ⟨g, 1, none⟩ (.int .i64 i)) := by
  have n64 : (2 : TypeId) ≠ 41 := by decide
  have nin : (3 : TypeId) ≠ 41 := by decide
  exact ⟨⟨k.kp.blk.set_ 1 _, own_stepK k.kp.oi k.kp.blk n64 _ _, own_stepK k.kp.ot k.kp.blk nin _ _, own_stepK k.kp.on k.kp.blk n64 _ _, k.kp.ne⟩, k.fr.trans (G := fun k => k = g) (.of_only (Only.set _ _ _ _) rfl) (fun i hi => k.own i (.inl hi)), k.own⟩
theorem kp_cells {w : World} {g : Nat} {p h : Int} {vI vT vN : Value} (hB : BlkV w g 41 [.int .i64 p, .int .i64 h, vI, vT, vN]) : w.cell? ⟨g, 1, none⟩ = some (.int .i64 h) ∧ w.cell? ⟨g, 2, none⟩ = some vI ∧ w.cell? ⟨g, 3, none⟩ = some vT ∧ w.cell? ⟨g, 4, none⟩ = some vN ∧ w.frozen? ⟨g, 1, none⟩ = false ∧ w.frozen? ⟨g, 2, none⟩ = false ∧ w.frozen? ⟨g, 3, none⟩ = false ∧ w.frozen? ⟨g, 4, none⟩ = false :=
  ⟨(hB.cell 1).trans rfl, (hB.cell 2).trans rfl, (hB.cell 3).trans rfl, (hB.cell 4).trans rfl, hB.frozen 1, hB.frozen 2, hB.frozen 3, hB.frozen 4⟩
theorem own_cast {w : World} {b s n m : Nat} {e : TypeId} {v : Value} {xs : List Value} (h : w.ownsRow b e s v m xs) (hn : n = m) : w.ownsRow b e s v n xs := by rw [hn]; exact h
theorem own_uncast {w : World} {b s n m : Nat} {e : TypeId} {v : Value} {xs : List Value} (h : w.ownsRow b e s v (n + 1) xs) (hn : n = m) : w.ownsRow b e s v (m + 1) xs := by rw [← hn]; exact h
theorem fillM_next (a : Int) (c : Nat) (tk : Int) : fillM a (c + 1) tk = fillM a c tk ++ [⟨a + c, 0, tk⟩] := by
  unfold fillM
  rw [List.range_succ, List.map_append, List.map_singleton]
theorem fillM_len (a : Int) (c : Nat) (tk : Int) : (fillM a c tk).length = c := by unfold fillM; simp
theorem lastM_step {L : List Mis} (h : 32 < L.length) : lastM (L.eraseIdx 0) = lastM L := by
  unfold lastM
  cases L with
  | nil => simp at h
  | cons x r =>
    simp only [List.eraseIdx_cons_zero, List.length_cons] at h ⊢
    rw [show r.length + 1 - 32 = (r.length - 32) + 1 by omega, List.drop_succ_cons]
theorem lastM_self {L : List Mis} (h : L.length ≤ 32) : lastM L = L := by
  unfold lastM
  rw [show L.length - 32 = 0 by omega, List.drop_zero]
end Go.Proofs.Ytkmacpmdgbhhkaa
