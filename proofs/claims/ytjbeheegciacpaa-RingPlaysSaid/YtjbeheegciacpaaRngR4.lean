/- What the document's answers for layer 19 (tenailleref19) answer: a packet put that may be. No statement is proved here. -/
import Derived.Test.YtjbeheegciacpaaRngR3
import Derived.Deep.RegionLaw
namespace Go.Proofs.Ytjbeheegciacpaa
open Go.RowKit
set_option linter.unusedVariables false

/-- A ring under way: its packets are L's in some order, its blocks are the ones it had or new. -/
structure Way19 (w : World) (g : Nat) (P B : Int) (F : Nat → Prop) (D L : List Pck) (vI vB : Value) (wr : World) : Prop where
  ring : RRg 0 g P B D vI vB wr
  perm : D.Perm L
  srt : Srt L
  fr : Fr F w wr
  own : ∀ k, FRg g vI vB k → F k ∨ w.heap.size ≤ k
theorem Way19.below {w : World} {g : Nat} {P B : Int} {F : Nat → Prop} {D L : List Pck} {vI vB : Value} {wr w2 : World} (h : Way19 w g P B F D L vI vB wr) (hb : Below wr.heap.size wr w2) : Way19 w g P B F D L vI vB w2 :=
  ⟨h.ring.below hb, h.perm, h.srt, h.fr.then hb, h.own⟩
theorem Way19.dropped {w : World} {g : Nat} {P B : Int} {F : Nat → Prop} {D L L2 : List Pck} {vI vB vI2 vB2 : Value} {wr w2 : World} {m : Nat} (h : Way19 w g P B F D L vI vB wr) (hF : F g) (hr : RRg wr.heap.size g P B (D.eraseIdx m) vI2 vB2 w2) (hg : wr.grownBy w2 (some g)) (hp : (D.eraseIdx m).Perm L2) (hs : Srt L2) : Way19 w g P B F (D.eraseIdx m) L2 vI2 vB2 w2 := by
  refine ⟨hr.low, hp, hs, h.fr.trans (G := fun k => k = g) (Fr.of_grown hg (fun p hp => by injection hp with hp; exact hp.symm)) (fun i hi => .inl (by rw [hi]; exact hF)), ?_⟩
  have hsz := h.fr.size
  rintro k (rfl | hk | hk)
  · exact .inl hF
  · exact .inr (by have := (hr.own.lt k hk).1; omega)
  · exact .inr (by have := (hr.owb.lt k hk).1; omega)
/-- The index is put behind the others. -/
theorem Way19.putI {w wr w2 : World} {g : Nat} {P B : Int} {D : List Pck} {vI vB v1 : Value} {i : Int} (h : RRg 0 g P B D vI vB wr) (hf : Fr (FRg g vI vB) w wr) (hw : w.heap.size ≤ wr.heap.size)
    (ho : w2.ownsRow 0 2 1 v1 (D.length + 1) (icells (D.map (·.1)) ++ [.int .i64 i])) (hg : (wr.alloc (.cells #[.int .i64 i] 2)).grownBy w2 vI.ownBlock) (hnew : v1.ownBlock = vI.ownBlock ∨ v1.ownBlock = some (wr.alloc (.cells #[.int .i64 i] 2)).heap.size) :
    BlkV w2 g 30 [.int .i64 P, .int .i64 B, vI, vB] ∧ w2.ownsRow 0 9 1 vB D.length (tcells (D.map (·.2))) ∧ Fr (FRg g vI vB) w w2 ∧ (∀ k, v1.ownBlock = some k → FRg g vI vB k ∨ w.heap.size ≤ k) := by
  have hne := own_ne h.own h.blk (show (2 : TypeId) ≠ 30 by decide)
  have f1 : Fr (FRg g vI vB) wr (wr.alloc (.cells #[.int .i64 i] 2)) := .of_below ((Below.refl _ _).alloc (Nat.le_refl _) _)
  have f2 : Fr (fun k => vI.ownBlock = some k) (wr.alloc (.cells #[.int .i64 i] 2)) w2 := .of_grown hg (fun p hp => hp)
  refine ⟨(h.blk.alloc _).fr f2 (fun e => hne e), ?_, (hf.trans f1 (fun i hi => .inl hi)).trans f2 (fun k hk => .inl (.inr (.inl hk))), fun k hk => ?_⟩
  · refine own_thN (h.owb.alloc (.cells #[.int .i64 i] 2)) hg (fun p hp => .inr ?_)
    obtain ⟨cur, fz, hc⟩ := own_type (h.own.alloc (.cells #[.int .i64 i] 2)) hp
    exact ⟨cur, _, fz, hc, ne_ste64⟩
  · rcases hnew with e | e
    · exact .inl (.inr (.inl (by rw [← e]; exact hk)))
    · rw [e] at hk
      injection hk with hk
      right
      rw [← hk]
      simp
      omega
/-- The index's row is laid. -/
theorem Way19.laidI {w w2 : World} {g N : Nat} {P B i : Int} {D : List Pck} {vI vB v1 : Value} (h : BlkV w2 g 30 [.int .i64 P, .int .i64 B, vI, vB] ∧ w2.ownsRow 0 9 1 vB D.length (tcells (D.map (·.2))) ∧ Fr (FRg g vI vB) w w2 ∧ (∀ k, v1.ownBlock = some k → FRg g vI vB k ∨ w.heap.size ≤ k))
    (ho : w2.ownsRow 0 2 1 v1 N (icells (D.map (·.1)) ++ [.int .i64 i])) :
    BlkV (w2.setCell ⟨g, 2, none⟩ v1) g 30 [.int .i64 P, .int .i64 B, v1, vB] ∧ (w2.setCell ⟨g, 2, none⟩ v1).ownsRow 0 2 1 v1 N (icells (D.map (·.1)) ++ [.int .i64 i]) ∧ (w2.setCell ⟨g, 2, none⟩ v1).ownsRow 0 9 1 vB D.length (tcells (D.map (·.2))) ∧ Fr (FRg g vI vB) w (w2.setCell ⟨g, 2, none⟩ v1) := by
  obtain ⟨hb, h2, hf, _⟩ := h
  have f3 : Fr (fun k => k = g) w2 (w2.setCell ⟨g, 2, none⟩ v1) := .of_only (Only.set _ _ _ _) rfl
  have n1 := own_ne ho hb (show (2 : TypeId) ≠ 30 by decide)
  have n2 := own_ne h2 hb (show (9 : TypeId) ≠ 30 by decide)
  exact ⟨hb.set_ 2 v1, own_fr ho f3 (fun k hk e => n1 (by rw [hk, e])), own_fr h2 f3 (fun k hk e => n2 (by rw [hk, e])), hf.trans f3 (fun k hk => .inl (.inl hk))⟩
/-- The bytes are put behind the others. -/
theorem Way19.putB {w w7 w8 : World} {g N : Nat} {P B i : Int} {D L : List Pck} {vB v1 v2 : Value} {F : Nat → Prop} {t : List UInt8} (hN : N = D.length) (hb : BlkV w7 g 30 [.int .i64 P, .int .i64 B, v1, vB]) (h1 : w7.ownsRow 0 2 1 v1 (N + 1) (icells (D.map (·.1)) ++ [.int .i64 i]))
    (h2 : w7.ownsRow 0 9 1 vB N (tcells (D.map (·.2)))) (hf : Fr F w w7) (hw : w.heap.size ≤ w7.heap.size) (hF : F g) (hF1 : ∀ k, v1.ownBlock = some k → F k ∨ w.heap.size ≤ k) (hF2 : ∀ k, vB.ownBlock = some k → F k)
    (ho : w8.ownsRow 0 9 1 v2 (N + 1) (tcells (D.map (·.2)) ++ [.string (txt t)])) (hg : (w7.alloc (.cells #[.string (txt t)] 9)).drew.grownBy w8 vB.ownBlock) (hnew : v2.ownBlock = vB.ownBlock ∨ v2.ownBlock = some (w7.alloc (.cells #[.string (txt t)] 9)).drew.heap.size)
    (hp : (D ++ [(i, t)]).Perm L) (hs : Srt L) :
    Way19 w g P B F (D ++ [(i, t)]) L v1 v2 (w8.setCell ⟨g, 3, none⟩ v2) ∧ w8.cell? ⟨g, 3, none⟩ = some vB ∧ w8.frozen? ⟨g, 3, none⟩ = false := by
  subst hN
  have hne := own_ne h2 hb (show (9 : TypeId) ≠ 30 by decide)
  have b1 : Below w7.heap.size w7 (w7.alloc (.cells #[.string (txt t)] 9)).drew := ((Below.refl _ _).alloc (Nat.le_refl _) _).drew
  have f1 : Fr F w7 (w7.alloc (.cells #[.string (txt t)] 9)).drew := .of_below b1
  have f2 : Fr (fun k => vB.ownBlock = some k) (w7.alloc (.cells #[.string (txt t)] 9)).drew w8 := .of_grown hg (fun p hp => hp)
  have f3 : Fr (fun k => k = g) w8 (w8.setCell ⟨g, 3, none⟩ v2) := .of_only (Only.set _ _ _ _) rfl
  have hb8 : BlkV w8 g 30 [.int .i64 P, .int .i64 B, v1, vB] := ((hb.alloc _).drew).fr f2 (fun e => hne e)
  have o1 : w8.ownsRow 0 2 1 v1 (D.length + 1) (icells (D.map (·.1)) ++ [.int .i64 i]) := by
    refine own_thN (own_keep h1 b1) hg (fun p hp => .inr ?_)
    obtain ⟨cur, fz, hc⟩ := own_type (own_keep h2 b1) hp
    exact ⟨cur, _, fz, hc, ne_e64st⟩
  have n1 := own_ne o1 hb8 (show (2 : TypeId) ≠ 30 by decide)
  have n2 := own_ne ho hb8 (show (9 : TypeId) ≠ 30 by decide)
  refine ⟨⟨⟨hb8.set_ 3 v2, ?_, ?_⟩, hp, hs, ((hf.trans f1 (fun i hi => .inl hi)).trans f2 (fun k hk => .inl (hF2 k hk))).trans f3 (fun k hk => .inl (by rw [hk]; exact hF)), ?_⟩, (hb8.cell 3).trans rfl, hb8.frozen 3⟩
  · rw [List.length_append, List.map_append, List.map_singleton, icells_snoc]
    exact own_fr o1 f3 (fun k hk e => n1 (by rw [hk, e]))
  · rw [List.length_append, List.map_append, List.map_singleton, tcells_snoc]
    exact own_fr ho f3 (fun k hk e => n2 (by rw [hk, e]))
  · rintro k (rfl | hk | hk)
    · exact .inl hF
    · exact hF1 k hk
    · rcases hnew with e | e
      · exact .inl (hF2 k (by rw [← e]; exact hk))
      · rw [e] at hk
        injection hk with hk
        right
        rw [← hk]
        have hz : (w7.alloc (.cells #[.string (txt t)] 9)).drew.heap.size = w7.heap.size + 1 := by simp
        rw [hz]
        omega
theorem step_appV {w : World} {ops : Array Oper} {o : Oper} {a : Act} {K : Act → World → Prop} {Q : Exit → Act → World → Prop} {E : Prop} (hgd : o.guard = none) (s y : Operand) {t e : TypeId} {sz : Nat} (hE : ElT e t sz)
    (ho : o.op = .call { callee := .builtin .append, args := #[s, y], argTypes := #[t, t] })
    (base : Nat) (v : Value) (n : Nat) (xs : List Value) (hs : a.eval s = v) (hown : w.ownsRow base e sz v n xs) (g : Nat) (hy : a.eval y = .slice (some ⟨g, 0, none⟩) 1 1) (row : List Value) (hrow : row.length = sz) (h1 : ∀ u ∈ row, u.oneCell' = true) {e' : TypeId} (hB : BlkV w g e' row) (hn : n ≤ 1000000) (hbase : base ≤ w.heap.size)
    (h : ∀ v' w', w'.ownsRow base e sz v' (n + 1) (xs ++ row) → w.grownBy w' v.ownBlock → (v'.ownBlock = v.ownBlock ∨ v'.ownBlock = some w.heap.size) → K (a.put o.dst v') w') : if Region.wanted o (yielded ops a.tmps) = true then Oper.wp Try.prog o a w K Q else E := by
  rw [if_pos (by simp [Region.wanted, hgd])]
  exact wp_appV s y hE ho base v n xs hs hown g hy row hrow h1 hB hn hbase h
end Go.Proofs.Ytjbeheegciacpaa
