/- What the document's answer for layer 12 (tenailleref12) tells of bytes: the message that they are (Read). No statement is proved here. -/
import Derived.Test.YthoiebjndchobaaStunR1
import Derived.Test.YthoiebjndchobaaReg
import Derived.Deep.RegionLaw
namespace Go.Proofs.Ythoiebjndchobaa
open Go.RowKit
set_option linter.unusedVariables false

def Z12 : List UInt8 := List.replicate 12 0
/-- No message at all. -/
def zStn : List Value := sC 0 Z12 (.slice none 0 0)
/-- Attributes of the call's own. -/
def AvO (w : World) (b : Nat) (A : Option Addr) (n c : Nat) (L : List (Nat × List UInt8)) : Prop := ∃ rows : List (List Value), rows.length = L.length ∧ w.ownsRow b 47 2 (.slice A n c) n rows.flatten ∧ L.length = n ∧
  ∀ (i : Nat) (r : List Value) (x : Nat × List UInt8), rows[i]? = some r → L[i]? = some x → ∃ (D : Option Addr) (c : Nat), r = [.int .u16 (x.1 : Int), .slice D x.2.length c] ∧ w.ownsRow b 5 1 (.slice D x.2.length c) x.2.length (cells x.2)
theorem AvO.nil (w : World) (b : Nat) : AvO w b none 0 0 [] := ⟨[], rfl, World.ownsRow_nil w _ _ _, rfl, by simp⟩
theorem AvO.rd {w : World} {b n c : Nat} {A : Option Addr} {L : List (Nat × List UInt8)} (h : AvO w b A n c L) : AvRd w A L := by
  obtain ⟨rows, h1, h2, h3, h4⟩ := h
  have hl : ∀ r ∈ rows, (id r).length = 2 := by
    intro r hr
    obtain ⟨i, hi, rfl⟩ := List.getElem_of_mem hr
    obtain ⟨D, c, h5, _⟩ := h4 i rows[i] (L[i]'(by omega)) (List.getElem?_eq_getElem hi) (List.getElem?_eq_getElem _)
    rw [id, h5]; rfl
  refine ⟨rows, h1, RdG.of_own (e := 47) (base := b) (n := n) (c := c) (by rw [show rows.flatMap id = rows.flatten from by simp [List.flatMap]]; exact h2) (by omega) hl, fun i r x hi hx => ?_⟩
  obtain ⟨D, c, h5, h6⟩ := h4 i r x hi hx
  exact ⟨D, c, h5, RdS.of_own h6⟩
/-- What grows a row of attributes leaves them. -/
theorem AvO.more {w w' : World} {b n c n' c' : Nat} {A A' : Option Addr} {L : List (Nat × List UInt8)} (h : AvO w b A n c L) (x : Nat × List UInt8) (D : Option Addr) (d : Nat) (hx : w.ownsRow b 5 1 (.slice D x.2.length d) x.2.length (cells x.2))
    (hg : w.grownBy w' (Value.slice A n c).ownBlock) (rows : List (List Value)) (hr : w.ownsRow b 47 2 (.slice A n c) n rows.flatten) (h0 : rows.length = L.length)
    (h4 : ∀ (i : Nat) (r : List Value) (x : Nat × List UInt8), rows[i]? = some r → L[i]? = some x → ∃ (D : Option Addr) (c : Nat), r = [.int .u16 (x.1 : Int), .slice D x.2.length c] ∧ w.ownsRow b 5 1 (.slice D x.2.length c) x.2.length (cells x.2))
    (ho : w'.ownsRow b 47 2 (.slice A' n' c') n' (rows.flatten ++ [.int .u16 (x.1 : Int), .slice D x.2.length d])) (hn : n' = n + 1) : AvO w' b A' n' c' (L ++ [x]) := by
  obtain ⟨_, _, _, h3, _⟩ := h
  have keep : ∀ (D : Option Addr) (d : Nat) (bs : List UInt8), w.ownsRow b 5 1 (.slice D bs.length d) bs.length (cells bs) → w'.ownsRow b 5 1 (.slice D bs.length d) bs.length (cells bs) := fun D d bs hb => own_thN hb hg (fun p hp => by
    right
    rcases hr.2 with ⟨hv, _⟩ | ⟨g, cap, cur, hv, _, hg2, _⟩
    · injection hv with e1 _ _
      subst e1
      simp [Value.ownBlock] at hp
    · injection hv with e1 _ _
      subst e1
      simp [Value.ownBlock] at hp
      subst hp
      exact ⟨cur, 47, _, hg2, by decide⟩)
  refine ⟨rows ++ [[.int .u16 (x.1 : Int), .slice D x.2.length d]], by simp [h0], by simpa using ho, by simp; omega, fun i r y hi hy => ?_⟩
  by_cases hil : i < L.length
  · rw [List.getElem?_append_left (by omega)] at hi hy
    obtain ⟨D2, c2, e2, o2⟩ := h4 i r y hi hy
    exact ⟨D2, c2, e2, keep _ _ _ o2⟩
  · rw [List.getElem?_append_right (by omega)] at hi hy
    obtain rfl : i = L.length := by
      have := (List.getElem?_eq_some_iff.1 hy).1
      simp at this; omega
    rw [h0] at hi
    simp at hi hy
    subst hi; subst hy
    exact ⟨D, d, rfl, keep _ _ _ hx⟩
/-- A message's cells of the call's own. -/
def StnO (w : World) (b : Nat) (cs : List Value) (s : Stn) : Prop := ∃ (A : Option Addr) (c : Nat), cs = sC s.ty s.tx (.slice A s.av.length c) ∧ AvO w b A s.av.length c s.av
theorem StnO.rd {w : World} {b : Nat} {cs : List Value} {s : Stn} (h : StnO w b cs s) : StnRd w cs s := by
  obtain ⟨A, c, h1, h2⟩ := h
  exact ⟨A, c, h1, h2.rd⟩
theorem AvO.keep {w w' : World} {b n c : Nat} {A : Option Addr} {L : List (Nat × List UInt8)} (h : AvO w b A n c L) {row : Option Nat} (hg : w.grownBy w' row) (hr : ∀ p, row = some p → p < b) : AvO w' b A n c L := by
  obtain ⟨rows, h1, h2, h3, h4⟩ := h
  refine ⟨rows, h1, own_thN h2 hg (fun p hp => .inl (hr p hp)), h3, fun i r x hi hx => ?_⟩
  obtain ⟨D, d, h5, h6⟩ := h4 i r x hi hx
  exact ⟨D, d, h5, own_thN h6 hg (fun p hp => .inl (hr p hp))⟩
theorem AvO.below {w w' : World} {b n c : Nat} {A : Option Addr} {L : List (Nat × List UInt8)} (h : AvO w b A n c L) (hb : Below w.heap.size w w') : AvO w' b A n c L := h.keep (grown_of_below hb none) (fun p hp => by cases hp)
theorem AvO.only {w w' : World} {b n c g : Nat} {A : Option Addr} {L : List (Nat × List UInt8)} (h : AvO w b A n c L) (ho : Only g w w') (hg : g < b) : AvO w' b A n c L := h.keep ho.grown (fun p hp => by injection hp with hp; omega)
theorem zeroStn (w : World) : (zeroValue 28).run Try.prog w = .ok (.agg zStn.toArray) w := by kernel_rfl
/-- A message under way in block w.heap.size + 1, none in block w.heap.size. -/
def RS (w : World) (ty : Nat) (tx : List UInt8) (v : Value) (wz : World) : Prop := Below w.heap.size w wz ∧ BlkV wz w.heap.size 28 zStn ∧ BlkV wz (w.heap.size + 1) 28 (sC ty tx v) ∧ w.heap.size + 2 ≤ wz.heap.size
section
variable {w wz wy : World} {ty : Nat} {tx : List UInt8} {v : Value}
theorem RS.start (w : World) : RS w 0 Z12 (.slice none 0 0) ((w.alloc (.cells zStn.toArray 28)).alloc (.cells zStn.toArray 28)) :=
  ⟨((Below.refl _ _).alloc (Nat.le_refl _) _).alloc (by simp) _, (BlkV.new _ _ _).alloc _, BlkV.new_at _ _ _ _ _ (by simp) rfl, by simp⟩
theorem RS.on (h : RS w ty tx v wz) (hb : Below wz.heap.size wz wy) : RS w ty tx v wy := ⟨h.1.trans (hb.mono h.1.size), h.2.1.below hb h.2.1.lt, h.2.2.1.below hb h.2.2.1.lt, Nat.le_trans h.2.2.2 hb.size⟩
theorem RS.drew (h : RS w ty tx v wz) : RS w ty tx v wz.drew := ⟨h.1.drew, h.2.1, h.2.2.1, h.2.2.2⟩
theorem RS.grown (h : RS w ty tx v wz) {row : Option Nat} (hg : wz.grownBy wy row) (hr : ∀ k, row = some k → w.heap.size + 2 ≤ k) : RS w ty tx v wy :=
  ⟨h.1.grown hg h.1.size (fun k hk => by have := hr k hk; omega), h.2.1.grown hg (fun e => by have := hr _ e.symm; omega), h.2.2.1.grown hg (fun e => by have := hr _ e.symm; omega), Nat.le_trans h.2.2.2 hg.size⟩
theorem RS.put (h : RS w ty tx v wz) (j : Nat) (u : Value) {ty2 : Nat} {tx2 : List UInt8} {v2 : Value} (hj : (sC ty tx v).set j u = sC ty2 tx2 v2) : RS w ty2 tx2 v2 (wz.setCell ⟨w.heap.size + 1, j, none⟩ u) := by
  have ho := Only.set wz (w.heap.size + 1) j u
  refine ⟨h.1.setCell (by simp) _, h.2.1.only ho (by omega), ?_, by rw [ho.size]; exact h.2.2.2⟩
  rw [← hj]
  exact h.2.2.1.set_ j u
end
theorem sC_set0 (ty q : Nat) (tx : List UInt8) (v : Value) : (sC ty tx v).set 0 (.int .u16 (q : Int)) = sC q tx v := rfl
theorem sC_set13 (ty : Nat) (tx : List UInt8) (v u : Value) (h : tx.length = 12) : (sC ty tx v).set 13 u = sC ty tx u := by
  unfold sC
  rw [List.set_cons_succ, List.set_append_right _ _ (by rw [length_cells]; omega), length_cells, h]
  rfl
theorem sC_setT (ty : Nat) (tx : List UInt8) (v : Value) {j : Nat} (h : j < tx.length) (b : UInt8) : (sC ty tx v).set (1 + j) (.int .u8 (b.toNat : Int)) = sC ty (tx.set j b) v := by
  unfold sC
  rw [Nat.add_comm, List.set_cons_succ, List.set_append_left _ _ (by rw [length_cells]; omega), cells_set]
/-- The first j bytes of a transaction. -/
def fillT (bs : List UInt8) (j : Nat) : List UInt8 := (bs.drop 8).take j ++ List.replicate (12 - j) 0
theorem fillT_len (bs : List UInt8) (j : Nat) (hj : j ≤ 12) (h : 20 ≤ bs.length) : (fillT bs j).length = 12 := by simp [fillT]; omega
theorem fillT_step (bs : List UInt8) (j : Nat) (hj : j < 12) (h : 20 ≤ bs.length) : (fillT bs j).set j (bs.getD (8 + j) 0) = fillT bs (j + 1) := by
  unfold fillT
  have hl : ((bs.drop 8).take j).length = j := by simp; omega
  rw [List.set_append_right _ _ (by omega), hl, Nat.sub_self, show 12 - j = (12 - (j + 1)) + 1 by omega, List.replicate_succ, List.set_cons_zero, List.take_add_one, List.append_assoc]
  congr 1
  rw [List.getElem?_drop, List.getElem?_eq_getElem (by omega), List.getD, List.getElem?_eq_getElem (by omega)]
  rfl
theorem fillT_all (bs : List UInt8) : fillT bs 12 = (bs.drop 8).take 12 := by simp [fillT]
/-- What Read tells. -/
def R12 (bs : List UInt8) (w : World) (e : Ending) (w' : World) : Prop :=
  (∀ s, isMsg bs s → ∃ cs, e = .returned (.tuple #[.agg cs.toArray, .int .i64 0]) ∧ StnRd w' cs s) ∧
  ((∀ s, ¬ isMsg bs s) → ∃ cs, e = .returned (.tuple #[.agg cs.toArray, .int .i64 (if bs.length < 20 then 2 else 3)]) ∧ StnRd w' cs ⟨0, Z12, []⟩) ∧ Below w.heap.size w w'
theorem rowStn {cs : List Value} (h : cs.length = 14) : RowTy Try.prog 28 cs.length := by
  rw [h]
  exact ⟨_, Try.underlying28, rfl, by kernel_rfl⟩
theorem R12.short {bs : List UInt8} {w w' : World} (h : bs.length < 20) (hb : Below w.heap.size w w') : R12 bs w (.returned (.tuple #[.agg zStn.toArray, .int .i64 2])) w' :=
  ⟨fun s hs => absurd hs.len (by omega), fun _ => ⟨zStn, by rw [if_pos h], none, 0, rfl, AvRd.nil _⟩, hb⟩
theorem R12.form {bs : List UInt8} {w w' : World} (h : ¬ bs.length < 20) (hn : ∀ s, ¬ isMsg bs s) (hb : Below w.heap.size w w') : R12 bs w (.returned (.tuple #[.agg zStn.toArray, .int .i64 3])) w' :=
  ⟨fun s hs => absurd hs (hn s), fun _ => ⟨zStn, by rw [if_neg h], none, 0, rfl, AvRd.nil _⟩, hb⟩
end Go.Proofs.Ythoiebjndchobaa
