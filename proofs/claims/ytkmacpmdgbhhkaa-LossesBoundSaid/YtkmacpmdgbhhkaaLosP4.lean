/- Contracts of package losses: a gap is missed (miss). No statement is proved here. -/
import Derived.Test.YtkmacpmdgbhhkaaLosP3
namespace Go.Proofs.Ytkmacpmdgbhhkaa
open Go.RowKit
set_option linter.unusedVariables false

theorem elP20 : ElT 60 54 1 := elT (by8 := 8) (z := .pointer none) Try.underlying54 (by kernel_rfl) (by omega) rfl (by omega)
section
variable {w w2 : World} {g : Nat} {s : Kpr} {A : Option Addr} {c : Nat} {X : List Pk20} {F : Nat → Prop}
theorem KAt.stay (h : KAt w g s A c X F) (hk : ∀ k, F k → w2.heap[k]? = w.heap[k]?) : KAt w2 g s A c X F :=
  ⟨(hk _ ((h.own _).2 (.inl rfl))).trans h.k, own_at_same h.row (fun k h1 => hk k ((h.own k).2 (.inr (.inl h1)))), fun x hx => (hk _ ((h.own _).2 (.inr (.inr ⟨x, hx, rfl⟩)))).trans (h.pk x hx), h.bd, h.eq, h.own⟩
theorem KAt.low (h : KAt w g s A c X F) : ∀ k, F k → k < w.heap.size := fun k hk => lone20.low w (.pointer (some ⟨g, 0, none⟩)) s F ⟨g, A, c, X, rfl, Lib.hid h⟩ k hk
theorem KAt.below (h : KAt w g s A c X F) (hb : Below w.heap.size w w2) : KAt w2 g s A c X F := h.stay (fun k hk => hb.block k (h.low k hk))
theorem KAt.t (h : KAt w g s A c X F) : T20 w (.pointer (some ⟨g, 0, none⟩)) s F := ⟨g, A, c, X, rfl, Lib.hid h⟩
/-- The keeper's own cells turn. -/
theorem KAt.with (h : KAt w g s A c X F) (s' : Kpr) (ho : Only g w w2) (hk : BlkV w2 g 56 [.int .i64 s'.p, .bool (decide (0 ≤ s'.h)), .int .i64 (hiP20 s'.h), .slice A X.length c]) (hM : s'.M = s.M) : KAt w2 g s' A c X F :=
  ⟨hk, own_at_same h.row (fun k hk => ho.block k (fun e => own_ne h.row h.k (by decide) (by rw [← e]; exact hk))), fun x hx => (h.pk x hx).only ho (blk_ne20 (h.pk x hx) h.k (by decide)), h.bd, by rw [hM]; exact h.eq, h.own⟩
/-- One packet more is missed. -/
theorem KAt.push (h : KAt w g s A c X F) (y : Pk20) (hq : y.q = w.heap.size) (hb : (-9223372036854775808 ≤ y.s ∧ y.s ≤ 9223372036854775807) ∧ 0 ≤ y.d ∧ y.d ≤ 9223372036854775807) {A2 : Option Addr} {c2 : Nat} {n : Nat} (hn : n = X.length)
    (hown : w2.ownsRow 0 60 1 (.slice A2 (n + 1) c2) (n + 1) (X.map Pk20.p ++ [y.p])) (hg : ((w.alloc (.cells y.c.toArray 63)).alloc (.cells #[y.p] 60)).grownBy w2 (Value.slice A n c).ownBlock)
    (hnw : (Value.slice A2 (n + 1) c2).ownBlock = (Value.slice A n c).ownBlock ∨ (Value.slice A2 (n + 1) c2).ownBlock = some ((w.alloc (.cells y.c.toArray 63)).alloc (.cells #[y.p] 60)).heap.size) :
    ∃ F2, KAt (w2.setCell ⟨g, 3, none⟩ (.slice A2 (n + 1) c2)) g { s with M := s.M ++ [y.mis] } A2 c2 (X ++ [y]) F2 ∧ Fr F w (w2.setCell ⟨g, 3, none⟩ (.slice A2 (n + 1) c2)) ∧ ∀ k, F2 k → F k ∨ w.heap.size ≤ k := by
  subst hn
  have hne : (Value.slice A X.length c).ownBlock ≠ some g := own_ne h.row h.k (by decide)
  have ho := Only.set w2 g 3 (.slice A2 (X.length + 1) c2)
  have hbW : Below w.heap.size w ((w.alloc (.cells y.c.toArray 63)).alloc (.cells #[y.p] 60)) := ((Below.refl _ _).alloc (Nat.le_refl _) _).alloc (by simp) _
  have hk1 : BlkV w2 g 56 _ := ((h.k.alloc _).alloc _).grown hg (fun e => hne e.symm)
  have hy : BlkV w2 y.q 63 y.c := by
    refine BlkV.grown ((BlkV.new_at w y.q _ _ _ hq.symm rfl).alloc _) hg (fun e => ?_)
    have := (h.row.lt _ e.symm).2
    omega
  have hx : ∀ x ∈ X, BlkV w2 x.q 63 x.c := fun x hx => (((h.pk x hx).alloc _).alloc _).grown hg (fun e => own_ne h.row (h.pk x hx) (by decide) e.symm)
  refine ⟨fun k => k = g ∨ (Value.slice A2 (X.length + 1) c2).ownBlock = some k ∨ ∃ x ∈ X ++ [y], k = x.q, ⟨?_, ?_, fun x hx2 => ?_, fun x hx2 => ?_, by simp [h.eq], fun k => by rw [List.length_append]; exact Iff.rfl⟩, ?_, ?_⟩
  · rw [List.length_append]; exact hk1.set_ 3 _
  · rw [List.length_append, List.map_append]
    exact own_at_same hown (fun k hk => ho.block k (fun e => own_ne hown hk1 (by decide) (by rw [← e]; exact hk)))
  · rcases List.mem_append.1 hx2 with h1 | h1
    · exact (hx x h1).only ho (blk_ne20 (hx x h1) hk1 (by decide))
    · obtain rfl := List.mem_singleton.1 h1
      exact hy.only ho (blk_ne20 hy hk1 (by decide))
  · rcases List.mem_append.1 hx2 with h1 | h1
    · exact h.bd x h1
    · obtain rfl := List.mem_singleton.1 h1
      exact hb
  · exact ((Fr.of_below (F := F) hbW).trans (Fr.of_grown (F := F) hg (fun p hp => (h.own p).2 (.inr (.inl hp)))) (fun i hi => .inl hi)).trans (Fr.of_only (F := fun k => k = g) ho rfl) (fun i hi => .inl ((h.own i).2 (.inl hi)))
  · rintro k (h1 | h1 | ⟨x, h1, h2⟩)
    · exact .inl ((h.own k).2 (.inl h1))
    · rcases hnw with h3 | h3
      · exact .inl ((h.own k).2 (.inr (.inl (by rw [← h3]; exact h1))))
      · rw [h3] at h1
        injection h1 with h1
        right
        rw [← h1]
        simp
        omega
    · rcases List.mem_append.1 h1 with h3 | h3
      · exact .inl ((h.own k).2 (.inr (.inr ⟨x, h3, h2⟩)))
      · obtain rfl := List.mem_singleton.1 h3
        right; omega
end
/-- Of a gap, only the last ones count. -/
theorem fillM_split (a : Int) (m n : Nat) (tk : Int) : fillM a (m + n) tk = fillM a m tk ++ fillM (a + m) n tk := by
  unfold fillM
  rw [List.range_add, List.map_append, List.map_map]
  congr 1
  refine List.map_congr_left fun j _ => ?_
  simp only [Function.comp]
  congr 1
  omega
theorem fillM_len20 (a : Int) (n : Nat) (tk : Int) : (fillM a n tk).length = n := by simp [fillM]
theorem fillM_snoc (a : Int) (n : Nat) (tk : Int) : fillM a (n + 1) tk = fillM a n tk ++ [⟨a + n, 0, tk⟩] := by
  rw [fillM_split]; simp [fillM]
theorem lastM_behind (M P Q : List Mis) (h : 32 ≤ Q.length) : lastM (M ++ (P ++ Q)) = lastM Q := by
  unfold lastM
  rw [← List.append_assoc, List.drop_append, List.drop_eq_nil_of_le (by simp; omega), List.nil_append]
  congr 1
  simp
  omega
theorem lastM_gap (M : List Mis) (h i tk : Int) (hi : h < i) (a : Int) (ha : a = if h + 1 < i - 32 then i - 32 else h + 1) : lastM (M ++ fillM (fromM h i) (i - fromM h i).toNat tk) = lastM (M ++ fillM a (i - a).toNat tk) := by
  by_cases h1 : h + 1 < i - 32
  · rw [if_pos h1] at ha
    obtain ⟨f1, f2⟩ := fromM_bd hi
    have hf : fromM h i ≤ i - 32 := by unfold fromM; split <;> omega
    have e1 : (i - fromM h i).toNat = (i - 32 - fromM h i).toNat + 32 := by omega
    have e2 : fromM h i + ((i - 32 - fromM h i).toNat : Int) = i - 32 := by omega
    rw [e1, fillM_split, e2, lastM_behind _ _ _ (by rw [fillM_len20]; omega), ha, show (i - (i - 32)).toNat = 32 by omega]
    have := lastM_behind M [] (fillM (i - 32) 32 tk) (by rw [fillM_len20]; omega)
    rw [List.nil_append] at this
    exact this.symm
  · rw [if_neg h1] at ha
    have hf : fromM h i = h + 1 := by unfold fromM; rw [if_neg (by omega)]
    rw [hf, ha]
/-- Those that aren't below one of them. -/
theorem filter_from20 {X : List Pk20} (hr : X.Pairwise fun a b => a.i < b.i) {o : Nat} (ho : o < X.length) : (X.filter fun x => !decide (x.i < (X[o]'ho).i)) = X.drop o := by
  have h1 : X = X.take o ++ X.drop o := (List.take_append_drop o X).symm
  have hp := hr
  rw [h1] at hp
  obtain ⟨_, hp2, hp3⟩ := List.pairwise_append.1 hp
  have hd : X.drop o = (X[o]'ho) :: X.drop (o + 1) := List.drop_eq_getElem_cons ho
  have e1 : (X.take o).filter (fun x => !decide (x.i < (X[o]'ho).i)) = [] := List.filter_eq_nil_iff.2 fun x hx => by
    have := hp3 x hx (X[o]'ho) (by rw [hd]; exact List.mem_cons_self)
    simp; omega
  have e2 : (X.drop o).filter (fun x => !decide (x.i < (X[o]'ho).i)) = X.drop o := List.filter_eq_self.2 fun x hx => by
    have h4 : (X[o]'ho).i ≤ x.i := by
      rw [hd] at hx hp2
      rcases List.mem_cons.1 hx with rfl | hx
      · omega
      · have := (List.pairwise_cons.1 hp2).1 x hx; omega
    simp; omega
  have e3 : ∀ f : Pk20 → Bool, X.filter f = (X.take o).filter f ++ (X.drop o).filter f := fun f => by rw [← List.filter_append, List.take_append_drop]
  rw [e3, e1, e2, List.nil_append]
/-- A gap under way: k of it are missed. -/
structure Gap20 (w : World) (g : Nat) (s : Kpr) (X : List Pk20) (F : Nat → Prop) (a tk : Int) (k : Nat) (A2 : Option Addr) (n2 c2 : Nat) (X2 : List Pk20) (F2 : Nat → Prop) (wr : World) : Prop where
  at_ : KAt wr g { s with M := s.M ++ fillM a k tk } A2 c2 X2 F2
  len : n2 = X2.length
  num : n2 = X.length + k
  fr : Fr F w wr
  new : ∀ j, F2 j → F j ∨ w.heap.size ≤ j
section
variable {w wr : World} {g : Nat} {s : Kpr} {X X2 : List Pk20} {F F2 : Nat → Prop} {a tk : Int} {k n2 c2 : Nat} {A2 : Option Addr}
theorem Gap20.next (h : Gap20 w g s X F a tk k A2 n2 c2 X2 F2 wr) (ht : -9223372036854775808 ≤ tk ∧ tk ≤ 9223372036854775807) (x : Int) (hx : x = a + k) (q : Nat) (hq : q = wr.heap.size) {w3 : World} {A3 : Option Addr} {c3 : Nat}
    (hown : w3.ownsRow 0 60 1 (.slice A3 (n2 + 1) c3) (n2 + 1) (X2.map Pk20.p ++ [.pointer (some ⟨q, 0, none⟩)])) (hg : ((wr.alloc (.cells #[.int .i64 x, .int .i64 0, .int .i64 tk, .int .i64 0] 63)).alloc (.cells #[.pointer (some ⟨q, 0, none⟩)] 60)).grownBy w3 (Value.slice A2 n2 c2).ownBlock)
    (hnw : (Value.slice A3 (n2 + 1) c3).ownBlock = (Value.slice A2 n2 c2).ownBlock ∨ (Value.slice A3 (n2 + 1) c3).ownBlock = some ((wr.alloc (.cells #[.int .i64 x, .int .i64 0, .int .i64 tk, .int .i64 0] 63)).alloc (.cells #[.pointer (some ⟨q, 0, none⟩)] 60)).heap.size) :
    ∃ F3, Gap20 w g s X F a tk (k + 1) A3 (n2 + 1) c3 (X2 ++ [⟨q, x, 0, tk, 0⟩]) F3 (w3.setCell ⟨g, 3, none⟩ (.slice A3 (n2 + 1) c3)) := by
  obtain ⟨F3, k1, k2, k3⟩ := h.at_.push (w2 := w3) ⟨q, x, 0, tk, 0⟩ hq ⟨ht, by simp⟩ h.len hown hg hnw
  have hz := h.fr.size
  refine ⟨F3, by rw [fillM_snoc, ← List.append_assoc, ← hx]; have e : (⟨x, 0, tk⟩ : Mis) = Pk20.mis ⟨q, x, 0, tk, 0⟩ := by simp [Pk20.mis]
                 rw [e]; exact k1, by rw [List.length_append, h.len]; rfl, by have := h.num; omega, h.fr.trans k2 (fun i hi => ?_), fun j hj => ?_⟩
  · exact h.new i hi
  · rcases k3 j hj with h1 | h1
    · exact h.new j h1
    · right; omega
end
end Go.Proofs.Ytkmacpmdgbhhkaa
