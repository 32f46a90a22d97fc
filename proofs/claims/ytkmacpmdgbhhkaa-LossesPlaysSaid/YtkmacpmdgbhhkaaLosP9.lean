/- Contracts of package losses: a tick's asking under way, what its steps leave. No statement is proved here. -/
import Derived.Test.YtkmacpmdgbhhkaaLosP8
import Derived.Test.YtkmacpmdgbhhkaaLosR8
import Derived.Test.YtkmacpmdgbhhkaaRtcpP2
import Derived.Test.YtkmacpmdgbhhkaaRtcpArg
namespace Go.Proofs.Ytkmacpmdgbhhkaa
open Go.RowKit
set_option linter.unusedVariables false

/-- From W to W2 the numbers that are asked alone have turned: they lie from block n0 on. -/
structure Kp20 (n0 : Nat) (W W2 : World) : Prop where
  os : W2.os = W.os
  tape : W2.tape = W.tape
  output : W2.output = W.output
  keep : ∀ (k : Nat) (cur : Array Value) (e : TypeId) (fz : Nat × Nat), W.heap[k]? = some (.cells cur e fz) → e ≠ 33 → e ≠ 43 → W2.heap[k]? = some (.cells cur e fz)
  low : ∀ k, k < n0 → k < W.heap.size → W2.heap[k]? = W.heap[k]?
  others : KeepsOthers W W2
section
variable {n0 : Nat} {W W2 W3 : World}
theorem Kp20.of_below (hb : Below W.heap.size W W2) : Kp20 n0 W W2 :=
  ⟨hb.os, hb.tape, hb.output, fun k cur e fz h _ _ => (hb.block k (Array.getElem?_eq_some_iff.1 h).1).trans h, fun k _ hk => hb.block k hk, hb.size, fun k o h _ => (hb.block k (Array.getElem?_eq_some_iff.1 h).1).trans h⟩
theorem Kp20.trans (h : Kp20 n0 W W2) (k : Kp20 n0 W2 W3) : Kp20 n0 W W3 :=
  ⟨k.os.trans h.os, k.tape.trans h.tape, k.output.trans h.output, fun i cur e fz h1 h2 h3 => k.keep i cur e fz (h.keep i cur e fz h1 h2 h3) h2 h3, fun i hi hs => (k.low i hi (Nat.lt_of_lt_of_le hs h.others.size)).trans (h.low i hi hs), h.others.trans k.others⟩
theorem Kp20.append {v : Value} {n : Nat} {xs : List Value} (h : W.ownsRow n0 33 1 v n xs) (hg : W.grownBy W2 v.ownBlock) : Kp20 n0 W W2 :=
  ⟨hg.os, hg.tape, hg.output, fun k cur e fz h1 h2 _ => (hg.block k (Array.getElem?_eq_some_iff.1 h1).1 (fun he => by
    rcases h.2 with ⟨rfl, _⟩ | ⟨g, cap, cu2, rfl, _, hgb, _⟩
    · simp [Value.ownBlock] at he
    · obtain rfl : k = g := by simpa [Value.ownBlock] using he
      rw [hgb] at h1
      injection h1 with h1
      injection h1 with _ h1 _
      exact h2 h1.symm)).trans h1, fun k hk hs => hg.block k hs (fun he => by have := (h.lt k he.symm).1; omega), keeps_own h hg⟩
theorem Kp20.num {b : Nat} {cs : List Value} (hB : BlkV W b 43 cs) (hb : n0 ≤ b) (v : Value) : Kp20 n0 W (W.setCell ⟨b, 0, none⟩ v) := by
  have ho := Only.set W b 0 v
  exact ⟨ho.os, ho.tape, ho.output, fun k cur e fz h1 _ h3 => (ho.block k (fun he => by
    subst he
    rw [show W.heap[k]? = _ from hB] at h1
    injection h1 with h1
    injection h1 with _ h1 _
    exact h3 h1.symm)).trans h1, fun k hk _ => ho.block k (by omega), KeepsOthers.setCell _ _ _⟩
theorem BlkV.kp20 {g : Nat} {e : TypeId} {cs : List Value} (h : BlkV W g e cs) (k : Kp20 n0 W W2) (h1 : e ≠ 33) (h2 : e ≠ 43) : BlkV W2 g e cs := k.keep g _ e _ h h1 h2
end
/-- A tick's asking under way, these being asked. -/
structure Asp20 (w : World) (g : Nat) (s : Kpr) (A : Option Addr) (c : Nat) (X : List Pk20) (F : Nat → Prop) (tk : Int) (pre : List Pk20) (W : World) : Prop where
  fr : Fr F w W
  k : BlkV W g 56 [.int .i64 s.p, .bool (decide (0 ≤ s.h)), .int .i64 (hiP20 s.h), .slice A X.length c]
  row : W.ownsRow 0 60 1 (.slice A X.length c) X.length (X.map Pk20.p)
  pk : ∀ x ∈ X, BlkV W x.q 63 (x.upd s.p tk pre).c
  b0 : BlkV W w.heap.size 24 [.pointer (some ⟨g, 0, none⟩)]
  b1 : BlkV W (w.heap.size + 1) 2 [.int .i64 tk]
  b3 : BlkV W (w.heap.size + 1 + 1 + 1) 24 [.pointer (some ⟨g, 0, none⟩)]
  b4 : BlkV W (w.heap.size + 1 + 1 + 1 + 1) 2 [.int .i64 tk]
  lead : ∃ rest, X.filter (Pk20.due tk) = pre ++ rest
  cnt : askN ((X.filter (Pk20.due tk)).map Pk20.sq) [] = pre.length + askN (((X.filter (Pk20.due tk)).drop pre.length).map Pk20.sq) (pre.map Pk20.sq)
theorem own_kp20 {n0 m : Nat} {W W2 : World} {v : Value} {xs : List Value} (h : W.ownsRow 0 60 1 v m xs) (k : Kp20 n0 W W2) : W2.ownsRow 0 60 1 v m xs := by
  refine ⟨h.1, h.2.imp id fun ⟨g, cap, cur, h1, h2, h3, h4⟩ => ⟨g, cap, cur, h1, h2, k.keep g cur _ _ h3 (by decide) (by decide), h4⟩⟩
section
variable {w W W2 : World} {g : Nat} {s : Kpr} {A : Option Addr} {c : Nat} {X : List Pk20} {F : Nat → Prop} {tk : Int} {pre : List Pk20}
theorem Asp20.kp (h : Asp20 w g s A c X F tk pre W) (k : Kp20 w.heap.size W W2) : Asp20 w g s A c X F tk pre W2 :=
  ⟨⟨k.os.trans h.fr.os, k.tape.trans h.fr.tape, k.output.trans h.fr.output, Nat.le_trans h.fr.size k.others.size, fun i hi hn => (k.low i hi (Nat.lt_of_lt_of_le hi h.fr.size)).trans (h.fr.keep i hi hn)⟩,
   h.k.kp20 k (by decide) (by decide), own_kp20 h.row k, fun x hx => (h.pk x hx).kp20 k (by decide) (by decide), h.b0.kp20 k (by decide) (by decide), h.b1.kp20 k (by decide) (by decide), h.b3.kp20 k (by decide) (by decide), h.b4.kp20 k (by decide) (by decide), h.lead, h.cnt⟩
theorem Asp20.turn {B : Nat} (h : Asp20 w g s A c X F tk pre W) (hT : Turn B W W2) (hB : w.heap.size ≤ B) : Asp20 w g s A c X F tk pre W2 :=
  ⟨⟨hT.os.trans h.fr.os, hT.tape.trans h.fr.tape, hT.output.trans h.fr.output, Nat.le_trans h.fr.size hT.size, fun i hi hn => (hT.low i (by omega) (Nat.lt_of_lt_of_le hi h.fr.size)).trans (h.fr.keep i hi hn)⟩,
   h.k.turn hT, own_turn h.row hT, fun x hx => (h.pk x hx).turn hT, h.b0.turn hT, h.b1.turn hT, h.b3.turn hT, h.b4.turn hT, h.lead, h.cnt⟩
/-- At the loop's beginning. -/
theorem KAt.asp (h : KAt w g s A c X F) (v : Value) : Asp20 w g s A c X F tk [] (((((w.alloc (.cells #[.pointer (some ⟨g, 0, none⟩)] 24)).alloc (.cells #[.int .i64 tk] 2)).alloc (.cells #[v] 43)).alloc (.cells #[.pointer (some ⟨g, 0, none⟩)] 24)).alloc (.cells #[.int .i64 tk] 2)) := by
  have hb : Below w.heap.size w (((((w.alloc (.cells #[.pointer (some ⟨g, 0, none⟩)] 24)).alloc (.cells #[.int .i64 tk] 2)).alloc (.cells #[v] 43)).alloc (.cells #[.pointer (some ⟨g, 0, none⟩)] 24)).alloc (.cells #[.int .i64 tk] 2)) :=
    (((((Below.refl _ _).alloc (Nat.le_refl _) _).alloc (by simp) _).alloc (by simp; omega) _).alloc (by simp; omega) _).alloc (by simp; omega) _
  have h2 := h.below hb
  refine ⟨Fr.of_below hb, h2.k, h2.row, fun x hx => ?_, ((((BlkV.new w _ [.pointer (some ⟨g, 0, none⟩)]).alloc _).alloc _).alloc _).alloc _, (((BlkV.new_at _ _ _ [.int .i64 tk] _ (by simp) rfl).alloc _).alloc _).alloc _, (BlkV.new_at _ _ _ [.pointer (some ⟨g, 0, none⟩)] _ (by simp) rfl).alloc _, BlkV.new_at _ _ _ [.int .i64 tk] _ (by simp) rfl, ⟨_, rfl⟩, by simp⟩
  have : x.upd s.p tk [] = x := by simp [Pk20.upd]
  rw [this]
  exact h2.pk x hx
theorem upd_in20 {p : Int} {x : Pk20} (hx : x.i ∉ pre.map (·.i)) : x.upd p tk pre = x := by unfold Pk20.upd; rw [if_neg hx]
theorem Asp20.sub (h : Asp20 w g s A c X F tk pre W) : ∀ x ∈ pre, x ∈ X := fun x hx => by
  obtain ⟨rest, hr⟩ := h.lead
  exact (List.mem_filter.1 (by rw [hr]; exact List.mem_append_left _ hx)).1
theorem eq_of_i20 {X : List Pk20} (hr : X.Pairwise fun a b => a.i < b.i) {x y : Pk20} (hx : x ∈ X) (hy : y ∈ X) (e : x.i = y.i) : x = y := by
  obtain ⟨i, hi, rfl⟩ := List.getElem_of_mem hx
  obtain ⟨j, hj, rfl⟩ := List.getElem_of_mem hy
  rcases Nat.lt_trichotomy i j with h | h | h
  · have := List.pairwise_iff_getElem.1 hr i j hi hj h; omega
  · subst h; rfl
  · have := List.pairwise_iff_getElem.1 hr j i hj hi h; omega
theorem Asp20.fresh (h : Asp20 w g s A c X F tk pre W) (hr : X.Pairwise fun a b => a.i < b.i) {x : Pk20} (hx : x ∈ X) (hn : x ∉ pre) : x.upd s.p tk pre = x := upd_in20 fun hm => by
  obtain ⟨y, hy, he⟩ := List.mem_map.1 hm
  exact hn (eq_of_i20 hr (h.sub y hy) hx he ▸ hy)
/-- What the iterator asks is there. -/
theorem Asp20.fit (h : Asp20 w g s A c X F tk pre W) (hr : X.Pairwise fun a b => a.i < b.i) : Fit20 A c X tk (w.heap.size + 1 + 1 + 1) (w.heap.size + 1 + 1 + 1 + 1) g pre W :=
  ⟨(h.b3.cell 0).trans rfl, (h.b4.cell 0).trans rfl, (h.k.cell 3).trans rfl, fun k hk => by
    obtain ⟨b, h1, _, h2⟩ := own_cell20 h.row hk
    exact ⟨b, h1, h2⟩, fun x hx hn => by have := h.pk x hx; rwa [h.fresh hr hx hn] at this⟩
/-- The next one, whose turn it is. -/
theorem Asp20.next (h : Asp20 w g s A c X F tk pre W) (hr : X.Pairwise fun a b => a.i < b.i) {x : Pk20} (ho : OkD20 X tk pre x) : x ∈ X ∧ x ∉ pre ∧ BlkV W x.q 63 x.c := by
  obtain ⟨rest, ho⟩ := ho
  have hx : x ∈ X := (List.mem_filter.1 (by rw [ho]; simp : x ∈ X.filter (Pk20.due tk))).1
  have hnd : (X.filter (Pk20.due tk)).Pairwise fun a b => a.i < b.i := hr.sublist List.filter_sublist
  rw [ho] at hnd
  have hn : x ∉ pre := fun hm => by
    have := (List.pairwise_append.1 hnd).2.2 x hm x (by simp)
    omega
  exact ⟨hx, hn, by have := h.pk x hx; rwa [h.fresh hr hx hn] at this⟩
theorem drop_next20 {pre rest : List Pk20} {x : Pk20} {D : List Pk20} (h : D = pre ++ x :: rest) : D.drop pre.length = x :: rest ∧ D.drop (pre ++ [x]).length = rest := by
  subst h
  refine ⟨by simp, ?_⟩
  rw [List.length_append, List.length_singleton, List.drop_append, List.drop_eq_nil_of_le (by omega)]
  simp
theorem Asp20.stops (h : Asp20 w g s A c X F tk pre W) {x : Pk20} (ho : OkD20 X tk pre x) (h16 : 16 < (lsL (pre.map Pk20.sq ++ [x.sq])).length) : askN ((X.filter (Pk20.due tk)).map Pk20.sq) [] = pre.length := by
  obtain ⟨rest, ho⟩ := ho
  have := h.cnt
  rw [(drop_next20 ho).1, List.map_cons] at this
  unfold askN at this
  rw [if_pos h16] at this
  unfold askN
  exact this
/-- One is asked. -/
theorem Asp20.hand (h : Asp20 w g s A c X F tk pre W) (hr : X.Pairwise fun a b => a.i < b.i) {x : Pk20} (ho : OkD20 X tk pre x) (h16 : ¬ 16 < (lsL (pre.map Pk20.sq ++ [x.sq])).length) (hF : F x.q) (hinj : ∀ y ∈ X, x.q = y.q → x = y)
    (hw : Only x.q W W2) (hB : BlkV W2 x.q 63 (x.asked s.p tk).c) : Asp20 w g s A c X F tk (pre ++ [x]) W2 := by
  obtain ⟨hx, hn, hb⟩ := h.next hr ho
  obtain ⟨rest, ho⟩ := ho
  have hd := drop_next20 ho
  refine ⟨h.fr.trans (Fr.of_only (F := fun k => k = x.q) hw rfl) (fun i hi => .inl (by rw [hi]; exact hF)), h.k.only hw (blk_ne20 h.k hb (by decide)), own_at_same h.row (fun k hk => hw.block k (fun e => own_ne h.row hb (by decide) (by rw [← e]; exact hk))), fun y hy => ?_,
    h.b0.only hw (blk_ne20 h.b0 hb (by decide)), h.b1.only hw (blk_ne20 h.b1 hb (by decide)), h.b3.only hw (blk_ne20 h.b3 hb (by decide)), h.b4.only hw (blk_ne20 h.b4 hb (by decide)), ⟨rest, by rw [ho]; simp⟩, ?_⟩
  · by_cases e : x.q = y.q
    · obtain rfl := hinj y hy e
      have : x.upd s.p tk (pre ++ [x]) = x.asked s.p tk := by unfold Pk20.upd; rw [if_pos (by simp)]
      rw [this]
      exact hB
    · have hne : y.i ≠ x.i := fun e2 => e (by rw [eq_of_i20 hr hy hx e2])
      have : y.upd s.p tk (pre ++ [x]) = y.upd s.p tk pre := by
        unfold Pk20.upd
        by_cases hm : y.i ∈ pre.map (·.i)
        · rw [if_pos (by rw [List.map_append]; exact List.mem_append_left _ hm), if_pos hm]
        · rw [if_neg (by rw [List.map_append]; simp only [List.mem_append, List.map_cons, List.map_nil, List.mem_singleton]; rintro (h1 | h1); exact hm h1; exact hne h1), if_neg hm]
      rw [this]
      exact (h.pk y hy).only hw (fun e2 => e e2.symm)
  · have h1 := h.cnt
    rw [hd.1, List.map_cons] at h1
    rw [h1, hd.2]
    conv => lhs; rw [askN]
    rw [if_neg h16, List.map_append, List.length_append]
    simp only [List.map_cons, List.map_nil, List.length_cons, List.length_nil]
    omega
/-- All were asked. -/
theorem Asp20.all (h : Asp20 w g s A c X F tk pre W) (hp : pre = X.filter (Pk20.due tk)) : askN ((X.filter (Pk20.due tk)).map Pk20.sq) [] = pre.length := by
  have h1 := h.cnt
  rw [← hp, List.drop_length] at h1
  rw [← hp, h1]
  simp [askN]
theorem Asp20.took (h : Asp20 w g s A c X F tk pre W) : pre = (X.filter (Pk20.due tk)).take pre.length := by
  obtain ⟨rest, hr⟩ := h.lead
  rw [hr]
  simp
end
theorem RdH.turn {w w' : World} {A : Option Addr} {n B : Nat} {L : List Nat} (h : RdH w A n L) (hT : Turn B w w') : RdH w' A n L := by
  refine ⟨h.1, h.2.1, h.2.2.1, fun hn => ?_⟩
  obtain ⟨b, off, hA, hlt, hc⟩ := h.2.2.2 hn
  exact ⟨b, off, hA, Nat.lt_of_lt_of_le hlt hT.size, fun j hj => hT.cell (hc j hj)⟩
theorem sq_lt20 (pre : List Pk20) : ∀ x ∈ pre.map Pk20.sq, x < 65536 := fun x hx => by
  obtain ⟨y, _, rfl⟩ := List.mem_map.1 hx
  unfold Pk20.sq
  omega
section
variable {w W W2 : World} {g : Nat} {s : Kpr} {A : Option Addr} {c : Nat} {X : List Pk20} {F : Nat → Prop} {tk : Int} {pre : List Pk20}
theorem KAt.turn {B : Nat} (h : KAt w g s A c X F) (hT : Turn B w W) : KAt W g s A c X F :=
  ⟨h.k.turn hT, own_turn h.row hT, fun x hx => (h.pk x hx).turn hT, h.bd, h.eq, h.own⟩
/-- The keeper, as the loop leaves it. -/
theorem Asp20.kat (h : Asp20 w g s A c X F tk pre W) (h0 : KAt w g s A c X F) (hp : 0 ≤ s.p ∧ s.p ≤ 9223372036854775807) (ht : -9223372036854775808 ≤ tk ∧ tk ≤ 9223372036854775807) :
    KAt W g { s with M := (X.map (Pk20.upd s.p tk pre)).map Pk20.mis } A c (X.map (Pk20.upd s.p tk pre)) F := by
  have e1 : (X.map (Pk20.upd s.p tk pre)).map Pk20.p = X.map Pk20.p := by
    rw [List.map_map]
    exact List.map_congr_left fun x _ => Pk20.upd_p _ _ _ _
  refine ⟨by rw [List.length_map]; exact h.k, by rw [List.length_map, e1]; exact h.row, fun y hy => ?_, fun y hy => ?_, rfl, fun k => ?_⟩
  · obtain ⟨x, hx, rfl⟩ := List.mem_map.1 hy
    rw [Pk20.upd_q]
    exact h.pk x hx
  · obtain ⟨x, hx, rfl⟩ := List.mem_map.1 hy
    unfold Pk20.upd
    split
    · exact ⟨ht, hp⟩
    · exact h0.bd x hx
  · rw [h0.own k, List.length_map]
    constructor
    · rintro (h1 | h1 | ⟨x, h1, h2⟩)
      · exact .inl h1
      · exact .inr (.inl h1)
      · exact .inr (.inr ⟨_, List.mem_map.2 ⟨x, h1, rfl⟩, by rw [Pk20.upd_q]; exact h2⟩)
    · rintro (h1 | h1 | ⟨y, h1, h2⟩)
      · exact .inl h1
      · exact .inr (.inl h1)
      · obtain ⟨x, hx, rfl⟩ := List.mem_map.1 h1
        exact .inr (.inr ⟨x, hx, by rw [Pk20.upd_q] at h2; exact h2⟩)
theorem fr_turn20 {B : Nat} (h : Fr F w W) (hT : Turn B W W2) (hB : w.heap.size ≤ B) : Fr F w W2 :=
  ⟨hT.os.trans h.os, hT.tape.trans h.tape, hT.output.trans h.output, Nat.le_trans h.size hT.size, fun k hk hn => (hT.low k (by omega) (Nat.lt_of_lt_of_le hk h.size)).trans (h.keep k hk hn)⟩
/-- What is left when all is asked and told. -/
theorem Asp20.fin (h : Asp20 w g s A c X F tk pre W) (h0 : KAt w g s A c X F) (ok : KOk s) (hcnt : askN ((X.filter (Pk20.due tk)).map Pk20.sq) [] = pre.length) {w5 w6 w7 : World} {Y : List Pk20} {F2 : Nat → Prop} {A' : Option Addr} {m c' B : Nat}
    (k1 : KAt w5 g { s with M := ((X.map (Pk20.upd s.p tk pre)).filter fun x => !decide (3 ≤ x.t)).map Pk20.mis } A c Y F2) (k2 : Fr F W w5) (k3 : ∀ k, F2 k → F k) (hm : m = (lsL (pre.map Pk20.sq)).length)
    (ho : w6.ownsRow w5.heap.size 35 2 (.slice A' m c') m (lcells (lsL (pre.map Pk20.sq)))) (hb : Below w5.heap.size w5 w6) (hT : Turn B w6 w7) (hB : w.heap.size ≤ B) :
    ∃ A2 c2, Ending.returned (.slice A' m c') = .returned (.slice A2 (lsL (askK s tk).2).length c2) ∧ Hid (RdL w7 A2 (lsL (askK s tk).2).length (lsL (askK s tk).2) ∧ StpB T20 (.pointer (some ⟨g, 0, none⟩)) (askK s tk).1 F (BlkOf A2 (lsL (askK s tk).2).length) w w7) := by
  obtain ⟨a1, a2⟩ := asked_all20 h0.eq ok.ris h.took hcnt
  have e2 : (askK s tk).2 = pre.map Pk20.sq := a2.symm
  have e1 : ((X.map (Pk20.upd s.p tk pre)).filter fun x => !decide (3 ≤ x.t)).map Pk20.mis = (askK s tk).1.M := by
    have := filter_map20 (X.map (Pk20.upd s.p tk pre)) (fun x => !decide (3 ≤ x.t))
    rw [show ((X.map (Pk20.upd s.p tk pre)).filter fun x => !decide (3 ≤ x.t)) = ((X.map (Pk20.upd s.p tk pre)).filter fun x => !decide (3 ≤ x.mis.t)) from rfl, this, a1]
    unfold askK
    simp only
    refine List.filter_congr fun x _ => ?_
    by_cases h3 : 3 ≤ x.t
    · have : ¬ x.t < 3 := by omega
      simp [h3, this]
    · have : x.t < 3 := by omega
      simp [h3, this]
  have hs : ({ s with M := (askK s tk).1.M } : Kpr) = (askK s tk).1 := rfl
  rw [e1, hs] at k1
  rw [e2, ← hm]
  refine ⟨A', c', rfl, Lib.hid ⟨?_, F2, ((k1.below hb).turn hT).t, fr_turn20 ((h.fr.trans k2 (fun i hi => .inl hi)).then hb) hT hB, fun k hk => .inl (k3 k hk), ?_⟩⟩
  · rw [hm]
    have := own_turn ho hT
    rw [hm] at this
    exact RdL.of_own this (lsL_fit _ (sq_lt20 pre))
  · rintro k ⟨hn, ad, rfl, rfl⟩
    have hlt := ho.lt ad.block rfl
    have hz := h.fr.size
    have hz2 := k2.size
    exact ⟨by omega, Nat.lt_of_lt_of_le hlt.2 hT.size, fun hf => by have := k1.low _ hf; omega⟩
end
end Go.Proofs.Ytkmacpmdgbhhkaa
