/- RewritePlays: both rewriters beside each other; the ops that come in. No statement is proved here. -/
import Derived.Test.YtjlfokfdieafeaaRewAb
import Derived.Test.YtjlfokfdieafeaaOpen
import Derived.Deep.RegionHeld3
namespace Go.Proofs.Ytjlfokfdieafeaa
open Go.RowKit Go.ChangeShapes Go.WideShapes Go.Deep
set_option linter.unusedVariables false

theorem rmap_any22 (g : Nat) (s : Wtr) (F : Nat → Prop) (x : Mpd) (B : Int) (w : World) (h : R22 w (.pointer (some ⟨g, 0, none⟩)) s F) (hk : OkW s B) (hB0 : B ≤ 9223372036854775807) (hx : OkM x) (hs : s.fol = true → s.he.i + (x.i - s.th.i) ≤ 9223372036854775807) (hl : s.O.length ≤ 1000) :
    Calls Try.prog 9 #[.pointer (some ⟨g, 0, none⟩), .agg #[.int .i64 x.i, .int .u32 x.st, .int .u16 x.pc]] w fun e w' => e = .returned (.tuple #[.agg #[.int .i64 (mapY s x).i, .int .u32 (mapY s x).st, .int .u16 (mapY s x).pc], .int .i64 (mapE s x)]) ∧ Hid (StpK R22 (.pointer (some ⟨g, 0, none⟩)) (mapW s x) F w w') := by
  by_cases he : mapE s x = 0
  · refine (rmap_ok22 g s F x B w h hk hB0 hx hl he (hs (mapE_ok he).1)).mono ?_
    rintro e w' ⟨rfl, hk⟩
    have e1 : mapY s x = plcW s x := by unfold mapY; rw [if_pos he]
    exact ⟨by rw [e1, he], hk⟩
  · refine (rmap_no22 g s F x B w h he).mono ?_
    rintro e w' ⟨rfl, hk⟩
    have e1 : mapY s x = mz := by unfold mapY; rw [if_neg he]
    have e2 : mapW s x = s := by unfold mapW; rw [if_neg he]
    exact ⟨by rw [e1]; rfl, by rw [e2]; exact hk⟩
theorem r22_zero (w : World) : R22 (w.alloc (.cells #[.int .i64 0, .bool false, .int .i64 0, .int .u32 0, .int .u16 0, .int .i64 0, .int .u32 0, .int .u16 0, .slice none 0 0] 38)) (.pointer (some ⟨w.heap.size, 0, none⟩)) wz (fun k => k = w.heap.size) :=
  ⟨w.heap.size, .slice none 0 0, rfl, BlkV.new_at _ _ _ (wcells wz (.slice none 0 0)) _ rfl rfl, World.ownsRow_nil _ _ _ _, fun k => by simp [Value.ownBlock]⟩
theorem r22_first {w : World} {g : Nat} {F : Nat → Prop} (h : R22 w (.pointer (some ⟨g, 0, none⟩)) wz F) (f : Int) (hf : ¬ f < 0) : StpK R22 (.pointer (some ⟨g, 0, none⟩)) (staW wz f) F w (w.setCell ⟨g, 0, none⟩ (.int .i64 f)) := by
  obtain ⟨g2, vO, e, hB, ho, hF⟩ := h
  cases e
  have e1 : staW wz f = { wz with first := f } := by unfold staW; rw [if_neg (by simp [wz, hf])]
  rw [e1]
  have o := Only.set w g 0 (.int .i64 f)
  exact ⟨F, ⟨g, vO, rfl, hB.set_ 0 _, own_fr ho (Fr.of_only (F := fun k => k = g) o rfl) (fun k hk e => own_ne ho hB neW (by rw [← e]; exact hk)), hF⟩, Fr.of_only (F := F) o ((hF g).2 (.inl rfl)), fun k hk => .inl hk⟩
section
variable {T : World → Value → Wtr → (Nat → Prop) → Prop} {w0 wx : World} {q : Addr} {g : Nat} {s t : Wtr} {K : Nat → Prop}
/-- Both rewriters beside each other, and what is kept. -/
abbrev Bth22 (T : World → Value → Wtr → (Nat → Prop) → Prop) (w0 : World) (K : Nat → Prop) (q : Addr) (g : Nat) (s t : Wtr) (wx : World) : Prop := OnK (PairK T R22 (.pointer (some ⟨g, 0, none⟩))) w0 K (.pointer (some q)) (s, t) wx
theorem Bth22.start (hT : Tells22 T) (h : Bth22 T w0 K q g s t wx) (f : Int) (hf : -9223372036854775808 ≤ f ∧ f ≤ 9223372036854775807) (s' : Wtr) (hs : staW s f = s') :
    Calls Try.prog 7 #[.pointer (some q), .int .i64 f] wx fun e w' => e = .returned (.tuple #[]) ∧ Hid (Bth22 T w0 K q g s' t w' ∧ SamK K wx w') := by
  obtain ⟨F, f1, f2⟩ := h.one hT.lone r22_lone
  subst hs
  refine (hT.start wx q s F f f1 hf).mono ?_
  rintro e w' ⟨rfl, hk⟩
  obtain ⟨k1, k2⟩ := f2 _ _ _ hk.out.stpB
  exact ⟨rfl, Lib.hid ⟨k1.less (fun k hk => .inl hk), k2⟩⟩
theorem Bth22.follow (hT : Tells22 T) (h : Bth22 T w0 K q g s t wx) {B : Int} (ok : OkW s B) (hB : B ≤ 4611686018427387904) (x : Mpd) (hx : OkM x) (hl : s.O.length ≤ 1000) (z : Int) (hz : folE x = z) :
    Calls Try.prog 10 #[.pointer (some q), .agg #[.int .i64 x.i, .int .u32 x.st, .int .u16 x.pc]] wx fun e w' => e = .returned (.int .i64 z) ∧ Hid (Bth22 T w0 K q g (folW s x) t w' ∧ SamK K wx w') := by
  obtain ⟨F, f1, f2⟩ := h.one hT.lone r22_lone
  subst hz
  refine (hT.follow wx q s F x B f1 ok hB hx hl).mono ?_
  rintro e w' ⟨rfl, hk⟩
  obtain ⟨k1, k2⟩ := f2 _ _ _ hk.out.stpB
  exact ⟨rfl, Lib.hid ⟨k1.less (fun k hk => .inl hk), k2⟩⟩
theorem Bth22.rfollow (hL : Lone T) (h : Bth22 T w0 K q g s t wx) {B : Int} (ok : OkW t B) (hB : B ≤ 4611686018427387904) (x : Mpd) (hx : OkM x) (hl : t.O.length ≤ 1000) (z : Int) (hz : folE x = z) :
    Calls Try.prog 11 #[.pointer (some ⟨g, 0, none⟩), .agg #[.int .i64 x.i, .int .u32 x.st, .int .u16 x.pc]] wx fun e w' => e = .returned (.int .i64 z) ∧ Hid (Bth22 T w0 K q g s (folW t x) w' ∧ SamK K wx w') := by
  obtain ⟨F, f1, f2⟩ := h.two hL r22_lone
  subst hz
  refine (rfollow_any22 g t F x B wx f1 ok hB hx hl).mono ?_
  rintro e w' ⟨rfl, hk⟩
  obtain ⟨k1, k2⟩ := f2 _ _ _ hk.out.stpB
  exact ⟨rfl, Lib.hid ⟨k1.less (fun k hk => .inl hk), k2⟩⟩
theorem Bth22.map (hT : Tells22 T) (h : Bth22 T w0 K q g s t wx) {B : Int} (ok : OkW s B) (hB : B ≤ 9223372036854775807) (x : Mpd) (hx : OkM x) (hs : s.fol = true → s.he.i + (x.i - s.th.i) ≤ 9223372036854775807) (hl : s.O.length ≤ 1000) (y : Mpd) (z : Int) (hy : mapY s x = y) (hz : mapE s x = z) :
    Calls Try.prog 8 #[.pointer (some q), .agg #[.int .i64 x.i, .int .u32 x.st, .int .u16 x.pc]] wx fun e w' => e = .returned (.tuple #[.agg #[.int .i64 y.i, .int .u32 y.st, .int .u16 y.pc], .int .i64 z]) ∧ Hid (Bth22 T w0 K q g (mapW s x) t w' ∧ SamK K wx w') := by
  obtain ⟨F, f1, f2⟩ := h.one hT.lone r22_lone
  subst hy
  subst hz
  refine (hT.map wx q s F x B f1 ok hB hx hs hl).mono ?_
  rintro e w' ⟨rfl, hk⟩
  obtain ⟨k1, k2⟩ := f2 _ _ _ hk.out.stpB
  exact ⟨rfl, Lib.hid ⟨k1.less (fun k hk => .inl hk), k2⟩⟩
theorem Bth22.rmap (hL : Lone T) (h : Bth22 T w0 K q g s t wx) {B : Int} (ok : OkW t B) (hB : B ≤ 9223372036854775807) (x : Mpd) (hx : OkM x) (hs : t.fol = true → t.he.i + (x.i - t.th.i) ≤ 9223372036854775807) (hl : t.O.length ≤ 1000) (y : Mpd) (z : Int) (hy : mapY t x = y) (hz : mapE t x = z) :
    Calls Try.prog 9 #[.pointer (some ⟨g, 0, none⟩), .agg #[.int .i64 x.i, .int .u32 x.st, .int .u16 x.pc]] wx fun e w' => e = .returned (.tuple #[.agg #[.int .i64 y.i, .int .u32 y.st, .int .u16 y.pc], .int .i64 z]) ∧ Hid (Bth22 T w0 K q g s (mapW t x) w' ∧ SamK K wx w') := by
  obtain ⟨F, f1, f2⟩ := h.two hL r22_lone
  subst hy
  subst hz
  refine (rmap_any22 g t F x B wx f1 ok hB hx hs hl).mono ?_
  rintro e w' ⟨rfl, hk⟩
  obtain ⟨k1, k2⟩ := f2 _ _ _ hk.out.stpB
  exact ⟨rfl, Lib.hid ⟨k1.less (fun k hk => .inl hk), k2⟩⟩
theorem Bth22.on (hL : Lone T) (h : Bth22 T w0 K q g s t wx) {wy : World} (hb : Below wx.heap.size wx wy) : Bth22 T w0 K q g s t wy ∧ SamK K wx wy := OnK.on (lone_pair hL r22_lone _) h hb
theorem Bth22.high (hT : Tells22 T) (h : Bth22 T w0 K q g s t wx) {B : Int} (ok : OkW s B) (hl : s.O.length ≤ 1000) (z : Int) (hz : highW s = z) :
    Calls Try.prog 12 #[.pointer (some q)] wx fun e w' => e = .returned (.int .i64 z) ∧ Hid (Bth22 T w0 K q g s t w' ∧ SamK K wx w') := by
  obtain ⟨F, f1, f2⟩ := h.one hT.lone r22_lone
  subst hz
  refine (hT.high wx q s F B f1 ok hl).mono ?_
  rintro e w' ⟨rfl, hk⟩
  exact ⟨rfl, Lib.hid (h.on hT.lone hk.out)⟩
theorem Bth22.rhigh (hL : Lone T) (h : Bth22 T w0 K q g s t wx) (hl : t.O.length ≤ 1000) (z : Int) (hz : highW t = z) :
    Calls Try.prog 13 #[.pointer (some ⟨g, 0, none⟩)] wx fun e w' => e = .returned (.int .i64 z) ∧ Hid (Bth22 T w0 K q g s t w' ∧ SamK K wx w') := by
  obtain ⟨F, f1, f2⟩ := h.two hL r22_lone
  subst hz
  refine (rhigh_any22 g t F wx f1 hl).mono ?_
  rintro e w' ⟨rfl, qq, rfl⟩
  exact ⟨rfl, Lib.hid (h.on hL ⟨rfl, rfl, rfl, Nat.le_refl _, fun _ _ => rfl⟩)⟩
/-- A variable is laid beside them: it is kept. -/
theorem Bth22.keep (hL : Lone T) (h : Bth22 T w0 K q g s t wx) (o : Obj) : Bth22 T w0 (fun k => K k ∨ k = wx.heap.size) q g s t (wx.alloc o) :=
  (OnK.span (lone_pair hL r22_lone _) h ((Below.refl wx.heap.size wx).alloc (Nat.le_refl _) o)).less (fun k hk => hk.imp id (fun e => ⟨by omega, by rw [e]; simp⟩))
theorem Bth22.cells (h : Bth22 T w0 K q g s t wx) : wx.cell? ⟨g, 1, none⟩ = some (.bool t.fol) ∧ ∃ A c, wx.cell? ⟨g, 8, none⟩ = some (.slice A t.O.length c) := by
  obtain ⟨F, ⟨F1, F2, a1, ⟨g2, vO, e1, h1, ho, _⟩, _⟩, _⟩ := h.ex
  cases e1
  obtain ⟨A, c, rfl⟩ := own_formN ho
  exact ⟨(h1.cell 1).trans rfl, A, c, (h1.cell 8).trans rfl⟩
end
/-- Both play s, behind k steps. -/
structure Ply22 (T : World → Value → Wtr → (Nat → Prop) → Prop) (w0 : World) (q : Addr) (g : Nat) (k : Nat) (s : Wtr) (wx : World) : Prop where
  b : Bth22 T w0 (fun _ => False) q g s s wx
  ok : OkW s (((k : Int) + 1) * 46116860184273880)
  len : s.O.length ≤ k
  fol : s.fol = false → s.O = []
theorem folW_fol {s : Wtr} (h : s.fol = false → s.O = []) (x : Mpd) : (folW s x).fol = false → (folW s x).O = [] := by
  unfold folW
  split
  · exact h
  · intro h1; cases h1
theorem mapW_fol {s : Wtr} (h : s.fol = false → s.O = []) (x : Mpd) : (mapW s x).fol = false → (mapW s x).O = [] := by
  unfold mapW
  split
  · rename_i h1
    intro h2
    have := (mapE_ok h1).1
    simp only at h2
    rw [this] at h2; cases h2
  · exact h
theorem sta_is {s : Wtr} (h : s.fol = true) (f : Int) : staW s f = s := by unfold staW; rw [if_pos (.inr h)]

/-- An op that comes in. -/
structure Opw where
  m : Bool
  x : Mpd
def OpwRd (_ : World) (o : Opw) : Prop := OkM2 o.x
def Opw.row (o : Opw) : List Value := [.bool o.m, .int .i64 o.x.i, .int .u32 o.x.st, .int .u16 o.x.pc]
section
variable {H : Type} {enc : TypeId × Value → H} {P : Program} {w : World}
/-- A slice of elements of so many cells each, whatever they are, in one cell. -/
theorem opened_rowsG {t e : TypeId} {n : Nat} {v : Value} (sz : Nat) (Q : List Value → Prop) (ht : P.underlying t = some (.slice e)) (hC : P.cellsOf e = sz) (hpos : 0 < sz)
    (hQ : ∀ (cs : List Value) (m : Nat), cs.length = sz → (∃ y, DataW.trod enc P w 0 (fun _ => true) true m e cs = some y) → Q cs)
    (h : ∃ y, DataW.trod enc P w 0 (fun _ => true) true n t [v] = some y) : ∃ (A : Option Addr) (c : Nat) (rows : List (List Value)), v = .slice A rows.length c ∧ rows.length ≤ 9223372036854775807 ∧ RdG sz w A rows ∧ ∀ r ∈ rows, Q r := by
  obtain ⟨y, hf⟩ := h
  rcases open_slice ht hf with ⟨h0, _⟩ | ⟨x, l, c, m, f2, D, Pl, hcs, _, hle, hcap, hm, _, hel⟩
  · simp at h0
    subst h0
    exact ⟨none, 0, [], rfl, by simp, ⟨by simp, fun h => absurd h (by simp)⟩, by simp⟩
  · simp at hcs
    subst hcs
    simp only [maxLen] at hcap
    simp only [if_true] at hm
    have hlm : l ≤ m := by omega
    have key : ∀ i, i < l → ∃ r : List Value, (r.length = sz ∧ Q r) ∧ ∀ j, j < sz → w.cell? (x.add (i * sz + j)) = r[j]? := by
      intro i hi
      obtain ⟨cs, hc, ht2⟩ := hel i (by omega)
      obtain ⟨_, hcl, hcell⟩ := World.cells?_some hc
      have hl : cs.length = sz := by omega
      refine ⟨cs, ⟨hl, hQ cs _ hl ⟨_, ht2⟩⟩, fun j hj => ?_⟩
      have hcj := hcell j (by omega)
      rw [hC, Go.Deep.add_add] at hcj
      exact hcj
    obtain ⟨rows, hlen, hrows⟩ := choose_rel (R := fun i r => (r.length = sz ∧ Q r) ∧ ∀ j, j < sz → w.cell? (x.add (i * sz + j)) = r[j]?) (List.range l) (fun i hi => key i (List.mem_range.1 hi))
    rw [List.length_range] at hlen
    have hat : ∀ i (hi : i < rows.length), (rows[i].length = sz ∧ Q rows[i]) ∧ ∀ j, j < sz → w.cell? (x.add (i * sz + j)) = rows[i][j]? :=
      fun i hi => hrows i i rows[i] (List.getElem?_range (by omega)) (List.getElem?_eq_getElem hi)
    have hok : ∀ r ∈ rows, r.length = sz ∧ Q r := by
      intro r hr
      obtain ⟨i, hi, rfl⟩ := List.getElem_of_mem hr
      exact (hat i hi).1
    refine ⟨some x, c, rows, by rw [hlen], by omega, ⟨fun r hr => (hok r hr).1, fun hn => ?_⟩, fun r hr => (hok r hr).2⟩
    obtain ⟨⟨hl0, _⟩, h0⟩ := hat 0 hn
    have hv0 := h0 0 hpos
    rw [List.getElem?_eq_getElem (show 0 < rows[0].length by omega)] at hv0
    obtain ⟨b, off, spot⟩ := x
    have hs : spot = none := by
      have := World.cell?_spot hv0
      simpa [Addr.add] using this
    subst hs
    refine ⟨b, off, rfl, ?_, fun j hj d hd => ?_⟩
    · have := World.block_lt_of_cell? w _ hv0
      rw [add_at] at this
      exact this
    · have := (hat j hj).2 d hd
      rw [add_at, ← Nat.add_assoc] at this
      rw [this]
      simp [List.getD, List.getElem?_eq_getElem hj]
end
section
variable {H : Type} {enc : TypeId × Value → H} {w : World} {n : Nat}
theorem list4w {r : List Value} (h : r.length = 4) : ∃ a b c d, r = [a, b, c, d] := by
  match r, h with
  | [a, b, c, d], _ => exact ⟨a, b, c, d, rfl⟩
theorem opened_opws {v : Value} (h : ∃ y, DataW.trod enc Try.prog w 0 (fun _ => true) true n 22 [v] = some y) : ∃ (A : Option Addr) (c : Nat) (l : List Opw), v = .slice A l.length c ∧ l.length ≤ 9223372036854775807 ∧ RdG 4 w A (l.map Opw.row) ∧ ∀ o ∈ l, OpwRd w o := by
  have eb : Try.prog.cellsOf 4 = 1 := by kernel_rfl
  have em : Try.prog.cellsOf 35 = 3 := by kernel_rfl
  have e0 : Try.prog.cellsOf 2 = 1 := by kernel_rfl
  have e1 : Try.prog.cellsOf 25 = 1 := by kernel_rfl
  have e2 : Try.prog.cellsOf 26 = 1 := by kernel_rfl
  obtain ⟨A, c, rows, rfl, hmx, hr, hok⟩ := opened_rowsG 4 (fun r => ∃ o : Opw, r = o.row ∧ OkM2 o.x) Try.underlying22 (by kernel_rfl) (by omega) (fun cs m hl hy => by
    obtain ⟨y, hy⟩ := hy
    obtain ⟨xs, m2, _, _, _, hxl, hfl⟩ := DataW.trod_struct Try.underlying41 hy
    obtain ⟨a, b, c, d, rfl⟩ := list4w hl
    have h0 := hfl 0 _ rfl
    have h1 := hfl 1 _ rfl
    simp only [List.getElem_toArray, List.getElem_cons_zero, List.getElem_cons_succ, eb, em, List.drop_succ_cons, List.drop_zero, List.take_succ_cons, List.take_zero] at h0 h1
    have hx2 : xs.length = 2 := hxl
    rw [List.getElem?_eq_getElem (show 0 < xs.length by omega)] at h0
    rw [List.getElem?_eq_getElem (show 1 < xs.length by omega)] at h1
    obtain ⟨ys, m3, _, _, _, hyl, hgl⟩ := DataW.trod_struct Try.underlying35 h1
    have k0 := hgl 0 _ rfl
    have k1 := hgl 1 _ rfl
    have k2 := hgl 2 _ rfl
    simp only [List.getElem_toArray, List.getElem_cons_zero, List.getElem_cons_succ, e0, e1, e2, List.drop_succ_cons, List.drop_zero, List.take_succ_cons, List.take_zero] at k0 k1 k2
    have hy3 : ys.length = 3 := hyl
    rw [List.getElem?_eq_getElem (show 0 < ys.length by omega)] at k0
    rw [List.getElem?_eq_getElem (show 1 < ys.length by omega)] at k1
    rw [List.getElem?_eq_getElem (show 2 < ys.length by omega)] at k2
    obtain ⟨bb, hb, _⟩ := DataW.trod_bool Try.underlying4 h0
    obtain ⟨i, rfl, wi⟩ := opened_in Try.underlying2 ⟨_, k0⟩
    obtain ⟨st, rfl, ws⟩ := opened_in Try.underlying25 ⟨_, k1⟩
    obtain ⟨pc, rfl, wp⟩ := opened_in Try.underlying26 ⟨_, k2⟩
    simp at hb
    subst hb
    have b0 := bounds_i64 wi
    have b1 := bounds_u32 ws
    have b2 := bounds_u16 wp
    exact ⟨⟨bb, i, st, pc⟩, rfl, ⟨b0, by simp only; omega, by simp only; omega⟩⟩) h
  obtain ⟨L, rfl, hL⟩ := choose_rows (f := Opw.row) (P := OpwRd w) rows hok
  rw [List.length_map] at hmx
  exact ⟨A, c, L, by rw [List.length_map], hmx, hr, hL⟩
end
end Go.Proofs.Ytjlfokfdieafeaa
