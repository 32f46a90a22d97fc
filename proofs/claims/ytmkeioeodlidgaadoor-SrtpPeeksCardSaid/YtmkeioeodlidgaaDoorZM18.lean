/- Several texts in one: Contracts of package rtp: what gives up is caught, and told as an error's number. Contracts of package rtp: the packet that bytes are, or why they are none. No statement is proved here. -/
import Derived.Test.YtmkeioeodlidgaaDoorZM2
import Derived.Recover
import Derived.Tactics2
import Derived.Test.YtmkeioeodlidgaaDoorZRtp5
namespace Go.Proofs.YtmkeioeodlidgaaDoor
open Go.RowKit
set_option linter.unusedVariables false

theorem assert_ref (c : Int) (w : World) : (Instr.typeAssert (.iface 95 (.agg #[.int .i64 c])) 20 95 true).run Tryd.prog w = .ok (.tuple #[.agg #[.int .i64 c], .bool true]) w := by
  first | kernel_rfl | rfl

/-- The rest of a deferred body, where nothing recovers any more. -/
theorem wpS_tailR {P : Program} {fn : Func} {c₀ c₁ : Frame} {cs : List Frame} {u : FrameMode} {R : Ending → FrameMode → World → Prop} {R0 : Ending → World → Prop} {c : Code} {a : Act} {w : World}
    (h : c.wp P (bodyPost P fn R0) a w) (hc : c₁ = { c₀ with mode := u }) (hr : ∀ e w', R0 e w' → R e u w') : c.wpS P (bodyPostS P fn c₀ cs R) a (c₁ :: cs) w := by
  subst hc
  refine wpS_of_wp (Code.wp_mono ?_ h)
  intro e a' w' hq
  cases e with
  | normal => obtain ⟨hd, v, h1, h2⟩ := hq; exact ⟨hd, u, rfl, v, h1, hr _ _ h2⟩
  | ret => obtain ⟨hd, v, h1, h2⟩ := hq; exact ⟨hd, u, rfl, v, h1, hr _ _ h2⟩
  | panic chain => obtain ⟨hd, h2⟩ := hq; exact ⟨hd, u, rfl, hr _ _ h2⟩
  | outgrown => exact ⟨u, hr _ _ hq⟩
  | exit id => exact hq.elim
  | goto l => exact hq.elim

set_option maxRecDepth 100000 in
theorem catch_idleR (g h : Nat) (w : World) :
    CallsD Tryd.prog 42 #[.pointer (some ⟨g, 0, none⟩), .pointer (some ⟨h, 0, none⟩)] .returning w fun e u' w' => e = .returned (.tuple #[]) ∧ u' = .returning ∧ w' = w := by
  refine callsD_of_wpS Tryd.func42 rfl fun c₀ cs hu => ?_
  simp only [Tryd.ntmps42, List.size_toArray, List.length_cons, List.length_nil, Nat.reduceAdd, Nat.reduceSub, Array.replicate_succ, Array.replicate_zero, List.push_toArray, List.append_toArray, List.nil_append, List.cons_append]
  apply wpS_seq
  apply wpS_region
  simp [wpOpsS, go_sem, recoverD, hu, Exit.thenS]
  refine wpS_tailR (R0 := fun e w' => e = .returned (.tuple #[]) ∧ w = w') (u := .returning) ?_ (by rw [← hu]) (fun e w' hh => ⟨hh.1, rfl, hh.2.symm⟩)
  go_wp2
  exact bodyPost_ret (results_none rfl _ _ _) rfl ⟨rfl, rfl⟩

/-- A whole row is laid into a block that is known whole, as one step of a region that draws. -/
theorem step_st {P : Program} {ops : Array Oper} {op : Oper} {a : Act} {w : World} {K : Act → World → Prop} {Q : Exit → Act → World → Prop} {E : Prop} (hgd : op.guard = none) (ty : TypeId) (x y : Operand) (ho : op.op = .store ty x y) (g o : Nat) (ds : List Value) (hx : a.eval x = .pointer (some ⟨g, o, none⟩)) (hy : a.eval y = .agg ds.toArray)
    (e : TypeId) (cs : List Value) (hg : BlkV w g e cs) (hfit : o + ds.length ≤ cs.length) (hT : RowTy P ty ds.length) (h1 : ∀ v ∈ ds, v.oneCell' = true)
    (h : ∀ w', BlkV w' g e (splice cs o ds) → Only g w w' → K (a.put op.dst undef) w') : if Region.wanted op (yielded ops a.tmps) = true then Oper.wp P op a w K Q else E := by
  rw [if_pos (by simp [Region.wanted, hgd])]
  exact wp_st ty x y ho g o ds hx hy e cs hg hfit hT h1 h

set_option maxRecDepth 100000 in
set_option maxHeartbeats 1000000 in
theorem catch_panicking (c : Int) (g h : Nat) (cs1 : List Value) (y : Int) (older : List PanicEntry) (w : World) (hg : BlkV w g 40 cs1) (hl : cs1.length = 11) (hh : BlkV w h 26 [.int .i64 y]) (hne : g ≠ h) :
    CallsD Tryd.prog 42 #[.pointer (some ⟨g, 0, none⟩), .pointer (some ⟨h, 0, none⟩)] (.panicking ({ v := .iface 95 (.agg #[.int .i64 c]), recovered := false } :: older)) w fun e u' w' =>
      e = .returned (.tuple #[]) ∧ u' = .panicking ({ v := .iface 95 (.agg #[.int .i64 c]), recovered := true } :: older) ∧ BlkV w' g 40 zeroC ∧ BlkV w' h 26 [.int .i64 c] ∧ Below (min g h) w w' := by
  refine callsD_of_wpS Tryd.func42 rfl fun c₀ cs hu => ?_
  have hz := zero28
  have ha := assert_ref c
  simp only [Tryd.ntmps42, List.size_toArray, List.length_cons, List.length_nil, Nat.reduceAdd, Nat.reduceSub, Array.replicate_succ, Array.replicate_zero, List.push_toArray, List.append_toArray, List.nil_append, List.cons_append]
  apply wpS_seq
  apply wpS_region
  simp [wpOpsS, go_sem, recoverD, hu, Exit.thenS]
  refine wpS_tailR (R0 := fun e w' => e = .returned (.tuple #[]) ∧ BlkV w' g 40 zeroC ∧ BlkV w' h 26 [.int .i64 c] ∧ Below (min g h) w w') (u := .panicking ({ v := .iface 95 (.agg #[.int .i64 c]), recovered := true } :: older)) ?_ rfl (fun e w' hh => ⟨hh.1, rfl, hh.2.1, hh.2.2.1, hh.2.2.2⟩)
  go_wp2
  have b1 : Below w.heap.size w (w.alloc (.cells #[.int .i64 c] 95)) := (Below.refl _ _).alloc (Nat.le_refl _) _
  have b2 : Below (min g h) w (w.alloc (.cells #[.int .i64 c] 95)).drew := (b1.mono (by have := hg.lt; omega)).drew
  have hg1 := hg.below b1 hg.lt
  have hh1 := hh.below b1 hh.lt
  have hc1 : (w.alloc (.cells #[.int .i64 c] 95)).cell? ⟨w.heap.size, 0, none⟩ = some (.int .i64 c) := ((BlkV.new w 95 [.int .i64 c]).cell 0).trans rfl
  have hne2 := hg.lt
  have hne3 := hh.lt
  have hr1 := BlkV.new w 95 [.int .i64 c]
  change BlkV (w.alloc (.cells #[.int .i64 c] 95)) w.heap.size _ _ at hr1
  obtain ⟨r, hr⟩ : ∃ r, r = w.heap.size := ⟨_, rfl⟩
  rw [← hr] at hc1 hr1 hne2 hne3
  simp only [← hr]
  generalize (w.alloc (.cells #[.int .i64 c] 95)) = w1 at hg1 hh1 hc1 hr1 b2
  clear hr b1 hg hh hu
  refine wp_region_any (by kernel_rfl) ?_
  change wpAny _ _ _ _ _ _ _ (World.drew _)
  have hg2 : BlkV w1.drew g 40 cs1 := hg1
  have hh2 : BlkV w1.drew h 26 [.int .i64 y] := hh1
  have hc2 : w1.drew.cell? ⟨r, 0, none⟩ = some (.int .i64 c) := hc1
  have hcr : BlkV w1.drew r 95 [.int .i64 c] := hr1
  refine wpAny_take (i := 0) (v := ?_) rfl (by kernel_rfl) (by kernel_rfl) (by kernel_rfl) (fun _ _ _ h => h) (Or.inl ⟨by rfl, ?_⟩) ?_
  case refine_2 => (intro wz; go_simp; with_reducible rfl)
  simp only [Act.put, List.getElem_toArray, List.getElem_cons_zero, List.setIfInBounds_toArray, List.set_cons_succ, List.set_cons_zero]
  refine wpAny_take (i := 1) (v := ?_) rfl (by kernel_rfl) (by kernel_rfl) (by kernel_rfl) (fun _ _ _ h => h) (Or.inl ⟨by rfl, ?_⟩) ?_
  case refine_2 => (intro wz; go_simp; with_reducible rfl)
  simp only [Act.put, List.getElem_toArray, List.getElem_cons_succ, List.getElem_cons_zero, List.setIfInBounds_toArray, List.set_cons_succ, List.set_cons_zero]
  refine any_two (i := 2) (j := 3) (by kernel_rfl) rfl rfl rfl rfl (fun K hK => ?_) (fun K hK => ?_)
  · simp only [List.getElem_toArray, List.getElem_cons_succ, List.getElem_cons_zero]
    go_simp
    refine hK _ _ ?_
    clear hK K
    refine any_one (i := 3) (by kernel_rfl) rfl rfl (fun K hK => ?_)
    simp only [List.getElem_toArray, List.getElem_cons_succ, List.getElem_cons_zero]
    refine wp_st 40 (.tmp 0) (.tmp 16) rfl g 0 zeroC (by rfl) (by rfl) 40 cs1 hg2 (by rw [hl]; exact Nat.le_refl 11) (row11 rfl) (rtpC_one _ _ _ _ _ _ _ _ _ _ _ _ _ _ _ _ _) ?_
    intro w2 hB2 ho2
    rw [splice_all _ _ (by rw [hl]; rfl)] at hB2
    have hh3 : BlkV w2 h 26 [.int .i64 y] := hh2.only ho2 (fun e => hne e.symm)
    have hc3 : w2.cell? ⟨r, 0, none⟩ = some (.int .i64 c) := ((hcr.only ho2 (fun e => by omega)).cell 0).trans rfl
    refine hK _ _ ?_
    clear hK K
    refine any_one (i := 4) (by kernel_rfl) rfl rfl (fun K hK => ?_)
    simp only [List.getElem_toArray, List.getElem_cons_succ, List.getElem_cons_zero]
    have hcy : w2.cell? ⟨h, 0, none⟩ = some (.int .i64 y) := (hh3.cell 0).trans rfl
    have hcf := hh3.frozen 0
    go_simp
    refine hK _ _ ?_
    clear hK K
    refine wpAny_done (by kernel_rfl) ?_ _
    have e1 : BlkV (w2.setCell ⟨h, 0, none⟩ (.int .i64 c)) g 40 zeroC := hB2.far hne _
    have e2 : BlkV (w2.setCell ⟨h, 0, none⟩ (.int .i64 c)) h 26 [.int .i64 c] := hh3.set_ 0 _
    exact bodyPost_end (results_none rfl _ _ _) rfl ⟨rfl, e1, e2, (b2.trans (ho2.below (Nat.min_le_left g h))).setCell (Nat.min_le_right g h) _⟩
  · simp only [List.getElem_toArray, List.getElem_cons_succ, List.getElem_cons_zero]
    refine wp_st 40 (.tmp 0) (.tmp 16) rfl g 0 zeroC (by rfl) (by rfl) 40 cs1 hg2 (by rw [hl]; exact Nat.le_refl 11) (row11 rfl) (rtpC_one _ _ _ _ _ _ _ _ _ _ _ _ _ _ _ _ _) ?_
    intro w2 hB2 ho2
    rw [splice_all _ _ (by rw [hl]; rfl)] at hB2
    have hh3 : BlkV w2 h 26 [.int .i64 y] := hh2.only ho2 (fun e => hne e.symm)
    have hc3 : w2.cell? ⟨r, 0, none⟩ = some (.int .i64 c) := ((hcr.only ho2 (fun e => by omega)).cell 0).trans rfl
    refine hK _ _ ?_
    clear hK K
    refine any_one (i := 2) (by kernel_rfl) rfl rfl (fun K hK => ?_)
    simp only [List.getElem_toArray, List.getElem_cons_succ, List.getElem_cons_zero]
    go_simp
    refine hK _ _ ?_
    clear hK K
    refine any_one (i := 4) (by kernel_rfl) rfl rfl (fun K hK => ?_)
    simp only [List.getElem_toArray, List.getElem_cons_succ, List.getElem_cons_zero]
    have hcy : w2.cell? ⟨h, 0, none⟩ = some (.int .i64 y) := (hh3.cell 0).trans rfl
    have hcf := hh3.frozen 0
    go_simp
    refine hK _ _ ?_
    clear hK K
    refine wpAny_done (by kernel_rfl) ?_ _
    have e1 : BlkV (w2.setCell ⟨h, 0, none⟩ (.int .i64 c)) g 40 zeroC := hB2.far hne _
    have e2 : BlkV (w2.setCell ⟨h, 0, none⟩ (.int .i64 c)) h 26 [.int .i64 c] := hh3.set_ 0 _
    exact bodyPost_end (results_none rfl _ _ _) rfl ⟨rfl, e1, e2, (b2.trans (ho2.below (Nat.min_le_left g h))).setCell (Nat.min_le_right g h) _⟩
end Go.Proofs.YtmkeioeodlidgaaDoor

namespace Go.Proofs.YtmkeioeodlidgaaDoor
open Go.RowKit
set_option linter.unusedVariables false

theorem nat_eq1 (n : Nat) : ((n : Int) / 128 == 1) = (n / 128 == 1) := by
  rw [Bool.eq_iff_iff]
  simp
  omega

theorem head_of (g : Nat) (bs : List UInt8) (h12 : 12 ≤ bs.length ∧ bs.length ≤ 1200) (hv : bt bs 0 / 64 = 2) :
    Head g bs (bs.drop 1) (bs.drop 2) (bs.drop 4) (bs.drop 8) (bs.drop 12) (bt bs 0) (bt bs 1) (bt bs 1 % 128) (sqN bs) (stN bs) (soN bs) (othN bs) (bt bs 0 / 16 % 2) (bt bs 0 / 32 % 2) (bt bs 1 / 128 == 1) where
  n1 := fun wx hx => by
    have := number_okR g 1 1 rfl bs wx hx (by omega) (by omega) (by omega)
    have e := numb_one bs 0 (by omega)
    rw [List.drop_zero] at e
    rw [e] at this
    exact this
  n2 := fun wx hx => by
    have := number_okR g 1 1 rfl (bs.drop 1) wx hx (by omega) (by omega) (by rw [List.length_drop]; omega)
    rw [List.drop_drop, numb_one bs 1 (by omega)] at this
    exact this
  n3 := fun wx hx => by
    have := number_okR g 2 2 rfl (bs.drop 2) wx hx (by omega) (by omega) (by rw [List.length_drop]; omega)
    rw [List.drop_drop] at this
    exact this
  n4 := fun wx hx => by
    have := number_okR g 4 4 rfl (bs.drop 4) wx hx (by omega) (by omega) (by rw [List.length_drop]; omega)
    rw [List.drop_drop] at this
    exact this
  n5 := fun wx hx => by
    have := number_okR g 4 4 rfl (bs.drop 8) wx hx (by omega) (by omega) (by rw [List.length_drop]; omega)
    rw [List.drop_drop] at this
    exact this
  a1 := and_u64 _ 7 (by have := bt_lt bs 1; omega) (by omega) _ rfl
  a2 := and_u64 _ 4 (by have := bt_lt bs 0; omega) (by omega) _ rfl
  a3 := and_u64 (bt bs 0 / 16) 1 (by have := bt_lt bs 0; omega) (by omega) _ rfl
  a4 := and_u64 (bt bs 0 / 32) 1 (by have := bt_lt bs 0; omega) (by omega) _ rfl
  mq := nat_eq1 _
  v2 := by simp; omega
  l0 := bt_lt bs 0
  l1 := bt_lt bs 1
  lt := Nat.mod_lt _ (by omega)
  l2 := sqN_lt bs
  l3 := stN_lt bs
  l4 := soN_lt bs
  l5 := Nat.mod_lt _ (by omega)
  ln := h12

theorem srcs_ok (g : Nat) (bs : List UInt8) (ho : at0 bs ≤ bs.length) : ∀ wx, RdrR wx g (bs.drop 12) → Calls Tryd.prog 60 #[.pointer (some ⟨g, 0, none⟩), .int .i64 (othN bs : Int)] wx fun e w' => ∃ A c, e = .returned (.slice A (othN bs) c) ∧ w'.ownsRow wx.heap.size 24 1 (.slice A (othN bs) c) (othN bs) (ucells (srcs (bs.drop 12) (othN bs))) ∧ RdrR w' g (bs.drop (at0 bs)) ∧ wx.grownBy w' (some g) := fun wx hx =>
  (sources_any g (othN bs) (othN bs) rfl (bs.drop 12) wx hx (by unfold othN; omega)).mono fun e w' hh => by
    unfold at0 at ho
    obtain ⟨hc, hg⟩ := hh
    rcases hc with ⟨_, A, c, he, how, hr⟩ | ⟨hc, _⟩
    · rw [List.drop_drop] at hr
      exact ⟨A, c, he, how, hr, hg⟩
    · rw [List.length_drop] at hc; omega
theorem srcs_no (g : Nat) (bs : List UInt8) (h12 : 12 ≤ bs.length) (ho : bs.length < at0 bs) : ∀ wx, RdrR wx g (bs.drop 12) → Calls Tryd.prog 60 #[.pointer (some ⟨g, 0, none⟩), .int .i64 (othN bs : Int)] wx fun e w' => e = .panicked (gone 2) ∧ wx.grownBy w' (some g) := fun wx hx =>
  (sources_any g (othN bs) (othN bs) rfl (bs.drop 12) wx hx (by unfold othN; omega)).mono fun e w' hh => by
    unfold at0 at ho
    obtain ⟨hc, hg⟩ := hh
    rcases hc with ⟨hc, _⟩ | ⟨_, he⟩
    · rw [List.length_drop] at hc; omega
    · exact ⟨he, hg⟩

theorem wd_of (bs : List UInt8) : wdN (bs.drop (at0 bs)) = wordsN bs := by rw [wdN, List.drop_drop]; rfl
theorem words_lt (bs : List UInt8) : wordsN bs < 65536 := by rw [← wd_of]; exact wdN_lt _
theorem exts_ok (g : Nat) (bs : List UInt8) (h1 : at0 bs + 4 + 4 * wordsN bs ≤ bs.length) (hw : wordsN bs ≤ 255) : ∀ wx, RdrR wx g (bs.drop (at0 bs)) → Calls Tryd.prog 61 #[.pointer (some ⟨g, 0, none⟩)] wx fun e w' => ∃ A c, e = .returned (.tuple #[.int .u16 (numb ((bs.drop (at0 bs)).take 2) : Nat), .slice A (4 * wordsN bs) c]) ∧ w'.ownsRow wx.heap.size 5 1 (.slice A (4 * wordsN bs) c) (4 * wordsN bs) (cells ((bs.drop (at0 bs + 4)).take (4 * wordsN bs))) ∧ RdrR w' g (bs.drop (at0 bs + 4 + 4 * wordsN bs)) ∧ wx.grownBy w' (some g) := fun wx hx => by
  have := ext_ok g (bs.drop (at0 bs)) wx hx (by rw [wd_of, List.length_drop]; omega) (by rw [wd_of]; omega)
  rw [wd_of, List.drop_drop, List.drop_drop, ← Nat.add_assoc] at this
  exact this

theorem last_of (bs : List UInt8) (k : Nat) (h : k < bs.length) : ((bs.drop k).getD ((bs.drop k).length - 1) 0).toNat = bt bs (bs.length - 1) := by
  rw [List.length_drop]
  simp only [bt, List.getD, List.getElem?_drop]
  congr 3
  omega
theorem pads_ok (g : Nat) (bs : List UInt8) (k : Nat) (h0 : k ≤ bs.length) (h1 : 1 ≤ bt bs (bs.length - 1)) (h2 : bt bs (bs.length - 1) ≤ bs.length - k) : ∀ wx, RdrR wx g (bs.drop k) → Calls Tryd.prog 62 #[.pointer (some ⟨g, 0, none⟩)] wx fun e w' => e = .returned (.int .u8 (bt bs (bs.length - 1) : Nat)) ∧ RdrR w' g ((bs.drop k).take (bs.length - k - bt bs (bs.length - 1))) ∧ Only g wx w' := fun wx hx => by
  have := padding_ok g (bs.drop k) (bt bs (bs.length - 1)) wx hx (last_of bs k (by omega)).symm h1 (by rw [List.length_drop]; omega)
  rw [List.length_drop] at this
  exact this
theorem pads_no (g : Nat) (bs : List UInt8) (k : Nat) (h0 : k ≤ bs.length) (h1 : k = bs.length ∨ bt bs (bs.length - 1) = 0 ∨ bs.length - k < bt bs (bs.length - 1)) : ∀ wx, RdrR wx g (bs.drop k) → Calls Tryd.prog 62 #[.pointer (some ⟨g, 0, none⟩)] wx fun e w' => e = .panicked (gone 3) ∧ wx = w' := fun wx hx => by
  refine padding_no g (bs.drop k) _ wx hx rfl ?_
  rcases Nat.lt_or_ge k bs.length with hlt | hge
  · rw [last_of bs k hlt, List.length_drop]
    rcases h1 with h1 | h1
    · omega
    · exact .inr h1
  · exact .inl (by rw [List.length_drop]; omega)

theorem pk_of {w w' : World} {g : Nat} {mk : Bool} {ty sq st so : Nat} {U : List Nat} {x : Bool} {pf : Nat} {X Y : List UInt8} {pd : Nat} {e : Ending} (h : PkRes w g mk ty sq st so U x pf X Y pd e w') (p : Pkt) (hp : p = ⟨mk, ty, sq, st, so, U, x, pf, X, Y, pd⟩) :
    ∃ cs, e = .returned (.agg cs.toArray) ∧ PkOwn w' w.heap.size cs p ∧ w.grownBy w' (some g) := by
  obtain ⟨A, a, B, b, D, d, he, h1, h2, h3, hg⟩ := h
  subst hp
  exact ⟨_, he, ⟨A, a, B, b, D, d, rfl, h1, h2, h3⟩, hg⟩

theorem packet_ok (g : Nat) (bs : List UInt8) (w : World) (h : RdrR w g bs) (hy : whyR bs = 0) :
    Calls Tryd.prog 44 #[.pointer (some ⟨g, 0, none⟩)] w fun e w' => ∃ cs, e = .returned (.agg cs.toArray) ∧ PkOwn w' w.heap.size cs (pktR bs) ∧ w.grownBy w' (some g) := by
  unfold whyR at hy
  by_cases c1 : 1200 < bs.length
  · simp [c1] at hy
  by_cases c2 : bs.length < 12
  · simp [c1, c2] at hy
  by_cases c3 : bt bs 0 / 64 ≠ 2
  · simp [c1, c2, c3] at hy
  by_cases c4 : bs.length < at0 bs
  · simp [c1, c2, c3, c4] at hy
  rw [if_neg c1, if_neg c2, if_neg c3, if_neg c4] at hy
  have c3' : bt bs 0 / 64 = 2 := by omega
  have H := head_of g bs ⟨by omega, by omega⟩ c3'
  have hxl : bt bs 0 / 16 % 2 < 2 := Nat.mod_lt _ (by omega)
  have hpl : bt bs 0 / 32 % 2 < 2 := Nat.mod_lt _ (by omega)
  have NS := srcs_ok g bs (by omega)
  by_cases hx : bt bs 0 / 16 % 2 = 1
  · have ex : exBR bs = true := by simp [exBR, hx]
    have e1 : at1 bs = at0 bs + 4 + 4 * wordsN bs := by simp [at1, ex]
    rw [hx] at H
    rw [e1] at hy
    by_cases c5 : bs.length < at0 bs + 4
    · simp [ex, c5] at hy
    by_cases c6 : bs.length < at0 bs + 4 + 4 * wordsN bs
    · simp [ex, c5, c6] at hy
    by_cases c7 : 255 < wordsN bs
    · simp [ex, c5, c6, c7] at hy
    have NE := exts_ok g bs (by omega) (by omega)
    have lpf : numb ((bs.drop (at0 bs)).take 2) < 65536 := by have := numb_take_lt (bs.drop (at0 bs)) 2; simpa using this
    have hX : ((bs.drop (at0 bs + 4)).take (4 * wordsN bs)).length = 4 * wordsN bs := by rw [List.length_take, List.length_drop]; omega
    by_cases hp : bt bs 0 / 32 % 2 = 1
    · have ep : pdB bs = true := by simp [pdB, hp]
      rw [hp] at H
      simp only [ex, ep, c5, c6, c7, and_false, if_false, true_and] at hy
      have hq : ¬ (at0 bs + 4 + 4 * wordsN bs = bs.length ∨ bt bs (bs.length - 1) = 0 ∨ bs.length - (at0 bs + 4 + 4 * wordsN bs) < bt bs (bs.length - 1)) := fun hq => by simp [hq] at hy
      refine (pkt_ok11 g w h H (srcs_len _ _) NS lpf hX NE (bt_lt bs _) (pads_ok g bs _ (by omega) (by omega) (by omega)) (by rw [List.length_take]; omega)).mono fun e w' hh => pk_of hh _ ?_
      simp [pktR, ex, ep, e1, padN]
    · have hp0 : bt bs 0 / 32 % 2 = 0 := by omega
      have ep : pdB bs = false := by simp [pdB, hp0]
      rw [hp0] at H
      refine (pkt_ok10 g w h H (srcs_len _ _) NS lpf hX NE (by rw [List.length_drop]; omega)).mono fun e w' hh => pk_of hh _ ?_
      have : (bs.drop (at0 bs + 4 + 4 * wordsN bs)).take (bs.length - (at0 bs + 4 + 4 * wordsN bs)) = bs.drop (at0 bs + 4 + 4 * wordsN bs) := List.take_of_length_le (by rw [List.length_drop]; omega)
      simp [pktR, ex, ep, e1, padN, this]
  · have hx0 : bt bs 0 / 16 % 2 = 0 := by omega
    have ex : exBR bs = false := by simp [exBR, hx0]
    have e1 : at1 bs = at0 bs := by simp [at1, ex]
    rw [hx0] at H
    rw [e1] at hy
    by_cases hp : bt bs 0 / 32 % 2 = 1
    · have ep : pdB bs = true := by simp [pdB, hp]
      rw [hp] at H
      simp only [ex, ep, Bool.false_eq_true, false_and, if_false, true_and] at hy
      have hq : ¬ (at0 bs = bs.length ∨ bt bs (bs.length - 1) = 0 ∨ bs.length - at0 bs < bt bs (bs.length - 1)) := fun hq => by simp [hq] at hy
      refine (pkt_ok01 g w h H (srcs_len _ _) NS (bt_lt bs _) (pads_ok g bs _ (by omega) (by omega) (by omega)) (by rw [List.length_take]; omega)).mono fun e w' hh => pk_of hh _ ?_
      simp [pktR, ex, ep, e1, padN]
    · have hp0 : bt bs 0 / 32 % 2 = 0 := by omega
      have ep : pdB bs = false := by simp [pdB, hp0]
      rw [hp0] at H
      refine (pkt_ok00 g w h H (srcs_len _ _) NS (by rw [List.length_drop]; omega)).mono fun e w' hh => pk_of hh _ ?_
      have : (bs.drop (at0 bs)).take (bs.length - at0 bs) = bs.drop (at0 bs) := List.take_of_length_le (by rw [List.length_drop]; omega)
      simp [pktR, ex, ep, e1, padN, this]

theorem packet_no (g : Nat) (bs : List UInt8) (w : World) (h : RdrR w g bs) (c1 : ¬ 1200 < bs.length) (hy : whyR bs ≠ 0) :
    Calls Tryd.prog 44 #[.pointer (some ⟨g, 0, none⟩)] w fun e w' => e = .panicked (gone (whyR bs)) ∧ w.grownBy w' (some g) := by
  unfold whyR at hy ⊢
  rw [if_neg c1] at hy ⊢
  by_cases c2 : bs.length < 12
  · rw [if_pos c2]
    exact pkt_short g w h c2
  rw [if_neg c2] at hy ⊢
  by_cases c3 : bt bs 0 / 64 ≠ 2
  · rw [if_pos c3]
    refine pkt_bits g w h ⟨by omega, by omega⟩ (b0 := bt bs 0) (S1 := bs.drop 1) (fun wx hx => ?_) (bt_lt _ _) (by simp; omega)
    have := number_okR g 1 1 rfl bs wx hx (by omega) (by omega) (by omega)
    have e := numb_one bs 0 (by omega)
    rw [List.drop_zero] at e
    rw [e] at this
    exact this
  have c3' : bt bs 0 / 64 = 2 := by omega
  have H := head_of g bs ⟨by omega, by omega⟩ c3'
  rw [if_neg c3] at hy ⊢
  by_cases c4 : bs.length < at0 bs
  · rw [if_pos c4]
    exact pkt_lack g w h H (srcs_no g bs (by omega) c4)
  rw [if_neg c4] at hy ⊢
  have hxl : bt bs 0 / 16 % 2 < 2 := Nat.mod_lt _ (by omega)
  have hpl : bt bs 0 / 32 % 2 < 2 := Nat.mod_lt _ (by omega)
  have NS := srcs_ok g bs (by omega)
  by_cases hx : bt bs 0 / 16 % 2 = 1
  · have ex : exBR bs = true := by simp [exBR, hx]
    have e1 : at1 bs = at0 bs + 4 + 4 * wordsN bs := by simp [at1, ex]
    rw [hx] at H
    rw [e1] at hy ⊢
    simp only [ex, true_and] at hy ⊢
    by_cases c5 : bs.length < at0 bs + 4
    · rw [if_pos c5]
      exact pkt_extno g w h H (srcs_len _ _) NS (fun wx hx => ext_short g _ wx hx (by rw [List.length_drop]; omega))
    rw [if_neg c5] at hy ⊢
    by_cases c6 : bs.length < at0 bs + 4 + 4 * wordsN bs
    · rw [if_pos c6]
      exact pkt_extno g w h H (srcs_len _ _) NS (fun wx hx => ext_short g _ wx hx (by rw [List.length_drop, wd_of]; omega))
    rw [if_neg c6] at hy ⊢
    by_cases c7 : 255 < wordsN bs
    · rw [if_pos c7]
      exact pkt_extno g w h H (srcs_len _ _) NS (fun wx hx => ext_long g _ wx hx (by rw [List.length_drop, wd_of]; omega) (by rw [wd_of]; omega))
    rw [if_neg c7] at hy ⊢
    have NE := exts_ok g bs (by omega) (by omega)
    have lpf : numb ((bs.drop (at0 bs)).take 2) < 65536 := by have := numb_take_lt (bs.drop (at0 bs)) 2; simpa using this
    have hX : ((bs.drop (at0 bs + 4)).take (4 * wordsN bs)).length = 4 * wordsN bs := by rw [List.length_take, List.length_drop]; omega
    by_cases c8 : pdB bs = true ∧ (at0 bs + 4 + 4 * wordsN bs = bs.length ∨ bt bs (bs.length - 1) = 0 ∨ bs.length - (at0 bs + 4 + 4 * wordsN bs) < bt bs (bs.length - 1))
    · rw [if_pos c8]
      have hp : bt bs 0 / 32 % 2 = 1 := by have := c8.1; simpa [pdB] using this
      rw [hp] at H
      exact pkt_padno1 g w h H (srcs_len _ _) NS lpf hX NE (pads_no g bs _ (by omega) c8.2)
    · rw [if_neg c8] at hy
      exact absurd rfl hy
  · have hx0 : bt bs 0 / 16 % 2 = 0 := by omega
    have ex : exBR bs = false := by simp [exBR, hx0]
    have e1 : at1 bs = at0 bs := by simp [at1, ex]
    rw [hx0] at H
    rw [e1] at hy ⊢
    simp only [ex, Bool.false_eq_true, false_and, if_false] at hy ⊢
    by_cases c8 : pdB bs = true ∧ (at0 bs = bs.length ∨ bt bs (bs.length - 1) = 0 ∨ bs.length - at0 bs < bt bs (bs.length - 1))
    · rw [if_pos c8]
      have hp : bt bs 0 / 32 % 2 = 1 := by have := c8.1; simpa [pdB] using this
      rw [hp] at H
      exact pkt_padno0 g w h H (srcs_len _ _) NS (pads_no g bs _ (by omega) c8.2)
    · rw [if_neg c8] at hy
      exact absurd rfl hy
end Go.Proofs.YtmkeioeodlidgaaDoor
