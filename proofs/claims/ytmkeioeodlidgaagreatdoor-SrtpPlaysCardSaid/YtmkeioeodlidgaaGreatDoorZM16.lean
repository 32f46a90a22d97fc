/- Several texts in one: plain words and walks. No statement is proved here. -/
import Derived.Test.YtmkeioeodlidgaaGreatDoorZM1
import Derived.Recover
import Derived.Tactics2
import Derived.Test.YtmkeioeodlidgaaGreatDoorZRtp5
import Derived.Laws.ResultCell
import Derived.BigQuiet
namespace Go.Proofs.YtmkeioeodlidgaaGreatDoor
open List renaming getElem_toArray → xgT, getElem_cons_succ → xgS, getElem_cons_zero → xgZ, setIfInBounds_toArray → xsT, set_cons_succ → xsS, set_cons_zero → xsZ
open Go.RowKit
set_option linter.unusedVariables false

theorem assert_ref (c : Int) (w : World) : (Instr.typeAssert (.iface 121 (.agg #[.int .i64 c])) 20 121 true).run Tryz.prog w = .ok (.tuple #[.agg #[.int .i64 c], .bool true]) w := by
 first | kernel_rfl | rfl

theorem wpS_tailR {P : Program} {fn : Func} {c₀ c₁ : Frame} {cs : List Frame} {u : FrameMode} {R : Ending → FrameMode → World → Prop} {R0 : Ending → World → Prop} {c : Code} {a : Act} {w : World}
 (h : c.wp P (bodyPost P fn R0) a w) (hc : c₁ = { c₀ with mode := u }) (hr : ∀ e w', R0 e w' → R e u w') : c.wpS P (bodyPostS P fn c₀ cs R) a (c₁ :: cs) w := by
 subst hc
 refine wpS_of_wp (Code.wp_mono ?_ h)
 intro e a' w' hq
 cases e with
 | normal => obtain ⟨hd, v, h1, h2⟩ := hq; exact ⟨hd, u, rfl, v, h1, hr _ _ h2⟩
 | ret => obtain ⟨hd, v, h1, h2⟩ := hq; exact ⟨hd, u, rfl, v, h1, hr _ _ h2⟩
 | panic chain => obtain ⟨hd, h2⟩ := hq; exact ⟨hd, u, rfl, hr _ _ h2⟩
 | outgrown => exact ⟨u, hr _ _ hq⟩
 | exit id => exact hq.elim
 | goto l => exact hq.elim

set_option maxRecDepth 100000 in
theorem catch_idleR (g h : Nat) (w : World) :
 CallsD Tryz.prog 64 #[.pointer (some ⟨g, 0, none⟩), .pointer (some ⟨h, 0, none⟩)] .returning w fun e u' w' => e = .returned (.tuple #[]) ∧ u' = .returning ∧ w' = w := by
 refine callsD_of_wpS Tryz.func64 rfl fun c₀ cs hu => ?_
 simp only [Tryz.ntmps64, List.size_toArray, List.length_cons, List.length_nil, Nat.reduceAdd, Nat.reduceSub, Array.replicate_succ, Array.replicate_zero, List.push_toArray, List.append_toArray, List.nil_append, List.cons_append]
 apply wpS_seq
 apply wpS_region
 simp [wpOpsS, go_sem, recoverD, hu, Exit.thenS]
 refine wpS_tailR (R0 := fun e w' => e = .returned (.tuple #[]) ∧ w = w') (u := .returning) ?_ (by rw [← hu]) (fun e w' hh => ⟨hh.1, rfl, hh.2.symm⟩)
 go_wp2
 exact bodyPost_ret (results_none rfl _ _ _) rfl ⟨rfl, rfl⟩

set_option maxRecDepth 100000 in
set_option maxHeartbeats 1000000 in
theorem catch_panicking (c : Int) (g h : Nat) (cs1 : List Value) (y : Int) (older : List PanicEntry) (w : World) (hg : BlkV w g 37 cs1) (hl : cs1.length = 11) (hh : BlkV w h 41 [.int .i64 y]) (hne : g ≠ h) :
 CallsD Tryz.prog 64 #[.pointer (some ⟨g, 0, none⟩), .pointer (some ⟨h, 0, none⟩)] (.panicking ({ v := .iface 121 (.agg #[.int .i64 c]), recovered := false } :: older)) w fun e u' w' =>
  e = .returned (.tuple #[]) ∧ u' = .panicking ({ v := .iface 121 (.agg #[.int .i64 c]), recovered := true } :: older) ∧ BlkV w' g 37 zeroC ∧ BlkV w' h 41 [.int .i64 c] ∧ Below (min g h) w w' := by
 refine callsD_of_wpS Tryz.func64 rfl fun c₀ cs hu => ?_
 have hz := zero28
 have ha := assert_ref c
 simp only [Tryz.ntmps64, List.size_toArray, List.length_cons, List.length_nil, Nat.reduceAdd, Nat.reduceSub, Array.replicate_succ, Array.replicate_zero, List.push_toArray, List.append_toArray, List.nil_append, List.cons_append]
 apply wpS_seq
 apply wpS_region
 simp [wpOpsS, go_sem, recoverD, hu, Exit.thenS]
 refine wpS_tailR (R0 := fun e w' => e = .returned (.tuple #[]) ∧ BlkV w' g 37 zeroC ∧ BlkV w' h 41 [.int .i64 c] ∧ Below (min g h) w w') (u := .panicking ({ v := .iface 121 (.agg #[.int .i64 c]), recovered := true } :: older)) ?_ rfl (fun e w' hh => ⟨hh.1, rfl, hh.2.1, hh.2.2.1, hh.2.2.2⟩)
 go_wp2
 have b1 : Below w.heap.size w (w.alloc (.cells #[.int .i64 c] 121)) := (Below.refl _ _).alloc (Nat.le_refl _) _
 have b2 : Below (min g h) w (w.alloc (.cells #[.int .i64 c] 121)).drew := (b1.mono (by have := hg.lt; omega)).drew
 have hg1 := hg.below b1 hg.lt
 have hh1 := hh.below b1 hh.lt
 have hc1 : (w.alloc (.cells #[.int .i64 c] 121)).cell? ⟨w.heap.size, 0, none⟩ = some (.int .i64 c) := ((BlkV.new w 121 [.int .i64 c]).cell 0).trans rfl
 have hne2 := hg.lt
 have hne3 := hh.lt
 have hr1 := BlkV.new w 121 [.int .i64 c]
 change BlkV (w.alloc (.cells #[.int .i64 c] 121)) w.heap.size _ _ at hr1
 obtain ⟨r, hr⟩ : ∃ r, r = w.heap.size := ⟨_, rfl⟩
 rw [← hr] at hc1 hr1 hne2 hne3
 simp only [← hr]
 generalize (w.alloc (.cells #[.int .i64 c] 121)) = w1 at hg1 hh1 hc1 hr1 b2
 clear hr b1 hg hh hu
 refine wp_region_any (by kernel_rfl) ?_
 change wpAny _ _ _ _ _ _ _ (World.drew _)
 have hg2 : BlkV w1.drew g 37 cs1 := hg1
 have hh2 : BlkV w1.drew h 41 [.int .i64 y] := hh1
 have hc2 : w1.drew.cell? ⟨r, 0, none⟩ = some (.int .i64 c) := hc1
 have hcr : BlkV w1.drew r 121 [.int .i64 c] := hr1
 refine wpAny_take (i := 0) (v := ?_) rfl (by kernel_rfl) (by kernel_rfl) (by kernel_rfl) (fun _ _ _ h => h) (Or.inl ⟨by rfl, ?_⟩) ?_
 case refine_2 => (intro wz; go_simp; with_reducible rfl)
 simp only [Act.put, xgT, xgZ, xsT, xsS, xsZ]
 refine wpAny_take (i := 1) (v := ?_) rfl (by kernel_rfl) (by kernel_rfl) (by kernel_rfl) (fun _ _ _ h => h) (Or.inl ⟨by rfl, ?_⟩) ?_
 case refine_2 => (intro wz; go_simp; with_reducible rfl)
 simp only [Act.put, xgT, xgS, xgZ, xsT, xsS, xsZ]
 refine any_two (i := 2) (j := 3) (by kernel_rfl) rfl rfl rfl rfl (fun K hK => ?_) (fun K hK => ?_)
 · simp only [xgT, xgS, xgZ]
   go_simp
   refine hK _ _ ?_
   clear hK K
   refine any_one (i := 3) (by kernel_rfl) rfl rfl (fun K hK => ?_)
   simp only [xgT, xgS, xgZ]
   refine wp_st 37 (.tmp 0) (.tmp 16) rfl g 0 zeroC (by rfl) (by rfl) 37 cs1 hg2 (by rw [hl]; exact Nat.le_refl 11) (row11 rfl) (rtpC_one _ _ _ _ _ _ _ _ _ _ _ _ _ _ _ _ _) ?_
   intro w2 hB2 ho2
   rw [splice_all _ _ (by rw [hl]; rfl)] at hB2
   have hh3 : BlkV w2 h 41 [.int .i64 y] := hh2.only ho2 (fun e => hne e.symm)
   have hc3 : w2.cell? ⟨r, 0, none⟩ = some (.int .i64 c) := ((hcr.only ho2 (fun e => by omega)).cell 0).trans rfl
   refine hK _ _ ?_
   clear hK K
   refine any_one (i := 4) (by kernel_rfl) rfl rfl (fun K hK => ?_)
   simp only [xgT, xgS, xgZ]
   have hcy : w2.cell? ⟨h, 0, none⟩ = some (.int .i64 y) := (hh3.cell 0).trans rfl
   have hcf := hh3.frozen 0
   go_simp
   refine hK _ _ ?_
   clear hK K
   refine wpAny_done (by kernel_rfl) ?_ _
   have e1 : BlkV (w2.setCell ⟨h, 0, none⟩ (.int .i64 c)) g 37 zeroC := hB2.far hne _
   have e2 : BlkV (w2.setCell ⟨h, 0, none⟩ (.int .i64 c)) h 41 [.int .i64 c] := hh3.set_ 0 _
   exact bodyPost_end (results_none rfl _ _ _) rfl ⟨rfl, e1, e2, (b2.trans (ho2.below (Nat.min_le_left g h))).setCell (Nat.min_le_right g h) _⟩
 · simp only [xgT, xgS, xgZ]
   refine wp_st 37 (.tmp 0) (.tmp 16) rfl g 0 zeroC (by rfl) (by rfl) 37 cs1 hg2 (by rw [hl]; exact Nat.le_refl 11) (row11 rfl) (rtpC_one _ _ _ _ _ _ _ _ _ _ _ _ _ _ _ _ _) ?_
   intro w2 hB2 ho2
   rw [splice_all _ _ (by rw [hl]; rfl)] at hB2
   have hh3 : BlkV w2 h 41 [.int .i64 y] := hh2.only ho2 (fun e => hne e.symm)
   have hc3 : w2.cell? ⟨r, 0, none⟩ = some (.int .i64 c) := ((hcr.only ho2 (fun e => by omega)).cell 0).trans rfl
   refine hK _ _ ?_
   clear hK K
   refine any_one (i := 2) (by kernel_rfl) rfl rfl (fun K hK => ?_)
   simp only [xgT, xgS, xgZ]
   go_simp
   refine hK _ _ ?_
   clear hK K
   refine any_one (i := 4) (by kernel_rfl) rfl rfl (fun K hK => ?_)
   simp only [xgT, xgS, xgZ]
   have hcy : w2.cell? ⟨h, 0, none⟩ = some (.int .i64 y) := (hh3.cell 0).trans rfl
   have hcf := hh3.frozen 0
   go_simp
   refine hK _ _ ?_
   clear hK K
   refine wpAny_done (by kernel_rfl) ?_ _
   have e1 : BlkV (w2.setCell ⟨h, 0, none⟩ (.int .i64 c)) g 37 zeroC := hB2.far hne _
   have e2 : BlkV (w2.setCell ⟨h, 0, none⟩ (.int .i64 c)) h 41 [.int .i64 c] := hh3.set_ 0 _
   exact bodyPost_end (results_none rfl _ _ _) rfl ⟨rfl, e1, e2, (b2.trans (ho2.below (Nat.min_le_left g h))).setCell (Nat.min_le_right g h) _⟩
theorem nat_eq1 (n : Nat) : ((n : Int) / 128 == 1) = (n / 128 == 1) := by
 rw [Bool.eq_iff_iff]
 simp
 omega

theorem head_of (g : Nat) (bs : List UInt8) (h12 : 12 ≤ bs.length ∧ bs.length ≤ 1200) (hv : bt bs 0 / 64 = 2) :
 Head g bs (bs.drop 1) (bs.drop 2) (bs.drop 4) (bs.drop 8) (bs.drop 12) (bt bs 0) (bt bs 1) (bt bs 1 % 128) (sqN bs) (stN bs) (soN bs) (othN bs) (bt bs 0 / 16 % 2) (bt bs 0 / 32 % 2) (bt bs 1 / 128 == 1) where
 n1 := fun wx hx => by
  have := number_okR g 1 1 rfl bs wx hx (by omega) (by omega) (by omega)
  have e := numb_one bs 0 (by omega)
  rw [List.drop_zero] at e
  rw [e] at this
  exact this
 n2 := fun wx hx => by
  have := number_okR g 1 1 rfl (bs.drop 1) wx hx (by omega) (by omega) (by rw [List.length_drop]; omega)
  rw [List.drop_drop, numb_one bs 1 (by omega)] at this
  exact this
 n3 := fun wx hx => by
  have := number_okR g 2 2 rfl (bs.drop 2) wx hx (by omega) (by omega) (by rw [List.length_drop]; omega)
  rw [List.drop_drop] at this
  exact this
 n4 := fun wx hx => by
  have := number_okR g 4 4 rfl (bs.drop 4) wx hx (by omega) (by omega) (by rw [List.length_drop]; omega)
  rw [List.drop_drop] at this
  exact this
 n5 := fun wx hx => by
  have := number_okR g 4 4 rfl (bs.drop 8) wx hx (by omega) (by omega) (by rw [List.length_drop]; omega)
  rw [List.drop_drop] at this
  exact this
 a1 := and_u64 _ 7 (by have := bt_lt bs 1; omega) (by omega) _ rfl
 a2 := and_u64 _ 4 (by have := bt_lt bs 0; omega) (by omega) _ rfl
 a3 := and_u64 (bt bs 0 / 16) 1 (by have := bt_lt bs 0; omega) (by omega) _ rfl
 a4 := and_u64 (bt bs 0 / 32) 1 (by have := bt_lt bs 0; omega) (by omega) _ rfl
 mq := nat_eq1 _
 v2 := by simp; omega
 l0 := bt_lt bs 0
 l1 := bt_lt bs 1
 lt := Nat.mod_lt _ (by omega)
 l2 := sqN_lt bs
 l3 := stN_lt bs
 l4 := soN_lt bs
 l5 := Nat.mod_lt _ (by omega)
 ln := h12

theorem srcs_ok (g : Nat) (bs : List UInt8) (ho : at0 bs ≤ bs.length) : ∀ wx, RdrR wx g (bs.drop 12) → Calls Tryz.prog 88 #[.pointer (some ⟨g, 0, none⟩), .int .i64 (othN bs : Int)] wx fun e w' => ∃ A c, e = .returned (.slice A (othN bs) c) ∧ w'.ownsRow wx.heap.size 33 1 (.slice A (othN bs) c) (othN bs) (ucells (srcs (bs.drop 12) (othN bs))) ∧ RdrR w' g (bs.drop (at0 bs)) ∧ wx.grownBy w' (some g) := fun wx hx =>
 (sources_any g (othN bs) (othN bs) rfl (bs.drop 12) wx hx (by unfold othN; omega)).mono fun e w' hh => by
   unfold at0 at ho
   obtain ⟨hc, hg⟩ := hh
   rcases hc with ⟨_, A, c, he, how, hr⟩ | ⟨hc, _⟩
   · rw [List.drop_drop] at hr
     exact ⟨A, c, he, how, hr, hg⟩
   · rw [List.length_drop] at hc; omega
theorem srcs_no (g : Nat) (bs : List UInt8) (h12 : 12 ≤ bs.length) (ho : bs.length < at0 bs) : ∀ wx, RdrR wx g (bs.drop 12) → Calls Tryz.prog 88 #[.pointer (some ⟨g, 0, none⟩), .int .i64 (othN bs : Int)] wx fun e w' => e = .panicked (gone 2) ∧ wx.grownBy w' (some g) := fun wx hx =>
 (sources_any g (othN bs) (othN bs) rfl (bs.drop 12) wx hx (by unfold othN; omega)).mono fun e w' hh => by
   unfold at0 at ho
   obtain ⟨hc, hg⟩ := hh
   rcases hc with ⟨hc, _⟩ | ⟨_, he⟩
   · rw [List.length_drop] at hc; omega
   · exact ⟨he, hg⟩

theorem wd_of (bs : List UInt8) : wdN (bs.drop (at0 bs)) = wordsN bs := by rw [wdN, List.drop_drop]; rfl
theorem words_lt (bs : List UInt8) : wordsN bs < 65536 := by rw [← wd_of]; exact wdN_lt _
theorem exts_ok (g : Nat) (bs : List UInt8) (h1 : at0 bs + 4 + 4 * wordsN bs ≤ bs.length) (hw : wordsN bs ≤ 255) : ∀ wx, RdrR wx g (bs.drop (at0 bs)) → Calls Tryz.prog 89 #[.pointer (some ⟨g, 0, none⟩)] wx fun e w' => ∃ A c, e = .returned (.tuple #[.int .u16 (numb ((bs.drop (at0 bs)).take 2) : Nat), .slice A (4 * wordsN bs) c]) ∧ w'.ownsRow wx.heap.size 5 1 (.slice A (4 * wordsN bs) c) (4 * wordsN bs) (cells ((bs.drop (at0 bs + 4)).take (4 * wordsN bs))) ∧ RdrR w' g (bs.drop (at0 bs + 4 + 4 * wordsN bs)) ∧ wx.grownBy w' (some g) := fun wx hx => by
 have := ext_ok g (bs.drop (at0 bs)) wx hx (by rw [wd_of, List.length_drop]; omega) (by rw [wd_of]; omega)
 rw [wd_of, List.drop_drop, List.drop_drop, ← Nat.add_assoc] at this
 exact this

theorem last_of (bs : List UInt8) (k : Nat) (h : k < bs.length) : ((bs.drop k).getD ((bs.drop k).length - 1) 0).toNat = bt bs (bs.length - 1) := by
 rw [List.length_drop]
 simp only [bt, List.getD, List.getElem?_drop]
 congr 3
 omega
theorem pads_ok (g : Nat) (bs : List UInt8) (k : Nat) (h0 : k ≤ bs.length) (h1 : 1 ≤ bt bs (bs.length - 1)) (h2 : bt bs (bs.length - 1) ≤ bs.length - k) : ∀ wx, RdrR wx g (bs.drop k) → Calls Tryz.prog 90 #[.pointer (some ⟨g, 0, none⟩)] wx fun e w' => e = .returned (.int .u8 (bt bs (bs.length - 1) : Nat)) ∧ RdrR w' g ((bs.drop k).take (bs.length - k - bt bs (bs.length - 1))) ∧ Only g wx w' := fun wx hx => by
 have := padding_ok g (bs.drop k) (bt bs (bs.length - 1)) wx hx (last_of bs k (by omega)).symm h1 (by rw [List.length_drop]; omega)
 rw [List.length_drop] at this
 exact this
theorem pads_no (g : Nat) (bs : List UInt8) (k : Nat) (h0 : k ≤ bs.length) (h1 : k = bs.length ∨ bt bs (bs.length - 1) = 0 ∨ bs.length - k < bt bs (bs.length - 1)) : ∀ wx, RdrR wx g (bs.drop k) → Calls Tryz.prog 90 #[.pointer (some ⟨g, 0, none⟩)] wx fun e w' => e = .panicked (gone 3) ∧ wx = w' := fun wx hx => by
 refine padding_no g (bs.drop k) _ wx hx rfl ?_
 rcases Nat.lt_or_ge k bs.length with hlt | hge
 · rw [last_of bs k hlt, List.length_drop]
   rcases h1 with h1 | h1
   · omega
   · exact .inr h1
 · exact .inl (by rw [List.length_drop]; omega)

theorem pk_of {w w' : World} {g : Nat} {mk : Bool} {ty sq st so : Nat} {U : List Nat} {x : Bool} {pf : Nat} {X Y : List UInt8} {pd : Nat} {e : Ending} (h : PkRes w g mk ty sq st so U x pf X Y pd e w') (p : Pkt) (hp : p = ⟨mk, ty, sq, st, so, U, x, pf, X, Y, pd⟩) :
 ∃ cs, e = .returned (.agg cs.toArray) ∧ PkOwn w' w.heap.size cs p ∧ w.grownBy w' (some g) := by
 obtain ⟨A, a, B, b, D, d, he, h1, h2, h3, hg⟩ := h
 subst hp
 exact ⟨_, he, ⟨A, a, B, b, D, d, rfl, h1, h2, h3⟩, hg⟩

theorem packet_ok (g : Nat) (bs : List UInt8) (w : World) (h : RdrR w g bs) (hy : whyR bs = 0) :
 Calls Tryz.prog 66 #[.pointer (some ⟨g, 0, none⟩)] w fun e w' => ∃ cs, e = .returned (.agg cs.toArray) ∧ PkOwn w' w.heap.size cs (pktR bs) ∧ w.grownBy w' (some g) := by
 unfold whyR at hy
 by_cases c1 : 1200 < bs.length
 · simp [c1] at hy
 by_cases c2 : bs.length < 12
 · simp [c1, c2] at hy
 by_cases c3 : bt bs 0 / 64 ≠ 2
 · simp [c1, c2, c3] at hy
 by_cases c4 : bs.length < at0 bs
 · simp [c1, c2, c3, c4] at hy
 rw [if_neg c1, if_neg c2, if_neg c3, if_neg c4] at hy
 have c3' : bt bs 0 / 64 = 2 := by omega
 have H := head_of g bs ⟨by omega, by omega⟩ c3'
 have hxl : bt bs 0 / 16 % 2 < 2 := Nat.mod_lt _ (by omega)
 have hpl : bt bs 0 / 32 % 2 < 2 := Nat.mod_lt _ (by omega)
 have NS := srcs_ok g bs (by omega)
 by_cases hx : bt bs 0 / 16 % 2 = 1
 · have ex : exBR bs = true := by simp [exBR, hx]
   have e1 : at1 bs = at0 bs + 4 + 4 * wordsN bs := by simp [at1, ex]
   rw [hx] at H
   rw [e1] at hy
   by_cases c5 : bs.length < at0 bs + 4
   · simp [ex, c5] at hy
   by_cases c6 : bs.length < at0 bs + 4 + 4 * wordsN bs
   · simp [ex, c5, c6] at hy
   by_cases c7 : 255 < wordsN bs
   · simp [ex, c5, c6, c7] at hy
   have NE := exts_ok g bs (by omega) (by omega)
   have lpf : numb ((bs.drop (at0 bs)).take 2) < 65536 := by have := numb_take_lt (bs.drop (at0 bs)) 2; simpa using this
   have hX : ((bs.drop (at0 bs + 4)).take (4 * wordsN bs)).length = 4 * wordsN bs := by rw [List.length_take, List.length_drop]; omega
   by_cases hp : bt bs 0 / 32 % 2 = 1
   · have ep : pdB bs = true := by simp [pdB, hp]
     rw [hp] at H
     simp only [ex, ep, c5, c6, c7, and_false, if_false, true_and] at hy
     have hq : ¬ (at0 bs + 4 + 4 * wordsN bs = bs.length ∨ bt bs (bs.length - 1) = 0 ∨ bs.length - (at0 bs + 4 + 4 * wordsN bs) < bt bs (bs.length - 1)) := fun hq => by simp [hq] at hy
     refine (pkt_ok11 g w h H (srcs_len _ _) NS lpf hX NE (bt_lt bs _) (pads_ok g bs _ (by omega) (by omega) (by omega)) (by rw [List.length_take]; omega)).mono fun e w' hh => pk_of hh _ ?_
     simp [pktR, ex, ep, e1, padN]
   · have hp0 : bt bs 0 / 32 % 2 = 0 := by omega
     have ep : pdB bs = false := by simp [pdB, hp0]
     rw [hp0] at H
     refine (pkt_ok10 g w h H (srcs_len _ _) NS lpf hX NE (by rw [List.length_drop]; omega)).mono fun e w' hh => pk_of hh _ ?_
     have : (bs.drop (at0 bs + 4 + 4 * wordsN bs)).take (bs.length - (at0 bs + 4 + 4 * wordsN bs)) = bs.drop (at0 bs + 4 + 4 * wordsN bs) := List.take_of_length_le (by rw [List.length_drop]; omega)
     simp [pktR, ex, ep, e1, padN, this]
 · have hx0 : bt bs 0 / 16 % 2 = 0 := by omega
   have ex : exBR bs = false := by simp [exBR, hx0]
   have e1 : at1 bs = at0 bs := by simp [at1, ex]
   rw [hx0] at H
   rw [e1] at hy
   by_cases hp : bt bs 0 / 32 % 2 = 1
   · have ep : pdB bs = true := by simp [pdB, hp]
     rw [hp] at H
     simp only [ex, ep, Bool.false_eq_true, false_and, if_false, true_and] at hy
     have hq : ¬ (at0 bs = bs.length ∨ bt bs (bs.length - 1) = 0 ∨ bs.length - at0 bs < bt bs (bs.length - 1)) := fun hq => by simp [hq] at hy
     refine (pkt_ok01 g w h H (srcs_len _ _) NS (bt_lt bs _) (pads_ok g bs _ (by omega) (by omega) (by omega)) (by rw [List.length_take]; omega)).mono fun e w' hh => pk_of hh _ ?_
     simp [pktR, ex, ep, e1, padN]
   · have hp0 : bt bs 0 / 32 % 2 = 0 := by omega
     have ep : pdB bs = false := by simp [pdB, hp0]
     rw [hp0] at H
     refine (pkt_ok00 g w h H (srcs_len _ _) NS (by rw [List.length_drop]; omega)).mono fun e w' hh => pk_of hh _ ?_
     have : (bs.drop (at0 bs)).take (bs.length - at0 bs) = bs.drop (at0 bs) := List.take_of_length_le (by rw [List.length_drop]; omega)
     simp [pktR, ex, ep, e1, padN, this]

theorem packet_no (g : Nat) (bs : List UInt8) (w : World) (h : RdrR w g bs) (c1 : ¬ 1200 < bs.length) (hy : whyR bs ≠ 0) :
 Calls Tryz.prog 66 #[.pointer (some ⟨g, 0, none⟩)] w fun e w' => e = .panicked (gone (whyR bs)) ∧ w.grownBy w' (some g) := by
 unfold whyR at hy ⊢
 rw [if_neg c1] at hy ⊢
 by_cases c2 : bs.length < 12
 · rw [if_pos c2]
   exact pkt_short g w h c2
 rw [if_neg c2] at hy ⊢
 by_cases c3 : bt bs 0 / 64 ≠ 2
 · rw [if_pos c3]
   refine pkt_bits g w h ⟨by omega, by omega⟩ (b0 := bt bs 0) (S1 := bs.drop 1) (fun wx hx => ?_) (bt_lt _ _) (by simp; omega)
   have := number_okR g 1 1 rfl bs wx hx (by omega) (by omega) (by omega)
   have e := numb_one bs 0 (by omega)
   rw [List.drop_zero] at e
   rw [e] at this
   exact this
 have c3' : bt bs 0 / 64 = 2 := by omega
 have H := head_of g bs ⟨by omega, by omega⟩ c3'
 rw [if_neg c3] at hy ⊢
 by_cases c4 : bs.length < at0 bs
 · rw [if_pos c4]
   exact pkt_lack g w h H (srcs_no g bs (by omega) c4)
 rw [if_neg c4] at hy ⊢
 have hxl : bt bs 0 / 16 % 2 < 2 := Nat.mod_lt _ (by omega)
 have hpl : bt bs 0 / 32 % 2 < 2 := Nat.mod_lt _ (by omega)
 have NS := srcs_ok g bs (by omega)
 by_cases hx : bt bs 0 / 16 % 2 = 1
 · have ex : exBR bs = true := by simp [exBR, hx]
   have e1 : at1 bs = at0 bs + 4 + 4 * wordsN bs := by simp [at1, ex]
   rw [hx] at H
   rw [e1] at hy ⊢
   simp only [ex, true_and] at hy ⊢
   by_cases c5 : bs.length < at0 bs + 4
   · rw [if_pos c5]
     exact pkt_extno g w h H (srcs_len _ _) NS (fun wx hx => ext_short g _ wx hx (by rw [List.length_drop]; omega))
   rw [if_neg c5] at hy ⊢
   by_cases c6 : bs.length < at0 bs + 4 + 4 * wordsN bs
   · rw [if_pos c6]
     exact pkt_extno g w h H (srcs_len _ _) NS (fun wx hx => ext_short g _ wx hx (by rw [List.length_drop, wd_of]; omega))
   rw [if_neg c6] at hy ⊢
   by_cases c7 : 255 < wordsN bs
   · rw [if_pos c7]
     exact pkt_extno g w h H (srcs_len _ _) NS (fun wx hx => ext_long g _ wx hx (by rw [List.length_drop, wd_of]; omega) (by rw [wd_of]; omega))
   rw [if_neg c7] at hy ⊢
   have NE := exts_ok g bs (by omega) (by omega)
   have lpf : numb ((bs.drop (at0 bs)).take 2) < 65536 := by have := numb_take_lt (bs.drop (at0 bs)) 2; simpa using this
   have hX : ((bs.drop (at0 bs + 4)).take (4 * wordsN bs)).length = 4 * wordsN bs := by rw [List.length_take, List.length_drop]; omega
   by_cases c8 : pdB bs = true ∧ (at0 bs + 4 + 4 * wordsN bs = bs.length ∨ bt bs (bs.length - 1) = 0 ∨ bs.length - (at0 bs + 4 + 4 * wordsN bs) < bt bs (bs.length - 1))
   · rw [if_pos c8]
     have hp : bt bs 0 / 32 % 2 = 1 := by have := c8.1; simpa [pdB] using this
     rw [hp] at H
     exact pkt_padno1 g w h H (srcs_len _ _) NS lpf hX NE (pads_no g bs _ (by omega) c8.2)
   · rw [if_neg c8] at hy
     exact absurd rfl hy
 · have hx0 : bt bs 0 / 16 % 2 = 0 := by omega
   have ex : exBR bs = false := by simp [exBR, hx0]
   have e1 : at1 bs = at0 bs := by simp [at1, ex]
   rw [hx0] at H
   rw [e1] at hy ⊢
   simp only [ex, Bool.false_eq_true, false_and, if_false] at hy ⊢
   by_cases c8 : pdB bs = true ∧ (at0 bs = bs.length ∨ bt bs (bs.length - 1) = 0 ∨ bs.length - at0 bs < bt bs (bs.length - 1))
   · rw [if_pos c8]
     have hp : bt bs 0 / 32 % 2 = 1 := by have := c8.1; simpa [pdB] using this
     rw [hp] at H
     exact pkt_padno0 g w h H (srcs_len _ _) NS (pads_no g bs _ (by omega) c8.2)
   · rw [if_neg c8] at hy
     exact absurd rfl hy
theorem read_resultsR (tmps : Array Value) (w : World) (g h : Nat) (cs : List Value) (y : Int) (hp : tmps.getD 2 undef = .pointer (some ⟨g, 0, none⟩)) (hq : tmps.getD 3 undef = .pointer (some ⟨h, 0, none⟩)) (hg : BlkV w g 37 cs) (hl : cs.length = 11) (hh : BlkV w h 41 [.int .i64 y]) :
 (results Tryz.f33 tmps).run Tryz.prog w = .ok (.tuple #[.agg cs.toArray, .int .i64 y]) w := by
 have hp' : tmps[2]?.getD undef = .pointer (some ⟨g, 0, none⟩) := by simpa using hp
 have hq' : tmps[3]?.getD undef = .pointer (some ⟨h, 0, none⟩) := by simpa using hq
 have hc : w.cell? ⟨h, 0, none⟩ = some (.int .i64 y) := (hh.cell 0).trans rfl
 obtain ⟨d, h1, h2, h3⟩ := row11 hl
 have hld := run_loadVar_row (P := Tryz.prog) w g 37 37 cs.toArray (0, 0) d hg h1 (by cases d <;> simp_all) (by simpa using h3)
 have hle : (loadVar 41 ⟨h, 0, none⟩).run Tryz.prog w = .ok (.int .i64 y) w := by simp [go_sem, hc]
 simp [results, Tryz.results33, hp', hq', asAddr, hld, hle]

theorem read_caught (c : Int) (cs1 : List Value) (y : Int) (tmps : Array Value) (g h : Nat) (W : World) (R : Ending → World → Prop) (hp : tmps.getD 2 undef = .pointer (some ⟨g, 0, none⟩)) (hq : tmps.getD 3 undef = .pointer (some ⟨h, 0, none⟩))
 (hg : BlkV W g 37 cs1) (hl : cs1.length = 11) (hh : BlkV W h 41 [.int .i64 y]) (hne : g ≠ h)
 (hR : ∀ w', Below (min g h) W w' → R (.returned (.tuple #[.agg zeroC.toArray, .int .i64 c])) w') :
 bodyPostD Tryz.prog Tryz.f33 R (.panic (gone c)) { tmps := tmps, defers := [{ target := .fn (.func 64) #[.pointer (some ⟨g, 0, none⟩), .pointer (some ⟨h, 0, none⟩)], args := #[] }] } W := by
 refine leaves_cons (f := 64) (args := #[.pointer (some ⟨g, 0, none⟩), .pointer (some ⟨h, 0, none⟩)]) (by simp [gone]) (by simp [go_sem]) ?_
 refine (catch_panicking c g h cs1 y [] W hg hl hh hne).mono ?_
 rintro e u' w'' ⟨rfl, rfl, h1, h2, hb⟩
 exact ⟨_, read_resultsR tmps w'' g h zeroC c hp hq h1 rfl h2, hR _ hb⟩
theorem read_throughR (cs1 : List Value) (y : Int) (tmps : Array Value) (g h : Nat) (W : World) (R : Ending → World → Prop) (hp : tmps.getD 2 undef = .pointer (some ⟨g, 0, none⟩)) (hq : tmps.getD 3 undef = .pointer (some ⟨h, 0, none⟩))
 (hg : BlkV W g 37 cs1) (hl : cs1.length = 11) (hh : BlkV W h 41 [.int .i64 y])
 (hR : R (.returned (.tuple #[.agg cs1.toArray, .int .i64 y])) W) :
 bodyPostD Tryz.prog Tryz.f33 R .ret { tmps := tmps, defers := [{ target := .fn (.func 64) #[.pointer (some ⟨g, 0, none⟩), .pointer (some ⟨h, 0, none⟩)], args := #[] }] } W := by
 refine leaves_cons (f := 64) (args := #[.pointer (some ⟨g, 0, none⟩), .pointer (some ⟨h, 0, none⟩)]) (by simp) (by simp [go_sem]) ?_
 refine (catch_idleR g h W).mono ?_
 rintro e u' w'' ⟨rfl, rfl, rfl⟩
 exact ⟨_, read_resultsR tmps w'' g h cs1 y hp hq hg hl hh, hR⟩

theorem read_boxesR (w : World) : Below w.heap.size w ((w.alloc (.cells zeroC.toArray 37)).alloc (.cells #[.int .i64 0] 41)) ∧ BlkV ((w.alloc (.cells zeroC.toArray 37)).alloc (.cells #[.int .i64 0] 41)) w.heap.size 37 zeroC ∧ BlkV ((w.alloc (.cells zeroC.toArray 37)).alloc (.cells #[.int .i64 0] 41)) (w.heap.size + 1) 41 [.int .i64 0] :=
 ⟨((Below.refl _ _).alloc (Nat.le_refl _) _).alloc (by simp) _, (BlkV.new _ _ _).alloc _, BlkV.new_at _ _ _ _ _ (by simp) rfl⟩

set_option maxRecDepth 100000 in
theorem read_long (A : Option Addr) (n c : Nat) (w : World) (hs : n ≤ 9223372036854775807) (hm : 1200 < n) :
 Calls Tryz.prog 33 #[.slice A n c] w fun e w' => e = .returned (.tuple #[.agg zeroC.toArray, .int .i64 3]) ∧ Below w.heap.size w w' := by
 have hmf : ∀ (fn : Fn) (first cap : Array Value) (w : World), (Instr.makeFunc fn first cap).run Tryz.prog w = .ok (.func fn first cap) w := fun _ _ _ _ => rfl
 have hz := zero28
 go_enter_defers Tryz.func33, Tryz.ntmps33
 go_wp2_with (first
  | (go_at_call 65; ((with_reducible refine (refuse_yes _ _ _ ?_).mono ?_); (first | rfl | assumption | (simp; omega)); rintro e w' ⟨rfl, rfl⟩)))
 obtain ⟨b, h1, h2⟩ := read_boxesR w
 exact read_caught 3 zeroC 0 _ _ _ _ _ rfl rfl h1 rfl h2 (by omega) (fun w' hb => ⟨rfl, b.trans (hb.mono (by omega))⟩)

abbrev readW (w : World) (A : Option Addr) (n c : Nat) : World := ((w.alloc (.cells zeroC.toArray 37)).alloc (.cells #[.int .i64 0] 41)).alloc (.cells #[.slice A n c] 125)
theorem read_rdr (w : World) (A : Option Addr) (n c : Nat) (bs : List UInt8) (hr : RdS w A n c bs) : RdrR (readW w A n c) (w.heap.size + 1 + 1) bs ∧ Below w.heap.size w (readW w A n c) ∧ BlkV (readW w A n c) w.heap.size 37 zeroC ∧ BlkV (readW w A n c) (w.heap.size + 1) 41 [.int .i64 0] := by
 obtain ⟨b, h1, h2⟩ := read_boxesR w
 have b2 : Below w.heap.size w (readW w A n c) := b.alloc b.size _
 exact ⟨⟨A, n, c, BlkV.new_at _ _ _ _ _ (by simp) rfl, hr.below b2, hr.lo (by omega)⟩, b2, h1.alloc _, h2.alloc _⟩
theorem PkOwn.mono {w : World} {b b2 : Nat} {cs : List Value} {p : Pkt} (h : PkOwn w b cs p) (hb : b2 ≤ b) : PkOwn w b2 cs p := by
 obtain ⟨A, a, B, b', D, d, e, h1, h2, h3⟩ := h
 exact ⟨A, a, B, b', D, d, e, own_mono h1 hb, own_mono h2 hb, own_mono h3 hb⟩
theorem PkOwn.only {w w' : World} {g b : Nat} {cs : List Value} {p : Pkt} (h : PkOwn w b cs p) (ho : Only g w w') (hb : g < b) : PkOwn w' b cs p := by
 obtain ⟨A, a, B, b', D, d, e, h1, h2, h3⟩ := h
 exact ⟨A, a, B, b', D, d, e, own_only h1 ho hb, own_only h2 ho hb, own_only h3 ho hb⟩
theorem own_belowR {w w' : World} {base n : Nat} {e : TypeId} {v : Value} {xs : List Value} (h : w.ownsRow base e 1 v n xs) (hb : Below w.heap.size w w') : w'.ownsRow base e 1 v n xs :=
 h.kept (grown_of_below hb none) (by rcases hq : v.ownBlock with _ | q <;> simp)
theorem PkOwn.below {w w' : World} {b : Nat} {cs : List Value} {p : Pkt} (h : PkOwn w b cs p) (hb : Below w.heap.size w w') : PkOwn w' b cs p := by
 obtain ⟨A, a, B, b', D, d, e, h1, h2, h3⟩ := h
 exact ⟨A, a, B, b', D, d, e, own_belowR h1 hb, own_belowR h2 hb, own_belowR h3 hb⟩
theorem PkOwn.len {w : World} {b : Nat} {cs : List Value} {p : Pkt} (h : PkOwn w b cs p) : cs.length = 11 := by
 obtain ⟨A, a, B, b', D, d, e, _⟩ := h
 subst e; rfl
theorem PkOwn.one {w : World} {b : Nat} {cs : List Value} {p : Pkt} (h : PkOwn w b cs p) : ∀ v ∈ cs, v.oneCell' = true := by
 obtain ⟨A, a, B, b', D, d, e, _⟩ := h
 subst e
 exact rtpC_one _ _ _ _ _ _ _ _ _ _ _ _ _ _ _ _ _

set_option maxRecDepth 100000 in
theorem read_no (A : Option Addr) (n c : Nat) (bs : List UInt8) (w : World) (hr : RdS w A n c bs) (hm : ¬ 1200 < n) (hy : whyR bs ≠ 0) :
 Calls Tryz.prog 33 #[.slice A n c] w fun e w' => e = .returned (.tuple #[.agg zeroC.toArray, .int .i64 (whyR bs)]) ∧ Below w.heap.size w w' := by
 have hmf : ∀ (fn : Fn) (first cap : Array Value) (w : World), (Instr.makeFunc fn first cap).run Tryz.prog w = .ok (.func fn first cap) w := fun _ _ _ _ => rfl
 have hz := zero28
 obtain ⟨hrd, b3, h1, h2⟩ := read_rdr w A n c bs hr
 have HP := Lib.hid (packet_no _ bs _ hrd (by rw [hr.len]; exact hm) hy)
 clear hrd hr hy
 go_enter_defers Tryz.func33, Tryz.ntmps33
 go_wp2_with (first
  | (go_at_call 65; ((with_reducible refine (refuse_noR _ _ _ ?_).mono ?_); (first | rfl | assumption | (simp; omega)); rintro e w' ⟨rfl, rfl⟩))
  | (go_at_call 66; ((with_reducible refine (Hid.out HP).mono ?_); rintro e w4 ⟨rfl, hg4⟩)))
 exact read_caught _ zeroC 0 _ _ _ _ _ rfl rfl (h1.grown hg4 (by intro e; injection e with e; omega)) rfl (h2.grown hg4 (by intro e; injection e with e; omega)) (by omega)
  (fun w' hb => ⟨rfl, (b3.trans (below_of_grown hg4 b3.size (fun k hk => by injection hk with hk; omega))).trans (hb.mono (by omega))⟩)

set_option maxRecDepth 100000 in
theorem read_okR (A : Option Addr) (n c : Nat) (bs : List UInt8) (w : World) (hr : RdS w A n c bs) (hm : ¬ 1200 < n) (hy : whyR bs = 0) :
 Calls Tryz.prog 33 #[.slice A n c] w fun e w' => ∃ cs, e = .returned (.tuple #[.agg cs.toArray, .int .i64 0]) ∧ PkOwn w' w.heap.size cs (pktR bs) ∧ Below w.heap.size w w' := by
 have hmf : ∀ (fn : Fn) (first cap : Array Value) (w : World), (Instr.makeFunc fn first cap).run Tryz.prog w = .ok (.func fn first cap) w := fun _ _ _ _ => rfl
 have hz := zero28
 obtain ⟨hrd, b3, h1, h2⟩ := read_rdr w A n c bs hr
 have HP := Lib.hid (packet_ok _ bs _ hrd hy)
 have HB3 := Lib.hid b3
 have H1 := Lib.hid h1
 have H2 := Lib.hid h2
 clear hrd hr hy b3 h1 h2
 have hsz : (readW w A n c).heap.size = w.heap.size + 3 := by simp [readW]
 have HSZ := Lib.hid hsz
 clear hsz
 go_enter_defers Tryz.func33, Tryz.ntmps33
 go_wp2_with (first
  | (go_at_call 65; ((with_reducible refine (refuse_noR _ _ _ ?_).mono ?_); (first | rfl | assumption | (simp; omega)); rintro e w' ⟨rfl, rfl⟩))
  | (go_at_call 66; ((with_reducible refine (Hid.out HP).mono ?_); rintro e w4 ⟨cs, rfl, hpk, hg4⟩; have HPK := Lib.hid hpk; have hfit : Hid (0 + cs.length ≤ zeroC.length) := Lib.hid (by rw [hpk.len]; exact Nat.le_refl 11); have HG4 := Lib.hid hg4; have k1 := Lib.hid (H1.out.grown hg4 (by intro e; injection e with e; omega)); have k2 := Lib.hid (H2.out.grown hg4 (by intro e; injection e with e; omega)); clear hpk hg4))
  | ((with_reducible refine wpList_st rfl 37 (.tmp 2) (.tmp 12) rfl w.heap.size 0 cs rfl rfl 37 zeroC k1.out hfit.out (row11 HPK.out.len) HPK.out.one ?_); intro w5 hB5 ho5; rw [splice_all _ _ (by rw [HPK.out.len]; rfl)] at hB5; have k3 := k2.out.only ho5 (by omega); have hc5 : w5.cell? ⟨w.heap.size + 1, 0, none⟩ = some (.int .i64 0) := (k3.cell 0).trans rfl; have hf5 := k3.frozen 0))
 have hsz := HSZ.out
 have k6 := hB5.far (p := ⟨w.heap.size + 1, 0, none⟩) (show w.heap.size ≠ w.heap.size + 1 by omega) (.int .i64 0)
 have k7 := k3.set_ 0 (.int .i64 0)
 have ho6 := Only.set w5 (w.heap.size + 1) 0 (.int .i64 0)
 exact read_throughR cs 0 _ _ _ _ _ rfl rfl k6 HPK.out.len k7 ⟨cs, rfl, ((HPK.out.only ho5 (by omega)).only ho6 (by omega)).mono (by omega),
  ((HB3.out.trans (below_of_grown HG4.out HB3.out.size (fun k hk => by injection hk with hk; omega))).trans (ho5.below (Nat.le_refl _))).trans (ho6.below (by omega))⟩
def RdU (w : World) (A : Option Addr) (n : Nat) (L : List Nat) : Prop :=
 L.length = n ∧ n ≤ 9223372036854775807 ∧ (0 < n → ∃ b off, A = some ⟨b, off, none⟩ ∧ b < w.heap.size ∧ ∀ j, j < n → w.cell? ⟨b, off + j, none⟩ = some (.int .u32 ((L.getD j 0 : Nat) : Int)))
theorem RdU.below {w w' : World} {A : Option Addr} {n : Nat} {L : List Nat} (h : RdU w A n L) (hb : Below w.heap.size w w') : RdU w' A n L := by
 refine ⟨h.1, h.2.1, fun hn => ?_⟩
 obtain ⟨b, off, hA, hlt, hc⟩ := h.2.2 hn
 exact ⟨b, off, hA, Nat.lt_of_lt_of_le hlt hb.size, fun j hj => (hb.cell (p := ⟨b, off + j, none⟩) hlt).trans (hc j hj)⟩
theorem RdU.of_own {w : World} {base : Nat} {e : TypeId} {A : Option Addr} {n c : Nat} {L : List Nat} (h : w.ownsRow base e 1 (.slice A n c) n (ucells L)) : RdU w A n L := by
 have hl : L.length = n := by simpa [ucells_len] using h.1
 have hat := h
 rcases h.2 with ⟨hv, hn⟩ | ⟨g, cap, cur, hv, hb, hg, hnc, hcm, hcs, htake⟩
 · injection hv with h1 h2 h3
   subst h1
   exact ⟨hl, by omega, fun h => absurd h (by omega)⟩
 · injection hv with h1 h2 h3
   subst h1; subst h3
   refine ⟨hl, by simp only [maxLen] at hcm; omega, fun hn => ⟨g, 0, rfl, (Array.getElem?_eq_some_iff.1 hg).1, fun j hj => ?_⟩⟩
   rw [Nat.zero_add, hat.cellAt j (by omega), ucells_at (by omega)]

def PkRd (w : World) (cs : List Value) (p : Pkt) : Prop := ∃ A a B b D d, cs = rtpC p.m p.ty p.sq p.st p.so (.slice A p.ot.length a) p.x p.pf (.slice B p.xt.length b) (.slice D p.pl.length d) p.pd ∧
 RdU w A p.ot.length p.ot ∧ RdS w B p.xt.length b p.xt ∧ RdS w D p.pl.length d p.pl
theorem PkRd.below {w w' : World} {cs : List Value} {p : Pkt} (h : PkRd w cs p) (hb : Below w.heap.size w w') : PkRd w' cs p := by
 obtain ⟨A, a, B, b, D, d, e, h1, h2, h3⟩ := h
 exact ⟨A, a, B, b, D, d, e, h1.below hb, h2.below hb, h3.below hb⟩
theorem PkRd.len {w : World} {cs : List Value} {p : Pkt} (h : PkRd w cs p) : cs.length = 11 := by
 obtain ⟨A, a, B, b, D, d, e, _⟩ := h
 subst e; rfl
theorem PkRd.one {w : World} {cs : List Value} {p : Pkt} (h : PkRd w cs p) : ∀ v ∈ cs, v.oneCell' = true := by
 obtain ⟨A, a, B, b, D, d, e, _⟩ := h
 subst e
 exact rtpC_one _ _ _ _ _ _ _ _ _ _ _ _ _ _ _ _ _
theorem PkOwn.rd {w : World} {b : Nat} {cs : List Value} {p : Pkt} (h : PkOwn w b cs p) : PkRd w cs p := by
 obtain ⟨A, a, B, b', D, d, e, h1, h2, h3⟩ := h
 exact ⟨A, a, B, b', D, d, e, RdU.of_own h1, RdS.of_own h2, RdS.of_own h3⟩

set_option maxRecDepth 100000 in
set_option maxHeartbeats 8000000 in
theorem same10_any (cs1 cs2 : List Value) (p : Pkt) (w : World) (h1 : PkRd w cs1 p) (h2 : PkRd w cs2 p) :
 Calls Tryz.prog 14 #[.agg cs1.toArray, .agg cs2.toArray] w fun e w' => e = .returned (.bool true) ∧ Below w.heap.size w w' := by
 obtain ⟨A1, a1, B1, b1, D1, d1, e1, u1, x1, y1⟩ := h1
 obtain ⟨A2, a2, B2, b2, D2, d2, e2, u2, x2, y2⟩ := h2
 have HW : Hid (Below w.heap.size w ((w.alloc (.cells cs1.toArray 37)).alloc (.cells cs2.toArray 37)) ∧ BlkV ((w.alloc (.cells cs1.toArray 37)).alloc (.cells cs2.toArray 37)) w.heap.size 37 cs1 ∧ BlkV ((w.alloc (.cells cs1.toArray 37)).alloc (.cells cs2.toArray 37)) (w.heap.size + 1) 37 cs2) :=
  Lib.hid ⟨((Below.refl _ _).alloc (Nat.le_refl _) _).alloc (by simp) _, (BlkV.new _ _ _).alloc _, BlkV.new_at _ _ _ _ _ (by simp) rfl⟩
 subst e1; subst e2
 obtain ⟨m, ty, sq, st, so, U, x, pf, X, Y, pd⟩ := p
 simp only at u1 u2 x1 x2 y1 y2 HW ⊢
 have hul := u1.2.1
 obtain ⟨K, hK⟩ : ∃ K, K = U.length := ⟨_, rfl⟩
 rw [← hK] at u1 u2 hul
 simp only [← hK] at HW ⊢
 obtain ⟨cs1, hc1⟩ : ∃ cs1, cs1 = rtpC m ty sq st so (.slice A1 K a1) x pf (.slice B1 X.length b1) (.slice D1 Y.length d1) pd := ⟨_, rfl⟩
 obtain ⟨cs2, hc2⟩ : ∃ cs2, cs2 = rtpC m ty sq st so (.slice A2 K a2) x pf (.slice B2 X.length b2) (.slice D2 Y.length d2) pd := ⟨_, rfl⟩
 rw [← hc1, ← hc2] at HW ⊢
 have HU1 := Lib.hid u1
 have HU2 := Lib.hid u2
 have HX1 := Lib.hid x1
 have HX2 := Lib.hid x2
 have HY1 := Lib.hid y1
 have HY2 := Lib.hid y2
 have k15 : ((w.alloc (.cells cs1.toArray 37)).alloc (.cells cs2.toArray 37)).cell? ⟨w.heap.size, 5, none⟩ = some (.slice A1 K a1) := by rw [HW.out.2.1.cell, hc1]; rfl
 have k25 : ((w.alloc (.cells cs1.toArray 37)).alloc (.cells cs2.toArray 37)).cell? ⟨w.heap.size + 1, 5, none⟩ = some (.slice A2 K a2) := by rw [HW.out.2.2.cell, hc2]; rfl
 have HC1 := Lib.hid hc1
 have HC2 := Lib.hid hc2
 clear u1 u2 x1 x2 y1 y2 hc1 hc2 hK
 go_enter Tryz.func14, Tryz.ntmps14
 go_wp2
 go_loopw [5] (fun i wr => ∃ k : Nat, k ≤ K ∧ i = .int .i64 k ∧ Hid (Below w.heap.size w wr ∧ BlkV wr w.heap.size 37 cs1 ∧ BlkV wr (w.heap.size + 1) 37 cs2)) (fun i _ => K - (intOf i).toNat)
 case atStart => exact ⟨0, by omega, rfl, HW⟩
 case round =>
  obtain ⟨k, hk, rfl, HR⟩ := hrel
  have c15 : wr.cell? ⟨w.heap.size, 5, none⟩ = some (.slice A1 K a1) := by rw [HR.out.2.1.cell, HC1.out]; rfl
  have c25 : wr.cell? ⟨w.heap.size + 1, 5, none⟩ = some (.slice A2 K a2) := by rw [HR.out.2.2.cell, HC2.out]; rfl
  by_cases hkn : k < K
  · have hu1 := HU1.out
    have hu2 := HU2.out
    obtain ⟨g1, o1, rfl, hg1, hu1⟩ := hu1.2.2 (by omega)
    obtain ⟨g2, o2, rfl, hg2, hu2⟩ := hu2.2.2 (by omega)
    have e1 : wr.cell? ⟨g1, o1 + k, none⟩ = some (.int .u32 ((U.getD k 0 : Nat) : Int)) := (HR.out.1.cell (p := ⟨g1, o1 + k, none⟩) hg1).trans (hu1 k hkn)
    have e2 : wr.cell? ⟨g2, o2 + k, none⟩ = some (.int .u32 ((U.getD k 0 : Nat) : Int)) := (HR.out.1.cell (p := ⟨g2, o2 + k, none⟩) hg2).trans (hu2 k hkn)
    obtain ⟨z, hz⟩ : ∃ z : Int, z = ((U.getD k 0 : Nat) : Int) := ⟨_, rfl⟩
    rw [← hz] at e1 e2
    clear hz hu1 hu2 k15 k25
    go_wp2
    go_quiet (fail)
    have HR2 : Hid (Below w.heap.size w (wr.drewN nq) ∧ BlkV (wr.drewN nq) w.heap.size 37 cs1 ∧ BlkV (wr.drewN nq) (w.heap.size + 1) 37 cs2) := Lib.hid ⟨⟨HR.out.1.os, HR.out.1.tape, HR.out.1.output, HR.out.1.size, HR.out.1.block⟩, HR.out.2.1, HR.out.2.2⟩
    go_wp2
    go_roundw
    case rel => exact ⟨k + 1, by omega, by go_num, HR2⟩
    case measure => simp [intOf]; omega
  · have hke : k = K := by omega
    subst hke
    have r1 : ∀ j, wr.cell? ⟨w.heap.size, j, none⟩ = (rtpC m ty sq st so (.slice A1 k a1) x pf (.slice B1 X.length b1) (.slice D1 Y.length d1) pd)[j]? := fun j => by rw [HR.out.2.1.cell, HC1.out]
    have r2 : ∀ j, wr.cell? ⟨w.heap.size + 1, j, none⟩ = (rtpC m ty sq st so (.slice A2 k a2) x pf (.slice B2 X.length b2) (.slice D2 Y.length d2) pd)[j]? := fun j => by rw [HR.out.2.2.cell, HC2.out]
    have p0 : wr.cell? ⟨w.heap.size, 0, none⟩ = some (.bool m) := (r1 0).trans rfl
    have p1 : wr.cell? ⟨w.heap.size, 1, none⟩ = some (.int .u8 (ty : Int)) := (r1 1).trans rfl
    have p2 : wr.cell? ⟨w.heap.size, 2, none⟩ = some (.int .u16 (sq : Int)) := (r1 2).trans rfl
    have p3 : wr.cell? ⟨w.heap.size, 3, none⟩ = some (.int .u32 (st : Int)) := (r1 3).trans rfl
    have p4 : wr.cell? ⟨w.heap.size, 4, none⟩ = some (.int .u32 (so : Int)) := (r1 4).trans rfl
    have p6 : wr.cell? ⟨w.heap.size, 6, none⟩ = some (.bool x) := (r1 6).trans rfl
    have p7 : wr.cell? ⟨w.heap.size, 7, none⟩ = some (.int .u16 (pf : Int)) := (r1 7).trans rfl
    have p8 : wr.cell? ⟨w.heap.size, 8, none⟩ = some (.slice B1 X.length b1) := (r1 8).trans rfl
    have p9 : wr.cell? ⟨w.heap.size, 9, none⟩ = some (.slice D1 Y.length d1) := (r1 9).trans rfl
    have pa : wr.cell? ⟨w.heap.size, 10, none⟩ = some (.int .u8 (pd : Int)) := (r1 10).trans rfl
    have q0 : wr.cell? ⟨w.heap.size + 1, 0, none⟩ = some (.bool m) := (r2 0).trans rfl
    have q1 : wr.cell? ⟨w.heap.size + 1, 1, none⟩ = some (.int .u8 (ty : Int)) := (r2 1).trans rfl
    have q2 : wr.cell? ⟨w.heap.size + 1, 2, none⟩ = some (.int .u16 (sq : Int)) := (r2 2).trans rfl
    have q3 : wr.cell? ⟨w.heap.size + 1, 3, none⟩ = some (.int .u32 (st : Int)) := (r2 3).trans rfl
    have q4 : wr.cell? ⟨w.heap.size + 1, 4, none⟩ = some (.int .u32 (so : Int)) := (r2 4).trans rfl
    have q6 : wr.cell? ⟨w.heap.size + 1, 6, none⟩ = some (.bool x) := (r2 6).trans rfl
    have q7 : wr.cell? ⟨w.heap.size + 1, 7, none⟩ = some (.int .u16 (pf : Int)) := (r2 7).trans rfl
    have q8 : wr.cell? ⟨w.heap.size + 1, 8, none⟩ = some (.slice B2 X.length b2) := (r2 8).trans rfl
    have q9 : wr.cell? ⟨w.heap.size + 1, 9, none⟩ = some (.slice D2 Y.length d2) := (r2 9).trans rfl
    have qa : wr.cell? ⟨w.heap.size + 1, 10, none⟩ = some (.int .u8 (pd : Int)) := (r2 10).trans rfl
    have v1 : (convert 35 9 (.slice B1 X.length b1)).run Tryz.prog wr = .ok (.string (txt X)) wr := run_conv (HX1.out.below HR.out.1) _ _ 5 Tryz.underlying35 Tryz.underlying5 Tryz.underlying9
    have v2 : (convert 35 9 (.slice B2 X.length b2)).run Tryz.prog wr = .ok (.string (txt X)) wr := run_conv (HX2.out.below HR.out.1) _ _ 5 Tryz.underlying35 Tryz.underlying5 Tryz.underlying9
    have v3 : (convert 35 9 (.slice D1 Y.length d1)).run Tryz.prog wr = .ok (.string (txt Y)) wr := run_conv (HY1.out.below HR.out.1) _ _ 5 Tryz.underlying35 Tryz.underlying5 Tryz.underlying9
    have v4 : (convert 35 9 (.slice D2 Y.length d2)).run Tryz.prog wr = .ok (.string (txt Y)) wr := run_conv (HY2.out.below HR.out.1) _ _ 5 Tryz.underlying35 Tryz.underlying5 Tryz.underlying9
    clear r1 r2 k15 k25
    go_wp2
    go_ret
    exact ⟨rfl, HR.out.1⟩
end Go.Proofs.YtmkeioeodlidgaaGreatDoor
