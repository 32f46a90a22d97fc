/- Several texts in one: plain words and walks. No statement is proved here. -/
import Derived.Test.YtheefckohnaceaaGreatDoorZM19
namespace Go.Proofs.YtheefckohnaceaaGreatDoor
open List renaming getElem_toArray → xgT, getElem_cons_succ → xgS, getElem_cons_zero → xgZ, setIfInBounds_toArray → xsT, set_cons_succ → xsS, set_cons_zero → xsZ
open Go.RowKit
set_option linter.unusedVariables false

def BodyTold (w : World) (bs : List UInt8) (e : Ending) (w' : World) : Prop := ∃ A' c', e = .returned (.slice A' bs.length c') ∧ RdS w' A' bs.length c' bs ∧ Below w.heap.size w w'

set_option maxRecDepth 100000 in
set_option maxHeartbeats 1000000 in
theorem body_202 (cs : List Value) (c : Ctl) (w : World) (h : CtRd w cs c) (hk : c.k = 202) (hf : c.fit) (hn : c.nams.length ≤ 16) (hx : ∀ x ∈ c.nams, nameP (txt x.2)) :
 Calls Tryz.prog 53 #[.agg cs.toArray] w (BodyTold w (c.nams.flatMap namB)) := by
 obtain ⟨hB0, hC0, b0⟩ := box_facts w cs c h
 obtain ⟨A, a, B, b', C, c', D, d, E, e, h0, h1, h2, h3, h4, h5⟩ := h
 obtain ⟨f0, f1, f2, f3, f4, f5, f6, f7, f8, f9, fa, fb, fc⟩ := hf
 subst h0
 unfold ctlC at hC0 hB0 b0 ⊢
 rw [hk] at hC0 hB0 b0 ⊢
 have V0 := Lib.hid hB0
 have B0 := Lib.hid b0
 have HX := Lib.hid (namBytes_any B c.nams.length b' c.nams _ rfl (by omega) (fun x hm => ⟨f8 x hm, hx x hm⟩) (h2.below b0))
 obtain ⟨T, hT⟩ : ∃ T, T = c.nams.flatMap namB := ⟨_, rfl⟩
 rw [← hT] at HX ⊢
 clear hn hx hT
 clear hB0 b0 hC0 hk h1 h2 h3 h4 h5 f0 f1 f2 f3 f4 f5 f6 f7 f8 f9 fa fb fc
 go_enter Tryz.func53, Tryz.ntmps53
 go_wp2_with (go_at_call 75; ((with_reducible refine HX.out.mono ?_); rintro e w9 ⟨A9, c9, rfl, hbo⟩; have R9 := Lib.hid hbo.rd; have B9 := Lib.hid (B0.out.trans (hbo.2.mono B0.out.size)); clear hbo))
 go_ret
 exact ⟨A9, c9, rfl, R9.out, B9.out⟩

set_option maxRecDepth 100000 in
set_option maxHeartbeats 1000000 in
theorem body_203 (cs : List Value) (c : Ctl) (w : World) (h : CtRd w cs c) (hk : c.k = 203) (hf : c.fit) (hn : c.srcs.length ≤ 16) :
 Calls Tryz.prog 53 #[.agg cs.toArray] w (BodyTold w (c.srcs.flatMap (beb 4))) := by
 obtain ⟨hB0, hC0, b0⟩ := box_facts w cs c h
 obtain ⟨A, a, B, b', C, c', D, d, E, e, h0, h1, h2, h3, h4, h5⟩ := h
 obtain ⟨f0, f1, f2, f3, f4, f5, f6, f7, f8, f9, fa, fb, fc⟩ := hf
 subst h0
 unfold ctlC at hC0 hB0 b0 ⊢
 rw [hk] at hC0 hB0 b0 ⊢
 have V0 := Lib.hid hB0
 have B0 := Lib.hid b0
 have HX := Lib.hid (words_anyC C c.srcs.length c' c.srcs _ rfl (by omega) f9 (h3.below b0))
 obtain ⟨T, hT⟩ : ∃ T, T = c.srcs.flatMap (beb 4) := ⟨_, rfl⟩
 rw [← hT] at HX ⊢
 clear hn hT
 clear hB0 b0 hC0 hk h1 h2 h3 h4 h5 f0 f1 f2 f3 f4 f5 f6 f7 f8 f9 fa fb fc
 go_enter Tryz.func53, Tryz.ntmps53
 go_wp2_with (go_at_call 73; ((with_reducible refine HX.out.mono ?_); rintro e w9 ⟨A9, c9, rfl, hbo⟩; have R9 := Lib.hid hbo.rd; have B9 := Lib.hid (B0.out.trans (hbo.2.mono B0.out.size)); clear hbo))
 go_ret
 exact ⟨A9, c9, rfl, R9.out, B9.out⟩

set_option maxRecDepth 100000 in
set_option maxHeartbeats 1000000 in
theorem body_2 (cs : List Value) (c : Ctl) (w : World) (h : CtRd w cs c) (hk : c.k = 2) (hf : c.fit)  :
 Calls Tryz.prog 53 #[.agg cs.toArray] w (BodyTold w ([c.so, c.me].flatMap (beb 4))) := by
 obtain ⟨hB0, hC0, b0⟩ := box_facts w cs c h
 obtain ⟨A, a, B, b', C, c', D, d, E, e, h0, h1, h2, h3, h4, h5⟩ := h
 obtain ⟨f0, f1, f2, f3, f4, f5, f6, f7, f8, f9, fa, fb, fc⟩ := hf
 subst h0
 unfold ctlC at hC0 hB0 b0 ⊢
 rw [hk] at hC0 hB0 b0 ⊢
 have V0 := Lib.hid hB0
 have B0 := Lib.hid b0
 obtain ⟨T, hT⟩ : ∃ T, T = [c.so, c.me].flatMap (beb 4) := ⟨_, rfl⟩
 have HX : Hid (∀ W g, g = W.heap.size → Calls Tryz.prog 73 #[.slice (some ⟨g, 0, none⟩) 2 2] (W.alloc (.cells #[.int .u32 (c.so : Int), .int .u32 (c.me : Int)] 36)) fun e w' => ∃ A' c', e = .returned (.slice A' 8 c') ∧ RdS w' A' 8 c' T ∧ Below W.heap.size W w') := Lib.hid (by
  intro W g hg
  subst hg; subst hT
  exact words_lit [c.so, c.me] 2 8 _ W rfl rfl rfl (by omega) (by intro x hx; simp at hx; omega))
 have HT := Lib.hid hT
 clear hT
 rw [← HT.out]
 clear hB0 b0 hC0 hk h1 h2 h3 h4 h5 f0 f1 f2 f3 f4 f5 f6 f7 f8 f9 fa fb fc
 go_enter Tryz.func53, Tryz.ntmps53
 go_wp2_with (go_at_call 73; ((with_reducible refine (HX.out (w.alloc (.cells #[.int .i64 2, .int .u32 (c.so : Int), .int .u32 (c.me : Int), .int .u64 (c.ti : Int), .int .u32 (c.st : Int), .int .u32 (c.pa : Int), .int .u32 (c.oc : Int), .slice A c.reps.length a, .slice B c.nams.length b', .slice C c.srcs.length c', .slice D c.loss.length d, .slice E c.firs.length e, .int .u64 (c.ra : Int)] 58)) (w.heap.size + 1) (size_alloc w _)).mono ?_); rintro e w9 ⟨A9, c9, rfl, hr, hb⟩; have R9 := Lib.hid hr; have B9 := Lib.hid (B0.out.trans (hb.mono B0.out.size)); clear hr hb))
 go_ret
 have hl : T.length = 8 := by rw [HT.out]; simp [length_beb]
 exact ⟨A9, c9, by rw [hl]; rfl, by rw [hl]; exact R9.out, B9.out⟩
theorem HeadS.al {w : World} {cs : List Value} {c : Ctl} {wz : World} (h : HeadS w cs c wz) (o : Obj) : HeadS w cs c (wz.alloc o) := h.on ((Below.refl _ _).alloc (Nat.le_refl _) _)
set_option maxRecDepth 100000 in
set_option maxHeartbeats 1000000 in
theorem body_201 (cs : List Value) (c : Ctl) (w : World) (h : CtRd w cs c) (hk : c.k = 201) (hf : c.fit) (hn : c.reps.length ≤ 16) (hx : ∀ x ∈ c.reps, x.ok) :
 Calls Tryz.prog 53 #[.agg cs.toArray] w (BodyTold w (bRR c.so c.reps)) := by
 obtain ⟨hB0, hC0, b0⟩ := box_facts w cs c h
 obtain ⟨A, a, B, b', C, c', D, d, E, e, h0, h1, h2, h3, h4, h5⟩ := h
 obtain ⟨f0, f1, f2, f3, f4, f5, f6, f7, f8, f9, fa, fb, fc⟩ := hf
 subst h0
 unfold ctlC at hC0 hB0 b0 ⊢
 rw [hk] at hC0 hB0 b0 ⊢
 have SD := Lib.hid (HeadS.drew (⟨b0, hB0, hC0⟩ : HeadS w [.int .i64 201, .int .u32 (c.so : Int), .int .u32 (c.me : Int), .int .u64 (c.ti : Int), .int .u32 (c.st : Int), .int .u32 (c.pa : Int), .int .u32 (c.oc : Int), .slice A c.reps.length a, .slice B c.nams.length b', .slice C c.srcs.length c', .slice D c.loss.length d, .slice E c.firs.length e, .int .u64 (c.ra : Int)] c _))
 obtain ⟨P1, hP1⟩ : ∃ P1, P1 = [c.so].flatMap (beb 4) := ⟨_, rfl⟩
 have hl1 : P1.length = 4 := by rw [hP1]; simp [length_beb]
 have HW : Hid (∀ W, Calls Tryz.prog 73 #[.slice (some ⟨W.heap.size, 0, none⟩) 1 1] (W.alloc (.cells #[.int .u32 (c.so : Int)] 36)) fun e w' => ∃ A' c', e = .returned (.slice A' 4 c') ∧ RdS w' A' 4 c' P1 ∧ Below W.heap.size W w') := Lib.hid (by subst hP1; exact fun W => words_lit [c.so] 1 4 _ W rfl rfl rfl (by omega) (by intro x hx; simp at hx; omega))
 obtain ⟨P2, hP2⟩ : ∃ P2, P2 = c.reps.flatMap repB := ⟨_, rfl⟩
 obtain ⟨N2, hN2⟩ : ∃ N2, N2 = P2.length := ⟨_, rfl⟩
 have hl2 : N2 ≤ 24 * c.reps.length := by rw [hN2, hP2]; exact flat_le repB 24 c.reps (fun x _ => Nat.le_of_eq (repB_len x))
 have HL : Hid (∀ W, Below w.heap.size w W → Calls Tryz.prog 74 #[.slice A c.reps.length a] W fun e w' => ∃ A' c', e = .returned (.slice A' N2 c') ∧ RdS w' A' N2 c' P2 ∧ Below W.heap.size W w') := Lib.hid (by
  subst hN2; subst hP2
  exact fun W hW => (repBytes_any A c.reps.length a c.reps W rfl (by omega) (fun x hm => ⟨f7 x hm, hx x hm⟩) (h1.below hW)).mono fun e w' ⟨A', c', h1, h2⟩ => ⟨A', c', h1, h2.rd, h2.2⟩)
 obtain ⟨BB, hBB⟩ : ∃ BB, BB = bRR c.so c.reps := ⟨_, rfl⟩
 rw [← hBB]
 have hBP : BB = P1 ++ P2 := by rw [hBB, hP1, hP2]; simp [bRR]
 obtain ⟨M, hM⟩ : ∃ M, M = BB.length := ⟨_, rfl⟩
 have HC : Hid (∀ W A1 c1 A2 c2, RdS W A1 4 c1 P1 → RdS W A2 N2 c2 P2 → Calls Tryz.prog 24 #[.slice (some ⟨W.heap.size, 0, none⟩) 2 2] (W.alloc (.cells #[.slice A1 4 c1, .slice A2 N2 c2] 32)) fun e w' => ∃ A' c', e = .returned (.slice A' M c') ∧ RdS w' A' M c' BB ∧ Below W.heap.size W w') := Lib.hid (fun W A1 c1 A2 c2 x1 x2 => concat2 W A1 A2 4 N2 c1 c2 M P1 P2 BB x1 x2 hBP hM (by rw [hM, hBP, List.length_append]; omega))
 have HM := Lib.hid hM
 clear hBB hBP hM hP1 hP2 hN2 hl1 hl2
 clear hn hx
 clear hB0 hC0 b0 hk h1 h2 h3 h4 h5 f0 f1 f2 f3 f4 f5 f6 f7 f8 f9 fa fb fc
 go_enter Tryz.func53, Tryz.ntmps53
 go_wp2
 refine wp_region_noPanic ?_
 refine wp_region_held (S := HeadS w [.int .i64 201, .int .u32 (c.so : Int), .int .u32 (c.me : Int), .int .u64 (c.ti : Int), .int .u32 (c.st : Int), .int .u32 (c.pa : Int), .int .u32 (c.oc : Int), .slice A c.reps.length a, .slice B c.nams.length b', .slice C c.srcs.length c', .slice D c.loss.length d, .slice E c.firs.length e, .int .u64 (c.ra : Int)] c) (by kernel_rfl) ?_
 change wpAnyH _ _ _ _ _ _ _ _ (World.drew _)
 generalize (w.alloc (.cells #[.int .i64 201, .int .u32 (c.so : Int), .int .u32 (c.me : Int), .int .u64 (c.ti : Int), .int .u32 (c.st : Int), .int .u32 (c.pa : Int), .int .u32 (c.oc : Int), .slice A c.reps.length a, .slice B c.nams.length b', .slice C c.srcs.length c', .slice D c.loss.length d, .slice E c.firs.length e, .int .u64 (c.ra : Int)] 58)).drew = w0 at SD ⊢
 refine wpAnyH_take (i := 0) (v := ?_) rfl (by kernel_rfl) (by kernel_rfl) (by kernel_rfl) (fun _ _ _ h => h) (Or.inl ⟨by rfl, ?_⟩) SD.out ?_
 case refine_2 => (intro wz hz; go_simp; with_reducible rfl)
 simp only [Act.put, xgT, xgZ, xsT, xsS, xsZ]
 refine wpAnyH_take (i := 1) (v := ?_) rfl (by kernel_rfl) (by kernel_rfl) (by kernel_rfl) (fun _ _ _ h => h) (Or.inl ⟨by rfl, ?_⟩) SD.out ?_
 case refine_2 => (intro wz hz; have kk : wz.cell? ⟨w.heap.size, 1, none⟩ = some (.int .u32 (c.so : Int)) := (hz.2.1.cell 1).trans rfl; go_simp; with_reducible rfl)
 simp only [Act.put, xgT, xgS, xgZ, xsT, xsS, xsZ]
 refine wpAnyH_take (i := 4) (v := ?_) rfl (by kernel_rfl) (by kernel_rfl) (by kernel_rfl) (fun _ _ _ h => h) (Or.inl ⟨by rfl, ?_⟩) SD.out ?_
 case refine_2 => (intro wz hz; go_simp; with_reducible rfl)
 simp only [Act.put, xgT, xgS, xgZ, xsT, xsS, xsZ]
 refine wpAnyH_take (i := 5) (v := ?_) rfl (by kernel_rfl) (by kernel_rfl) (by kernel_rfl) (fun _ _ _ h => h) (Or.inl ⟨by rfl, ?_⟩) SD.out ?_
 case refine_2 => (intro wz hz; have kk : wz.cell? ⟨w.heap.size, 7, none⟩ = some (.slice A c.reps.length a) := (hz.2.1.cell 7).trans rfl; go_simp; with_reducible rfl)
 simp only [Act.put, xgT, xgS, xgZ, xsT, xsS, xsZ]
 refine anyH_one (i := 2) (by kernel_rfl) rfl rfl (fun H hH => ?_)
 simp only [xgT, xgS, xgZ]
 go_simp
 have SB2 := Lib.hid (SD.out.al (.cells #[.int .u32 (c.so : Int)] 36))
 refine hH _ _ SB2.out ?_
 clear hH H
 refine anyH_one (i := 3) (by kernel_rfl) rfl rfl (fun H hH => ?_)
 simp only [xgT, xgS, xgZ]
 go_simp
 refine (HW.out _).mono ?_
 rintro e w1 ⟨A1, c1, rfl, hr, hb⟩
 have R1 := Lib.hid hr
 have S1 := Lib.hid (SD.out.on hb)
 clear hr hb
 refine hH _ _ S1.out ?_
 clear hH H
 refine anyH_one (i := 6) (by kernel_rfl) rfl rfl (fun H hH => ?_)
 simp only [xgT, xgS, xgZ]
 go_simp
 refine (HL.out _ S1.out.1).mono ?_
 rintro e w2 ⟨A2, c2, rfl, hr, hb⟩
 have R2 := Lib.hid hr
 have S2 := Lib.hid (S1.out.on hb)
 replace R1 := Lib.hid (R1.out.below hb)
 clear hr hb
 refine hH _ _ S2.out ?_
 clear hH H
 refine anyH_one (i := 7) (by kernel_rfl) rfl rfl (fun H hH => ?_)
 simp only [xgT, xgS, xgZ]
 go_simp
 have SB7 := Lib.hid (S2.out.al (.cells #[.slice A1 4 c1, .slice A2 N2 c2] 32))
 refine hH _ _ SB7.out ?_
 clear hH H
 refine anyH_one (i := 8) (by kernel_rfl) rfl rfl (fun H hH => ?_)
 simp only [xgT, xgS, xgZ]
 go_simp
 refine (HC.out _ _ _ _ _ R1.out R2.out).mono ?_
 rintro e w3 ⟨A3, c3, rfl, hr, hb⟩
 have R3 := Lib.hid hr
 have S3 := Lib.hid (S2.out.on hb)
 clear hr hb
 refine hH _ _ S3.out ?_
 clear hH H
 refine wpAnyH_take (i := 9) (v := ?_) rfl (by kernel_rfl) (by kernel_rfl) (by kernel_rfl) (fun _ _ _ h => h) (Or.inl ⟨by rfl, ?_⟩) S3.out ?_
 case refine_2 => (intro wz hz; go_simp; with_reducible rfl)
 simp only [Act.put, xgT, xgS, xgZ, xsT, xsS, xsZ]
 refine wpAnyH_done (by kernel_rfl) ?_ _
 refine NoPanic.normal ?_
 go_wp2
 go_ret
 exact ⟨A3, c3, by rw [← HM.out]; rfl, by rw [← HM.out]; exact R3.out, S3.out.1⟩

set_option maxRecDepth 100000 in
set_option maxHeartbeats 1000000 in
theorem body_1 (cs : List Value) (c : Ctl) (w : World) (h : CtRd w cs c) (hk : c.k = 1) (hf : c.fit) (hn : c.loss.length ≤ 16) :
 Calls Tryz.prog 53 #[.agg cs.toArray] w (BodyTold w (bNA c.so c.me c.loss)) := by
 obtain ⟨hB0, hC0, b0⟩ := box_facts w cs c h
 obtain ⟨A, a, B, b', C, c', D, d, E, e, h0, h1, h2, h3, h4, h5⟩ := h
 obtain ⟨f0, f1, f2, f3, f4, f5, f6, f7, f8, f9, fa, fb, fc⟩ := hf
 subst h0
 unfold ctlC at hC0 hB0 b0 ⊢
 rw [hk] at hC0 hB0 b0 ⊢
 have SD := Lib.hid (HeadS.drew (⟨b0, hB0, hC0⟩ : HeadS w [.int .i64 1, .int .u32 (c.so : Int), .int .u32 (c.me : Int), .int .u64 (c.ti : Int), .int .u32 (c.st : Int), .int .u32 (c.pa : Int), .int .u32 (c.oc : Int), .slice A c.reps.length a, .slice B c.nams.length b', .slice C c.srcs.length c', .slice D c.loss.length d, .slice E c.firs.length e, .int .u64 (c.ra : Int)] c _))
 obtain ⟨P1, hP1⟩ : ∃ P1, P1 = [c.so, c.me].flatMap (beb 4) := ⟨_, rfl⟩
 have hl1 : P1.length = 8 := by rw [hP1]; simp [length_beb]
 have HW : Hid (∀ W, Calls Tryz.prog 73 #[.slice (some ⟨W.heap.size, 0, none⟩) 2 2] (W.alloc (.cells #[.int .u32 (c.so : Int), .int .u32 (c.me : Int)] 36)) fun e w' => ∃ A' c', e = .returned (.slice A' 8 c') ∧ RdS w' A' 8 c' P1 ∧ Below W.heap.size W w') := Lib.hid (by subst hP1; exact fun W => words_lit [c.so, c.me] 2 8 _ W rfl rfl rfl (by omega) (by intro x hx; simp at hx; omega))
 obtain ⟨P2, hP2⟩ : ∃ P2, P2 = c.loss.flatMap lossB := ⟨_, rfl⟩
 obtain ⟨N2, hN2⟩ : ∃ N2, N2 = P2.length := ⟨_, rfl⟩
 have hl2 : N2 ≤ 4 * c.loss.length := by rw [hN2, hP2]; exact flat_le lossB 4 c.loss (fun x _ => Nat.le_of_eq (lossB_len x))
 have HL : Hid (∀ W, Below w.heap.size w W → Calls Tryz.prog 76 #[.slice D c.loss.length d] W fun e w' => ∃ A' c', e = .returned (.slice A' N2 c') ∧ RdS w' A' N2 c' P2 ∧ Below W.heap.size W w') := Lib.hid (by
  subst hN2; subst hP2
  exact fun W hW => (losBytes_any D c.loss.length d c.loss W rfl (by omega) fa (h4.below hW)).mono fun e w' ⟨A', c', h1, h2⟩ => ⟨A', c', h1, h2.rd, h2.2⟩)
 obtain ⟨BB, hBB⟩ : ∃ BB, BB = bNA c.so c.me c.loss := ⟨_, rfl⟩
 rw [← hBB]
 have hBP : BB = P1 ++ P2 := by rw [hBB, hP1, hP2]; simp [bNA]
 obtain ⟨M, hM⟩ : ∃ M, M = BB.length := ⟨_, rfl⟩
 have HC : Hid (∀ W A1 c1 A2 c2, RdS W A1 8 c1 P1 → RdS W A2 N2 c2 P2 → Calls Tryz.prog 24 #[.slice (some ⟨W.heap.size, 0, none⟩) 2 2] (W.alloc (.cells #[.slice A1 8 c1, .slice A2 N2 c2] 32)) fun e w' => ∃ A' c', e = .returned (.slice A' M c') ∧ RdS w' A' M c' BB ∧ Below W.heap.size W w') := Lib.hid (fun W A1 c1 A2 c2 x1 x2 => concat2 W A1 A2 8 N2 c1 c2 M P1 P2 BB x1 x2 hBP hM (by rw [hM, hBP, List.length_append]; omega))
 have HM := Lib.hid hM
 clear hBB hBP hM hP1 hP2 hN2 hl1 hl2
 clear hn
 clear hB0 hC0 b0 hk h1 h2 h3 h4 h5 f0 f1 f2 f3 f4 f5 f6 f7 f8 f9 fa fb fc
 go_enter Tryz.func53, Tryz.ntmps53
 go_wp2
 refine wp_region_noPanic ?_
 refine wp_region_held (S := HeadS w [.int .i64 1, .int .u32 (c.so : Int), .int .u32 (c.me : Int), .int .u64 (c.ti : Int), .int .u32 (c.st : Int), .int .u32 (c.pa : Int), .int .u32 (c.oc : Int), .slice A c.reps.length a, .slice B c.nams.length b', .slice C c.srcs.length c', .slice D c.loss.length d, .slice E c.firs.length e, .int .u64 (c.ra : Int)] c) (by kernel_rfl) ?_
 change wpAnyH _ _ _ _ _ _ _ _ (World.drew _)
 generalize (w.alloc (.cells #[.int .i64 1, .int .u32 (c.so : Int), .int .u32 (c.me : Int), .int .u64 (c.ti : Int), .int .u32 (c.st : Int), .int .u32 (c.pa : Int), .int .u32 (c.oc : Int), .slice A c.reps.length a, .slice B c.nams.length b', .slice C c.srcs.length c', .slice D c.loss.length d, .slice E c.firs.length e, .int .u64 (c.ra : Int)] 58)).drew = w0 at SD ⊢
 refine wpAnyH_take (i := 0) (v := ?_) rfl (by kernel_rfl) (by kernel_rfl) (by kernel_rfl) (fun _ _ _ h => h) (Or.inl ⟨by rfl, ?_⟩) SD.out ?_
 case refine_2 => (intro wz hz; go_simp; with_reducible rfl)
 simp only [Act.put, xgT, xgZ, xsT, xsS, xsZ]
 refine wpAnyH_take (i := 1) (v := ?_) rfl (by kernel_rfl) (by kernel_rfl) (by kernel_rfl) (fun _ _ _ h => h) (Or.inl ⟨by rfl, ?_⟩) SD.out ?_
 case refine_2 => (intro wz hz; have kk : wz.cell? ⟨w.heap.size, 1, none⟩ = some (.int .u32 (c.so : Int)) := (hz.2.1.cell 1).trans rfl; go_simp; with_reducible rfl)
 simp only [Act.put, xgT, xgS, xgZ, xsT, xsS, xsZ]
 refine wpAnyH_take (i := 2) (v := ?_) rfl (by kernel_rfl) (by kernel_rfl) (by kernel_rfl) (fun _ _ _ h => h) (Or.inl ⟨by rfl, ?_⟩) SD.out ?_
 case refine_2 => (intro wz hz; go_simp; with_reducible rfl)
 simp only [Act.put, xgT, xgS, xgZ, xsT, xsS, xsZ]
 refine wpAnyH_take (i := 3) (v := ?_) rfl (by kernel_rfl) (by kernel_rfl) (by kernel_rfl) (fun _ _ _ h => h) (Or.inl ⟨by rfl, ?_⟩) SD.out ?_
 case refine_2 => (intro wz hz; have kk : wz.cell? ⟨w.heap.size, 2, none⟩ = some (.int .u32 (c.me : Int)) := (hz.2.1.cell 2).trans rfl; go_simp; with_reducible rfl)
 simp only [Act.put, xgT, xgS, xgZ, xsT, xsS, xsZ]
 refine wpAnyH_take (i := 6) (v := ?_) rfl (by kernel_rfl) (by kernel_rfl) (by kernel_rfl) (fun _ _ _ h => h) (Or.inl ⟨by rfl, ?_⟩) SD.out ?_
 case refine_2 => (intro wz hz; go_simp; with_reducible rfl)
 simp only [Act.put, xgT, xgS, xgZ, xsT, xsS, xsZ]
 refine wpAnyH_take (i := 7) (v := ?_) rfl (by kernel_rfl) (by kernel_rfl) (by kernel_rfl) (fun _ _ _ h => h) (Or.inl ⟨by rfl, ?_⟩) SD.out ?_
 case refine_2 => (intro wz hz; have kk : wz.cell? ⟨w.heap.size, 10, none⟩ = some (.slice D c.loss.length d) := (hz.2.1.cell 10).trans rfl; go_simp; with_reducible rfl)
 simp only [Act.put, xgT, xgS, xgZ, xsT, xsS, xsZ]
 refine anyH_one (i := 4) (by kernel_rfl) rfl rfl (fun H hH => ?_)
 simp only [xgT, xgS, xgZ]
 go_simp
 have SB4 := Lib.hid (SD.out.al (.cells #[.int .u32 (c.so : Int), .int .u32 (c.me : Int)] 36))
 refine hH _ _ SB4.out ?_
 clear hH H
 refine anyH_one (i := 5) (by kernel_rfl) rfl rfl (fun H hH => ?_)
 simp only [xgT, xgS, xgZ]
 go_simp
 refine (HW.out _).mono ?_
 rintro e w1 ⟨A1, c1, rfl, hr, hb⟩
 have R1 := Lib.hid hr
 have S1 := Lib.hid (SD.out.on hb)
 clear hr hb
 refine hH _ _ S1.out ?_
 clear hH H
 refine anyH_one (i := 8) (by kernel_rfl) rfl rfl (fun H hH => ?_)
 simp only [xgT, xgS, xgZ]
 go_simp
 refine (HL.out _ S1.out.1).mono ?_
 rintro e w2 ⟨A2, c2, rfl, hr, hb⟩
 have R2 := Lib.hid hr
 have S2 := Lib.hid (S1.out.on hb)
 replace R1 := Lib.hid (R1.out.below hb)
 clear hr hb
 refine hH _ _ S2.out ?_
 clear hH H
 refine anyH_one (i := 9) (by kernel_rfl) rfl rfl (fun H hH => ?_)
 simp only [xgT, xgS, xgZ]
 go_simp
 have SB9 := Lib.hid (S2.out.al (.cells #[.slice A1 8 c1, .slice A2 N2 c2] 32))
 refine hH _ _ SB9.out ?_
 clear hH H
 refine anyH_one (i := 10) (by kernel_rfl) rfl rfl (fun H hH => ?_)
 simp only [xgT, xgS, xgZ]
 go_simp
 refine (HC.out _ _ _ _ _ R1.out R2.out).mono ?_
 rintro e w3 ⟨A3, c3, rfl, hr, hb⟩
 have R3 := Lib.hid hr
 have S3 := Lib.hid (S2.out.on hb)
 clear hr hb
 refine hH _ _ S3.out ?_
 clear hH H
 refine wpAnyH_take (i := 11) (v := ?_) rfl (by kernel_rfl) (by kernel_rfl) (by kernel_rfl) (fun _ _ _ h => h) (Or.inl ⟨by rfl, ?_⟩) S3.out ?_
 case refine_2 => (intro wz hz; go_simp; with_reducible rfl)
 simp only [Act.put, xgT, xgS, xgZ, xsT, xsS, xsZ]
 refine wpAnyH_done (by kernel_rfl) ?_ _
 refine NoPanic.normal ?_
 go_wp2
 go_ret
 exact ⟨A3, c3, by rw [← HM.out]; rfl, by rw [← HM.out]; exact R3.out, S3.out.1⟩

set_option maxRecDepth 100000 in
set_option maxHeartbeats 1000000 in
theorem body_3 (cs : List Value) (c : Ctl) (w : World) (h : CtRd w cs c) (hk : c.k = 3) (hf : c.fit) (hn : c.firs.length ≤ 16) :
 Calls Tryz.prog 53 #[.agg cs.toArray] w (BodyTold w (bFI c.so c.firs)) := by
 obtain ⟨hB0, hC0, b0⟩ := box_facts w cs c h
 obtain ⟨A, a, B, b', C, c', D, d, E, e, h0, h1, h2, h3, h4, h5⟩ := h
 obtain ⟨f0, f1, f2, f3, f4, f5, f6, f7, f8, f9, fa, fb, fc⟩ := hf
 subst h0
 unfold ctlC at hC0 hB0 b0 ⊢
 rw [hk] at hC0 hB0 b0 ⊢
 have SD := Lib.hid (HeadS.drew (⟨b0, hB0, hC0⟩ : HeadS w [.int .i64 3, .int .u32 (c.so : Int), .int .u32 (c.me : Int), .int .u64 (c.ti : Int), .int .u32 (c.st : Int), .int .u32 (c.pa : Int), .int .u32 (c.oc : Int), .slice A c.reps.length a, .slice B c.nams.length b', .slice C c.srcs.length c', .slice D c.loss.length d, .slice E c.firs.length e, .int .u64 (c.ra : Int)] c _))
 obtain ⟨P1, hP1⟩ : ∃ P1, P1 = [c.so, 0].flatMap (beb 4) := ⟨_, rfl⟩
 have hl1 : P1.length = 8 := by rw [hP1]; simp [length_beb]
 have HW : Hid (∀ W, Calls Tryz.prog 73 #[.slice (some ⟨W.heap.size, 0, none⟩) 2 2] (W.alloc (.cells #[.int .u32 (c.so : Int), .int .u32 0] 36)) fun e w' => ∃ A' c', e = .returned (.slice A' 8 c') ∧ RdS w' A' 8 c' P1 ∧ Below W.heap.size W w') := Lib.hid (by subst hP1; exact fun W => words_lit [c.so, 0] 2 8 _ W rfl rfl rfl (by omega) (by intro x hx; simp at hx; omega))
 obtain ⟨P2, hP2⟩ : ∃ P2, P2 = c.firs.flatMap firB := ⟨_, rfl⟩
 obtain ⟨N2, hN2⟩ : ∃ N2, N2 = P2.length := ⟨_, rfl⟩
 have hl2 : N2 ≤ 8 * c.firs.length := by rw [hN2, hP2]; exact flat_le firB 8 c.firs (fun x _ => Nat.le_of_eq (firB_len x))
 have HL : Hid (∀ W, Below w.heap.size w W → Calls Tryz.prog 77 #[.slice E c.firs.length e] W fun e w' => ∃ A' c', e = .returned (.slice A' N2 c') ∧ RdS w' A' N2 c' P2 ∧ Below W.heap.size W w') := Lib.hid (by
  subst hN2; subst hP2
  exact fun W hW => (firBytes_any E c.firs.length e c.firs W rfl (by omega) fb (h5.below hW)).mono fun e w' ⟨A', c', h1, h2⟩ => ⟨A', c', h1, h2.rd, h2.2⟩)
 obtain ⟨BB, hBB⟩ : ∃ BB, BB = bFI c.so c.firs := ⟨_, rfl⟩
 rw [← hBB]
 have hBP : BB = P1 ++ P2 := by rw [hBB, hP1, hP2]; simp [bFI]
 obtain ⟨M, hM⟩ : ∃ M, M = BB.length := ⟨_, rfl⟩
 have HC : Hid (∀ W A1 c1 A2 c2, RdS W A1 8 c1 P1 → RdS W A2 N2 c2 P2 → Calls Tryz.prog 24 #[.slice (some ⟨W.heap.size, 0, none⟩) 2 2] (W.alloc (.cells #[.slice A1 8 c1, .slice A2 N2 c2] 32)) fun e w' => ∃ A' c', e = .returned (.slice A' M c') ∧ RdS w' A' M c' BB ∧ Below W.heap.size W w') := Lib.hid (fun W A1 c1 A2 c2 x1 x2 => concat2 W A1 A2 8 N2 c1 c2 M P1 P2 BB x1 x2 hBP hM (by rw [hM, hBP, List.length_append]; omega))
 have HM := Lib.hid hM
 clear hBB hBP hM hP1 hP2 hN2 hl1 hl2
 clear hn
 clear hB0 hC0 b0 hk h1 h2 h3 h4 h5 f0 f1 f2 f3 f4 f5 f6 f7 f8 f9 fa fb fc
 go_enter Tryz.func53, Tryz.ntmps53
 go_wp2
 refine wp_region_noPanic ?_
 refine wp_region_held (S := HeadS w [.int .i64 3, .int .u32 (c.so : Int), .int .u32 (c.me : Int), .int .u64 (c.ti : Int), .int .u32 (c.st : Int), .int .u32 (c.pa : Int), .int .u32 (c.oc : Int), .slice A c.reps.length a, .slice B c.nams.length b', .slice C c.srcs.length c', .slice D c.loss.length d, .slice E c.firs.length e, .int .u64 (c.ra : Int)] c) (by kernel_rfl) ?_
 change wpAnyH _ _ _ _ _ _ _ _ (World.drew _)
 generalize (w.alloc (.cells #[.int .i64 3, .int .u32 (c.so : Int), .int .u32 (c.me : Int), .int .u64 (c.ti : Int), .int .u32 (c.st : Int), .int .u32 (c.pa : Int), .int .u32 (c.oc : Int), .slice A c.reps.length a, .slice B c.nams.length b', .slice C c.srcs.length c', .slice D c.loss.length d, .slice E c.firs.length e, .int .u64 (c.ra : Int)] 58)).drew = w0 at SD ⊢
 refine wpAnyH_take (i := 0) (v := ?_) rfl (by kernel_rfl) (by kernel_rfl) (by kernel_rfl) (fun _ _ _ h => h) (Or.inl ⟨by rfl, ?_⟩) SD.out ?_
 case refine_2 => (intro wz hz; go_simp; with_reducible rfl)
 simp only [Act.put, xgT, xgZ, xsT, xsS, xsZ]
 refine wpAnyH_take (i := 1) (v := ?_) rfl (by kernel_rfl) (by kernel_rfl) (by kernel_rfl) (fun _ _ _ h => h) (Or.inl ⟨by rfl, ?_⟩) SD.out ?_
 case refine_2 => (intro wz hz; have kk : wz.cell? ⟨w.heap.size, 1, none⟩ = some (.int .u32 (c.so : Int)) := (hz.2.1.cell 1).trans rfl; go_simp; with_reducible rfl)
 simp only [Act.put, xgT, xgS, xgZ, xsT, xsS, xsZ]
 refine wpAnyH_take (i := 4) (v := ?_) rfl (by kernel_rfl) (by kernel_rfl) (by kernel_rfl) (fun _ _ _ h => h) (Or.inl ⟨by rfl, ?_⟩) SD.out ?_
 case refine_2 => (intro wz hz; go_simp; with_reducible rfl)
 simp only [Act.put, xgT, xgS, xgZ, xsT, xsS, xsZ]
 refine wpAnyH_take (i := 5) (v := ?_) rfl (by kernel_rfl) (by kernel_rfl) (by kernel_rfl) (fun _ _ _ h => h) (Or.inl ⟨by rfl, ?_⟩) SD.out ?_
 case refine_2 => (intro wz hz; have kk : wz.cell? ⟨w.heap.size, 11, none⟩ = some (.slice E c.firs.length e) := (hz.2.1.cell 11).trans rfl; go_simp; with_reducible rfl)
 simp only [Act.put, xgT, xgS, xgZ, xsT, xsS, xsZ]
 refine anyH_one (i := 2) (by kernel_rfl) rfl rfl (fun H hH => ?_)
 simp only [xgT, xgS, xgZ]
 go_simp
 have SB2 := Lib.hid (SD.out.al (.cells #[.int .u32 (c.so : Int), .int .u32 0] 36))
 refine hH _ _ SB2.out ?_
 clear hH H
 refine anyH_one (i := 3) (by kernel_rfl) rfl rfl (fun H hH => ?_)
 simp only [xgT, xgS, xgZ]
 go_simp
 refine (HW.out _).mono ?_
 rintro e w1 ⟨A1, c1, rfl, hr, hb⟩
 have R1 := Lib.hid hr
 have S1 := Lib.hid (SD.out.on hb)
 clear hr hb
 refine hH _ _ S1.out ?_
 clear hH H
 refine anyH_one (i := 6) (by kernel_rfl) rfl rfl (fun H hH => ?_)
 simp only [xgT, xgS, xgZ]
 go_simp
 refine (HL.out _ S1.out.1).mono ?_
 rintro e w2 ⟨A2, c2, rfl, hr, hb⟩
 have R2 := Lib.hid hr
 have S2 := Lib.hid (S1.out.on hb)
 replace R1 := Lib.hid (R1.out.below hb)
 clear hr hb
 refine hH _ _ S2.out ?_
 clear hH H
 refine anyH_one (i := 7) (by kernel_rfl) rfl rfl (fun H hH => ?_)
 simp only [xgT, xgS, xgZ]
 go_simp
 have SB7 := Lib.hid (S2.out.al (.cells #[.slice A1 8 c1, .slice A2 N2 c2] 32))
 refine hH _ _ SB7.out ?_
 clear hH H
 refine anyH_one (i := 8) (by kernel_rfl) rfl rfl (fun H hH => ?_)
 simp only [xgT, xgS, xgZ]
 go_simp
 refine (HC.out _ _ _ _ _ R1.out R2.out).mono ?_
 rintro e w3 ⟨A3, c3, rfl, hr, hb⟩
 have R3 := Lib.hid hr
 have S3 := Lib.hid (S2.out.on hb)
 clear hr hb
 refine hH _ _ S3.out ?_
 clear hH H
 refine wpAnyH_take (i := 9) (v := ?_) rfl (by kernel_rfl) (by kernel_rfl) (by kernel_rfl) (fun _ _ _ h => h) (Or.inl ⟨by rfl, ?_⟩) S3.out ?_
 case refine_2 => (intro wz hz; go_simp; with_reducible rfl)
 simp only [Act.put, xgT, xgS, xgZ, xsT, xsS, xsZ]
 refine wpAnyH_done (by kernel_rfl) ?_ _
 refine NoPanic.normal ?_
 go_wp2
 go_ret
 exact ⟨A3, c3, by rw [← HM.out]; rfl, by rw [← HM.out]; exact R3.out, S3.out.1⟩
theorem words_blk (l : List Nat) (n N g : Nat) (W : World) (T : List UInt8) (hB : BlkV W g 36 (l.map fun x : Nat => Value.int .u32 (x : Int))) (hn : l.length = n) (hN : N = 4 * n) (hs : n ≤ 1000) (hf : ∀ x ∈ l, x < 4294967296) (hT : T = l.flatMap (beb 4)) :
 Calls Tryz.prog 73 #[.slice (some ⟨g, 0, none⟩) n n] W fun e w' => ∃ A' c', e = .returned (.slice A' N c') ∧ RdS w' A' N c' T ∧ Below W.heap.size W w' := by
 refine (words_anyC _ n n l _ hn hs hf ⟨fun r hr => ?_, fun _ => ⟨g, 0, rfl, hB.lt, fun j hj d hd => ?_⟩⟩).mono ?_
 · obtain ⟨x, _, rfl⟩ := List.mem_map.1 hr; rfl
 · obtain rfl : d = 0 := by omega
   rw [hB.cell]
   rw [List.length_map] at hj
   simp [List.getD, hj, cSrc]
 · rintro e w' ⟨A', c', rfl, hb⟩
   have hl : (l.flatMap (beb 4)).length = N := by rw [flat_len (beb 4) 4 (length_beb 4), hn, hN]
   rw [hl] at hb ⊢
   subst hT
   exact ⟨A', c', rfl, hb.rd, hb.2⟩
theorem parts4 (w : World) (A1 A2 A3 A4 : Option Addr) (n1 n2 n3 n4 c1 c2 c3 c4 : Nat) (p1 p2 p3 p4 : List UInt8) (e : TypeId) (h1 : RdS w A1 n1 c1 p1) (h2 : RdS w A2 n2 c2 p2) (h3 : RdS w A3 n3 c3 p3) (h4 : RdS w A4 n4 c4 p4) :
 PartsRd (w.alloc (.cells #[.slice A1 n1 c1, .slice A2 n2 c2, .slice A3 n3 c3, .slice A4 n4 c4] e)) (some ⟨w.heap.size, 0, none⟩) 4 [p1, p2, p3, p4] := by
 have hB : BlkV (w.alloc (.cells #[.slice A1 n1 c1, .slice A2 n2 c2, .slice A3 n3 c3, .slice A4 n4 c4] e)) w.heap.size e [.slice A1 n1 c1, .slice A2 n2 c2, .slice A3 n3 c3, .slice A4 n4 c4] := BlkV.new _ _ _
 have hb : Below w.heap.size w (w.alloc (.cells #[.slice A1 n1 c1, .slice A2 n2 c2, .slice A3 n3 c3, .slice A4 n4 c4] e)) := (Below.refl _ _).alloc (Nat.le_refl _) _
 refine ⟨rfl, fun _ => ⟨w.heap.size, 0, rfl, hB.lt, fun j hj => ?_⟩⟩
 match j, hj with
 | 0, _ => exact ⟨A1, n1, c1, (hB.cell 0).trans rfl, h1.below hb⟩
 | 1, _ => exact ⟨A2, n2, c2, (hB.cell 1).trans rfl, h2.below hb⟩
 | 2, _ => exact ⟨A3, n3, c3, (hB.cell 2).trans rfl, h3.below hb⟩
 | 3, _ => exact ⟨A4, n4, c4, (hB.cell 3).trans rfl, h4.below hb⟩
theorem concat4 (W : World) (A1 A2 A3 A4 : Option Addr) (n1 n2 n3 n4 c1 c2 c3 c4 M : Nat) (p1 p2 p3 p4 BB : List UInt8) (h1 : RdS W A1 n1 c1 p1) (h2 : RdS W A2 n2 c2 p2) (h3 : RdS W A3 n3 c3 p3) (h4 : RdS W A4 n4 c4 p4) (hB : BB = p1 ++ (p2 ++ (p3 ++ p4))) (hM : M = BB.length) (hle : M ≤ 100000) :
 Calls Tryz.prog 24 #[.slice (some ⟨W.heap.size, 0, none⟩) 4 4] (W.alloc (.cells #[.slice A1 n1 c1, .slice A2 n2 c2, .slice A3 n3 c3, .slice A4 n4 c4] 32)) fun e w' => ∃ A' c', e = .returned (.slice A' M c') ∧ RdS w' A' M c' BB ∧ Below W.heap.size W w' := by
 have hf : [p1, p2, p3, p4].flatten = BB := by rw [hB]; simp
 have hfl : [p1, p2, p3, p4].flatten.length = M := by rw [hf, hM]
 refine (concat_any _ 4 4 [p1, p2, p3, p4] _ (parts4 W A1 A2 A3 A4 n1 n2 n3 n4 c1 c2 c3 c4 p1 p2 p3 p4 _ h1 h2 h3 h4) (by omega) (by omega)).mono ?_
 rintro e w' ⟨A', c', rfl, hb⟩
 rw [hfl, hf] at hb
 rw [hfl]
 exact ⟨A', c', rfl, hb.rd, ((Below.refl _ _).alloc (Nat.le_refl _) _).trans (hb.2.mono (by simp))⟩
theorem oneBl (w : World) (cs : List Value) (e : TypeId) (o : Obj) : BlkV ((w.alloc (.cells cs.toArray e)).alloc o) w.heap.size e cs := (BlkV.new w e cs).below ((Below.refl _ _).alloc (Nat.le_refl _) _) (BlkV.new w e cs).lt

set_option maxRecDepth 100000 in
set_option maxHeartbeats 2000000 in
theorem body_200 (cs : List Value) (c : Ctl) (w : World) (h : CtRd w cs c) (hk : c.k = 200) (hf : c.fit) (hn : c.reps.length ≤ 16) (hx : ∀ x ∈ c.reps, x.ok) :
 Calls Tryz.prog 53 #[.agg cs.toArray] w (BodyTold w (bSR c.so c.ti c.st c.pa c.oc c.reps)) := by
 obtain ⟨hB0, hC0, b0⟩ := box_facts w cs c h
 obtain ⟨A, a, B, b', C, c', D, d, E, e, h0, h1, h2, h3, h4, h5⟩ := h
 obtain ⟨f0, f1, f2, f3, f4, f5, f6, f7, f8, f9, fa, fb, fc⟩ := hf
 subst h0
 unfold ctlC at hC0 hB0 b0 ⊢
 rw [hk] at hC0 hB0 b0 ⊢
 have SI : Hid (HeadS w [.int .i64 200, .int .u32 (c.so : Int), .int .u32 (c.me : Int), .int .u64 (c.ti : Int), .int .u32 (c.st : Int), .int .u32 (c.pa : Int), .int .u32 (c.oc : Int), .slice A c.reps.length a, .slice B c.nams.length b', .slice C c.srcs.length c', .slice D c.loss.length d, .slice E c.firs.length e, .int .u64 (c.ra : Int)] c (w.alloc (.cells #[.int .i64 200, .int .u32 (c.so : Int), .int .u32 (c.me : Int), .int .u64 (c.ti : Int), .int .u32 (c.st : Int), .int .u32 (c.pa : Int), .int .u32 (c.oc : Int), .slice A c.reps.length a, .slice B c.nams.length b', .slice C c.srcs.length c', .slice D c.loss.length d, .slice E c.firs.length e, .int .u64 (c.ra : Int)] 58))) := Lib.hid ⟨b0, hB0, hC0⟩
 obtain ⟨P0, hP0⟩ : ∃ P0, P0 = beb 8 c.ti := ⟨_, rfl⟩
 have hl0 : P0.length = 8 := by rw [hP0]; exact length_beb _ _
 have HP : Hid (∀ W, Calls Tryz.prog 35 #[.slice none 0 0, .int .i64 8, .int .u64 (c.ti : Int)] W fun e w' => ∃ A' c', e = .returned (.slice A' 8 c') ∧ RdS w' A' 8 c' P0 ∧ Below W.heap.size W w') := Lib.hid (by
  subst hP0
  exact fun W => (putNil_bo W 8 c.ti _ _ rfl rfl (by omega) (by omega) f3).mono fun e w' ⟨A', c', h1, h2, h3⟩ => ⟨A', c', h1, h2.rd, h3⟩)
 obtain ⟨P1, hP1⟩ : ∃ P1, P1 = [c.so].flatMap (beb 4) := ⟨_, rfl⟩
 have hl1 : P1.length = 4 := by rw [hP1]; simp [length_beb]
 have HW1 : Hid (∀ W g, BlkV W g 36 [.int .u32 (c.so : Int)] → Calls Tryz.prog 73 #[.slice (some ⟨g, 0, none⟩) 1 1] W fun e w' => ∃ A' c', e = .returned (.slice A' 4 c') ∧ RdS w' A' 4 c' P1 ∧ Below W.heap.size W w') := Lib.hid (fun W g hB => words_blk [c.so] 1 4 g W P1 hB rfl rfl (by omega) (by intro x hx; simp at hx; omega) hP1)
 obtain ⟨P3, hP3⟩ : ∃ P3, P3 = [c.st, c.pa, c.oc].flatMap (beb 4) := ⟨_, rfl⟩
 have hl3 : P3.length = 12 := by rw [hP3]; simp [length_beb]
 have HW2 : Hid (∀ W g, BlkV W g 36 [.int .u32 (c.st : Int), .int .u32 (c.pa : Int), .int .u32 (c.oc : Int)] → Calls Tryz.prog 73 #[.slice (some ⟨g, 0, none⟩) 3 3] W fun e w' => ∃ A' c', e = .returned (.slice A' 12 c') ∧ RdS w' A' 12 c' P3 ∧ Below W.heap.size W w') := Lib.hid (fun W g hB => words_blk [c.st, c.pa, c.oc] 3 12 g W P3 hB rfl rfl (by omega) (by intro x hx; simp at hx; omega) hP3)
 obtain ⟨P4, hP4⟩ : ∃ P4, P4 = c.reps.flatMap repB := ⟨_, rfl⟩
 obtain ⟨N4, hN4⟩ : ∃ N4, N4 = P4.length := ⟨_, rfl⟩
 have hl4 : N4 ≤ 24 * c.reps.length := by rw [hN4, hP4]; exact flat_le repB 24 c.reps (fun x _ => Nat.le_of_eq (repB_len x))
 have HL : Hid (∀ W, Below w.heap.size w W → Calls Tryz.prog 74 #[.slice A c.reps.length a] W fun e w' => ∃ A' c', e = .returned (.slice A' N4 c') ∧ RdS w' A' N4 c' P4 ∧ Below W.heap.size W w') := Lib.hid (by
  subst hN4; subst hP4
  exact fun W hW => (repBytes_any A c.reps.length a c.reps W rfl (by omega) (fun x hm => ⟨f7 x hm, hx x hm⟩) (h1.below hW)).mono fun e w' ⟨A', c', h1, h2⟩ => ⟨A', c', h1, h2.rd, h2.2⟩)
 obtain ⟨BB, hBB⟩ : ∃ BB, BB = bSR c.so c.ti c.st c.pa c.oc c.reps := ⟨_, rfl⟩
 rw [← hBB]
 have hBP : BB = P1 ++ (P0 ++ (P3 ++ P4)) := by rw [hBB, hP1, hP0, hP3, hP4]; simp [bSR]
 obtain ⟨M, hM⟩ : ∃ M, M = BB.length := ⟨_, rfl⟩
 have HC : Hid (∀ W A1 c1 A0 c0 A2 c2 A3 c3, RdS W A1 4 c1 P1 → RdS W A0 8 c0 P0 → RdS W A2 12 c2 P3 → RdS W A3 N4 c3 P4 → Calls Tryz.prog 24 #[.slice (some ⟨W.heap.size, 0, none⟩) 4 4] (W.alloc (.cells #[.slice A1 4 c1, .slice A0 8 c0, .slice A2 12 c2, .slice A3 N4 c3] 32)) fun e w' => ∃ A' c', e = .returned (.slice A' M c') ∧ RdS w' A' M c' BB ∧ Below W.heap.size W w') := Lib.hid (fun W A1 c1 A0 c0 A2 c2 A3 c3 x1 x0 x2 x3 => concat4 W A1 A0 A2 A3 4 8 12 N4 c1 c0 c2 c3 M P1 P0 P3 P4 BB x1 x0 x2 x3 hBP hM (by rw [hM, hBP, List.length_append, List.length_append, List.length_append]; omega))
 have HM := Lib.hid hM
 clear hBB hBP hM hP0 hP1 hP3 hP4 hN4 hl0 hl1 hl3 hl4
 clear hB0 hC0 b0 hk h1 h2 h3 h4 h5 f0 f1 f2 f3 f4 f5 f6 f7 f8 f9 fa fb fc hn hx
 go_enter Tryz.func53, Tryz.ntmps53
 go_wp2_with (fail)
 refine (HP.out _).mono ?_
 rintro e' wp ⟨A0, c0, rfl, hr, hb⟩
 have SP := Lib.hid (SI.out.on hb)
 have RP := Lib.hid hr
 clear hr hb
 go_wp2
 refine wp_region_noPanic ?_
 refine wp_region_held (S := HeadS w [.int .i64 200, .int .u32 (c.so : Int), .int .u32 (c.me : Int), .int .u64 (c.ti : Int), .int .u32 (c.st : Int), .int .u32 (c.pa : Int), .int .u32 (c.oc : Int), .slice A c.reps.length a, .slice B c.nams.length b', .slice C c.srcs.length c', .slice D c.loss.length d, .slice E c.firs.length e, .int .u64 (c.ra : Int)] c) (by kernel_rfl) ?_
 change wpAnyH _ _ _ _ _ _ _ _ (World.drew _)
 have SD := Lib.hid SP.out.drew
 have R0 := Lib.hid (RP.out.below ((Below.refl wp.heap.size wp).drew))
 generalize wp.drew = w0 at SD R0 ⊢
 refine wpAnyH_take (i := 0) (v := ?_) rfl (by kernel_rfl) (by kernel_rfl) (by kernel_rfl) (fun _ _ _ h => h) (Or.inl ⟨by rfl, ?_⟩) SD.out ?_
 case refine_2 => (intro wz hz; go_simp; with_reducible rfl)
 simp only [Act.put, xgT, xgZ, xsT, xsS, xsZ]
 refine wpAnyH_take (i := 1) (v := ?_) rfl (by kernel_rfl) (by kernel_rfl) (by kernel_rfl) (fun _ _ _ h => h) (Or.inl ⟨by rfl, ?_⟩) SD.out ?_
 case refine_2 => (intro wz hz; have kk : wz.cell? ⟨w.heap.size, 1, none⟩ = some (.int .u32 (c.so : Int)) := (hz.2.1.cell 1).trans rfl; go_simp; with_reducible rfl)
 simp only [Act.put, xgT, xgS, xgZ, xsT, xsS, xsZ]
 refine wpAnyH_take (i := 4) (v := ?_) rfl (by kernel_rfl) (by kernel_rfl) (by kernel_rfl) (fun _ _ _ h => h) (Or.inl ⟨by rfl, ?_⟩) SD.out ?_
 case refine_2 => (intro wz hz; go_simp; with_reducible rfl)
 simp only [Act.put, xgT, xgS, xgZ, xsT, xsS, xsZ]
 refine wpAnyH_take (i := 5) (v := ?_) rfl (by kernel_rfl) (by kernel_rfl) (by kernel_rfl) (fun _ _ _ h => h) (Or.inl ⟨by rfl, ?_⟩) SD.out ?_
 case refine_2 => (intro wz hz; go_simp; with_reducible rfl)
 simp only [Act.put, xgT, xgS, xgZ, xsT, xsS, xsZ]
 refine wpAnyH_take (i := 6) (v := ?_) rfl (by kernel_rfl) (by kernel_rfl) (by kernel_rfl) (fun _ _ _ h => h) (Or.inl ⟨by rfl, ?_⟩) SD.out ?_
 case refine_2 => (intro wz hz; have kk : wz.cell? ⟨w.heap.size, 4, none⟩ = some (.int .u32 (c.st : Int)) := (hz.2.1.cell 4).trans rfl; go_simp; with_reducible rfl)
 simp only [Act.put, xgT, xgS, xgZ, xsT, xsS, xsZ]
 refine wpAnyH_take (i := 7) (v := ?_) rfl (by kernel_rfl) (by kernel_rfl) (by kernel_rfl) (fun _ _ _ h => h) (Or.inl ⟨by rfl, ?_⟩) SD.out ?_
 case refine_2 => (intro wz hz; go_simp; with_reducible rfl)
 simp only [Act.put, xgT, xgS, xgZ, xsT, xsS, xsZ]
 refine wpAnyH_take (i := 8) (v := ?_) rfl (by kernel_rfl) (by kernel_rfl) (by kernel_rfl) (fun _ _ _ h => h) (Or.inl ⟨by rfl, ?_⟩) SD.out ?_
 case refine_2 => (intro wz hz; have kk : wz.cell? ⟨w.heap.size, 5, none⟩ = some (.int .u32 (c.pa : Int)) := (hz.2.1.cell 5).trans rfl; go_simp; with_reducible rfl)
 simp only [Act.put, xgT, xgS, xgZ, xsT, xsS, xsZ]
 refine wpAnyH_take (i := 9) (v := ?_) rfl (by kernel_rfl) (by kernel_rfl) (by kernel_rfl) (fun _ _ _ h => h) (Or.inl ⟨by rfl, ?_⟩) SD.out ?_
 case refine_2 => (intro wz hz; go_simp; with_reducible rfl)
 simp only [Act.put, xgT, xgS, xgZ, xsT, xsS, xsZ]
 refine wpAnyH_take (i := 10) (v := ?_) rfl (by kernel_rfl) (by kernel_rfl) (by kernel_rfl) (fun _ _ _ h => h) (Or.inl ⟨by rfl, ?_⟩) SD.out ?_
 case refine_2 => (intro wz hz; have kk : wz.cell? ⟨w.heap.size, 6, none⟩ = some (.int .u32 (c.oc : Int)) := (hz.2.1.cell 6).trans rfl; go_simp; with_reducible rfl)
 simp only [Act.put, xgT, xgS, xgZ, xsT, xsS, xsZ]
 refine wpAnyH_take (i := 13) (v := ?_) rfl (by kernel_rfl) (by kernel_rfl) (by kernel_rfl) (fun _ _ _ h => h) (Or.inl ⟨by rfl, ?_⟩) SD.out ?_
 case refine_2 => (intro wz hz; go_simp; with_reducible rfl)
 simp only [Act.put, xgT, xgS, xgZ, xsT, xsS, xsZ]
 refine wpAnyH_take (i := 14) (v := ?_) rfl (by kernel_rfl) (by kernel_rfl) (by kernel_rfl) (fun _ _ _ h => h) (Or.inl ⟨by rfl, ?_⟩) SD.out ?_
 case refine_2 => (intro wz hz; have kk : wz.cell? ⟨w.heap.size, 7, none⟩ = some (.slice A c.reps.length a) := (hz.2.1.cell 7).trans rfl; go_simp; with_reducible rfl)
 simp only [Act.put, xgT, xgS, xgZ, xsT, xsS, xsZ]
 refine anyH_two (i := 2) (j := 11) (by kernel_rfl) rfl rfl rfl rfl (fun H hH => ?_) (fun H hH => ?_)
 · simp only [xgT, xgS, xgZ]
   go_simp
   have SB2 := Lib.hid (SD.out.al (.cells #[.int .u32 (c.so : Int)] 36))
   refine hH _ _ SB2.out ?_
   clear hH H
   replace R0 := Lib.hid (R0.out.below ((Below.refl w0.heap.size w0).alloc (Nat.le_refl _) (.cells #[.int .u32 (c.so : Int)] 36)))
   refine anyH_two (i := 3) (j := 11) (by kernel_rfl) rfl rfl rfl rfl (fun H hH => ?_) (fun H hH => ?_)
   · simp only [xgT, xgS, xgZ]
     go_simp
     refine (HW1.out _ _ (BlkV.new w0 36 [.int .u32 (c.so : Int)])).mono ?_
     rintro e w1 ⟨A1, c1, rfl, hr, hb⟩
     have R1 := Lib.hid hr
     have S1 := Lib.hid (SB2.out.on hb)
     replace R0 := Lib.hid (R0.out.below hb)
     clear hr hb
     refine hH _ _ S1.out ?_
     clear hH H
     refine anyH_one (i := 11) (by kernel_rfl) rfl rfl (fun H hH => ?_)
     simp only [xgT, xgS, xgZ]
     go_simp
     have SB11 := Lib.hid (S1.out.al (.cells #[.int .u32 (c.st : Int), .int .u32 (c.pa : Int), .int .u32 (c.oc : Int)] 36))
     refine hH _ _ SB11.out ?_
     clear hH H
     replace R0 := Lib.hid (R0.out.below ((Below.refl w1.heap.size w1).alloc (Nat.le_refl _) (.cells #[.int .u32 (c.st : Int), .int .u32 (c.pa : Int), .int .u32 (c.oc : Int)] 36)))
     replace R1 := Lib.hid (R1.out.below ((Below.refl w1.heap.size w1).alloc (Nat.le_refl _) (.cells #[.int .u32 (c.st : Int), .int .u32 (c.pa : Int), .int .u32 (c.oc : Int)] 36)))
     refine anyH_one (i := 12) (by kernel_rfl) rfl rfl (fun H hH => ?_)
     simp only [xgT, xgS, xgZ]
     go_simp
     refine (HW2.out _ _ (BlkV.new w1 36 [.int .u32 (c.st : Int), .int .u32 (c.pa : Int), .int .u32 (c.oc : Int)])).mono ?_
     rintro e w2 ⟨A2, c2, rfl, hr, hb⟩
     have R2 := Lib.hid hr
     have S2 := Lib.hid (SB11.out.on hb)
     replace R0 := Lib.hid (R0.out.below hb)
     replace R1 := Lib.hid (R1.out.below hb)
     clear hr hb
     refine hH _ _ S2.out ?_
     clear hH H
     refine anyH_one (i := 15) (by kernel_rfl) rfl rfl (fun H hH => ?_)
     simp only [xgT, xgS, xgZ]
     go_simp
     refine (HL.out _ S2.out.1).mono ?_
     rintro e w3 ⟨A3, c3, rfl, hr, hb⟩
     have R3 := Lib.hid hr
     have S3 := Lib.hid (S2.out.on hb)
     replace R1 := Lib.hid (R1.out.below hb)
     replace R0 := Lib.hid (R0.out.below hb)
     replace R2 := Lib.hid (R2.out.below hb)
     clear hr hb
     refine hH _ _ S3.out ?_
     clear hH H
     refine anyH_one (i := 16) (by kernel_rfl) rfl rfl (fun H hH => ?_)
     simp only [xgT, xgS, xgZ]
     go_simp
     have SB16 := Lib.hid (S3.out.al (.cells #[.slice A1 4 c1, .slice A0 8 c0, .slice A2 12 c2, .slice A3 N4 c3] 32))
     refine hH _ _ SB16.out ?_
     clear hH H
     refine anyH_one (i := 17) (by kernel_rfl) rfl rfl (fun H hH => ?_)
     simp only [xgT, xgS, xgZ]
     go_simp
     refine (HC.out _ _ _ _ _ _ _ _ _ R1.out R0.out R2.out R3.out).mono ?_
     rintro e w4 ⟨A4, c4, rfl, hr, hb⟩
     have R4 := Lib.hid hr
     have S4 := Lib.hid (S3.out.on hb)
     clear hr hb
     refine hH _ _ S4.out ?_
     clear hH H
     refine wpAnyH_take (i := 18) (v := ?_) rfl (by kernel_rfl) (by kernel_rfl) (by kernel_rfl) (fun _ _ _ h => h) (Or.inl ⟨by rfl, ?_⟩) S4.out ?_
     case refine_2 => (intro wz hz; go_simp; with_reducible rfl)
     simp only [Act.put, xgT, xgS, xgZ, xsT, xsS, xsZ]
     refine wpAnyH_done (by kernel_rfl) ?_ _
     refine NoPanic.normal ?_
     go_wp2
     go_ret
     exact ⟨A4, c4, by rw [← HM.out]; rfl, by rw [← HM.out]; exact R4.out, S4.out.1⟩
   · simp only [xgT, xgS, xgZ]
     go_simp
     have SB11 := Lib.hid (SB2.out.al (.cells #[.int .u32 (c.st : Int), .int .u32 (c.pa : Int), .int .u32 (c.oc : Int)] 36))
     refine hH _ _ SB11.out ?_
     clear hH H
     replace R0 := Lib.hid (R0.out.below ((Below.refl (w0.alloc (.cells #[.int .u32 (c.so : Int)] 36)).heap.size (w0.alloc (.cells #[.int .u32 (c.so : Int)] 36))).alloc (Nat.le_refl _) (.cells #[.int .u32 (c.st : Int), .int .u32 (c.pa : Int), .int .u32 (c.oc : Int)] 36)))
     refine anyH_one (i := 3) (by kernel_rfl) rfl rfl (fun H hH => ?_)
     simp only [xgT, xgS, xgZ]
     go_simp
     refine (HW1.out _ _ (oneBl w0 [.int .u32 (c.so : Int)] 36 (.cells #[.int .u32 (c.st : Int), .int .u32 (c.pa : Int), .int .u32 (c.oc : Int)] 36))).mono ?_
     rintro e w1 ⟨A1, c1, rfl, hr, hb⟩
     have R1 := Lib.hid hr
     have S1 := Lib.hid (SB11.out.on hb)
     replace R0 := Lib.hid (R0.out.below hb)
     have BK := Lib.hid ((twoB w0 (.cells #[.int .u32 (c.so : Int)] 36) [.int .u32 (c.st : Int), .int .u32 (c.pa : Int), .int .u32 (c.oc : Int)] 36).below hb (twoB w0 (.cells #[.int .u32 (c.so : Int)] 36) [.int .u32 (c.st : Int), .int .u32 (c.pa : Int), .int .u32 (c.oc : Int)] 36).lt)
     clear hr hb
     refine hH _ _ S1.out ?_
     clear hH H
     refine anyH_one (i := 12) (by kernel_rfl) rfl rfl (fun H hH => ?_)
     simp only [xgT, xgS, xgZ]
     go_simp
     refine (HW2.out _ _ BK.out).mono ?_
     rintro e w2 ⟨A2, c2, rfl, hr, hb⟩
     have R2 := Lib.hid hr
     have S2 := Lib.hid (S1.out.on hb)
     replace R0 := Lib.hid (R0.out.below hb)
     replace R1 := Lib.hid (R1.out.below hb)
     clear hr hb
     refine hH _ _ S2.out ?_
     clear hH H
     refine anyH_one (i := 15) (by kernel_rfl) rfl rfl (fun H hH => ?_)
     simp only [xgT, xgS, xgZ]
     go_simp
     refine (HL.out _ S2.out.1).mono ?_
     rintro e w3 ⟨A3, c3, rfl, hr, hb⟩
     have R3 := Lib.hid hr
     have S3 := Lib.hid (S2.out.on hb)
     replace R1 := Lib.hid (R1.out.below hb)
     replace R0 := Lib.hid (R0.out.below hb)
     replace R2 := Lib.hid (R2.out.below hb)
     clear hr hb
     refine hH _ _ S3.out ?_
     clear hH H
     refine anyH_one (i := 16) (by kernel_rfl) rfl rfl (fun H hH => ?_)
     simp only [xgT, xgS, xgZ]
     go_simp
     have SB16 := Lib.hid (S3.out.al (.cells #[.slice A1 4 c1, .slice A0 8 c0, .slice A2 12 c2, .slice A3 N4 c3] 32))
     refine hH _ _ SB16.out ?_
     clear hH H
     refine anyH_one (i := 17) (by kernel_rfl) rfl rfl (fun H hH => ?_)
     simp only [xgT, xgS, xgZ]
     go_simp
     refine (HC.out _ _ _ _ _ _ _ _ _ R1.out R0.out R2.out R3.out).mono ?_
     rintro e w4 ⟨A4, c4, rfl, hr, hb⟩
     have R4 := Lib.hid hr
     have S4 := Lib.hid (S3.out.on hb)
     clear hr hb
     refine hH _ _ S4.out ?_
     clear hH H
     refine wpAnyH_take (i := 18) (v := ?_) rfl (by kernel_rfl) (by kernel_rfl) (by kernel_rfl) (fun _ _ _ h => h) (Or.inl ⟨by rfl, ?_⟩) S4.out ?_
     case refine_2 => (intro wz hz; go_simp; with_reducible rfl)
     simp only [Act.put, xgT, xgS, xgZ, xsT, xsS, xsZ]
     refine wpAnyH_done (by kernel_rfl) ?_ _
     refine NoPanic.normal ?_
     go_wp2
     go_ret
     exact ⟨A4, c4, by rw [← HM.out]; rfl, by rw [← HM.out]; exact R4.out, S4.out.1⟩
 · simp only [xgT, xgS, xgZ]
   go_simp
   have SB11 := Lib.hid (SD.out.al (.cells #[.int .u32 (c.st : Int), .int .u32 (c.pa : Int), .int .u32 (c.oc : Int)] 36))
   refine hH _ _ SB11.out ?_
   clear hH H
   replace R0 := Lib.hid (R0.out.below ((Below.refl w0.heap.size w0).alloc (Nat.le_refl _) (.cells #[.int .u32 (c.st : Int), .int .u32 (c.pa : Int), .int .u32 (c.oc : Int)] 36)))
   refine anyH_one (i := 2) (by kernel_rfl) rfl rfl (fun H hH => ?_)
   simp only [xgT, xgS, xgZ]
   go_simp
   have SB2 := Lib.hid (SB11.out.al (.cells #[.int .u32 (c.so : Int)] 36))
   refine hH _ _ SB2.out ?_
   clear hH H
   replace R0 := Lib.hid (R0.out.below ((Below.refl (w0.alloc (.cells #[.int .u32 (c.st : Int), .int .u32 (c.pa : Int), .int .u32 (c.oc : Int)] 36)).heap.size (w0.alloc (.cells #[.int .u32 (c.st : Int), .int .u32 (c.pa : Int), .int .u32 (c.oc : Int)] 36))).alloc (Nat.le_refl _) (.cells #[.int .u32 (c.so : Int)] 36)))
   refine anyH_one (i := 3) (by kernel_rfl) rfl rfl (fun H hH => ?_)
   simp only [xgT, xgS, xgZ]
   go_simp
   refine (HW1.out _ _ (twoB w0 (.cells #[.int .u32 (c.st : Int), .int .u32 (c.pa : Int), .int .u32 (c.oc : Int)] 36) [.int .u32 (c.so : Int)] 36)).mono ?_
   rintro e w1 ⟨A1, c1, rfl, hr, hb⟩
   have R1 := Lib.hid hr
   have S1 := Lib.hid (SB2.out.on hb)
   replace R0 := Lib.hid (R0.out.below hb)
   have BK := Lib.hid ((oneBl w0 [.int .u32 (c.st : Int), .int .u32 (c.pa : Int), .int .u32 (c.oc : Int)] 36 (.cells #[.int .u32 (c.so : Int)] 36)).below hb (oneBl w0 [.int .u32 (c.st : Int), .int .u32 (c.pa : Int), .int .u32 (c.oc : Int)] 36 (.cells #[.int .u32 (c.so : Int)] 36)).lt)
   clear hr hb
   refine hH _ _ S1.out ?_
   clear hH H
   refine anyH_one (i := 12) (by kernel_rfl) rfl rfl (fun H hH => ?_)
   simp only [xgT, xgS, xgZ]
   go_simp
   refine (HW2.out _ _ BK.out).mono ?_
   rintro e w2 ⟨A2, c2, rfl, hr, hb⟩
   have R2 := Lib.hid hr
   have S2 := Lib.hid (S1.out.on hb)
   replace R0 := Lib.hid (R0.out.below hb)
   replace R1 := Lib.hid (R1.out.below hb)
   clear hr hb
   refine hH _ _ S2.out ?_
   clear hH H
   refine anyH_one (i := 15) (by kernel_rfl) rfl rfl (fun H hH => ?_)
   simp only [xgT, xgS, xgZ]
   go_simp
   refine (HL.out _ S2.out.1).mono ?_
   rintro e w3 ⟨A3, c3, rfl, hr, hb⟩
   have R3 := Lib.hid hr
   have S3 := Lib.hid (S2.out.on hb)
   replace R1 := Lib.hid (R1.out.below hb)
   replace R0 := Lib.hid (R0.out.below hb)
   replace R2 := Lib.hid (R2.out.below hb)
   clear hr hb
   refine hH _ _ S3.out ?_
   clear hH H
   refine anyH_one (i := 16) (by kernel_rfl) rfl rfl (fun H hH => ?_)
   simp only [xgT, xgS, xgZ]
   go_simp
   have SB16 := Lib.hid (S3.out.al (.cells #[.slice A1 4 c1, .slice A0 8 c0, .slice A2 12 c2, .slice A3 N4 c3] 32))
   refine hH _ _ SB16.out ?_
   clear hH H
   refine anyH_one (i := 17) (by kernel_rfl) rfl rfl (fun H hH => ?_)
   simp only [xgT, xgS, xgZ]
   go_simp
   refine (HC.out _ _ _ _ _ _ _ _ _ R1.out R0.out R2.out R3.out).mono ?_
   rintro e w4 ⟨A4, c4, rfl, hr, hb⟩
   have R4 := Lib.hid hr
   have S4 := Lib.hid (S3.out.on hb)
   clear hr hb
   refine hH _ _ S4.out ?_
   clear hH H
   refine wpAnyH_take (i := 18) (v := ?_) rfl (by kernel_rfl) (by kernel_rfl) (by kernel_rfl) (fun _ _ _ h => h) (Or.inl ⟨by rfl, ?_⟩) S4.out ?_
   case refine_2 => (intro wz hz; go_simp; with_reducible rfl)
   simp only [Act.put, xgT, xgS, xgZ, xsT, xsS, xsZ]
   refine wpAnyH_done (by kernel_rfl) ?_ _
   refine NoPanic.normal ?_
   go_wp2
   go_ret
   exact ⟨A4, c4, by rw [← HM.out]; rfl, by rw [← HM.out]; exact R4.out, S4.out.1⟩
theorem mul_or_add (e m : Nat) (h : m < 262144) : e * 262144 ||| m = e * 262144 + m := by
 rw [show (262144 : Nat) = 2 ^ 18 from rfl, ← Nat.shiftLeft_eq, Nat.shiftLeft_add_eq_or_of_lt h]

set_option maxRecDepth 100000 in
set_option maxHeartbeats 1000000 in
theorem rateBytes_any (cs : List Value) (c : Ctl) (w : World) (h : CtRd w cs c) (hn : c.srcs.length ≤ 16) (hr : c.ra < 18446744073709551616) :
 Calls Tryz.prog 78 #[.agg cs.toArray] w fun e w' => ∃ A' c', e = .returned (.slice A' 4 c') ∧ RdS w' A' 4 c' (beb 1 c.srcs.length ++ beb 3 (rE c.ra * 262144 + rM c.ra)) ∧ Below w.heap.size w w' := by
 obtain ⟨_, _, b0⟩ := box_facts w cs c h
 obtain ⟨A, a, B, b', C, c', D, d, E, e, h0, -⟩ := h
 subst h0
 unfold ctlC at b0 ⊢
 have B0 := Lib.hid b0
 have HS : Hid (∀ W, Calls Tryz.prog 72 #[.int .u64 (c.ra : Int)] W fun r w' => r = .returned (.tuple #[.int .u64 (rM c.ra : Int), .int .i64 (rE c.ra : Int)]) ∧ W = w') := Lib.hid (fun W => split_any c.ra W hr)
 have hE := rE_lt c.ra hr
 have hM := rM_lt c.ra hr
 obtain ⟨x, hx⟩ : ∃ x, x = rE c.ra := ⟨_, rfl⟩
 obtain ⟨m, hm⟩ : ∃ m, m = rM c.ra := ⟨_, rfl⟩
 rw [← hx, ← hm] at HS ⊢
 rw [← hx] at hE
 rw [← hm] at hM
 obtain ⟨Z, hZ⟩ : ∃ Z, Z = x * 262144 := ⟨_, rfl⟩
 obtain ⟨Y, hY⟩ : ∃ Y, Y = x * 262144 + m := ⟨_, rfl⟩
 rw [← hY]
 have lY : Y < 18446744073709551616 := by omega
 have e1 : IntKind.u64.wrap (x : Int) = (x : Int) := by rw [IntKind.wrap_u64]; omega
 have e2 : IntKind.u64.wrap ((x : Int) * 262144) = (Z : Int) := by rw [IntKind.wrap_u64]; omega
 have e3 : bits BinOp.or IntKind.u64 (Z : Int) (m : Int) = (Y : Int) := by rw [u64_or_nat _ _ (by omega) (by omega), hZ, hY, mul_or_add x m hM]
 obtain ⟨n, hnn⟩ : ∃ n, n = c.srcs.length := ⟨_, rfl⟩
 rw [← hnn] at hn B0 b0 ⊢
 have e4 : IntKind.u64.wrap (n : Int) = (n : Int) := by rw [IntKind.wrap_u64]; omega
 have HP1 : Hid (∀ W, Calls Tryz.prog 35 #[.slice none 0 0, .int .i64 1, .int .u64 (n : Int)] W fun e w' => ∃ A' c', e = .returned (.slice A' 1 c') ∧ BO W w' A' 1 c' (beb 1 n) ∧ Below W.heap.size W w') := Lib.hid (fun W => putNil_bo W 1 n _ _ rfl rfl (by omega) (by omega) (by omega))
 have HP2 : Hid (∀ W0 W A c, BO W0 W A 1 c (beb 1 n) → Calls Tryz.prog 35 #[.slice A 1 c, .int .i64 3, .int .u64 (Y : Int)] W fun e w' => ∃ A' c', e = .returned (.slice A' 4 c') ∧ BO W0 w' A' 4 c' (beb 1 n ++ beb 3 Y) ∧ Below W.heap.size W w') := Lib.hid (fun W0 W A c hb => put_bo W0 W A 1 c 4 _ 3 Y _ _ rfl rfl rfl hb (by omega) (by omega) lY (by omega))
 clear hZ hY hx hm hE hM b0 hnn hr lY
 go_enter Tryz.func78, Tryz.ntmps78
 go_wp2_with (first
  | (go_at_call 72; ((with_reducible refine (Hid.out HS _).mono ?_); rintro r wx ⟨rfl, rfl⟩))
  | (go_at_call 35; ((with_reducible refine (Hid.out HP1 _).mono ?_); rintro r w1 ⟨A1, c1, rfl, hbo, hb⟩; have B1 := Lib.hid hbo; clear hbo hb))
  | (go_at_call 35; ((with_reducible refine (Hid.out HP2 _ _ _ _ B1.out).mono ?_); rintro r w2 ⟨A2, c2, rfl, hbo, hb⟩; have B2 := Lib.hid hbo; clear hbo hb)))
 go_ret
 exact ⟨A2, c2, rfl, B2.out.rd, B0.out.trans (B2.out.2.mono B0.out.size)⟩
end Go.Proofs.YtheefckohnaceaaGreatDoor
