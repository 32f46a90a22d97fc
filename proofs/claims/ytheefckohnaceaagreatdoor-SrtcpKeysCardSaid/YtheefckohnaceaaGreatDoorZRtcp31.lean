/- Several texts in one: plain words and walks. No statement is proved here. -/
import Derived.Test.YtheefckohnaceaaGreatDoorZM20
namespace Go.Proofs.YtheefckohnaceaaGreatDoor
open List renaming getElem_toArray → xgT, getElem_cons_succ → xgS, getElem_cons_zero → xgZ, setIfInBounds_toArray → xsT, set_cons_succ → xsS, set_cons_zero → xsZ
open Go.RowKit
set_option linter.unusedVariables false

def Frz (w w' : World) : Prop := w'.heap.size = w.heap.size ∧ ∀ p, w'.cell? p = w.cell? p
theorem RdS.frz {w w' : World} {A : Option Addr} {n c : Nat} {bs : List UInt8} (h : RdS w A n c bs) (hf : Frz w w') : RdS w' A n c bs := by
 obtain ⟨h1, h2, h3, h4, h5⟩ := h
 refine ⟨h1, h2, h3, h4, fun hn => ?_⟩
 obtain ⟨b, off, hA, hlt, hc⟩ := h5 hn
 exact ⟨b, off, hA, by rw [hf.1]; exact hlt, fun j hj => (hf.2 _).trans (hc j hj)⟩
theorem RdG.frz {sz : Nat} {w w' : World} {A : Option Addr} {rows : List (List Value)} (h : RdG sz w A rows) (hf : Frz w w') : RdG sz w' A rows := by
 refine ⟨h.1, fun hn => ?_⟩
 obtain ⟨b, off, hA, hlt, hc⟩ := h.2 hn
 exact ⟨b, off, hA, by rw [hf.1]; exact hlt, fun j hj d hd => (hf.2 _).trans (hc j hj d hd)⟩
theorem CtRd.frz {w w' : World} {cs : List Value} {c : Ctl} (h : CtRd w cs c) (hf : Frz w w') : CtRd w' cs c := by
 obtain ⟨A, a, B, b', C, c', D, d, E, e, h0, h1, h2, h3, h4, h5⟩ := h
 exact ⟨A, a, B, b', C, c', D, d, E, e, h0, h1.frz hf, h2.frz hf, h3.frz hf, h4.frz hf, h5.frz hf⟩
def LetG (w W : World) (g : Nat) : Prop := w.heap.size < g ∧ g < W.heap.size ∧ ∃ fz, W.heap[g]? = some (.cells #[.int .u8 82, .int .u8 69, .int .u8 77, .int .u8 66] 5 fz)
theorem LetG.below {w W W' : World} {g : Nat} (h : LetG w W g) (hb : Below W.heap.size W W') : LetG w W' g := by
 obtain ⟨h1, h2, fz, h3⟩ := h
 exact ⟨h1, Nat.lt_of_lt_of_le h2 hb.size, fz, (hb.block g h2).trans h3⟩
theorem LetG.new {w W : World} (h : w.heap.size < W.heap.size) : LetG w (W.alloc (.cells #[.int .u8 82, .int .u8 69, .int .u8 77, .int .u8 66] 5)) W.heap.size := by
 refine ⟨h, by rw [← size_alloc]; omega, (0, 0), ?_⟩
 show (W.heap.push _)[W.heap.size]? = _
 simp
theorem rd_let (w : World) : RdS (w.alloc (.cells #[.int .u8 82, .int .u8 69, .int .u8 77, .int .u8 66] 5)) (some ⟨w.heap.size, 0, none⟩) 4 4 letB := by
 have hB : BlkV (w.alloc (.cells #[.int .u8 82, .int .u8 69, .int .u8 77, .int .u8 66] 5)) w.heap.size 5 [.int .u8 82, .int .u8 69, .int .u8 77, .int .u8 66] := BlkV.new _ _ _
 refine ⟨rfl, Nat.le_refl _, by simp [maxLen], fun h => by simp at h, fun _ => ⟨w.heap.size, 0, rfl, hB.lt, fun j hj => ?_⟩⟩
 rw [Nat.zero_add, hB.cell]
 match j, hj with
 | 0, _ => rfl
 | 1, _ => rfl
 | 2, _ => rfl
 | 3, _ => rfl
theorem conv_let {w W : World} {cs : List Value} {c : Ctl} {g : Nat} (hS : HeadS w cs c W) (h : LetG w W g) : ∃ Wf, (convert 32 32 (.slice (some ⟨g, 0, none⟩) 4 4)).run Tryz.prog W = .ok (.slice (some ⟨g, 0, none⟩) 4 4) Wf ∧ HeadS w cs c Wf ∧ Frz W Wf := by
 obtain ⟨h1, h2, fz, h3⟩ := h
 have hsh : W.shape? g = some (5, 4) := by unfold World.shape?; rw [h3]; rfl
 have hother : ∀ j, j ≠ g → (W.freeze ⟨g, 4, none⟩ 1).heap[j]? = W.heap[j]? := by
  intro j hj
  simp [World.freeze, Array.getElem?_modify, Ne.symm hj]
 have hsize : (W.freeze ⟨g, 4, none⟩ 1).heap.size = W.heap.size := by simp [World.freeze]
 have hat : ∃ fz', (W.freeze ⟨g, 4, none⟩ 1).heap[g]? = some (.cells #[.int .u8 82, .int .u8 69, .int .u8 77, .int .u8 66] 5 fz') := by
  simp only [World.freeze]
  rw [if_neg (by decide)]
  rw [Array.getElem?_modify, if_pos rfl, h3]
  exact ⟨_, rfl⟩
 have hcell : ∀ p, (W.freeze ⟨g, 4, none⟩ 1).cell? p = W.cell? p := by
  intro p
  by_cases hp : p.block = g
  · obtain ⟨fz', hat⟩ := hat
    unfold World.cell?
    rw [hp, hat, h3]
  · unfold World.cell?
    rw [hother _ hp]
 have hF : Frz W (W.freeze ⟨g, 4, none⟩ 1) := ⟨hsize, hcell⟩
 refine ⟨W.freeze ⟨g, 4, none⟩ 1, ?_, ⟨?_, ?_, ?_⟩, hF⟩
 · simp [convert, run_underlying Tryz.underlying32, run_underlying Tryz.underlying5, markStringish, hsh]
 · refine hS.1.trans ⟨?_, ?_, ?_, by rw [hsize]; omega, fun k hk => hother k (by omega)⟩ <;> (simp only [World.freeze]; split <;> rfl)
 · exact (hother _ (by omega)).trans hS.2.1
 · exact hS.2.2.frz hF

set_option maxRecDepth 100000 in
set_option maxHeartbeats 8000000 in
theorem body_4 (cs : List Value) (c : Ctl) (w : World) (h : CtRd w cs c) (hk : c.k = 4) (hf : c.fit) (hn : c.srcs.length ≤ 16) :
 Calls Tryz.prog 53 #[.agg cs.toArray] w (BodyTold w (bRE c.so c.srcs (rM c.ra) (rE c.ra))) := by
 obtain ⟨hB0, hC0, b0⟩ := box_facts w cs c h
 have HR0 : ∀ W, CtRd W cs c → Calls Tryz.prog 78 #[.agg cs.toArray] W fun e w' => ∃ A' c', e = .returned (.slice A' 4 c') ∧ RdS w' A' 4 c' (beb 1 c.srcs.length ++ beb 3 (rE c.ra * 262144 + rM c.ra)) ∧ Below W.heap.size W w' := fun W hW => rateBytes_any cs c W hW hn hf.2.2.2.2.2.2.2.2.2.2.2.2
 obtain ⟨A, a, B, b', C, c', D, d, E, e, h0, h1, h2, h3, h4, h5⟩ := h
 obtain ⟨f0, f1, f2, f3, f4, f5, f6, f7, f8, f9, fa, fb, fc⟩ := hf
 subst h0
 unfold ctlC at hC0 hB0 b0 HR0 ⊢
 rw [hk] at hC0 hB0 b0 HR0 ⊢
 have SI : Hid (HeadS w [.int .i64 4, .int .u32 (c.so : Int), .int .u32 (c.me : Int), .int .u64 (c.ti : Int), .int .u32 (c.st : Int), .int .u32 (c.pa : Int), .int .u32 (c.oc : Int), .slice A c.reps.length a, .slice B c.nams.length b', .slice C c.srcs.length c', .slice D c.loss.length d, .slice E c.firs.length e, .int .u64 (c.ra : Int)] c (w.alloc (.cells #[.int .i64 4, .int .u32 (c.so : Int), .int .u32 (c.me : Int), .int .u64 (c.ti : Int), .int .u32 (c.st : Int), .int .u32 (c.pa : Int), .int .u32 (c.oc : Int), .slice A c.reps.length a, .slice B c.nams.length b', .slice C c.srcs.length c', .slice D c.loss.length d, .slice E c.firs.length e, .int .u64 (c.ra : Int)] 58))) := Lib.hid ⟨b0, hB0, hC0⟩
 obtain ⟨P1, hP1⟩ : ∃ P1, P1 = [c.so, 0].flatMap (beb 4) := ⟨_, rfl⟩
 have hl1 : P1.length = 8 := by rw [hP1]; simp [length_beb]
 have HW1 : Hid (∀ W g, RdG 1 W (some ⟨g, 0, none⟩) ([c.so, 0].map cSrc) → Calls Tryz.prog 73 #[.slice (some ⟨g, 0, none⟩) 2 2] W fun e w' => ∃ A' c', e = .returned (.slice A' 8 c') ∧ RdS w' A' 8 c' P1 ∧ Below W.heap.size W w') := Lib.hid (fun W g hg => by
  refine (words_anyC _ 2 2 [c.so, 0] W rfl (by omega) (by intro x hx; simp at hx; omega) hg).mono ?_
  rw [← hP1, hl1]
  rintro e w' ⟨A', c', h1, hb⟩
  exact ⟨A', c', h1, hb.rd, hb.2⟩)
 have HY : Hid (∀ W : World, RdG 1 (W.alloc (.cells #[.int .u32 (c.so : Int), .int .u32 0] 36)) (some ⟨W.heap.size, 0, none⟩) ([c.so, 0].map cSrc)) := Lib.hid (fun W => by
  have hB : BlkV (W.alloc (.cells #[.int .u32 (c.so : Int), .int .u32 0] 36)) W.heap.size 36 [.int .u32 (c.so : Int), .int .u32 0] := BlkV.new _ _ _
  refine ⟨fun r hr => by simp at hr; rcases hr with rfl | rfl <;> rfl, fun _ => ⟨W.heap.size, 0, rfl, hB.lt, fun j hj d hd => ?_⟩⟩
  obtain rfl : d = 0 := by omega
  rw [hB.cell]
  match j, hj with
  | 0, _ => rfl
  | 1, _ => rfl)
 obtain ⟨P3, hP3⟩ : ∃ P3, P3 = beb 1 c.srcs.length ++ beb 3 (rE c.ra * 262144 + rM c.ra) := ⟨_, rfl⟩
 have hl3 : P3.length = 4 := by rw [hP3, List.length_append, length_beb, length_beb]
 rw [← hP3] at HR0
 have HR := Lib.hid HR0
 obtain ⟨P4, hP4⟩ : ∃ P4, P4 = c.srcs.flatMap (beb 4) := ⟨_, rfl⟩
 obtain ⟨N4, hN4⟩ : ∃ N4, N4 = P4.length := ⟨_, rfl⟩
 have hl4 : N4 ≤ 4 * c.srcs.length := by rw [hN4, hP4]; exact flat_le (beb 4) 4 c.srcs (fun x _ => Nat.le_of_eq (length_beb 4 x))
 have HL : Hid (∀ W, CtRd W [.int .i64 4, .int .u32 (c.so : Int), .int .u32 (c.me : Int), .int .u64 (c.ti : Int), .int .u32 (c.st : Int), .int .u32 (c.pa : Int), .int .u32 (c.oc : Int), .slice A c.reps.length a, .slice B c.nams.length b', .slice C c.srcs.length c', .slice D c.loss.length d, .slice E c.firs.length e, .int .u64 (c.ra : Int)] c → Calls Tryz.prog 73 #[.slice C c.srcs.length c'] W fun e w' => ∃ A' c', e = .returned (.slice A' N4 c') ∧ RdS w' A' N4 c' P4 ∧ Below W.heap.size W w') := Lib.hid (by
  subst hN4; subst hP4
  rintro W ⟨A', a', B', b2, C', c2, D', d', E', e', g0, -, -, g3, -⟩
  unfold ctlC at g0
  simp only [List.cons.injEq, Value.slice.injEq] at g0
  obtain ⟨-, -, -, -, -, -, -, -, -, ⟨rfl, -, rfl⟩, -⟩ := g0
  exact (words_anyC C c.srcs.length c' c.srcs W rfl (by omega) f9 g3).mono fun e w' ⟨A', c', h1, h2⟩ => ⟨A', c', h1, h2.rd, h2.2⟩)
 obtain ⟨BB, hBB⟩ : ∃ BB, BB = bRE c.so c.srcs (rM c.ra) (rE c.ra) := ⟨_, rfl⟩
 rw [← hBB]
 have hBP : BB = P1 ++ (letB ++ (P3 ++ P4)) := by rw [hBB, hP1, hP3, hP4]; simp [bRE]
 obtain ⟨M, hM⟩ : ∃ M, M = BB.length := ⟨_, rfl⟩
 have HC : Hid (∀ W A1 c1 A0 A2 c2 A3 c3, RdS W A1 8 c1 P1 → RdS W A0 4 4 letB → RdS W A2 4 c2 P3 → RdS W A3 N4 c3 P4 → Calls Tryz.prog 24 #[.slice (some ⟨W.heap.size, 0, none⟩) 4 4] (W.alloc (.cells #[.slice A1 8 c1, .slice A0 4 4, .slice A2 4 c2, .slice A3 N4 c3] 32)) fun e w' => ∃ A' c', e = .returned (.slice A' M c') ∧ RdS w' A' M c' BB ∧ Below W.heap.size W w') := Lib.hid (fun W A1 c1 A0 A2 c2 A3 c3 x1 x0 x2 x3 => concat4 W A1 A0 A2 A3 8 4 4 N4 c1 4 c2 c3 M P1 letB P3 P4 BB x1 x0 x2 x3 hBP hM (by rw [hM, hBP, List.length_append, List.length_append, List.length_append, show letB.length = 4 from rfl]; omega))
 have HM := Lib.hid hM
 clear hBB hBP hM hP1 hP3 hP4 hN4 hl1 hl3 hl4 HR0
 have SD := Lib.hid SI.out.drew
 clear SI
 clear hB0 hC0 b0 hk h1 h2 h3 h4 h5 f0 f1 f2 f3 f4 f5 f6 f7 f8 f9 fa fb fc hn
 go_enter Tryz.func53, Tryz.ntmps53
 go_wp2
 refine wp_region_noPanic ?_
 refine wp_region_held (S := HeadS w [.int .i64 4, .int .u32 (c.so : Int), .int .u32 (c.me : Int), .int .u64 (c.ti : Int), .int .u32 (c.st : Int), .int .u32 (c.pa : Int), .int .u32 (c.oc : Int), .slice A c.reps.length a, .slice B c.nams.length b', .slice C c.srcs.length c', .slice D c.loss.length d, .slice E c.firs.length e, .int .u64 (c.ra : Int)] c) (by kernel_rfl) ?_
 change wpAnyH _ _ _ _ _ _ _ _ (World.drew _)
 generalize (w.alloc (.cells #[.int .i64 4, .int .u32 (c.so : Int), .int .u32 (c.me : Int), .int .u64 (c.ti : Int), .int .u32 (c.st : Int), .int .u32 (c.pa : Int), .int .u32 (c.oc : Int), .slice A c.reps.length a, .slice B c.nams.length b', .slice C c.srcs.length c', .slice D c.loss.length d, .slice E c.firs.length e, .int .u64 (c.ra : Int)] 58)).drew = w0 at SD ⊢
 refine wpAnyH_take (i := 0) (v := ?_) rfl (by kernel_rfl) (by kernel_rfl) (by kernel_rfl) (fun _ _ _ h => h) (Or.inl ⟨by rfl, ?_⟩) SD.out ?_
 case refine_2 => (intro wz hz; go_simp; with_reducible rfl)
 simp only [Act.put, xgT, xgZ, xsT, xsS, xsZ]
 refine wpAnyH_take (i := 1) (v := ?_) rfl (by kernel_rfl) (by kernel_rfl) (by kernel_rfl) (fun _ _ _ h => h) (Or.inl ⟨by rfl, ?_⟩) SD.out ?_
 case refine_2 => (intro wz hz; have kk : wz.cell? ⟨w.heap.size, 1, none⟩ = some (.int .u32 (c.so : Int)) := (hz.2.1.cell 1).trans rfl; go_simp; with_reducible rfl)
 simp only [Act.put, xgT, xgS, xgZ, xsT, xsS, xsZ]
 refine wpAnyH_take (i := 6) (v := .agg #[.int .i64 4, .int .u32 (c.so : Int), .int .u32 (c.me : Int), .int .u64 (c.ti : Int), .int .u32 (c.st : Int), .int .u32 (c.pa : Int), .int .u32 (c.oc : Int), .slice A c.reps.length a, .slice B c.nams.length b', .slice C c.srcs.length c', .slice D c.loss.length d, .slice E c.firs.length e, .int .u64 (c.ra : Int)]) rfl (by kernel_rfl) (by kernel_rfl) (by kernel_rfl) (fun _ _ _ h => h) (Or.inl ⟨by rfl, fun wz hz => ?_⟩) SD.out ?_
 · exact run_ld 58 (.tmp 1) rfl w.heap.size 0 rfl [.int .i64 4, .int .u32 (c.so : Int), .int .u32 (c.me : Int), .int .u64 (c.ti : Int), .int .u32 (c.st : Int), .int .u32 (c.pa : Int), .int .u32 (c.oc : Int), .slice A c.reps.length a, .slice B c.nams.length b', .slice C c.srcs.length c', .slice D c.loss.length d, .slice E c.firs.length e, .int .u64 (c.ra : Int)] (hz.2.1.range 0 _ (fun i _ => by rw [Nat.zero_add])) (rowCtl rfl)
 simp only [Act.put, xgT, xgS, xgZ, xsT, xsS, xsZ]
 refine wpAnyH_take (i := 8) (v := ?_) rfl (by kernel_rfl) (by kernel_rfl) (by kernel_rfl) (fun _ _ _ h => h) (Or.inl ⟨by rfl, ?_⟩) SD.out ?_
 case refine_2 => (intro wz hz; go_simp; with_reducible rfl)
 simp only [Act.put, xgT, xgS, xgZ, xsT, xsS, xsZ]
 refine wpAnyH_take (i := 9) (v := ?_) rfl (by kernel_rfl) (by kernel_rfl) (by kernel_rfl) (fun _ _ _ h => h) (Or.inl ⟨by rfl, ?_⟩) SD.out ?_
 case refine_2 => (intro wz hz; have kk : wz.cell? ⟨w.heap.size, 9, none⟩ = some (.slice C c.srcs.length c') := (hz.2.1.cell 9).trans rfl; go_simp; with_reducible rfl)
 simp only [Act.put, xgT, xgS, xgZ, xsT, xsS, xsZ]
 refine anyH_two (i := 2) (j := 4) (by kernel_rfl) rfl rfl rfl rfl (fun H hH => ?_) (fun H hH => ?_)
 · simp only [xgT, xgS, xgZ]
   go_simp
   have Sq1 := Lib.hid (SD.out.al (.cells #[.int .u32 (c.so : Int), .int .u32 0] 36))
   have RY := Lib.hid (HY.out w0)
   refine hH _ _ Sq1.out ?_
   clear hH H
   generalize w0.alloc (.cells #[.int .u32 (c.so : Int), .int .u32 0] 36) = wq1 at Sq1 RY ⊢
   refine anyH_two (i := 3) (j := 4) (by kernel_rfl) rfl rfl rfl rfl (fun H hH => ?_) (fun H hH => ?_)
   · simp only [xgT, xgS, xgZ]
     go_simp
     refine (HW1.out _ _ RY.out).mono ?_
     rintro e wq2 ⟨A3, c3, rfl, hr, hb⟩
     have R3 := Lib.hid hr
     have Sq2 := Lib.hid (Sq1.out.on hb)
     clear hr hb
     refine hH _ _ Sq2.out ?_
     clear hH H
     refine anyH_two (i := 4) (j := 7) (by kernel_rfl) rfl rfl rfl rfl (fun H hH => ?_) (fun H hH => ?_)
     · simp only [xgT, xgS, xgZ]
       go_simp
       have Sq3 := Lib.hid (Sq2.out.al (.cells #[.int .u8 82, .int .u8 69, .int .u8 77, .int .u8 66] 5))
       replace R3 := Lib.hid (R3.out.below ((Below.refl wq2.heap.size wq2).alloc (Nat.le_refl _) (.cells #[.int .u8 82, .int .u8 69, .int .u8 77, .int .u8 66] 5)))
       have RL := Lib.hid (rd_let wq2)
       have LG : Hid (LetG w (wq2.alloc (.cells #[.int .u8 82, .int .u8 69, .int .u8 77, .int .u8 66] 5)) wq2.heap.size) := Lib.hid (LetG.new Sq2.out.2.1.lt)
       refine hH _ _ Sq3.out ?_
       clear hH H
       generalize wq2.alloc (.cells #[.int .u8 82, .int .u8 69, .int .u8 77, .int .u8 66] 5) = wq3 at Sq3 R3 RL LG ⊢
       refine anyH_two (i := 5) (j := 7) (by kernel_rfl) rfl rfl rfl rfl (fun H hH => ?_) (fun H hH => ?_)
       · simp only [xgT, xgS, xgZ]
         obtain ⟨wq4, hcv, hs, hfz⟩ := conv_let Sq3.out LG.out
         go_simp
         have Sq4 := Lib.hid hs
         replace R3 := Lib.hid (R3.out.frz hfz)
         replace RL := Lib.hid (RL.out.frz hfz)
         clear hcv hs hfz LG
         refine hH _ _ Sq4.out ?_
         clear hH H
         refine anyH_one (i := 7) (by kernel_rfl) rfl rfl (fun H hH => ?_)
         simp only [xgT, xgS, xgZ]
         go_simp
         refine (HR.out _ Sq4.out.2.2).mono ?_
         rintro e wq5 ⟨A7, c7, rfl, hr, hb⟩
         have R7 := Lib.hid hr
         have Sq5 := Lib.hid (Sq4.out.on hb)
         replace R3 := Lib.hid (R3.out.below hb)
         replace RL := Lib.hid (RL.out.below hb)
         clear hr hb
         refine hH _ _ Sq5.out ?_
         clear hH H
         refine anyH_one (i := 10) (by kernel_rfl) rfl rfl (fun H hH => ?_)
         simp only [xgT, xgS, xgZ]
         go_simp
         refine (HL.out _ Sq5.out.2.2).mono ?_
         rintro e wq6 ⟨A10, c10, rfl, hr, hb⟩
         have R10 := Lib.hid hr
         have Sq6 := Lib.hid (Sq5.out.on hb)
         replace R3 := Lib.hid (R3.out.below hb)
         replace RL := Lib.hid (RL.out.below hb)
         replace R7 := Lib.hid (R7.out.below hb)
         clear hr hb
         refine hH _ _ Sq6.out ?_
         clear hH H
         refine anyH_one (i := 11) (by kernel_rfl) rfl rfl (fun H hH => ?_)
         simp only [xgT, xgS, xgZ]
         go_simp
         have SB11 := Lib.hid (Sq6.out.al (.cells #[.slice A3 8 c3, .slice (some ⟨wq2.heap.size, 0, none⟩) 4 4, .slice A7 4 c7, .slice A10 N4 c10] 32))
         refine hH _ _ SB11.out ?_
         clear hH H
         refine anyH_one (i := 12) (by kernel_rfl) rfl rfl (fun H hH => ?_)
         simp only [xgT, xgS, xgZ]
         go_simp
         refine (HC.out _ _ _ _ _ _ _ _ R3.out RL.out R7.out R10.out).mono ?_
         rintro e w9 ⟨A9, c9, rfl, hr, hb⟩
         have R9 := Lib.hid hr
         have S9 := Lib.hid (Sq6.out.on hb)
         clear hr hb
         refine hH _ _ S9.out ?_
         clear hH H
         refine wpAnyH_take (i := 13) (v := ?_) rfl (by kernel_rfl) (by kernel_rfl) (by kernel_rfl) (fun _ _ _ h => h) (Or.inl ⟨by rfl, ?_⟩) S9.out ?_
         case refine_2 => (intro wz hz; go_simp; with_reducible rfl)
         simp only [Act.put, xgT, xgS, xgZ, xsT, xsS, xsZ]
         refine wpAnyH_done (by kernel_rfl) ?_ _
         refine NoPanic.normal ?_
         go_wp2
         go_ret
         exact ⟨A9, c9, by rw [← HM.out]; rfl, by rw [← HM.out]; exact R9.out, S9.out.1⟩
       · simp only [xgT, xgS, xgZ]
         go_simp
         refine (HR.out _ Sq3.out.2.2).mono ?_
         rintro e wq7 ⟨A7, c7, rfl, hr, hb⟩
         have R7 := Lib.hid hr
         have Sq7 := Lib.hid (Sq3.out.on hb)
         replace R3 := Lib.hid (R3.out.below hb)
         replace RL := Lib.hid (RL.out.below hb)
         replace LG := Lib.hid (LG.out.below hb)
         clear hr hb
         refine hH _ _ Sq7.out ?_
         clear hH H
         refine anyH_two (i := 5) (j := 10) (by kernel_rfl) rfl rfl rfl rfl (fun H hH => ?_) (fun H hH => ?_)
         · simp only [xgT, xgS, xgZ]
           obtain ⟨wq8, hcv, hs, hfz⟩ := conv_let Sq7.out LG.out
           go_simp
           have Sq8 := Lib.hid hs
           replace R3 := Lib.hid (R3.out.frz hfz)
           replace RL := Lib.hid (RL.out.frz hfz)
           replace R7 := Lib.hid (R7.out.frz hfz)
           clear hcv hs hfz LG
           refine hH _ _ Sq8.out ?_
           clear hH H
           refine anyH_one (i := 10) (by kernel_rfl) rfl rfl (fun H hH => ?_)
           simp only [xgT, xgS, xgZ]
           go_simp
           refine (HL.out _ Sq8.out.2.2).mono ?_
           rintro e wq9 ⟨A10, c10, rfl, hr, hb⟩
           have R10 := Lib.hid hr
           have Sq9 := Lib.hid (Sq8.out.on hb)
           replace R3 := Lib.hid (R3.out.below hb)
           replace RL := Lib.hid (RL.out.below hb)
           replace R7 := Lib.hid (R7.out.below hb)
           clear hr hb
           refine hH _ _ Sq9.out ?_
           clear hH H
           refine anyH_one (i := 11) (by kernel_rfl) rfl rfl (fun H hH => ?_)
           simp only [xgT, xgS, xgZ]
           go_simp
           have SB11 := Lib.hid (Sq9.out.al (.cells #[.slice A3 8 c3, .slice (some ⟨wq2.heap.size, 0, none⟩) 4 4, .slice A7 4 c7, .slice A10 N4 c10] 32))
           refine hH _ _ SB11.out ?_
           clear hH H
           refine anyH_one (i := 12) (by kernel_rfl) rfl rfl (fun H hH => ?_)
           simp only [xgT, xgS, xgZ]
           go_simp
           refine (HC.out _ _ _ _ _ _ _ _ R3.out RL.out R7.out R10.out).mono ?_
           rintro e w9 ⟨A9, c9, rfl, hr, hb⟩
           have R9 := Lib.hid hr
           have S9 := Lib.hid (Sq9.out.on hb)
           clear hr hb
           refine hH _ _ S9.out ?_
           clear hH H
           refine wpAnyH_take (i := 13) (v := ?_) rfl (by kernel_rfl) (by kernel_rfl) (by kernel_rfl) (fun _ _ _ h => h) (Or.inl ⟨by rfl, ?_⟩) S9.out ?_
           case refine_2 => (intro wz hz; go_simp; with_reducible rfl)
           simp only [Act.put, xgT, xgS, xgZ, xsT, xsS, xsZ]
           refine wpAnyH_done (by kernel_rfl) ?_ _
           refine NoPanic.normal ?_
           go_wp2
           go_ret
           exact ⟨A9, c9, by rw [← HM.out]; rfl, by rw [← HM.out]; exact R9.out, S9.out.1⟩
         · simp only [xgT, xgS, xgZ]
           go_simp
           refine (HL.out _ Sq7.out.2.2).mono ?_
           rintro e wq10 ⟨A10, c10, rfl, hr, hb⟩
           have R10 := Lib.hid hr
           have Sq10 := Lib.hid (Sq7.out.on hb)
           replace R3 := Lib.hid (R3.out.below hb)
           replace RL := Lib.hid (RL.out.below hb)
           replace LG := Lib.hid (LG.out.below hb)
           replace R7 := Lib.hid (R7.out.below hb)
           clear hr hb
           refine hH _ _ Sq10.out ?_
           clear hH H
           refine anyH_one (i := 5) (by kernel_rfl) rfl rfl (fun H hH => ?_)
           simp only [xgT, xgS, xgZ]
           obtain ⟨wq11, hcv, hs, hfz⟩ := conv_let Sq10.out LG.out
           go_simp
           have Sq11 := Lib.hid hs
           replace R3 := Lib.hid (R3.out.frz hfz)
           replace RL := Lib.hid (RL.out.frz hfz)
           replace R7 := Lib.hid (R7.out.frz hfz)
           replace R10 := Lib.hid (R10.out.frz hfz)
           clear hcv hs hfz LG
           refine hH _ _ Sq11.out ?_
           clear hH H
           refine anyH_one (i := 11) (by kernel_rfl) rfl rfl (fun H hH => ?_)
           simp only [xgT, xgS, xgZ]
           go_simp
           have SB11 := Lib.hid (Sq11.out.al (.cells #[.slice A3 8 c3, .slice (some ⟨wq2.heap.size, 0, none⟩) 4 4, .slice A7 4 c7, .slice A10 N4 c10] 32))
           refine hH _ _ SB11.out ?_
           clear hH H
           refine anyH_one (i := 12) (by kernel_rfl) rfl rfl (fun H hH => ?_)
           simp only [xgT, xgS, xgZ]
           go_simp
           refine (HC.out _ _ _ _ _ _ _ _ R3.out RL.out R7.out R10.out).mono ?_
           rintro e w9 ⟨A9, c9, rfl, hr, hb⟩
           have R9 := Lib.hid hr
           have S9 := Lib.hid (Sq11.out.on hb)
           clear hr hb
           refine hH _ _ S9.out ?_
           clear hH H
           refine wpAnyH_take (i := 13) (v := ?_) rfl (by kernel_rfl) (by kernel_rfl) (by kernel_rfl) (fun _ _ _ h => h) (Or.inl ⟨by rfl, ?_⟩) S9.out ?_
           case refine_2 => (intro wz hz; go_simp; with_reducible rfl)
           simp only [Act.put, xgT, xgS, xgZ, xsT, xsS, xsZ]
           refine wpAnyH_done (by kernel_rfl) ?_ _
           refine NoPanic.normal ?_
           go_wp2
           go_ret
           exact ⟨A9, c9, by rw [← HM.out]; rfl, by rw [← HM.out]; exact R9.out, S9.out.1⟩
     · simp only [xgT, xgS, xgZ]
       go_simp
       refine (HR.out _ Sq2.out.2.2).mono ?_
       rintro e wq12 ⟨A7, c7, rfl, hr, hb⟩
       have R7 := Lib.hid hr
       have Sq12 := Lib.hid (Sq2.out.on hb)
       replace R3 := Lib.hid (R3.out.below hb)
       clear hr hb
       refine hH _ _ Sq12.out ?_
       clear hH H
       refine anyH_two (i := 4) (j := 10) (by kernel_rfl) rfl rfl rfl rfl (fun H hH => ?_) (fun H hH => ?_)
       · simp only [xgT, xgS, xgZ]
         go_simp
         have Sq13 := Lib.hid (Sq12.out.al (.cells #[.int .u8 82, .int .u8 69, .int .u8 77, .int .u8 66] 5))
         replace R3 := Lib.hid (R3.out.below ((Below.refl wq12.heap.size wq12).alloc (Nat.le_refl _) (.cells #[.int .u8 82, .int .u8 69, .int .u8 77, .int .u8 66] 5)))
         replace R7 := Lib.hid (R7.out.below ((Below.refl wq12.heap.size wq12).alloc (Nat.le_refl _) (.cells #[.int .u8 82, .int .u8 69, .int .u8 77, .int .u8 66] 5)))
         have RL := Lib.hid (rd_let wq12)
         have LG : Hid (LetG w (wq12.alloc (.cells #[.int .u8 82, .int .u8 69, .int .u8 77, .int .u8 66] 5)) wq12.heap.size) := Lib.hid (LetG.new Sq12.out.2.1.lt)
         refine hH _ _ Sq13.out ?_
         clear hH H
         generalize wq12.alloc (.cells #[.int .u8 82, .int .u8 69, .int .u8 77, .int .u8 66] 5) = wq13 at Sq13 R3 R7 RL LG ⊢
         refine anyH_two (i := 5) (j := 10) (by kernel_rfl) rfl rfl rfl rfl (fun H hH => ?_) (fun H hH => ?_)
         · simp only [xgT, xgS, xgZ]
           obtain ⟨wq14, hcv, hs, hfz⟩ := conv_let Sq13.out LG.out
           go_simp
           have Sq14 := Lib.hid hs
           replace R3 := Lib.hid (R3.out.frz hfz)
           replace R7 := Lib.hid (R7.out.frz hfz)
           replace RL := Lib.hid (RL.out.frz hfz)
           clear hcv hs hfz LG
           refine hH _ _ Sq14.out ?_
           clear hH H
           refine anyH_one (i := 10) (by kernel_rfl) rfl rfl (fun H hH => ?_)
           simp only [xgT, xgS, xgZ]
           go_simp
           refine (HL.out _ Sq14.out.2.2).mono ?_
           rintro e wq15 ⟨A10, c10, rfl, hr, hb⟩
           have R10 := Lib.hid hr
           have Sq15 := Lib.hid (Sq14.out.on hb)
           replace R3 := Lib.hid (R3.out.below hb)
           replace R7 := Lib.hid (R7.out.below hb)
           replace RL := Lib.hid (RL.out.below hb)
           clear hr hb
           refine hH _ _ Sq15.out ?_
           clear hH H
           refine anyH_one (i := 11) (by kernel_rfl) rfl rfl (fun H hH => ?_)
           simp only [xgT, xgS, xgZ]
           go_simp
           have SB11 := Lib.hid (Sq15.out.al (.cells #[.slice A3 8 c3, .slice (some ⟨wq12.heap.size, 0, none⟩) 4 4, .slice A7 4 c7, .slice A10 N4 c10] 32))
           refine hH _ _ SB11.out ?_
           clear hH H
           refine anyH_one (i := 12) (by kernel_rfl) rfl rfl (fun H hH => ?_)
           simp only [xgT, xgS, xgZ]
           go_simp
           refine (HC.out _ _ _ _ _ _ _ _ R3.out RL.out R7.out R10.out).mono ?_
           rintro e w9 ⟨A9, c9, rfl, hr, hb⟩
           have R9 := Lib.hid hr
           have S9 := Lib.hid (Sq15.out.on hb)
           clear hr hb
           refine hH _ _ S9.out ?_
           clear hH H
           refine wpAnyH_take (i := 13) (v := ?_) rfl (by kernel_rfl) (by kernel_rfl) (by kernel_rfl) (fun _ _ _ h => h) (Or.inl ⟨by rfl, ?_⟩) S9.out ?_
           case refine_2 => (intro wz hz; go_simp; with_reducible rfl)
           simp only [Act.put, xgT, xgS, xgZ, xsT, xsS, xsZ]
           refine wpAnyH_done (by kernel_rfl) ?_ _
           refine NoPanic.normal ?_
           go_wp2
           go_ret
           exact ⟨A9, c9, by rw [← HM.out]; rfl, by rw [← HM.out]; exact R9.out, S9.out.1⟩
         · simp only [xgT, xgS, xgZ]
           go_simp
           refine (HL.out _ Sq13.out.2.2).mono ?_
           rintro e wq16 ⟨A10, c10, rfl, hr, hb⟩
           have R10 := Lib.hid hr
           have Sq16 := Lib.hid (Sq13.out.on hb)
           replace R3 := Lib.hid (R3.out.below hb)
           replace R7 := Lib.hid (R7.out.below hb)
           replace RL := Lib.hid (RL.out.below hb)
           replace LG := Lib.hid (LG.out.below hb)
           clear hr hb
           refine hH _ _ Sq16.out ?_
           clear hH H
           refine anyH_one (i := 5) (by kernel_rfl) rfl rfl (fun H hH => ?_)
           simp only [xgT, xgS, xgZ]
           obtain ⟨wq17, hcv, hs, hfz⟩ := conv_let Sq16.out LG.out
           go_simp
           have Sq17 := Lib.hid hs
           replace R3 := Lib.hid (R3.out.frz hfz)
           replace R7 := Lib.hid (R7.out.frz hfz)
           replace RL := Lib.hid (RL.out.frz hfz)
           replace R10 := Lib.hid (R10.out.frz hfz)
           clear hcv hs hfz LG
           refine hH _ _ Sq17.out ?_
           clear hH H
           refine anyH_one (i := 11) (by kernel_rfl) rfl rfl (fun H hH => ?_)
           simp only [xgT, xgS, xgZ]
           go_simp
           have SB11 := Lib.hid (Sq17.out.al (.cells #[.slice A3 8 c3, .slice (some ⟨wq12.heap.size, 0, none⟩) 4 4, .slice A7 4 c7, .slice A10 N4 c10] 32))
           refine hH _ _ SB11.out ?_
           clear hH H
           refine anyH_one (i := 12) (by kernel_rfl) rfl rfl (fun H hH => ?_)
           simp only [xgT, xgS, xgZ]
           go_simp
           refine (HC.out _ _ _ _ _ _ _ _ R3.out RL.out R7.out R10.out).mono ?_
           rintro e w9 ⟨A9, c9, rfl, hr, hb⟩
           have R9 := Lib.hid hr
           have S9 := Lib.hid (Sq17.out.on hb)
           clear hr hb
           refine hH _ _ S9.out ?_
           clear hH H
           refine wpAnyH_take (i := 13) (v := ?_) rfl (by kernel_rfl) (by kernel_rfl) (by kernel_rfl) (fun _ _ _ h => h) (Or.inl ⟨by rfl, ?_⟩) S9.out ?_
           case refine_2 => (intro wz hz; go_simp; with_reducible rfl)
           simp only [Act.put, xgT, xgS, xgZ, xsT, xsS, xsZ]
           refine wpAnyH_done (by kernel_rfl) ?_ _
           refine NoPanic.normal ?_
           go_wp2
           go_ret
           exact ⟨A9, c9, by rw [← HM.out]; rfl, by rw [← HM.out]; exact R9.out, S9.out.1⟩
       · simp only [xgT, xgS, xgZ]
         go_simp
         refine (HL.out _ Sq12.out.2.2).mono ?_
         rintro e wq18 ⟨A10, c10, rfl, hr, hb⟩
         have R10 := Lib.hid hr
         have Sq18 := Lib.hid (Sq12.out.on hb)
         replace R3 := Lib.hid (R3.out.below hb)
         replace R7 := Lib.hid (R7.out.below hb)
         clear hr hb
         refine hH _ _ Sq18.out ?_
         clear hH H
         refine anyH_one (i := 4) (by kernel_rfl) rfl rfl (fun H hH => ?_)
         simp only [xgT, xgS, xgZ]
         go_simp
         have Sq19 := Lib.hid (Sq18.out.al (.cells #[.int .u8 82, .int .u8 69, .int .u8 77, .int .u8 66] 5))
         replace R3 := Lib.hid (R3.out.below ((Below.refl wq18.heap.size wq18).alloc (Nat.le_refl _) (.cells #[.int .u8 82, .int .u8 69, .int .u8 77, .int .u8 66] 5)))
         replace R7 := Lib.hid (R7.out.below ((Below.refl wq18.heap.size wq18).alloc (Nat.le_refl _) (.cells #[.int .u8 82, .int .u8 69, .int .u8 77, .int .u8 66] 5)))
         replace R10 := Lib.hid (R10.out.below ((Below.refl wq18.heap.size wq18).alloc (Nat.le_refl _) (.cells #[.int .u8 82, .int .u8 69, .int .u8 77, .int .u8 66] 5)))
         have RL := Lib.hid (rd_let wq18)
         have LG : Hid (LetG w (wq18.alloc (.cells #[.int .u8 82, .int .u8 69, .int .u8 77, .int .u8 66] 5)) wq18.heap.size) := Lib.hid (LetG.new Sq18.out.2.1.lt)
         refine hH _ _ Sq19.out ?_
         clear hH H
         generalize wq18.alloc (.cells #[.int .u8 82, .int .u8 69, .int .u8 77, .int .u8 66] 5) = wq19 at Sq19 R3 R7 R10 RL LG ⊢
         refine anyH_one (i := 5) (by kernel_rfl) rfl rfl (fun H hH => ?_)
         simp only [xgT, xgS, xgZ]
         obtain ⟨wq20, hcv, hs, hfz⟩ := conv_let Sq19.out LG.out
         go_simp
         have Sq20 := Lib.hid hs
         replace R3 := Lib.hid (R3.out.frz hfz)
         replace R7 := Lib.hid (R7.out.frz hfz)
         replace R10 := Lib.hid (R10.out.frz hfz)
         replace RL := Lib.hid (RL.out.frz hfz)
         clear hcv hs hfz LG
         refine hH _ _ Sq20.out ?_
         clear hH H
         refine anyH_one (i := 11) (by kernel_rfl) rfl rfl (fun H hH => ?_)
         simp only [xgT, xgS, xgZ]
         go_simp
         have SB11 := Lib.hid (Sq20.out.al (.cells #[.slice A3 8 c3, .slice (some ⟨wq18.heap.size, 0, none⟩) 4 4, .slice A7 4 c7, .slice A10 N4 c10] 32))
         refine hH _ _ SB11.out ?_
         clear hH H
         refine anyH_one (i := 12) (by kernel_rfl) rfl rfl (fun H hH => ?_)
         simp only [xgT, xgS, xgZ]
         go_simp
         refine (HC.out _ _ _ _ _ _ _ _ R3.out RL.out R7.out R10.out).mono ?_
         rintro e w9 ⟨A9, c9, rfl, hr, hb⟩
         have R9 := Lib.hid hr
         have S9 := Lib.hid (Sq20.out.on hb)
         clear hr hb
         refine hH _ _ S9.out ?_
         clear hH H
         refine wpAnyH_take (i := 13) (v := ?_) rfl (by kernel_rfl) (by kernel_rfl) (by kernel_rfl) (fun _ _ _ h => h) (Or.inl ⟨by rfl, ?_⟩) S9.out ?_
         case refine_2 => (intro wz hz; go_simp; with_reducible rfl)
         simp only [Act.put, xgT, xgS, xgZ, xsT, xsS, xsZ]
         refine wpAnyH_done (by kernel_rfl) ?_ _
         refine NoPanic.normal ?_
         go_wp2
         go_ret
         exact ⟨A9, c9, by rw [← HM.out]; rfl, by rw [← HM.out]; exact R9.out, S9.out.1⟩
   · simp only [xgT, xgS, xgZ]
     go_simp
     have Sq21 := Lib.hid (Sq1.out.al (.cells #[.int .u8 82, .int .u8 69, .int .u8 77, .int .u8 66] 5))
     replace RY := Lib.hid (RY.out.below ((Below.refl wq1.heap.size wq1).alloc (Nat.le_refl _) (.cells #[.int .u8 82, .int .u8 69, .int .u8 77, .int .u8 66] 5)))
     have RL := Lib.hid (rd_let wq1)
     have LG : Hid (LetG w (wq1.alloc (.cells #[.int .u8 82, .int .u8 69, .int .u8 77, .int .u8 66] 5)) wq1.heap.size) := Lib.hid (LetG.new Sq1.out.2.1.lt)
     refine hH _ _ Sq21.out ?_
     clear hH H
     generalize wq1.alloc (.cells #[.int .u8 82, .int .u8 69, .int .u8 77, .int .u8 66] 5) = wq21 at Sq21 RY RL LG ⊢
     refine anyH_two (i := 3) (j := 5) (by kernel_rfl) rfl rfl rfl rfl (fun H hH => ?_) (fun H hH => ?_)
     · simp only [xgT, xgS, xgZ]
       go_simp
       refine (HW1.out _ _ RY.out).mono ?_
       rintro e wq22 ⟨A3, c3, rfl, hr, hb⟩
       have R3 := Lib.hid hr
       have Sq22 := Lib.hid (Sq21.out.on hb)
       replace RL := Lib.hid (RL.out.below hb)
       replace LG := Lib.hid (LG.out.below hb)
       clear hr hb
       refine hH _ _ Sq22.out ?_
       clear hH H
       refine anyH_two (i := 5) (j := 7) (by kernel_rfl) rfl rfl rfl rfl (fun H hH => ?_) (fun H hH => ?_)
       · simp only [xgT, xgS, xgZ]
         obtain ⟨wq23, hcv, hs, hfz⟩ := conv_let Sq22.out LG.out
         go_simp
         have Sq23 := Lib.hid hs
         replace RL := Lib.hid (RL.out.frz hfz)
         replace R3 := Lib.hid (R3.out.frz hfz)
         clear hcv hs hfz LG
         refine hH _ _ Sq23.out ?_
         clear hH H
         refine anyH_one (i := 7) (by kernel_rfl) rfl rfl (fun H hH => ?_)
         simp only [xgT, xgS, xgZ]
         go_simp
         refine (HR.out _ Sq23.out.2.2).mono ?_
         rintro e wq24 ⟨A7, c7, rfl, hr, hb⟩
         have R7 := Lib.hid hr
         have Sq24 := Lib.hid (Sq23.out.on hb)
         replace RL := Lib.hid (RL.out.below hb)
         replace R3 := Lib.hid (R3.out.below hb)
         clear hr hb
         refine hH _ _ Sq24.out ?_
         clear hH H
         refine anyH_one (i := 10) (by kernel_rfl) rfl rfl (fun H hH => ?_)
         simp only [xgT, xgS, xgZ]
         go_simp
         refine (HL.out _ Sq24.out.2.2).mono ?_
         rintro e wq25 ⟨A10, c10, rfl, hr, hb⟩
         have R10 := Lib.hid hr
         have Sq25 := Lib.hid (Sq24.out.on hb)
         replace RL := Lib.hid (RL.out.below hb)
         replace R3 := Lib.hid (R3.out.below hb)
         replace R7 := Lib.hid (R7.out.below hb)
         clear hr hb
         refine hH _ _ Sq25.out ?_
         clear hH H
         refine anyH_one (i := 11) (by kernel_rfl) rfl rfl (fun H hH => ?_)
         simp only [xgT, xgS, xgZ]
         go_simp
         have SB11 := Lib.hid (Sq25.out.al (.cells #[.slice A3 8 c3, .slice (some ⟨wq1.heap.size, 0, none⟩) 4 4, .slice A7 4 c7, .slice A10 N4 c10] 32))
         refine hH _ _ SB11.out ?_
         clear hH H
         refine anyH_one (i := 12) (by kernel_rfl) rfl rfl (fun H hH => ?_)
         simp only [xgT, xgS, xgZ]
         go_simp
         refine (HC.out _ _ _ _ _ _ _ _ R3.out RL.out R7.out R10.out).mono ?_
         rintro e w9 ⟨A9, c9, rfl, hr, hb⟩
         have R9 := Lib.hid hr
         have S9 := Lib.hid (Sq25.out.on hb)
         clear hr hb
         refine hH _ _ S9.out ?_
         clear hH H
         refine wpAnyH_take (i := 13) (v := ?_) rfl (by kernel_rfl) (by kernel_rfl) (by kernel_rfl) (fun _ _ _ h => h) (Or.inl ⟨by rfl, ?_⟩) S9.out ?_
         case refine_2 => (intro wz hz; go_simp; with_reducible rfl)
         simp only [Act.put, xgT, xgS, xgZ, xsT, xsS, xsZ]
         refine wpAnyH_done (by kernel_rfl) ?_ _
         refine NoPanic.normal ?_
         go_wp2
         go_ret
         exact ⟨A9, c9, by rw [← HM.out]; rfl, by rw [← HM.out]; exact R9.out, S9.out.1⟩
       · simp only [xgT, xgS, xgZ]
         go_simp
         refine (HR.out _ Sq22.out.2.2).mono ?_
         rintro e wq26 ⟨A7, c7, rfl, hr, hb⟩
         have R7 := Lib.hid hr
         have Sq26 := Lib.hid (Sq22.out.on hb)
         replace RL := Lib.hid (RL.out.below hb)
         replace LG := Lib.hid (LG.out.below hb)
         replace R3 := Lib.hid (R3.out.below hb)
         clear hr hb
         refine hH _ _ Sq26.out ?_
         clear hH H
         refine anyH_two (i := 5) (j := 10) (by kernel_rfl) rfl rfl rfl rfl (fun H hH => ?_) (fun H hH => ?_)
         · simp only [xgT, xgS, xgZ]
           obtain ⟨wq27, hcv, hs, hfz⟩ := conv_let Sq26.out LG.out
           go_simp
           have Sq27 := Lib.hid hs
           replace RL := Lib.hid (RL.out.frz hfz)
           replace R3 := Lib.hid (R3.out.frz hfz)
           replace R7 := Lib.hid (R7.out.frz hfz)
           clear hcv hs hfz LG
           refine hH _ _ Sq27.out ?_
           clear hH H
           refine anyH_one (i := 10) (by kernel_rfl) rfl rfl (fun H hH => ?_)
           simp only [xgT, xgS, xgZ]
           go_simp
           refine (HL.out _ Sq27.out.2.2).mono ?_
           rintro e wq28 ⟨A10, c10, rfl, hr, hb⟩
           have R10 := Lib.hid hr
           have Sq28 := Lib.hid (Sq27.out.on hb)
           replace RL := Lib.hid (RL.out.below hb)
           replace R3 := Lib.hid (R3.out.below hb)
           replace R7 := Lib.hid (R7.out.below hb)
           clear hr hb
           refine hH _ _ Sq28.out ?_
           clear hH H
           refine anyH_one (i := 11) (by kernel_rfl) rfl rfl (fun H hH => ?_)
           simp only [xgT, xgS, xgZ]
           go_simp
           have SB11 := Lib.hid (Sq28.out.al (.cells #[.slice A3 8 c3, .slice (some ⟨wq1.heap.size, 0, none⟩) 4 4, .slice A7 4 c7, .slice A10 N4 c10] 32))
           refine hH _ _ SB11.out ?_
           clear hH H
           refine anyH_one (i := 12) (by kernel_rfl) rfl rfl (fun H hH => ?_)
           simp only [xgT, xgS, xgZ]
           go_simp
           refine (HC.out _ _ _ _ _ _ _ _ R3.out RL.out R7.out R10.out).mono ?_
           rintro e w9 ⟨A9, c9, rfl, hr, hb⟩
           have R9 := Lib.hid hr
           have S9 := Lib.hid (Sq28.out.on hb)
           clear hr hb
           refine hH _ _ S9.out ?_
           clear hH H
           refine wpAnyH_take (i := 13) (v := ?_) rfl (by kernel_rfl) (by kernel_rfl) (by kernel_rfl) (fun _ _ _ h => h) (Or.inl ⟨by rfl, ?_⟩) S9.out ?_
           case refine_2 => (intro wz hz; go_simp; with_reducible rfl)
           simp only [Act.put, xgT, xgS, xgZ, xsT, xsS, xsZ]
           refine wpAnyH_done (by kernel_rfl) ?_ _
           refine NoPanic.normal ?_
           go_wp2
           go_ret
           exact ⟨A9, c9, by rw [← HM.out]; rfl, by rw [← HM.out]; exact R9.out, S9.out.1⟩
         · simp only [xgT, xgS, xgZ]
           go_simp
           refine (HL.out _ Sq26.out.2.2).mono ?_
           rintro e wq29 ⟨A10, c10, rfl, hr, hb⟩
           have R10 := Lib.hid hr
           have Sq29 := Lib.hid (Sq26.out.on hb)
           replace RL := Lib.hid (RL.out.below hb)
           replace LG := Lib.hid (LG.out.below hb)
           replace R3 := Lib.hid (R3.out.below hb)
           replace R7 := Lib.hid (R7.out.below hb)
           clear hr hb
           refine hH _ _ Sq29.out ?_
           clear hH H
           refine anyH_one (i := 5) (by kernel_rfl) rfl rfl (fun H hH => ?_)
           simp only [xgT, xgS, xgZ]
           obtain ⟨wq30, hcv, hs, hfz⟩ := conv_let Sq29.out LG.out
           go_simp
           have Sq30 := Lib.hid hs
           replace RL := Lib.hid (RL.out.frz hfz)
           replace R3 := Lib.hid (R3.out.frz hfz)
           replace R7 := Lib.hid (R7.out.frz hfz)
           replace R10 := Lib.hid (R10.out.frz hfz)
           clear hcv hs hfz LG
           refine hH _ _ Sq30.out ?_
           clear hH H
           refine anyH_one (i := 11) (by kernel_rfl) rfl rfl (fun H hH => ?_)
           simp only [xgT, xgS, xgZ]
           go_simp
           have SB11 := Lib.hid (Sq30.out.al (.cells #[.slice A3 8 c3, .slice (some ⟨wq1.heap.size, 0, none⟩) 4 4, .slice A7 4 c7, .slice A10 N4 c10] 32))
           refine hH _ _ SB11.out ?_
           clear hH H
           refine anyH_one (i := 12) (by kernel_rfl) rfl rfl (fun H hH => ?_)
           simp only [xgT, xgS, xgZ]
           go_simp
           refine (HC.out _ _ _ _ _ _ _ _ R3.out RL.out R7.out R10.out).mono ?_
           rintro e w9 ⟨A9, c9, rfl, hr, hb⟩
           have R9 := Lib.hid hr
           have S9 := Lib.hid (Sq30.out.on hb)
           clear hr hb
           refine hH _ _ S9.out ?_
           clear hH H
           refine wpAnyH_take (i := 13) (v := ?_) rfl (by kernel_rfl) (by kernel_rfl) (by kernel_rfl) (fun _ _ _ h => h) (Or.inl ⟨by rfl, ?_⟩) S9.out ?_
           case refine_2 => (intro wz hz; go_simp; with_reducible rfl)
           simp only [Act.put, xgT, xgS, xgZ, xsT, xsS, xsZ]
           refine wpAnyH_done (by kernel_rfl) ?_ _
           refine NoPanic.normal ?_
           go_wp2
           go_ret
           exact ⟨A9, c9, by rw [← HM.out]; rfl, by rw [← HM.out]; exact R9.out, S9.out.1⟩
     · simp only [xgT, xgS, xgZ]
       obtain ⟨wq31, hcv, hs, hfz⟩ := conv_let Sq21.out LG.out
       go_simp
       have Sq31 := Lib.hid hs
       replace RY := Lib.hid (RY.out.frz hfz)
       replace RL := Lib.hid (RL.out.frz hfz)
       clear hcv hs hfz LG
       refine hH _ _ Sq31.out ?_
       clear hH H
       refine anyH_one (i := 3) (by kernel_rfl) rfl rfl (fun H hH => ?_)
       simp only [xgT, xgS, xgZ]
       go_simp
       refine (HW1.out _ _ RY.out).mono ?_
       rintro e wq32 ⟨A3, c3, rfl, hr, hb⟩
       have R3 := Lib.hid hr
       have Sq32 := Lib.hid (Sq31.out.on hb)
       replace RL := Lib.hid (RL.out.below hb)
       clear hr hb
       refine hH _ _ Sq32.out ?_
       clear hH H
       refine anyH_one (i := 7) (by kernel_rfl) rfl rfl (fun H hH => ?_)
       simp only [xgT, xgS, xgZ]
       go_simp
       refine (HR.out _ Sq32.out.2.2).mono ?_
       rintro e wq33 ⟨A7, c7, rfl, hr, hb⟩
       have R7 := Lib.hid hr
       have Sq33 := Lib.hid (Sq32.out.on hb)
       replace RL := Lib.hid (RL.out.below hb)
       replace R3 := Lib.hid (R3.out.below hb)
       clear hr hb
       refine hH _ _ Sq33.out ?_
       clear hH H
       refine anyH_one (i := 10) (by kernel_rfl) rfl rfl (fun H hH => ?_)
       simp only [xgT, xgS, xgZ]
       go_simp
       refine (HL.out _ Sq33.out.2.2).mono ?_
       rintro e wq34 ⟨A10, c10, rfl, hr, hb⟩
       have R10 := Lib.hid hr
       have Sq34 := Lib.hid (Sq33.out.on hb)
       replace RL := Lib.hid (RL.out.below hb)
       replace R3 := Lib.hid (R3.out.below hb)
       replace R7 := Lib.hid (R7.out.below hb)
       clear hr hb
       refine hH _ _ Sq34.out ?_
       clear hH H
       refine anyH_one (i := 11) (by kernel_rfl) rfl rfl (fun H hH => ?_)
       simp only [xgT, xgS, xgZ]
       go_simp
       have SB11 := Lib.hid (Sq34.out.al (.cells #[.slice A3 8 c3, .slice (some ⟨wq1.heap.size, 0, none⟩) 4 4, .slice A7 4 c7, .slice A10 N4 c10] 32))
       refine hH _ _ SB11.out ?_
       clear hH H
       refine anyH_one (i := 12) (by kernel_rfl) rfl rfl (fun H hH => ?_)
       simp only [xgT, xgS, xgZ]
       go_simp
       refine (HC.out _ _ _ _ _ _ _ _ R3.out RL.out R7.out R10.out).mono ?_
       rintro e w9 ⟨A9, c9, rfl, hr, hb⟩
       have R9 := Lib.hid hr
       have S9 := Lib.hid (Sq34.out.on hb)
       clear hr hb
       refine hH _ _ S9.out ?_
       clear hH H
       refine wpAnyH_take (i := 13) (v := ?_) rfl (by kernel_rfl) (by kernel_rfl) (by kernel_rfl) (fun _ _ _ h => h) (Or.inl ⟨by rfl, ?_⟩) S9.out ?_
       case refine_2 => (intro wz hz; go_simp; with_reducible rfl)
       simp only [Act.put, xgT, xgS, xgZ, xsT, xsS, xsZ]
       refine wpAnyH_done (by kernel_rfl) ?_ _
       refine NoPanic.normal ?_
       go_wp2
       go_ret
       exact ⟨A9, c9, by rw [← HM.out]; rfl, by rw [← HM.out]; exact R9.out, S9.out.1⟩
 · simp only [xgT, xgS, xgZ]
   go_simp
   have Sq35 := Lib.hid (SD.out.al (.cells #[.int .u8 82, .int .u8 69, .int .u8 77, .int .u8 66] 5))
   have RL := Lib.hid (rd_let w0)
   have LG : Hid (LetG w (w0.alloc (.cells #[.int .u8 82, .int .u8 69, .int .u8 77, .int .u8 66] 5)) w0.heap.size) := Lib.hid (LetG.new SD.out.2.1.lt)
   refine hH _ _ Sq35.out ?_
   clear hH H
   generalize w0.alloc (.cells #[.int .u8 82, .int .u8 69, .int .u8 77, .int .u8 66] 5) = wq35 at Sq35 RL LG ⊢
   refine anyH_two (i := 2) (j := 5) (by kernel_rfl) rfl rfl rfl rfl (fun H hH => ?_) (fun H hH => ?_)
   · simp only [xgT, xgS, xgZ]
     go_simp
     have Sq36 := Lib.hid (Sq35.out.al (.cells #[.int .u32 (c.so : Int), .int .u32 0] 36))
     replace RL := Lib.hid (RL.out.below ((Below.refl wq35.heap.size wq35).alloc (Nat.le_refl _) (.cells #[.int .u32 (c.so : Int), .int .u32 0] 36)))
     replace LG := Lib.hid (LG.out.below ((Below.refl wq35.heap.size wq35).alloc (Nat.le_refl _) (.cells #[.int .u32 (c.so : Int), .int .u32 0] 36)))
     have RY := Lib.hid (HY.out wq35)
     refine hH _ _ Sq36.out ?_
     clear hH H
     generalize wq35.alloc (.cells #[.int .u32 (c.so : Int), .int .u32 0] 36) = wq36 at Sq36 RL LG RY ⊢
     refine anyH_two (i := 3) (j := 5) (by kernel_rfl) rfl rfl rfl rfl (fun H hH => ?_) (fun H hH => ?_)
     · simp only [xgT, xgS, xgZ]
       go_simp
       refine (HW1.out _ _ RY.out).mono ?_
       rintro e wq37 ⟨A3, c3, rfl, hr, hb⟩
       have R3 := Lib.hid hr
       have Sq37 := Lib.hid (Sq36.out.on hb)
       replace RL := Lib.hid (RL.out.below hb)
       replace LG := Lib.hid (LG.out.below hb)
       clear hr hb
       refine hH _ _ Sq37.out ?_
       clear hH H
       refine anyH_two (i := 5) (j := 7) (by kernel_rfl) rfl rfl rfl rfl (fun H hH => ?_) (fun H hH => ?_)
       · simp only [xgT, xgS, xgZ]
         obtain ⟨wq38, hcv, hs, hfz⟩ := conv_let Sq37.out LG.out
         go_simp
         have Sq38 := Lib.hid hs
         replace RL := Lib.hid (RL.out.frz hfz)
         replace R3 := Lib.hid (R3.out.frz hfz)
         clear hcv hs hfz LG
         refine hH _ _ Sq38.out ?_
         clear hH H
         refine anyH_one (i := 7) (by kernel_rfl) rfl rfl (fun H hH => ?_)
         simp only [xgT, xgS, xgZ]
         go_simp
         refine (HR.out _ Sq38.out.2.2).mono ?_
         rintro e wq39 ⟨A7, c7, rfl, hr, hb⟩
         have R7 := Lib.hid hr
         have Sq39 := Lib.hid (Sq38.out.on hb)
         replace RL := Lib.hid (RL.out.below hb)
         replace R3 := Lib.hid (R3.out.below hb)
         clear hr hb
         refine hH _ _ Sq39.out ?_
         clear hH H
         refine anyH_one (i := 10) (by kernel_rfl) rfl rfl (fun H hH => ?_)
         simp only [xgT, xgS, xgZ]
         go_simp
         refine (HL.out _ Sq39.out.2.2).mono ?_
         rintro e wq40 ⟨A10, c10, rfl, hr, hb⟩
         have R10 := Lib.hid hr
         have Sq40 := Lib.hid (Sq39.out.on hb)
         replace RL := Lib.hid (RL.out.below hb)
         replace R3 := Lib.hid (R3.out.below hb)
         replace R7 := Lib.hid (R7.out.below hb)
         clear hr hb
         refine hH _ _ Sq40.out ?_
         clear hH H
         refine anyH_one (i := 11) (by kernel_rfl) rfl rfl (fun H hH => ?_)
         simp only [xgT, xgS, xgZ]
         go_simp
         have SB11 := Lib.hid (Sq40.out.al (.cells #[.slice A3 8 c3, .slice (some ⟨w0.heap.size, 0, none⟩) 4 4, .slice A7 4 c7, .slice A10 N4 c10] 32))
         refine hH _ _ SB11.out ?_
         clear hH H
         refine anyH_one (i := 12) (by kernel_rfl) rfl rfl (fun H hH => ?_)
         simp only [xgT, xgS, xgZ]
         go_simp
         refine (HC.out _ _ _ _ _ _ _ _ R3.out RL.out R7.out R10.out).mono ?_
         rintro e w9 ⟨A9, c9, rfl, hr, hb⟩
         have R9 := Lib.hid hr
         have S9 := Lib.hid (Sq40.out.on hb)
         clear hr hb
         refine hH _ _ S9.out ?_
         clear hH H
         refine wpAnyH_take (i := 13) (v := ?_) rfl (by kernel_rfl) (by kernel_rfl) (by kernel_rfl) (fun _ _ _ h => h) (Or.inl ⟨by rfl, ?_⟩) S9.out ?_
         case refine_2 => (intro wz hz; go_simp; with_reducible rfl)
         simp only [Act.put, xgT, xgS, xgZ, xsT, xsS, xsZ]
         refine wpAnyH_done (by kernel_rfl) ?_ _
         refine NoPanic.normal ?_
         go_wp2
         go_ret
         exact ⟨A9, c9, by rw [← HM.out]; rfl, by rw [← HM.out]; exact R9.out, S9.out.1⟩
       · simp only [xgT, xgS, xgZ]
         go_simp
         refine (HR.out _ Sq37.out.2.2).mono ?_
         rintro e wq41 ⟨A7, c7, rfl, hr, hb⟩
         have R7 := Lib.hid hr
         have Sq41 := Lib.hid (Sq37.out.on hb)
         replace RL := Lib.hid (RL.out.below hb)
         replace LG := Lib.hid (LG.out.below hb)
         replace R3 := Lib.hid (R3.out.below hb)
         clear hr hb
         refine hH _ _ Sq41.out ?_
         clear hH H
         refine anyH_two (i := 5) (j := 10) (by kernel_rfl) rfl rfl rfl rfl (fun H hH => ?_) (fun H hH => ?_)
         · simp only [xgT, xgS, xgZ]
           obtain ⟨wq42, hcv, hs, hfz⟩ := conv_let Sq41.out LG.out
           go_simp
           have Sq42 := Lib.hid hs
           replace RL := Lib.hid (RL.out.frz hfz)
           replace R3 := Lib.hid (R3.out.frz hfz)
           replace R7 := Lib.hid (R7.out.frz hfz)
           clear hcv hs hfz LG
           refine hH _ _ Sq42.out ?_
           clear hH H
           refine anyH_one (i := 10) (by kernel_rfl) rfl rfl (fun H hH => ?_)
           simp only [xgT, xgS, xgZ]
           go_simp
           refine (HL.out _ Sq42.out.2.2).mono ?_
           rintro e wq43 ⟨A10, c10, rfl, hr, hb⟩
           have R10 := Lib.hid hr
           have Sq43 := Lib.hid (Sq42.out.on hb)
           replace RL := Lib.hid (RL.out.below hb)
           replace R3 := Lib.hid (R3.out.below hb)
           replace R7 := Lib.hid (R7.out.below hb)
           clear hr hb
           refine hH _ _ Sq43.out ?_
           clear hH H
           refine anyH_one (i := 11) (by kernel_rfl) rfl rfl (fun H hH => ?_)
           simp only [xgT, xgS, xgZ]
           go_simp
           have SB11 := Lib.hid (Sq43.out.al (.cells #[.slice A3 8 c3, .slice (some ⟨w0.heap.size, 0, none⟩) 4 4, .slice A7 4 c7, .slice A10 N4 c10] 32))
           refine hH _ _ SB11.out ?_
           clear hH H
           refine anyH_one (i := 12) (by kernel_rfl) rfl rfl (fun H hH => ?_)
           simp only [xgT, xgS, xgZ]
           go_simp
           refine (HC.out _ _ _ _ _ _ _ _ R3.out RL.out R7.out R10.out).mono ?_
           rintro e w9 ⟨A9, c9, rfl, hr, hb⟩
           have R9 := Lib.hid hr
           have S9 := Lib.hid (Sq43.out.on hb)
           clear hr hb
           refine hH _ _ S9.out ?_
           clear hH H
           refine wpAnyH_take (i := 13) (v := ?_) rfl (by kernel_rfl) (by kernel_rfl) (by kernel_rfl) (fun _ _ _ h => h) (Or.inl ⟨by rfl, ?_⟩) S9.out ?_
           case refine_2 => (intro wz hz; go_simp; with_reducible rfl)
           simp only [Act.put, xgT, xgS, xgZ, xsT, xsS, xsZ]
           refine wpAnyH_done (by kernel_rfl) ?_ _
           refine NoPanic.normal ?_
           go_wp2
           go_ret
           exact ⟨A9, c9, by rw [← HM.out]; rfl, by rw [← HM.out]; exact R9.out, S9.out.1⟩
         · simp only [xgT, xgS, xgZ]
           go_simp
           refine (HL.out _ Sq41.out.2.2).mono ?_
           rintro e wq44 ⟨A10, c10, rfl, hr, hb⟩
           have R10 := Lib.hid hr
           have Sq44 := Lib.hid (Sq41.out.on hb)
           replace RL := Lib.hid (RL.out.below hb)
           replace LG := Lib.hid (LG.out.below hb)
           replace R3 := Lib.hid (R3.out.below hb)
           replace R7 := Lib.hid (R7.out.below hb)
           clear hr hb
           refine hH _ _ Sq44.out ?_
           clear hH H
           refine anyH_one (i := 5) (by kernel_rfl) rfl rfl (fun H hH => ?_)
           simp only [xgT, xgS, xgZ]
           obtain ⟨wq45, hcv, hs, hfz⟩ := conv_let Sq44.out LG.out
           go_simp
           have Sq45 := Lib.hid hs
           replace RL := Lib.hid (RL.out.frz hfz)
           replace R3 := Lib.hid (R3.out.frz hfz)
           replace R7 := Lib.hid (R7.out.frz hfz)
           replace R10 := Lib.hid (R10.out.frz hfz)
           clear hcv hs hfz LG
           refine hH _ _ Sq45.out ?_
           clear hH H
           refine anyH_one (i := 11) (by kernel_rfl) rfl rfl (fun H hH => ?_)
           simp only [xgT, xgS, xgZ]
           go_simp
           have SB11 := Lib.hid (Sq45.out.al (.cells #[.slice A3 8 c3, .slice (some ⟨w0.heap.size, 0, none⟩) 4 4, .slice A7 4 c7, .slice A10 N4 c10] 32))
           refine hH _ _ SB11.out ?_
           clear hH H
           refine anyH_one (i := 12) (by kernel_rfl) rfl rfl (fun H hH => ?_)
           simp only [xgT, xgS, xgZ]
           go_simp
           refine (HC.out _ _ _ _ _ _ _ _ R3.out RL.out R7.out R10.out).mono ?_
           rintro e w9 ⟨A9, c9, rfl, hr, hb⟩
           have R9 := Lib.hid hr
           have S9 := Lib.hid (Sq45.out.on hb)
           clear hr hb
           refine hH _ _ S9.out ?_
           clear hH H
           refine wpAnyH_take (i := 13) (v := ?_) rfl (by kernel_rfl) (by kernel_rfl) (by kernel_rfl) (fun _ _ _ h => h) (Or.inl ⟨by rfl, ?_⟩) S9.out ?_
           case refine_2 => (intro wz hz; go_simp; with_reducible rfl)
           simp only [Act.put, xgT, xgS, xgZ, xsT, xsS, xsZ]
           refine wpAnyH_done (by kernel_rfl) ?_ _
           refine NoPanic.normal ?_
           go_wp2
           go_ret
           exact ⟨A9, c9, by rw [← HM.out]; rfl, by rw [← HM.out]; exact R9.out, S9.out.1⟩
     · simp only [xgT, xgS, xgZ]
       obtain ⟨wq46, hcv, hs, hfz⟩ := conv_let Sq36.out LG.out
       go_simp
       have Sq46 := Lib.hid hs
       replace RL := Lib.hid (RL.out.frz hfz)
       replace RY := Lib.hid (RY.out.frz hfz)
       clear hcv hs hfz LG
       refine hH _ _ Sq46.out ?_
       clear hH H
       refine anyH_one (i := 3) (by kernel_rfl) rfl rfl (fun H hH => ?_)
       simp only [xgT, xgS, xgZ]
       go_simp
       refine (HW1.out _ _ RY.out).mono ?_
       rintro e wq47 ⟨A3, c3, rfl, hr, hb⟩
       have R3 := Lib.hid hr
       have Sq47 := Lib.hid (Sq46.out.on hb)
       replace RL := Lib.hid (RL.out.below hb)
       clear hr hb
       refine hH _ _ Sq47.out ?_
       clear hH H
       refine anyH_one (i := 7) (by kernel_rfl) rfl rfl (fun H hH => ?_)
       simp only [xgT, xgS, xgZ]
       go_simp
       refine (HR.out _ Sq47.out.2.2).mono ?_
       rintro e wq48 ⟨A7, c7, rfl, hr, hb⟩
       have R7 := Lib.hid hr
       have Sq48 := Lib.hid (Sq47.out.on hb)
       replace RL := Lib.hid (RL.out.below hb)
       replace R3 := Lib.hid (R3.out.below hb)
       clear hr hb
       refine hH _ _ Sq48.out ?_
       clear hH H
       refine anyH_one (i := 10) (by kernel_rfl) rfl rfl (fun H hH => ?_)
       simp only [xgT, xgS, xgZ]
       go_simp
       refine (HL.out _ Sq48.out.2.2).mono ?_
       rintro e wq49 ⟨A10, c10, rfl, hr, hb⟩
       have R10 := Lib.hid hr
       have Sq49 := Lib.hid (Sq48.out.on hb)
       replace RL := Lib.hid (RL.out.below hb)
       replace R3 := Lib.hid (R3.out.below hb)
       replace R7 := Lib.hid (R7.out.below hb)
       clear hr hb
       refine hH _ _ Sq49.out ?_
       clear hH H
       refine anyH_one (i := 11) (by kernel_rfl) rfl rfl (fun H hH => ?_)
       simp only [xgT, xgS, xgZ]
       go_simp
       have SB11 := Lib.hid (Sq49.out.al (.cells #[.slice A3 8 c3, .slice (some ⟨w0.heap.size, 0, none⟩) 4 4, .slice A7 4 c7, .slice A10 N4 c10] 32))
       refine hH _ _ SB11.out ?_
       clear hH H
       refine anyH_one (i := 12) (by kernel_rfl) rfl rfl (fun H hH => ?_)
       simp only [xgT, xgS, xgZ]
       go_simp
       refine (HC.out _ _ _ _ _ _ _ _ R3.out RL.out R7.out R10.out).mono ?_
       rintro e w9 ⟨A9, c9, rfl, hr, hb⟩
       have R9 := Lib.hid hr
       have S9 := Lib.hid (Sq49.out.on hb)
       clear hr hb
       refine hH _ _ S9.out ?_
       clear hH H
       refine wpAnyH_take (i := 13) (v := ?_) rfl (by kernel_rfl) (by kernel_rfl) (by kernel_rfl) (fun _ _ _ h => h) (Or.inl ⟨by rfl, ?_⟩) S9.out ?_
       case refine_2 => (intro wz hz; go_simp; with_reducible rfl)
       simp only [Act.put, xgT, xgS, xgZ, xsT, xsS, xsZ]
       refine wpAnyH_done (by kernel_rfl) ?_ _
       refine NoPanic.normal ?_
       go_wp2
       go_ret
       exact ⟨A9, c9, by rw [← HM.out]; rfl, by rw [← HM.out]; exact R9.out, S9.out.1⟩
   · simp only [xgT, xgS, xgZ]
     obtain ⟨wq50, hcv, hs, hfz⟩ := conv_let Sq35.out LG.out
     go_simp
     have Sq50 := Lib.hid hs
     replace RL := Lib.hid (RL.out.frz hfz)
     clear hcv hs hfz LG
     refine hH _ _ Sq50.out ?_
     clear hH H
     refine anyH_one (i := 2) (by kernel_rfl) rfl rfl (fun H hH => ?_)
     simp only [xgT, xgS, xgZ]
     go_simp
     have Sq51 := Lib.hid (Sq50.out.al (.cells #[.int .u32 (c.so : Int), .int .u32 0] 36))
     replace RL := Lib.hid (RL.out.below ((Below.refl wq50.heap.size wq50).alloc (Nat.le_refl _) (.cells #[.int .u32 (c.so : Int), .int .u32 0] 36)))
     have RY := Lib.hid (HY.out wq50)
     refine hH _ _ Sq51.out ?_
     clear hH H
     generalize wq50.alloc (.cells #[.int .u32 (c.so : Int), .int .u32 0] 36) = wq51 at Sq51 RL RY ⊢
     refine anyH_one (i := 3) (by kernel_rfl) rfl rfl (fun H hH => ?_)
     simp only [xgT, xgS, xgZ]
     go_simp
     refine (HW1.out _ _ RY.out).mono ?_
     rintro e wq52 ⟨A3, c3, rfl, hr, hb⟩
     have R3 := Lib.hid hr
     have Sq52 := Lib.hid (Sq51.out.on hb)
     replace RL := Lib.hid (RL.out.below hb)
     clear hr hb
     refine hH _ _ Sq52.out ?_
     clear hH H
     refine anyH_one (i := 7) (by kernel_rfl) rfl rfl (fun H hH => ?_)
     simp only [xgT, xgS, xgZ]
     go_simp
     refine (HR.out _ Sq52.out.2.2).mono ?_
     rintro e wq53 ⟨A7, c7, rfl, hr, hb⟩
     have R7 := Lib.hid hr
     have Sq53 := Lib.hid (Sq52.out.on hb)
     replace RL := Lib.hid (RL.out.below hb)
     replace R3 := Lib.hid (R3.out.below hb)
     clear hr hb
     refine hH _ _ Sq53.out ?_
     clear hH H
     refine anyH_one (i := 10) (by kernel_rfl) rfl rfl (fun H hH => ?_)
     simp only [xgT, xgS, xgZ]
     go_simp
     refine (HL.out _ Sq53.out.2.2).mono ?_
     rintro e wq54 ⟨A10, c10, rfl, hr, hb⟩
     have R10 := Lib.hid hr
     have Sq54 := Lib.hid (Sq53.out.on hb)
     replace RL := Lib.hid (RL.out.below hb)
     replace R3 := Lib.hid (R3.out.below hb)
     replace R7 := Lib.hid (R7.out.below hb)
     clear hr hb
     refine hH _ _ Sq54.out ?_
     clear hH H
     refine anyH_one (i := 11) (by kernel_rfl) rfl rfl (fun H hH => ?_)
     simp only [xgT, xgS, xgZ]
     go_simp
     have SB11 := Lib.hid (Sq54.out.al (.cells #[.slice A3 8 c3, .slice (some ⟨w0.heap.size, 0, none⟩) 4 4, .slice A7 4 c7, .slice A10 N4 c10] 32))
     refine hH _ _ SB11.out ?_
     clear hH H
     refine anyH_one (i := 12) (by kernel_rfl) rfl rfl (fun H hH => ?_)
     simp only [xgT, xgS, xgZ]
     go_simp
     refine (HC.out _ _ _ _ _ _ _ _ R3.out RL.out R7.out R10.out).mono ?_
     rintro e w9 ⟨A9, c9, rfl, hr, hb⟩
     have R9 := Lib.hid hr
     have S9 := Lib.hid (Sq54.out.on hb)
     clear hr hb
     refine hH _ _ S9.out ?_
     clear hH H
     refine wpAnyH_take (i := 13) (v := ?_) rfl (by kernel_rfl) (by kernel_rfl) (by kernel_rfl) (fun _ _ _ h => h) (Or.inl ⟨by rfl, ?_⟩) S9.out ?_
     case refine_2 => (intro wz hz; go_simp; with_reducible rfl)
     simp only [Act.put, xgT, xgS, xgZ, xsT, xsS, xsZ]
     refine wpAnyH_done (by kernel_rfl) ?_ _
     refine NoPanic.normal ?_
     go_wp2
     go_ret
     exact ⟨A9, c9, by rw [← HM.out]; rfl, by rw [← HM.out]; exact R9.out, S9.out.1⟩
end Go.Proofs.YtheefckohnaceaaGreatDoor
