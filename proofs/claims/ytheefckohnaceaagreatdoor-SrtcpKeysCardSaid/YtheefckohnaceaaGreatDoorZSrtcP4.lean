/- Several texts in one: plain words and walks. No statement is proved here. -/
import Derived.Test.YtheefckohnaceaaGreatDoorZM16
import Derived.Test.YtheefckohnaceaaGreatDoorZM23
namespace Go.Proofs.YtheefckohnaceaaGreatDoor
open List renaming getElem_toArray → xgT, getElem_cons_succ → xgS, getElem_cons_zero → xgZ, setIfInBounds_toArray → xsT, set_cons_succ → xsS, set_cons_zero → xsZ
open Go.RowKit
set_option linter.unusedVariables false

theorem parts3n (w : World) (A1 A2 A3 : Option Addr) (n1 n2 n3 c1 c2 c3 : Nat) (p1 p2 p3 : List UInt8) (e : TypeId) (h1 : RdS w A1 n1 c1 p1) (h2 : RdS w A2 n2 c2 p2) (h3 : RdS w A3 n3 c3 p3) :
 PartsRd (w.alloc (.cells #[.slice A1 n1 c1, .slice A2 n2 c2, .slice A3 n3 c3] e)) (some ⟨w.heap.size, 0, none⟩) 3 [p1, p2, p3] := by
 have hB : BlkV (w.alloc (.cells #[.slice A1 n1 c1, .slice A2 n2 c2, .slice A3 n3 c3] e)) w.heap.size e [.slice A1 n1 c1, .slice A2 n2 c2, .slice A3 n3 c3] := BlkV.new _ _ _
 have hb : Below w.heap.size w (w.alloc (.cells #[.slice A1 n1 c1, .slice A2 n2 c2, .slice A3 n3 c3] e)) := (Below.refl _ _).alloc (Nat.le_refl _) _
 refine ⟨rfl, fun _ => ⟨w.heap.size, 0, rfl, hB.lt, fun j hj => ?_⟩⟩
 match j, hj with
 | 0, _ => exact ⟨A1, n1, c1, (hB.cell 0).trans rfl, h1.below hb⟩
 | 1, _ => exact ⟨A2, n2, c2, (hB.cell 1).trans rfl, h2.below hb⟩
 | 2, _ => exact ⟨A3, n3, c3, (hB.cell 2).trans rfl, h3.below hb⟩
def SealS (p : Value) (s : Wc) (F : Nat → Prop) (l : List Ctl) (w : World) (e : Ending) (w' : World) : Prop :=
 ∃ A n c, e = .returned (.tuple #[.slice A n c, .int .i64 (whyS s l)]) ∧ w'.ownsRow w.heap.size 5 1 (.slice A n c) n (cells (outS s l)) ∧ RC w' p (afterS s l) F ∧ Fr F w w'
theorem SealS.no {p : Value} {s : Wc} {F : Nat → Prop} {l : List Ctl} {w w' : World} {q : Int} (h : RC w p s F) (hq : whyS s l = q) (h0 : q ≠ 0) (hb : Below w.heap.size w w') : SealS p s F l w (.returned (.tuple #[.slice none 0 0, .int .i64 q])) w' := by
 have hne : ¬ whyS s l = 0 := fun k => h0 (hq.symm.trans k)
 refine ⟨none, 0, 0, by rw [hq], ?_, ?_, Fr.of_below hb⟩
 · unfold outS; rw [if_neg hne]; exact World.ownsRow_nil _ _ _ _
 · unfold afterS; rw [if_neg hne]; exact rc_lone.below h hb
set_option maxRecDepth 100000 in
set_option maxHeartbeats 2000000 in
theorem seal16_no7 (g b : Nat) (s : Wc) (F : Nat → Prop) (A : Option Addr) (n c : Nat) (l : List Ctl) (w : World) (h : RC w (.pointer (some ⟨g, 0, none⟩)) s F) (hw : PCtl w g b s) (hg : s.good) (hl : s.y.limit ≤ s.y.used ∨ 2147483648 ≤ s.nx) :
 Calls Tryz.prog 8 #[.pointer (some ⟨g, 0, none⟩), .slice A n c] w (SealS (.pointer (some ⟨g, 0, none⟩)) s F l w) := by
 have HR := Lib.hid (fun w' hb => SealS.no (w' := w') h (whyS_7 (l := l) hl) (by decide) hb)
 by_cases h1 : s.y.limit ≤ s.y.used
 · have HSP := Lib.hid (spent16_any g b s w hw hg.1.1 true (decide_eq_true h1).symm)
   clear h hw hg hl h1
   go_enter Tryz.func8, Tryz.ntmps8
   go_wp2_with (go_at_call 16; ((with_reducible refine (HSP.out).mono ?_); rintro e w1 ⟨rfl, hb1⟩; have HB1 := Lib.hid hb1; clear hb1))
   go_ret2
   exact HR.out _ HB1.out
 · have h2 : 2147483648 ≤ s.nx := hl.resolve_left h1
   have HSP := Lib.hid (spent16_any g b s w hw hg.1.1 false (decide_eq_false h1).symm)
   have HC : Hid (∀ W, Below w.heap.size w W → W.cell? ⟨g, 52, none⟩ = some (.int .i64 s.nx)) := Lib.hid (fun W hb => ((hw.below hb).cells_ hg.1.1).2.2.1)
   obtain ⟨NX, hNX⟩ : ∃ x, x = s.nx := ⟨_, rfl⟩
   rw [← hNX] at HC h2
   clear h hw hg hl h1 hNX
   go_enter Tryz.func8, Tryz.ntmps8
   go_wp2_with (go_at_call 16; ((with_reducible refine (HSP.out).mono ?_); rintro e w1 ⟨rfl, hb1⟩; have HB1 := Lib.hid hb1; have c52 := HC.out _ hb1; clear hb1))
   go_ret2
   exact HR.out _ HB1.out
set_option maxRecDepth 100000 in
set_option maxHeartbeats 2000000 in
theorem seal16_no1 (g b : Nat) (s : Wc) (F : Nat → Prop) (A : Option Addr) (n c : Nat) (l : List Ctl) (w : World) (h : RC w (.pointer (some ⟨g, 0, none⟩)) s F) (hw : PCtl w g b s) (ht : Tabs w) (hg : s.good) (hl : ¬ (s.y.limit ≤ s.y.used ∨ 2147483648 ≤ s.nx)) (hc : CtRds w A l) (hn : l.length = n) (hf : ∀ c ∈ l, c.fit) (hm : ¬ mayS l) :
 Calls Tryz.prog 8 #[.pointer (some ⟨g, 0, none⟩), .slice A n c] w (SealS (.pointer (some ⟨g, 0, none⟩)) s F l w) := by
 have HR := Lib.hid (fun w' hb => SealS.no (w' := w') h (whyS_1 hl hm) (by decide) hb)
 have HSP := Lib.hid (spent16_any g b s w hw hg.1.1 false (decide_eq_false (fun k => hl (.inl k))).symm)
 have HC : Hid (∀ W, Below w.heap.size w W → W.cell? ⟨g, 52, none⟩ = some (.int .i64 s.nx)) := Lib.hid (fun W hb => ((hw.below hb).cells_ hg.1.1).2.2.1)
 have HWR : Hid (∀ W, Below w.heap.size w W → Calls Tryz.prog 17 #[.slice A n c] W (WOwn l W)) := Lib.hid (fun W hb => write_own11 A n c l W (hc.below hb) hn (ht.below hb).r (ht.below hb).lt hf)
 have h2 : ¬ 2147483648 ≤ s.nx := fun k => hl (.inr k)
 obtain ⟨NX, hNX⟩ : ∃ x, x = s.nx := ⟨_, rfl⟩
 rw [← hNX] at HC h2
 by_cases hok : wOK l
 · have HW1 : Hid (∀ W, Below w.heap.size w W → Calls Tryz.prog 17 #[.slice A n c] W fun e w' => ∃ A' c', e = .returned (.tuple #[.slice A' (wrL l).length c', .int .i64 0]) ∧ Below W.heap.size W w') := Lib.hid (fun W hb => (HWR.out W hb).mono (by
    rintro e w' ⟨k, _⟩
    obtain ⟨A', c', N, hN, he, ho⟩ := k hok
    subst hN
    exact ⟨A', c', he, ho.2⟩))
   have hbd : (wrL l).length < 8 ∨ 1186 < (wrL l).length := by
    by_cases k1 : (wrL l).length < 8
    · exact .inl k1
    · by_cases k2 : 1186 < (wrL l).length
      · exact .inr k2
      · exact absurd ⟨hok, by omega, by omega⟩ hm
   have hb12 := hok.2.2
   obtain ⟨N, hN⟩ : ∃ N, N = (wrL l).length := ⟨_, rfl⟩
   rw [← hN] at HW1 hbd hb12
   clear h hw ht hg hl hc hn hf hm hok hNX hN HWR
   rcases hbd with k | k
   · have k' : (N : Int) < 8 := by omega
     clear k
     go_enter Tryz.func8, Tryz.ntmps8
     go_wp2_with (first
      | (go_at_call 16; ((with_reducible refine (HSP.out).mono ?_); rintro e w1 ⟨rfl, hb1⟩; have HB1 := Lib.hid hb1; have c52 := HC.out _ hb1; clear hb1))
      | (go_at_call 17; ((with_reducible refine (HW1.out _ HB1.out).mono ?_); rintro e w2 ⟨A2, c2, rfl, hb2⟩; have HB2 := Lib.hid (HB1.out.trans (hb2.mono HB1.out.size)); clear hb2)))
     go_ret2
     exact HR.out _ HB2.out
   · have k1 : ¬ (N : Int) < 8 := by omega
     have k' : (1200 : Int) < (N : Int) + 14 := by omega
     clear k
     go_enter Tryz.func8, Tryz.ntmps8
     go_wp2_with (first
      | (go_at_call 16; ((with_reducible refine (HSP.out).mono ?_); rintro e w1 ⟨rfl, hb1⟩; have HB1 := Lib.hid hb1; have c52 := HC.out _ hb1; clear hb1))
      | (go_at_call 17; ((with_reducible refine (HW1.out _ HB1.out).mono ?_); rintro e w2 ⟨A2, c2, rfl, hb2⟩; have HB2 := Lib.hid (HB1.out.trans (hb2.mono HB1.out.size)); clear hb2)))
     go_ret2
     exact HR.out _ HB2.out
 · have HW1 : Hid (∀ W, Below w.heap.size w W → Calls Tryz.prog 17 #[.slice A n c] W fun e w' => e = .returned (.tuple #[.slice none 0 0, .int .i64 1]) ∧ Below W.heap.size W w') := Lib.hid (fun W hb => (HWR.out W hb).mono fun e w' k => k.2 hok)
   clear h hw ht hg hl hc hn hf hm hok hNX HWR
   go_enter Tryz.func8, Tryz.ntmps8
   go_wp2_with (first
    | (go_at_call 16; ((with_reducible refine (HSP.out).mono ?_); rintro e w1 ⟨rfl, hb1⟩; have HB1 := Lib.hid hb1; have c52 := HC.out _ hb1; clear hb1))
    | (go_at_call 17; ((with_reducible refine (HW1.out _ HB1.out).mono ?_); rintro e w2 ⟨rfl, hb2⟩; have HB2 := Lib.hid (HB1.out.trans (hb2.mono HB1.out.size)); clear hb2)))
   go_ret2
   exact HR.out _ HB2.out
structure SL (w0 : World) (g b : Nat) (s : Wc) (A : Option Addr) (n c : Nat) (bs : List UInt8) (wx : World) : Prop where
 way : PCtl wx g b s
 tab : Tabs wx
 rd : RdS wx A n c bs
 below : Below w0.heap.size w0 wx
theorem SL.on {w0 wx wy : World} {g b : Nat} {s : Wc} {A : Option Addr} {n c : Nat} {bs : List UInt8} (h : SL w0 g b s A n c bs wx) (hb : Below wx.heap.size wx wy) : SL w0 g b s A n c bs wy :=
 ⟨h.way.below hb, h.tab.below hb, h.rd.below hb, h.below.trans (hb.mono h.below.size)⟩
set_option maxRecDepth 100000 in
set_option maxHeartbeats 2000000 in
theorem seal16_go (g b : Nat) (s : Wc) (F : Nat → Prop) (A : Option Addr) (n c : Nat) (l : List Ctl) (w : World) (h : RC w (.pointer (some ⟨g, 0, none⟩)) s F) (hw : PCtl w g b s) (hFF : F = fun k => k = g ∨ k = b) (ht : Tabs w) (hg : s.good) (hl : ¬ (s.y.limit ≤ s.y.used ∨ 2147483648 ≤ s.nx)) (hc : CtRds w A l) (hn : l.length = n) (hf : ∀ c ∈ l, c.fit) (hm : mayS l) :
 Calls Tryz.prog 8 #[.pointer (some ⟨g, 0, none⟩), .slice A n c] w (SealS (.pointer (some ⟨g, 0, none⟩)) s F l w) := by
 have hw0 := whyS_0 hl hm
 have HW0 := Lib.hid hw0
 have HOFF := Lib.hid (hw.off hg.1.1 ht)
 have HFF := Lib.hid hFF
 have hgl : g < w.heap.size := hw.bk.lt
 have hbl : b < w.heap.size := hw.m.lt
 have HSP := Lib.hid (spent16_any g b s w hw hg.1.1 false (decide_eq_false (fun k => hl (.inl k))).symm)
 obtain ⟨B, hB⟩ : ∃ B, B = wrL l := ⟨_, rfl⟩
 obtain ⟨N, hN⟩ : ∃ N, N = B.length := ⟨_, rfl⟩
 have hN8 : 8 ≤ N ∧ N ≤ 1186 := by rw [hN, hB]; exact hm.2
 have HWR : Hid (∀ W, Below w.heap.size w W → Calls Tryz.prog 17 #[.slice A n c] W fun e w' => ∃ A' c', e = .returned (.tuple #[.slice A' N c', .int .i64 0]) ∧ BO W w' A' N c' B) := Lib.hid (fun W hb => (write_own11 A n c l W (hc.below hb) hn (ht.below hb).r (ht.below hb).lt hf).mono (by
  rintro e w' ⟨k, _⟩
  obtain ⟨A', c', N', hN', he, ho⟩ := k hm.1
  rw [← hB, ← hN] at hN'
  subst hN'
  rw [← hB] at ho
  exact ⟨A', c', he, ho⟩))
 have h2 : ¬ 2147483648 ≤ s.nx := fun k => hl (.inr k)
 have hnx := hg.2
 obtain ⟨I, hI⟩ : ∃ I : Nat, s.nx = (I : Int) := ⟨s.nx.toNat, by omega⟩
 have hI31 : I < 2147483648 := by omega
 have hus := hg.1.2.1
 have hus0 := hg.1.1.2.2.2.2.1
 have HOUT : Hid (outS s l = headC s.y B I ++ tagC s.y (headC s.y B I)) := Lib.hid (by unfold outS; rw [if_pos hw0, ← hB, hI, Int.toNat_natCast]; rfl)
 obtain ⟨U, hU⟩ : ∃ U, U = s.y.used := ⟨_, rfl⟩
 have HAF : Hid (afterS s l = ⟨{ s.y with used := U + 1 }, (I : Int) + 1⟩) := Lib.hid (by unfold afterS; rw [if_pos hw0, hI, hU]; rfl)
 have HG := Lib.hid hg
 have HWY := Lib.hid hw
 have HTB := Lib.hid ht
 have HC : Hid (∀ W, Below w.heap.size w W → W.cell? ⟨g, 52, none⟩ = some (.int .i64 (I : Int)) ∧ W.cell? ⟨g, 51, none⟩ = some (.int .i64 U)) := Lib.hid (fun W hb => by
  have := (hw.below hb).cells_ hg.1.1
  rw [← hI, hU]
  exact ⟨this.2.2.1, this.2.1⟩)
 rw [← hU] at hus hus0
 have hfl : [B.take 8, cph s.y.key (firstC s.y.salt (soC B) I) (B.drop 8), beb 4 (2147483648 + I)].flatten = headC s.y B I := by
  simp [headC, turnC, List.append_assoc]
 have hhl := headC_len s.y I (b := B) (by omega)
 have HFLT := Lib.hid hfl
 have HHL := Lib.hid hhl
 have HI31 := Lib.hid hI31
 obtain ⟨NX, hNX⟩ : ∃ NX : Int, NX = (I : Int) := ⟨_, rfl⟩
 have HNX := Lib.hid hNX
 have hI31i : NX + 1 ≤ 2147483648 := by omega
 have hI31j : 0 ≤ NX := by omega
 have h2i : ¬ (2147483648 : Int) ≤ NX := by omega
 rw [← hNX] at HC HAF
 obtain ⟨MK, hMK⟩ : ∃ MK, MK = beb 4 (2147483648 + I) := ⟨_, rfl⟩
 have HMKE := Lib.hid hMK
 have HNB := Lib.hid hN
 have HUU := Lib.hid hU
 have q1 : ¬ (N : Int) < 8 := by omega
 have q2 : ¬ (1200 : Int) < (N : Int) + 14 := by omega
 clear h hw hFF ht hg hl hc hn hf hm hw0 hB hI h2 hnx hU hN hfl hhl hI31 hMK hNX
 go_enter Tryz.func8, Tryz.ntmps8
 go_upto_region 6 with (first
  | (go_at_call 16; ((with_reducible refine (HSP.out).mono ?_); rintro e w1 ⟨rfl, hb1⟩; have HB1 := Lib.hid hb1; have c52 := (HC.out _ hb1).1; clear hb1))
  | (go_at_call 17; ((with_reducible refine (HWR.out _ HB1.out).mono ?_); rintro e w3 ⟨A3, c3, rfl, ho3⟩; have HB3 := Lib.hid (HB1.out.trans (ho3.2.mono HB1.out.size)); have HO3 := Lib.hid (own_mono ho3.1 HB1.out.size); clear ho3)))
 clear c52 HSP HWR HB1
 have c52 := (HC.out w3 HB3.out).1
 have HW3 := Lib.hid (HWY.out.below HB3.out)
 have HT3 := Lib.hid (HTB.out.below HB3.out)
 have f52 : w3.frozen? ⟨g, 52, none⟩ = false := HW3.out.bk.frozen 52
 have HW4 := Lib.hid (HW3.out.next HG.out.1.1 (NX + 1))
 have ho4 := Only.set w3 g 52 (.int .i64 (NX + 1))
 have d51 : (w3.setCell ⟨g, 52, none⟩ (.int .i64 (NX + 1))).cell? ⟨g, 51, none⟩ = some (.int .i64 U) := by
  rw [HUU.out]
  exact (HW4.out.cells_ HG.out.1.1).2.1
 have HO4 : Hid ((w3.setCell ⟨g, 52, none⟩ (.int .i64 (NX + 1))).ownsRow w.heap.size 5 1 (.slice A3 N c3) N (cells B)) := Lib.hid (own_at_same HO3.out fun k hk => ho4.block k (fun e => by have := (HO3.out.lt k hk).1; omega))
 have HFr4 : Hid (Fr F w (w3.setCell ⟨g, 52, none⟩ (.int .i64 (NX + 1)))) := Lib.hid ((Fr.of_below HB3.out).trans (Fr.of_only (F := F) ho4 (by rw [HFF.out]; exact .inl rfl)) (fun i hi => .inl hi))
 have HT4 : Hid (Tabs (w3.setCell ⟨g, 52, none⟩ (.int .i64 (NX + 1)))) := Lib.hid (HT3.out.fr (Fr.of_only (F := fun k => k = g ∨ k = b) ho4 (.inl rfl)) HOFF.out)
 clear ho4 HO3 HT3
 obtain ⟨I1, hI1⟩ : ∃ x, x = NX + 1 := ⟨_, rfl⟩
 have eI : IntKind.i64.wrap (NX + 1) = I1 := by rw [hI1]; exact IntWalk.i64_in _ (by omega)
 rw [← hI1] at d51 HW4 HO4 HFr4 HT4 HAF
 clear hI1
 go_upto_region 8 with (fail)
 obtain ⟨w4, hw4⟩ : ∃ x, x = w3.setCell ⟨g, 52, none⟩ (.int .i64 I1) := ⟨_, rfl⟩
 rw [← hw4] at d51 HW4 HO4 HFr4 HT4 ⊢
 clear hw4 c52 f52 HW3
 have f51 : w4.frozen? ⟨g, 51, none⟩ = false := HW4.out.bk.frozen 51
 have HW5 := Lib.hid (HW4.out.used HG.out.1.1 (U + 1))
 have ho5 := Only.set w4 g 51 (.int .i64 (U + 1))
 have HO5 : Hid ((w4.setCell ⟨g, 51, none⟩ (.int .i64 (U + 1))).ownsRow w.heap.size 5 1 (.slice A3 N c3) N (cells B)) := Lib.hid (own_at_same HO4.out fun k hk => ho5.block k (fun e => by have := (HO4.out.lt k hk).1; omega))
 have HFr5 : Hid (Fr F w (w4.setCell ⟨g, 51, none⟩ (.int .i64 (U + 1)))) := Lib.hid (HFr4.out.trans (Fr.of_only (F := F) ho5 (by rw [HFF.out]; exact .inl rfl)) (fun i hi => .inl hi))
 have HT5 : Hid (Tabs (w4.setCell ⟨g, 51, none⟩ (.int .i64 (U + 1)))) := Lib.hid (HT4.out.fr (Fr.of_only (F := fun k => k = g ∨ k = b) ho5 (.inl rfl)) HOFF.out)
 have HF1 : Hid (Wy.fit { s.y with used := U + 1 }) := Lib.hid (by
  obtain ⟨h1, h2, h3, h4, h5, h6, h7⟩ := HG.out.1.1
  exact ⟨h1, h2, h3, h4, by show 0 ≤ U + 1; omega, h6, h7⟩)
 clear ho5 HO4 HFr4 HT4
 obtain ⟨U1, hU1⟩ : ∃ x, x = U + 1 := ⟨_, rfl⟩
 have eU : IntKind.i64.wrap (U + 1) = U1 := by rw [hU1]; exact IntWalk.i64_in _ (by omega)
 rw [← hU1] at HW5 HO5 HFr5 HT5 HF1 HAF
 clear hU1
 go_upto_region 9 with (fail)
 obtain ⟨w5, hw5⟩ : ∃ x, x = w4.setCell ⟨g, 51, none⟩ (.int .i64 U1) := ⟨_, rfl⟩
 rw [← hw5] at HW5 HO5 HFr5 HT5 ⊢
 clear hw5 d51 f51 HW4 eI eU
 have hsz5 : w.heap.size ≤ w5.heap.size := HFr5.out.size
 have hr5 := RdS.of_own HO5.out
 have hc3 : N ≤ c3 := hr5.le
 have hc3m : c3 ≤ 9223372036854775807 := hr5.small.2
 have h8c : (8 : Int) ≤ (c3 : Int) := by omega
 have HTN : Hid (∀ W, SL w5 g b ⟨{ s.y with used := U1 }, I1⟩ A3 N c3 B W → Calls Tryz.prog 19 #[.pointer (some ⟨g, 0, none⟩), .slice A3 N c3, .int .i64 NX] W fun e w' => ∃ v, e = .returned v ∧ w'.ownsRow W.heap.size 5 1 v (N - 8) (cells (cph s.y.key (firstC s.y.salt (soC B) I) (B.drop 8))) ∧ Below W.heap.size W w') := Lib.hid (fun W k => by rw [HNX.out]; exact turned16_any g b ⟨{ s.y with used := U1 }, I1⟩ A3 N c3 B I W k.way HF1.out k.rd (by omega) (by omega) (by have := HI31.out; omega))
 have HMK : Hid (∀ W, Calls Tryz.prog 20 #[.int .i64 NX] W fun e w' => ∃ A c, e = .returned (.slice A 4 c) ∧ RdS w' A 4 c MK ∧ Below W.heap.size W w') := Lib.hid (fun W => by rw [HMKE.out, HNX.out]; exact marked16_any I W HI31.out)
 have HTG : Hid (∀ W A6 c6 A8 c8, SL w5 g b ⟨{ s.y with used := U1 }, I1⟩ A3 N c3 B W → RdS W A6 (N - 8) c6 (cph s.y.key (firstC s.y.salt (soC B) I) (B.drop 8)) → RdS W A8 4 c8 MK → Calls Tryz.prog 18 #[.pointer (some ⟨g, 0, none⟩), .slice (some ⟨W.heap.size, 0, none⟩) 3 3] (W.alloc (.cells #[.slice A3 8 c3, .slice A6 (N - 8) c6, .slice A8 4 c8] 32)) fun e w' => ∃ A' c', e = .returned (.slice A' (N + 14) c') ∧ w'.ownsRow W.heap.size 5 1 (.slice A' (N + 14) c') (N + 14) (cells (outS s l)) ∧ Below W.heap.size W w') := Lib.hid (fun W A6 c6 A8 c8 k h6 h8 => by
  have hb1 : Below W.heap.size W (W.alloc (.cells #[.slice A3 8 c3, .slice A6 (N - 8) c6, .slice A8 4 c8] 32)) := (Below.refl _ _).alloc (Nat.le_refl _) _
  have hp := parts3n W A3 A6 A8 8 (N - 8) 4 c3 c6 c8 _ _ _ 32 (k.rd.headR 8 (by omega)) h6 h8
  rw [HMKE.out] at hp
  refine (tagged16_any g b ⟨{ s.y with used := U1 }, I1⟩ W.heap.size 3 3 _ (N + 4) _ (k.way.below hb1) HF1.out (k.tab.below hb1) hp (by omega) (by rw [HFLT.out, HHL.out, ← HNB.out]) (by omega)).mono ?_
  rintro e w' ⟨A', c', rfl, ho⟩
  rw [HFLT.out] at ho
  refine ⟨A', c', rfl, ?_, hb1.trans (ho.2.mono hb1.size)⟩
  rw [HOUT.out]
  exact own_mono ho.1 hb1.size)
 have HS5 : Hid (SL w5 g b ⟨{ s.y with used := U1 }, I1⟩ A3 N c3 B w5) := Lib.hid ⟨HW5.out, HT5.out, hr5, Below.refl _ _⟩
 clear HW5 HO5 HT5 hr5 HOUT
 refine wp_region_noPanic ?_
 refine wp_region_held (S := fun wx => SL w5 g b ⟨{ s.y with used := U1 }, I1⟩ A3 N c3 B wx) (by kernel_rfl) ?_
 change wpAnyH _ _ _ _ _ _ _ _ (World.drew _)
 obtain ⟨w6, hw6⟩ : ∃ x, x = w5.drew := ⟨_, rfl⟩
 rw [← hw6]
 have hS : SL w5 g b ⟨{ s.y with used := U1 }, I1⟩ A3 N c3 B w6 := hw6 ▸ HS5.out.on (Below.refl _ _).drew
 clear hw6 HS5
 refine wpAnyH_take (i := 0) (v := ?_) rfl (by kernel_rfl) (by kernel_rfl) (by kernel_rfl) (fun _ _ _ h => h) (Or.inl ⟨by rfl, ?_⟩) hS ?_
 case refine_2 => (intro wz hz; go_simp; with_reducible rfl)
 simp only [Act.put, xgT, xgZ, xsT, xsS, xsZ]
 refine wpAnyH_take (i := 1) (v := ?_) rfl (by kernel_rfl) (by kernel_rfl) (by kernel_rfl) (fun _ _ _ h => h) (Or.inl ⟨by rfl, ?_⟩) hS ?_
 case refine_2 => (intro wz hz; go_simp; with_reducible rfl)
 simp only [Act.put, xgT, xgS, xgZ, xsT, xsS, xsZ]
 refine wpAnyH_take (i := 2) (v := ?_) rfl (by kernel_rfl) (by kernel_rfl) (by kernel_rfl) (fun _ _ _ h => h) (Or.inl ⟨by rfl, ?_⟩) hS ?_
 case refine_2 => (intro wz hz; go_simp; with_reducible rfl)
 simp only [Act.put, xgT, xgS, xgZ, xsT, xsS, xsZ]
 refine wpAnyH_take (i := 3) (v := ?_) rfl (by kernel_rfl) (by kernel_rfl) (by kernel_rfl) (fun _ _ _ h => h) (Or.inl ⟨by rfl, ?_⟩) hS ?_
 case refine_2 => (intro wz hz; go_simp; with_reducible rfl)
 simp only [Act.put, xgT, xgS, xgZ, xsT, xsS, xsZ]
 refine wpAnyH_take (i := 4) (v := ?_) rfl (by kernel_rfl) (by kernel_rfl) (by kernel_rfl) (fun _ _ _ h => h) (Or.inl ⟨by rfl, ?_⟩) hS ?_
 case refine_2 => (intro wz hz; go_simp; with_reducible rfl)
 simp only [Act.put, xgT, xgS, xgZ, xsT, xsS, xsZ]
 refine wpAnyH_take (i := 5) (v := ?_) rfl (by kernel_rfl) (by kernel_rfl) (by kernel_rfl) (fun _ _ _ h => h) (Or.inl ⟨by rfl, ?_⟩) hS ?_
 case refine_2 => (intro wz hz; go_simp; with_reducible rfl)
 simp only [Act.put, xgT, xgS, xgZ, xsT, xsS, xsZ]
 refine wpAnyH_take (i := 7) (v := ?_) rfl (by kernel_rfl) (by kernel_rfl) (by kernel_rfl) (fun _ _ _ h => h) (Or.inl ⟨by rfl, ?_⟩) hS ?_
 case refine_2 => (intro wz hz; go_simp; with_reducible rfl)
 simp only [Act.put, xgT, xgS, xgZ, xsT, xsS, xsZ]
 refine anyH_one (i := 6) (by kernel_rfl) rfl rfl (fun H hH => ?_)
 simp only [xgT, xgS, xgZ]
 go_simp
 refine (HTN.out w6 hS).mono ?_
 rintro e w7 ⟨v7, rfl, ho7, hb7⟩
 obtain ⟨A7, c7, hv7⟩ := own_formN ho7
 subst hv7
 have hS7 := hS.on hb7
 have HR7 := Lib.hid (RdS.of_own ho7)
 refine hH _ _ hS7 ?_
 clear hH hS ho7 hb7
 refine anyH_one (i := 8) (by kernel_rfl) rfl rfl (fun H hH => ?_)
 simp only [xgT, xgS, xgZ]
 go_simp
 refine (HMK.out w7).mono ?_
 rintro e w8 ⟨A8, c8, rfl, hr8, hb8⟩
 have hS8 := hS7.on hb8
 have HR7' := Lib.hid (HR7.out.below hb8)
 have HR8 := Lib.hid hr8
 refine hH _ _ hS8 ?_
 clear hH hS7 hr8 hb8 HR7
 refine anyH_one (i := 9) (by kernel_rfl) rfl rfl (fun H hH => ?_)
 simp only [xgT, xgS, xgZ]
 go_simp
 have hS9 := hS8.on ((Below.refl w8.heap.size w8).alloc (Nat.le_refl _) (.cells #[.slice A3 8 c3, .slice A7 (N - 8) c7, .slice A8 4 c8] 32))
 refine hH _ _ hS9 ?_
 clear hH
 refine anyH_one (i := 10) (by kernel_rfl) rfl rfl (fun H hH => ?_)
 simp only [xgT, xgS, xgZ]
 go_simp
 refine (HTG.out w8 A7 c7 A8 c8 hS8 HR7'.out HR8.out).mono ?_
 rintro e w10 ⟨A10, c10, rfl, ho10, hb10⟩
 have hS10 := hS8.on hb10
 have HO10 : Hid (w10.ownsRow w.heap.size 5 1 (.slice A10 (N + 14) c10) (N + 14) (cells (outS s l))) := Lib.hid (own_mono ho10 (Nat.le_trans hsz5 hS8.below.size))
 refine hH _ _ hS10 ?_
 clear hH hS8 hS9 hb10 ho10
 refine wpAnyH_take (i := 11) (v := ?_) rfl (by kernel_rfl) (by kernel_rfl) (by kernel_rfl) (fun _ _ _ h => h) (Or.inl ⟨by rfl, ?_⟩) hS10 ?_
 case refine_2 => (intro wz hz; go_simp; with_reducible rfl)
 simp only [Act.put, xgT, xgS, xgZ, xsT, xsS, xsZ]
 refine wpAnyH_take (i := 12) (v := ?_) rfl (by kernel_rfl) (by kernel_rfl) (by kernel_rfl) (fun _ _ _ h => h) (Or.inl ⟨by rfl, ?_⟩) hS10 ?_
 case refine_2 => (intro wz hz; go_simp; with_reducible rfl)
 simp only [Act.put, xgT, xgS, xgZ, xsT, xsS, xsZ]
 refine wpAnyH_done (by kernel_rfl) ?_ _
 refine NoPanic.normal ?_
 have HS10 := Lib.hid hS10
 clear hS10
 go_wp2
 go_ret2
 refine ⟨A10, N + 14, c10, by rw [HW0.out]; rfl, HO10.out, ?_, HFr5.out.then HS10.out.below⟩
 rw [HAF.out]
 exact ⟨g, b, rfl, HS10.out.way, HFF.out⟩
theorem seal16_any (p : Value) (s : Wc) (F : Nat → Prop) (A : Option Addr) (n c : Nat) (l : List Ctl) (w : World) (h : RC w p s F) (ht : Tabs w) (hg : s.good) (hc : CtRds w A l) (hn : l.length = n) (hf : ∀ c ∈ l, c.fit) :
 Calls Tryz.prog 8 #[p, .slice A n c] w (SealS p s F l w) := by
 have hk := h
 obtain ⟨g, b, rfl, hw, hFF⟩ := h
 by_cases h1 : s.y.limit ≤ s.y.used ∨ 2147483648 ≤ s.nx
 · exact seal16_no7 g b s F A n c l w hk hw hg h1
 by_cases h2 : mayS l
 · exact seal16_go g b s F A n c l w hk hw hFF ht hg h1 hc hn hf h2
 · exact seal16_no1 g b s F A n c l w hk hw ht hg h1 hc hn hf h2
end Go.Proofs.YtheefckohnaceaaGreatDoor
