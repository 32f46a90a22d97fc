/- Several texts in one: plain words and walks. No statement is proved here. -/
import Derived.Test.YtmkeioeodlidgaaGreatDoorZM1
namespace Go.Proofs.YtmkeioeodlidgaaGreatDoor
open Go.RowKit
set_option linter.unusedVariables false

theorem boxP (w : World) (g : Nat) (bs : List UInt8) (h : RdrR w g bs) : RdrR (w.alloc (.cells zeroC.toArray 37)) g bs ∧ BlkV (w.alloc (.cells zeroC.toArray 37)) w.heap.size 37 zeroC :=
 ⟨h.below ((Below.refl _ _).alloc (Nat.le_refl _) _), BlkV.new _ _ _⟩
theorem RdrR.len {w : World} {g : Nat} {bs : List UInt8} (h : RdrR w g bs) : ∃ A n c, w.cell? ⟨g, 0, none⟩ = some (.slice A n c) ∧ RdS w A n c bs ∧ n = bs.length := by
 obtain ⟨A, n, c, hB, hR, hL⟩ := h
 refine ⟨A, n, c, ?_, hR, hR.len.symm⟩
 have := hB.cell 0
 simpa using this
theorem RdrR.set_ {w : World} {g p : Nat} {bs : List UInt8} (h : RdrR w g bs) (hp : g < p) (j : Nat) (v : Value) : RdrR (w.setCell ⟨p, j, none⟩ v) g bs :=
 h.grown (Only.set w p j v).grown (fun q hq => by injection hq with hq; omega)
theorem fit11 {m : Bool} {ty sq st so : Nat} {O : Value} {x : Bool} {pf : Nat} {E L : Value} {pd : Nat} : 0 + (rtpC m ty sq st so O x pf E L pd).length ≤ zeroC.length := Nat.le_refl 11
theorem grownA {w w1 : World} {g : Nat} {o : Obj} (h : Only g (w.alloc o) w1) : w.grownBy w1 (some g) := (grown_of_below ((Below.refl _ _).alloc (Nat.le_refl _) _) _).trans h.grown

abbrev NumAt (g m : Nat) (mi : Int) (S T : List UInt8) (v : Nat) : Prop := ∀ wx, RdrR wx g S → Calls Tryz.prog 87 #[.pointer (some ⟨g, 0, none⟩), .int .i64 mi] wx fun e w' => e = .returned (.int .u64 (v : Int)) ∧ RdrR w' g T ∧ Only g wx w'
structure Head (g : Nat) (bs S1 S2 S4 S8 S12 : List UInt8) (b0 b1 ty sq st so K x p : Nat) (mk : Bool) : Prop where
 n1 : NumAt g 1 1 bs S1 b0
 n2 : NumAt g 1 1 S1 S2 b1
 n3 : NumAt g 2 2 S2 S4 sq
 n4 : NumAt g 4 4 S4 S8 st
 n5 : NumAt g 4 4 S8 S12 so
 a1 : bits BinOp.and IntKind.u64 (b1 : Int) 127 = (ty : Int)
 a2 : bits BinOp.and IntKind.u64 (b0 : Int) 15 = (K : Int)
 a3 : bits BinOp.and IntKind.u64 ((b0 : Int) / 16) 1 = (x : Int)
 a4 : bits BinOp.and IntKind.u64 ((b0 : Int) / 32) 1 = (p : Int)
 mq : ((b1 : Int) / 128 == 1) = mk
 v2 : ((b0 : Int) / 64 == 2) = true
 l0 : b0 < 256
 l1 : b1 < 256
 lt : ty < 128
 l2 : sq < 65536
 l3 : st < 4294967296
 l4 : so < 4294967296
 l5 : K < 16
 ln : 12 ≤ bs.length ∧ bs.length ≤ 1200

def PkRes (w : World) (g : Nat) (mk : Bool) (ty sq st so : Nat) (U : List Nat) (x : Bool) (pf : Nat) (X Y : List UInt8) (pd : Nat) (e : Ending) (w' : World) : Prop :=
 ∃ A a B b D d, e = .returned (.agg (rtpC mk ty sq st so (.slice A U.length a) x pf (.slice B X.length b) (.slice D Y.length d) pd).toArray) ∧
   w'.ownsRow w.heap.size 33 1 (.slice A U.length a) U.length (ucells U) ∧ w'.ownsRow w.heap.size 5 1 (.slice B X.length b) X.length (cells X) ∧ w'.ownsRow w.heap.size 5 1 (.slice D Y.length d) Y.length (cells Y) ∧ w.grownBy w' (some g)

set_option maxRecDepth 100000 in
set_option maxHeartbeats 4000000 in
theorem pkt_short (g : Nat) {bs : List UInt8} (w : World) (h : RdrR w g bs) (h12 : bs.length < 12) :
 Calls Tryz.prog 66 #[.pointer (some ⟨g, 0, none⟩)] w fun e w' => e = .panicked (gone 2) ∧ w.grownBy w' (some g) := by
 have hz := zero28
 have hgl := h.lt
 obtain ⟨hr0, hB0⟩ := boxP w g bs h
 obtain ⟨A0, n0, c0, hc0, hR0, hn0⟩ := hr0.len
 subst hn0
 have HR0 := Lib.hid hr0
 have HB0 := Lib.hid hB0
 have hsm := hR0.small
 clear h hR0 hr0 hB0
 go_enter Tryz.func66, Tryz.ntmps66
 go_wp2_with (first
  | (go_at_call 65; ((with_reducible refine (refuse_yes _ _ _ ?_).mono ?_); (first | rfl | assumption | (simp; omega) | (rw [bne, hv2]; rfl)); rintro e w' ⟨rfl, rfl⟩))
 )
 exact ⟨rfl, rfl, grown_of_below ((Below.refl _ _).alloc (Nat.le_refl _) _) _⟩

set_option maxRecDepth 100000 in
set_option maxHeartbeats 4000000 in
theorem pkt_bits (g : Nat) {bs S1 : List UInt8} {b0 : Nat} (w : World) (h : RdrR w g bs) (ln : 12 ≤ bs.length ∧ bs.length ≤ 1200) (n1 : NumAt g 1 1 bs S1 b0) (l0 : b0 < 256) (hv2 : ((b0 : Int) / 64 == 2) = false) :
 Calls Tryz.prog 66 #[.pointer (some ⟨g, 0, none⟩)] w fun e w' => e = .panicked (gone 3) ∧ w.grownBy w' (some g) := by
 obtain ⟨ln1, ln2⟩ := ln
 have N1 := Lib.hid n1
 clear n1
 have hz := zero28
 have hgl := h.lt
 obtain ⟨hr0, hB0⟩ := boxP w g bs h
 obtain ⟨A0, n0, c0, hc0, hR0, hn0⟩ := hr0.len
 subst hn0
 have HR0 := Lib.hid hr0
 have HB0 := Lib.hid hB0
 have hsm := hR0.small
 clear h hR0 hr0 hB0
 go_enter Tryz.func66, Tryz.ntmps66
 go_wp2_with (first
  | (go_at_call 65; ((with_reducible refine (refuse_noR _ _ _ ?_).mono ?_); (first | rfl | assumption | (simp; omega) | (rw [bne, hv2]; rfl)); rintro e w' ⟨rfl, rfl⟩))
  | (go_at_call 65; ((with_reducible refine (refuse_yes _ _ _ ?_).mono ?_); (first | rfl | assumption | (simp; omega) | (rw [bne, hv2]; rfl)); rintro e w' ⟨rfl, rfl⟩))
  | (go_at_call 87; ((with_reducible refine (Hid.out N1 _ HR0.out).mono ?_); rintro e w1 ⟨rfl, hr1, ho1⟩; have G1 := Lib.hid ho1; clear ho1))
 )
 exact ⟨rfl, rfl, grownA G1.out⟩

set_option maxRecDepth 100000 in
set_option maxHeartbeats 4000000 in
theorem pkt_lack (g : Nat) {bs S1 S2 S4 S8 S12 : List UInt8} {b0 b1 ty sq st so K : Nat} {mk : Bool} (w : World) (h : RdrR w g bs) {x p : Nat} (H : Head g bs S1 S2 S4 S8 S12 b0 b1 ty sq st so K x p mk) (ns : ∀ wx, RdrR wx g S12 → Calls Tryz.prog 88 #[.pointer (some ⟨g, 0, none⟩), .int .i64 (K : Int)] wx fun e w' => e = .panicked (gone 2) ∧ wx.grownBy w' (some g)) :
 Calls Tryz.prog 66 #[.pointer (some ⟨g, 0, none⟩)] w fun e w' => e = .panicked (gone 2) ∧ w.grownBy w' (some g) := by
 obtain ⟨n1, n2, n3, n4, n5, a1, a2, a3, a4, hmk, hv2, l0, l1, lt, l2, l3, l4, l5, ln1, ln2⟩ := H
 have N1 := Lib.hid n1
 have N2 := Lib.hid n2
 have N3 := Lib.hid n3
 have N4 := Lib.hid n4
 have N5 := Lib.hid n5
 clear n1 n2 n3 n4 n5
 have x4 : ((0 : Int) == 1) = false := rfl
 have x5 : ((1 : Int) == 1) = true := rfl
 have NS := Lib.hid ns
 clear ns
 have hz := zero28
 have hgl := h.lt
 obtain ⟨hr0, hB0⟩ := boxP w g bs h
 obtain ⟨A0, n0, c0, hc0, hR0, hn0⟩ := hr0.len
 subst hn0
 have HR0 := Lib.hid hr0
 have HB0 := Lib.hid hB0
 have hsm := hR0.small
 clear h hR0 hr0 hB0
 go_enter Tryz.func66, Tryz.ntmps66
 go_wp2_with (first
  | (go_at_call 65; ((with_reducible refine (refuse_noR _ _ _ ?_).mono ?_); (first | rfl | assumption | (simp; omega) | (rw [bne, hv2]; rfl)); rintro e w' ⟨rfl, rfl⟩))
  | (go_at_call 87; ((with_reducible refine (Hid.out N1 _ HR0.out).mono ?_); rintro e w1 ⟨rfl, hr1, ho1⟩; have G1 := Lib.hid ho1; clear ho1))
  | (go_at_call 87; ((with_reducible refine (Hid.out N2 _ hr1).mono ?_); rintro e w2 ⟨rfl, hr2, ho2⟩; have G2 := Lib.hid ho2; clear ho2))
  | (go_at_call 87; ((with_reducible refine (Hid.out N3 _ hr2).mono ?_); rintro e w3 ⟨rfl, hr3, ho3⟩; have G3 := Lib.hid ho3; clear ho3))
  | (go_at_call 87; ((with_reducible refine (Hid.out N4 _ hr3).mono ?_); rintro e w4 ⟨rfl, hr4, ho4⟩; have G4 := Lib.hid ho4; clear ho4))
  | (go_at_call 87; ((with_reducible refine (Hid.out N5 _ hr4).mono ?_); rintro e w5 ⟨rfl, hr5, ho5⟩; have G5 := Lib.hid ho5; clear ho5))
  | (go_at_call 88; ((with_reducible refine (Hid.out NS _ hr5).mono ?_); rintro e w6 ⟨rfl, hg6⟩))
 )
 exact ⟨rfl, rfl, (grownA G1.out).trans ((((G2.out.trans G3.out).trans G4.out).trans G5.out).grown.trans hg6)⟩

set_option maxRecDepth 100000 in
set_option maxHeartbeats 4000000 in
theorem pkt_extno (g : Nat) {bs S1 S2 S4 S8 S12 : List UInt8} {b0 b1 ty sq st so K : Nat} {mk : Bool} (w : World) (h : RdrR w g bs) {p : Nat} (H : Head g bs S1 S2 S4 S8 S12 b0 b1 ty sq st so K 1 p mk) {SA : List UInt8} {U : List Nat} (hU : U.length = K) (ns : ∀ wx, RdrR wx g S12 → Calls Tryz.prog 88 #[.pointer (some ⟨g, 0, none⟩), .int .i64 (K : Int)] wx fun e w' => ∃ A c, e = .returned (.slice A K c) ∧ w'.ownsRow wx.heap.size 33 1 (.slice A K c) K (ucells U) ∧ RdrR w' g SA ∧ wx.grownBy w' (some g)) {C : Int} (ne : ∀ wx, RdrR wx g SA → Calls Tryz.prog 89 #[.pointer (some ⟨g, 0, none⟩)] wx fun e w' => e = .panicked (gone C) ∧ wx.grownBy w' (some g)) :
 Calls Tryz.prog 66 #[.pointer (some ⟨g, 0, none⟩)] w fun e w' => e = .panicked (gone C) ∧ w.grownBy w' (some g) := by
 obtain ⟨n1, n2, n3, n4, n5, a1, a2, a3, a4, hmk, hv2, l0, l1, lt, l2, l3, l4, l5, ln1, ln2⟩ := H
 have N1 := Lib.hid n1
 have N2 := Lib.hid n2
 have N3 := Lib.hid n3
 have N4 := Lib.hid n4
 have N5 := Lib.hid n5
 clear n1 n2 n3 n4 n5
 have x4 : ((0 : Int) == 1) = false := rfl
 have x5 : ((1 : Int) == 1) = true := rfl
 have NS := Lib.hid ns
 clear ns
 have NE := Lib.hid ne
 clear ne
 clear hU
 have hz := zero28
 have hgl := h.lt
 obtain ⟨hr0, hB0⟩ := boxP w g bs h
 obtain ⟨A0, n0, c0, hc0, hR0, hn0⟩ := hr0.len
 subst hn0
 have HR0 := Lib.hid hr0
 have HB0 := Lib.hid hB0
 have hsm := hR0.small
 clear h hR0 hr0 hB0
 go_enter Tryz.func66, Tryz.ntmps66
 go_wp2_with (first
  | (go_at_call 65; ((with_reducible refine (refuse_noR _ _ _ ?_).mono ?_); (first | rfl | assumption | (simp; omega) | (rw [bne, hv2]; rfl)); rintro e w' ⟨rfl, rfl⟩))
  | (go_at_call 87; ((with_reducible refine (Hid.out N1 _ HR0.out).mono ?_); rintro e w1 ⟨rfl, hr1, ho1⟩; have G1 := Lib.hid ho1; clear ho1))
  | (go_at_call 87; ((with_reducible refine (Hid.out N2 _ hr1).mono ?_); rintro e w2 ⟨rfl, hr2, ho2⟩; have G2 := Lib.hid ho2; clear ho2))
  | (go_at_call 87; ((with_reducible refine (Hid.out N3 _ hr2).mono ?_); rintro e w3 ⟨rfl, hr3, ho3⟩; have G3 := Lib.hid ho3; clear ho3))
  | (go_at_call 87; ((with_reducible refine (Hid.out N4 _ hr3).mono ?_); rintro e w4 ⟨rfl, hr4, ho4⟩; have G4 := Lib.hid ho4; clear ho4))
  | (go_at_call 87; ((with_reducible refine (Hid.out N5 _ hr4).mono ?_); rintro e w5 ⟨rfl, hr5, ho5⟩; have G5 := Lib.hid ho5; clear ho5))
  | (go_at_call 88; ((with_reducible refine (Hid.out NS _ hr5).mono ?_); rintro e w6 ⟨A6, c6, rfl, hown6, hr6, hg6⟩; have T6 : Hid (Two g w6.heap.size (w.alloc (.cells zeroC.toArray 37)) w6) := Lib.hid ((Two.of_g (G1.out.trans (((G2.out.trans G3.out).trans G4.out).trans G5.out))).trans (Two.of_grown hg6)); have HO6 := Lib.hid hown6; have HR6 := Lib.hid hr6; have HP6 := Lib.hid (Nat.lt_of_lt_of_le hr5.lt hg6.size); have HQ6 := Lib.hid (by have h1 := G1.out.size; have h2 := (((G2.out.trans G3.out).trans G4.out).trans G5.out).size; have h3 := hg6.size; simp at h1; omega : w.heap.size < w6.heap.size); have HQ5 := Lib.hid (by have h1 := G1.out.size; have h2 := (((G2.out.trans G3.out).trans G4.out).trans G5.out).size; simp at h1; omega : w.heap.size < w5.heap.size); clear hg6 hown6 hr6))
  | ((refine wpList_st rfl 37 (.tmp 5) (.tmp 45) rfl w6.heap.size 0 (rtpC mk ty sq st so (.slice A6 K c6) true 0 (.slice none 0 0) (.slice none 0 0) 0) rfl (by with_unfolding_all rfl) 37 zeroC (BlkV.new w6 _ _) fit11 (row11 rfl) (rtpC_one _ _ _ _ _ _ _ _ _ _ _ _ _ _ _ _ _) ?_); intro w7 hB7 ho7; rw [splice_all _ _ (by rfl)] at hB7; have HB7 := Lib.hid hB7; have T67 : Hid (Two g w6.heap.size w6 w7) := Lib.hid ((Two.alloc w6 (.cells zeroC.toArray 37)).trans (Two.of_p ho7)); have HZ7 := Lib.hid (by have h1 := ho7.size; simp at h1; omega : w6.heap.size < w7.heap.size); have T7 := Lib.hid (Two.refl g w6.heap.size w7); have HR7 := Lib.hid ((HR6.out.below ((Below.refl _ _).alloc (Nat.le_refl _) (.cells zeroC.toArray 37))).grown ho7.grown (fun q hq => by injection hq with hq; have := HP6.out; omega)); clear hB7 ho7; have k6 : w7.cell? ⟨w6.heap.size, 6, none⟩ = some (.bool true) := (HB7.out.cell 6).trans rfl; have fk6 := HB7.out.frozen 6)
  | (go_at_call 89; ((with_reducible refine (Hid.out NE _ HR7.out).mono ?_); rintro e w8 ⟨rfl, hg8⟩))
 )
 exact ⟨rfl, rfl, (grown_of_below ((Below.refl _ _).alloc (Nat.le_refl _) _) _).trans (((T6.out.trans T67.out).trans (Two.of_grown hg8)).grown (by have := HQ6.out; simp; omega))⟩

set_option maxRecDepth 100000 in
set_option maxHeartbeats 4000000 in
theorem pkt_padno0 (g : Nat) {bs S1 S2 S4 S8 S12 : List UInt8} {b0 b1 ty sq st so K : Nat} {mk : Bool} (w : World) (h : RdrR w g bs) (H : Head g bs S1 S2 S4 S8 S12 b0 b1 ty sq st so K 0 1 mk) {SA : List UInt8} {U : List Nat} (hU : U.length = K) (ns : ∀ wx, RdrR wx g S12 → Calls Tryz.prog 88 #[.pointer (some ⟨g, 0, none⟩), .int .i64 (K : Int)] wx fun e w' => ∃ A c, e = .returned (.slice A K c) ∧ w'.ownsRow wx.heap.size 33 1 (.slice A K c) K (ucells U) ∧ RdrR w' g SA ∧ wx.grownBy w' (some g)) (np : ∀ wx, RdrR wx g SA → Calls Tryz.prog 90 #[.pointer (some ⟨g, 0, none⟩)] wx fun e w' => e = .panicked (gone 3) ∧ wx = w') :
 Calls Tryz.prog 66 #[.pointer (some ⟨g, 0, none⟩)] w fun e w' => e = .panicked (gone 3) ∧ w.grownBy w' (some g) := by
 obtain ⟨n1, n2, n3, n4, n5, a1, a2, a3, a4, hmk, hv2, l0, l1, lt, l2, l3, l4, l5, ln1, ln2⟩ := H
 have N1 := Lib.hid n1
 have N2 := Lib.hid n2
 have N3 := Lib.hid n3
 have N4 := Lib.hid n4
 have N5 := Lib.hid n5
 clear n1 n2 n3 n4 n5
 have x4 : ((0 : Int) == 1) = false := rfl
 have x5 : ((1 : Int) == 1) = true := rfl
 have NS := Lib.hid ns
 clear ns
 have NP := Lib.hid np
 clear np
 clear hU
 have hz := zero28
 have hgl := h.lt
 obtain ⟨hr0, hB0⟩ := boxP w g bs h
 obtain ⟨A0, n0, c0, hc0, hR0, hn0⟩ := hr0.len
 subst hn0
 have HR0 := Lib.hid hr0
 have HB0 := Lib.hid hB0
 have hsm := hR0.small
 clear h hR0 hr0 hB0
 go_enter Tryz.func66, Tryz.ntmps66
 go_wp2_with (first
  | (go_at_call 65; ((with_reducible refine (refuse_noR _ _ _ ?_).mono ?_); (first | rfl | assumption | (simp; omega) | (rw [bne, hv2]; rfl)); rintro e w' ⟨rfl, rfl⟩))
  | (go_at_call 87; ((with_reducible refine (Hid.out N1 _ HR0.out).mono ?_); rintro e w1 ⟨rfl, hr1, ho1⟩; have G1 := Lib.hid ho1; clear ho1))
  | (go_at_call 87; ((with_reducible refine (Hid.out N2 _ hr1).mono ?_); rintro e w2 ⟨rfl, hr2, ho2⟩; have G2 := Lib.hid ho2; clear ho2))
  | (go_at_call 87; ((with_reducible refine (Hid.out N3 _ hr2).mono ?_); rintro e w3 ⟨rfl, hr3, ho3⟩; have G3 := Lib.hid ho3; clear ho3))
  | (go_at_call 87; ((with_reducible refine (Hid.out N4 _ hr3).mono ?_); rintro e w4 ⟨rfl, hr4, ho4⟩; have G4 := Lib.hid ho4; clear ho4))
  | (go_at_call 87; ((with_reducible refine (Hid.out N5 _ hr4).mono ?_); rintro e w5 ⟨rfl, hr5, ho5⟩; have G5 := Lib.hid ho5; clear ho5))
  | (go_at_call 88; ((with_reducible refine (Hid.out NS _ hr5).mono ?_); rintro e w6 ⟨A6, c6, rfl, hown6, hr6, hg6⟩; have T6 : Hid (Two g w6.heap.size (w.alloc (.cells zeroC.toArray 37)) w6) := Lib.hid ((Two.of_g (G1.out.trans (((G2.out.trans G3.out).trans G4.out).trans G5.out))).trans (Two.of_grown hg6)); have HO6 := Lib.hid hown6; have HR6 := Lib.hid hr6; have HP6 := Lib.hid (Nat.lt_of_lt_of_le hr5.lt hg6.size); have HQ6 := Lib.hid (by have h1 := G1.out.size; have h2 := (((G2.out.trans G3.out).trans G4.out).trans G5.out).size; have h3 := hg6.size; simp at h1; omega : w.heap.size < w6.heap.size); have HQ5 := Lib.hid (by have h1 := G1.out.size; have h2 := (((G2.out.trans G3.out).trans G4.out).trans G5.out).size; simp at h1; omega : w.heap.size < w5.heap.size); clear hg6 hown6 hr6))
  | ((refine wpList_st rfl 37 (.tmp 5) (.tmp 45) rfl w6.heap.size 0 (rtpC mk ty sq st so (.slice A6 K c6) false 0 (.slice none 0 0) (.slice none 0 0) 0) rfl (by with_unfolding_all rfl) 37 zeroC (BlkV.new w6 _ _) fit11 (row11 rfl) (rtpC_one _ _ _ _ _ _ _ _ _ _ _ _ _ _ _ _ _) ?_); intro w7 hB7 ho7; rw [splice_all _ _ (by rfl)] at hB7; have HB7 := Lib.hid hB7; have T67 : Hid (Two g w6.heap.size w6 w7) := Lib.hid ((Two.alloc w6 (.cells zeroC.toArray 37)).trans (Two.of_p ho7)); have HZ7 := Lib.hid (by have h1 := ho7.size; simp at h1; omega : w6.heap.size < w7.heap.size); have T7 := Lib.hid (Two.refl g w6.heap.size w7); have HR7 := Lib.hid ((HR6.out.below ((Below.refl _ _).alloc (Nat.le_refl _) (.cells zeroC.toArray 37))).grown ho7.grown (fun q hq => by injection hq with hq; have := HP6.out; omega)); clear hB7 ho7; have k6 : w7.cell? ⟨w6.heap.size, 6, none⟩ = some (.bool false) := (HB7.out.cell 6).trans rfl; have fk6 := HB7.out.frozen 6)
  | (go_at_call 90; ((with_reducible refine (Hid.out NP _ HR7.out).mono ?_); rintro e w10 ⟨rfl, rfl⟩))
 )
 exact ⟨rfl, rfl, (grown_of_below ((Below.refl _ _).alloc (Nat.le_refl _) _) _).trans (((T6.out.trans T67.out).trans T7.out).grown (by have := HQ6.out; simp; omega))⟩

set_option maxRecDepth 100000 in
set_option maxHeartbeats 4000000 in
theorem pkt_padno1 (g : Nat) {bs S1 S2 S4 S8 S12 : List UInt8} {b0 b1 ty sq st so K : Nat} {mk : Bool} (w : World) (h : RdrR w g bs) (H : Head g bs S1 S2 S4 S8 S12 b0 b1 ty sq st so K 1 1 mk) {SA : List UInt8} {U : List Nat} (hU : U.length = K) (ns : ∀ wx, RdrR wx g S12 → Calls Tryz.prog 88 #[.pointer (some ⟨g, 0, none⟩), .int .i64 (K : Int)] wx fun e w' => ∃ A c, e = .returned (.slice A K c) ∧ w'.ownsRow wx.heap.size 33 1 (.slice A K c) K (ucells U) ∧ RdrR w' g SA ∧ wx.grownBy w' (some g)) {SE X : List UInt8} {pf M : Nat} (lpf : pf < 65536) (hX : X.length = M) (ne : ∀ wx, RdrR wx g SA → Calls Tryz.prog 89 #[.pointer (some ⟨g, 0, none⟩)] wx fun e w' => ∃ A c, e = .returned (.tuple #[.int .u16 (pf : Int), .slice A M c]) ∧ w'.ownsRow wx.heap.size 5 1 (.slice A M c) M (cells X) ∧ RdrR w' g SE ∧ wx.grownBy w' (some g)) (np : ∀ wx, RdrR wx g SE → Calls Tryz.prog 90 #[.pointer (some ⟨g, 0, none⟩)] wx fun e w' => e = .panicked (gone 3) ∧ wx = w') :
 Calls Tryz.prog 66 #[.pointer (some ⟨g, 0, none⟩)] w fun e w' => e = .panicked (gone 3) ∧ w.grownBy w' (some g) := by
 obtain ⟨n1, n2, n3, n4, n5, a1, a2, a3, a4, hmk, hv2, l0, l1, lt, l2, l3, l4, l5, ln1, ln2⟩ := H
 have N1 := Lib.hid n1
 have N2 := Lib.hid n2
 have N3 := Lib.hid n3
 have N4 := Lib.hid n4
 have N5 := Lib.hid n5
 clear n1 n2 n3 n4 n5
 have x4 : ((0 : Int) == 1) = false := rfl
 have x5 : ((1 : Int) == 1) = true := rfl
 have NS := Lib.hid ns
 clear ns
 have NE := Lib.hid ne
 clear ne
 have NP := Lib.hid np
 clear np
 clear hU hX
 have hz := zero28
 have hgl := h.lt
 obtain ⟨hr0, hB0⟩ := boxP w g bs h
 obtain ⟨A0, n0, c0, hc0, hR0, hn0⟩ := hr0.len
 subst hn0
 have HR0 := Lib.hid hr0
 have HB0 := Lib.hid hB0
 have hsm := hR0.small
 clear h hR0 hr0 hB0
 go_enter Tryz.func66, Tryz.ntmps66
 go_wp2_with (first
  | (go_at_call 65; ((with_reducible refine (refuse_noR _ _ _ ?_).mono ?_); (first | rfl | assumption | (simp; omega) | (rw [bne, hv2]; rfl)); rintro e w' ⟨rfl, rfl⟩))
  | (go_at_call 87; ((with_reducible refine (Hid.out N1 _ HR0.out).mono ?_); rintro e w1 ⟨rfl, hr1, ho1⟩; have G1 := Lib.hid ho1; clear ho1))
  | (go_at_call 87; ((with_reducible refine (Hid.out N2 _ hr1).mono ?_); rintro e w2 ⟨rfl, hr2, ho2⟩; have G2 := Lib.hid ho2; clear ho2))
  | (go_at_call 87; ((with_reducible refine (Hid.out N3 _ hr2).mono ?_); rintro e w3 ⟨rfl, hr3, ho3⟩; have G3 := Lib.hid ho3; clear ho3))
  | (go_at_call 87; ((with_reducible refine (Hid.out N4 _ hr3).mono ?_); rintro e w4 ⟨rfl, hr4, ho4⟩; have G4 := Lib.hid ho4; clear ho4))
  | (go_at_call 87; ((with_reducible refine (Hid.out N5 _ hr4).mono ?_); rintro e w5 ⟨rfl, hr5, ho5⟩; have G5 := Lib.hid ho5; clear ho5))
  | (go_at_call 88; ((with_reducible refine (Hid.out NS _ hr5).mono ?_); rintro e w6 ⟨A6, c6, rfl, hown6, hr6, hg6⟩; have T6 : Hid (Two g w6.heap.size (w.alloc (.cells zeroC.toArray 37)) w6) := Lib.hid ((Two.of_g (G1.out.trans (((G2.out.trans G3.out).trans G4.out).trans G5.out))).trans (Two.of_grown hg6)); have HO6 := Lib.hid hown6; have HR6 := Lib.hid hr6; have HP6 := Lib.hid (Nat.lt_of_lt_of_le hr5.lt hg6.size); have HQ6 := Lib.hid (by have h1 := G1.out.size; have h2 := (((G2.out.trans G3.out).trans G4.out).trans G5.out).size; have h3 := hg6.size; simp at h1; omega : w.heap.size < w6.heap.size); have HQ5 := Lib.hid (by have h1 := G1.out.size; have h2 := (((G2.out.trans G3.out).trans G4.out).trans G5.out).size; simp at h1; omega : w.heap.size < w5.heap.size); clear hg6 hown6 hr6))
  | ((refine wpList_st rfl 37 (.tmp 5) (.tmp 45) rfl w6.heap.size 0 (rtpC mk ty sq st so (.slice A6 K c6) true 0 (.slice none 0 0) (.slice none 0 0) 0) rfl (by with_unfolding_all rfl) 37 zeroC (BlkV.new w6 _ _) fit11 (row11 rfl) (rtpC_one _ _ _ _ _ _ _ _ _ _ _ _ _ _ _ _ _) ?_); intro w7 hB7 ho7; rw [splice_all _ _ (by rfl)] at hB7; have HB7 := Lib.hid hB7; have T67 : Hid (Two g w6.heap.size w6 w7) := Lib.hid ((Two.alloc w6 (.cells zeroC.toArray 37)).trans (Two.of_p ho7)); have HZ7 := Lib.hid (by have h1 := ho7.size; simp at h1; omega : w6.heap.size < w7.heap.size); have T7 := Lib.hid (Two.refl g w6.heap.size w7); have HR7 := Lib.hid ((HR6.out.below ((Below.refl _ _).alloc (Nat.le_refl _) (.cells zeroC.toArray 37))).grown ho7.grown (fun q hq => by injection hq with hq; have := HP6.out; omega)); clear hB7 ho7; have k6 : w7.cell? ⟨w6.heap.size, 6, none⟩ = some (.bool true) := (HB7.out.cell 6).trans rfl; have fk6 := HB7.out.frozen 6)
  | (go_at_call 89; ((with_reducible refine (Hid.out NE _ HR7.out).mono ?_); rintro e w8 ⟨A9, c9, rfl, hown8, hr8, hg8⟩; have HO8 := Lib.hid hown8; have HB8 := Lib.hid (HB7.out.grown hg8 (fun e => by injection e with e; have := HP6.out; omega)); have T8 := Lib.hid (T7.out.trans (Two.of_grown hg8)); have k7 : w8.cell? ⟨w6.heap.size, 7, none⟩ = some (.int .u16 0) := (HB8.out.cell 7).trans rfl; have fk7 := HB8.out.frozen 7; have k8 : w8.cell? ⟨w6.heap.size, 8, none⟩ = some (.slice none 0 0) := (HB8.out.cell 8).trans rfl; have fk8 := HB8.out.frozen 8; have HB9 : Hid (BlkV ((w8.setCell ⟨w6.heap.size, 7, none⟩ (.int .u16 pf)).setCell ⟨w6.heap.size, 8, none⟩ (.slice A9 M c9)) w6.heap.size 37 (rtpC mk ty sq st so (.slice A6 K c6) true pf (.slice A9 M c9) (.slice none 0 0) 0)) := Lib.hid ((HB8.out.set_ 7 _).set_ 8 _); have HR9 := Lib.hid ((hr8.set_ (p := w6.heap.size) HP6.out 7 (.int .u16 pf)).set_ (p := w6.heap.size) HP6.out 8 (.slice A9 M c9)); have S9 : Hid (Two g w6.heap.size w8 ((w8.setCell ⟨w6.heap.size, 7, none⟩ (.int .u16 pf)).setCell ⟨w6.heap.size, 8, none⟩ (.slice A9 M c9))) := Lib.hid ((Two.set_ w8 7 (.int .u16 pf)).trans (Two.set_ _ 8 (.slice A9 M c9))); have T9 := Lib.hid (T8.out.trans S9.out); clear hown8 hr8 hg8))
  | (go_at_call 90; ((with_reducible refine (Hid.out NP _ HR9.out).mono ?_); rintro e w10 ⟨rfl, rfl⟩))
 )
 exact ⟨rfl, rfl, (grown_of_below ((Below.refl _ _).alloc (Nat.le_refl _) _) _).trans (((T6.out.trans T67.out).trans T9.out).grown (by have := HQ6.out; simp; omega))⟩

set_option maxRecDepth 100000 in
set_option maxHeartbeats 4000000 in
theorem pkt_ok00 (g : Nat) {bs S1 S2 S4 S8 S12 : List UInt8} {b0 b1 ty sq st so K : Nat} {mk : Bool} (w : World) (h : RdrR w g bs) (H : Head g bs S1 S2 S4 S8 S12 b0 b1 ty sq st so K 0 0 mk) {SA : List UInt8} {U : List Nat} (hU : U.length = K) (ns : ∀ wx, RdrR wx g S12 → Calls Tryz.prog 88 #[.pointer (some ⟨g, 0, none⟩), .int .i64 (K : Int)] wx fun e w' => ∃ A c, e = .returned (.slice A K c) ∧ w'.ownsRow wx.heap.size 33 1 (.slice A K c) K (ucells U) ∧ RdrR w' g SA ∧ wx.grownBy w' (some g)) (lF : SA.length ≤ 1200) :
 Calls Tryz.prog 66 #[.pointer (some ⟨g, 0, none⟩)] w (PkRes w g mk ty sq st so U false 0 [] SA 0) := by
 obtain ⟨n1, n2, n3, n4, n5, a1, a2, a3, a4, hmk, hv2, l0, l1, lt, l2, l3, l4, l5, ln1, ln2⟩ := H
 have N1 := Lib.hid n1
 have N2 := Lib.hid n2
 have N3 := Lib.hid n3
 have N4 := Lib.hid n4
 have N5 := Lib.hid n5
 clear n1 n2 n3 n4 n5
 have x4 : ((0 : Int) == 1) = false := rfl
 have x5 : ((1 : Int) == 1) = true := rfl
 have NS := Lib.hid ns
 clear ns
 have HU := Lib.hid hU
 clear hU
 have hz := zero28
 have hgl := h.lt
 obtain ⟨hr0, hB0⟩ := boxP w g bs h
 obtain ⟨A0, n0, c0, hc0, hR0, hn0⟩ := hr0.len
 subst hn0
 have HR0 := Lib.hid hr0
 have HB0 := Lib.hid hB0
 have hsm := hR0.small
 clear h hR0 hr0 hB0
 go_enter Tryz.func66, Tryz.ntmps66
 go_wp2_with (first
  | (go_at_call 65; ((with_reducible refine (refuse_noR _ _ _ ?_).mono ?_); (first | rfl | assumption | (simp; omega) | (rw [bne, hv2]; rfl)); rintro e w' ⟨rfl, rfl⟩))
  | (go_at_call 87; ((with_reducible refine (Hid.out N1 _ HR0.out).mono ?_); rintro e w1 ⟨rfl, hr1, ho1⟩; have G1 := Lib.hid ho1; clear ho1))
  | (go_at_call 87; ((with_reducible refine (Hid.out N2 _ hr1).mono ?_); rintro e w2 ⟨rfl, hr2, ho2⟩; have G2 := Lib.hid ho2; clear ho2))
  | (go_at_call 87; ((with_reducible refine (Hid.out N3 _ hr2).mono ?_); rintro e w3 ⟨rfl, hr3, ho3⟩; have G3 := Lib.hid ho3; clear ho3))
  | (go_at_call 87; ((with_reducible refine (Hid.out N4 _ hr3).mono ?_); rintro e w4 ⟨rfl, hr4, ho4⟩; have G4 := Lib.hid ho4; clear ho4))
  | (go_at_call 87; ((with_reducible refine (Hid.out N5 _ hr4).mono ?_); rintro e w5 ⟨rfl, hr5, ho5⟩; have G5 := Lib.hid ho5; clear ho5))
  | (go_at_call 88; ((with_reducible refine (Hid.out NS _ hr5).mono ?_); rintro e w6 ⟨A6, c6, rfl, hown6, hr6, hg6⟩; have T6 : Hid (Two g w6.heap.size (w.alloc (.cells zeroC.toArray 37)) w6) := Lib.hid ((Two.of_g (G1.out.trans (((G2.out.trans G3.out).trans G4.out).trans G5.out))).trans (Two.of_grown hg6)); have HO6 := Lib.hid hown6; have HR6 := Lib.hid hr6; have HP6 := Lib.hid (Nat.lt_of_lt_of_le hr5.lt hg6.size); have HQ6 := Lib.hid (by have h1 := G1.out.size; have h2 := (((G2.out.trans G3.out).trans G4.out).trans G5.out).size; have h3 := hg6.size; simp at h1; omega : w.heap.size < w6.heap.size); have HQ5 := Lib.hid (by have h1 := G1.out.size; have h2 := (((G2.out.trans G3.out).trans G4.out).trans G5.out).size; simp at h1; omega : w.heap.size < w5.heap.size); clear hg6 hown6 hr6))
  | ((refine wpList_st rfl 37 (.tmp 5) (.tmp 45) rfl w6.heap.size 0 (rtpC mk ty sq st so (.slice A6 K c6) false 0 (.slice none 0 0) (.slice none 0 0) 0) rfl (by with_unfolding_all rfl) 37 zeroC (BlkV.new w6 _ _) fit11 (row11 rfl) (rtpC_one _ _ _ _ _ _ _ _ _ _ _ _ _ _ _ _ _) ?_); intro w7 hB7 ho7; rw [splice_all _ _ (by rfl)] at hB7; have HB7 := Lib.hid hB7; have T67 : Hid (Two g w6.heap.size w6 w7) := Lib.hid ((Two.alloc w6 (.cells zeroC.toArray 37)).trans (Two.of_p ho7)); have HZ7 := Lib.hid (by have h1 := ho7.size; simp at h1; omega : w6.heap.size < w7.heap.size); have T7 := Lib.hid (Two.refl g w6.heap.size w7); have HR7 := Lib.hid ((HR6.out.below ((Below.refl _ _).alloc (Nat.le_refl _) (.cells zeroC.toArray 37))).grown ho7.grown (fun q hq => by injection hq with hq; have := HP6.out; omega)); clear hB7 ho7; have k6 : w7.cell? ⟨w6.heap.size, 6, none⟩ = some (.bool false) := (HB7.out.cell 6).trans rfl; have fk6 := HB7.out.frozen 6; obtain ⟨A8, m8, c8, hc8, hR8, hn8⟩ := HR7.out.len; subst hn8; have HR8 := Lib.hid hR8; clear hR8)
  | (go_at_call 91; ((with_reducible refine (clone_any A8 SA.length c8 _ _ HR8.out (by omega)).mono ?_); rintro e w12 ⟨A12, c12, rfl, hown12, hb12⟩; have HO12 := Lib.hid hown12; have HB12 := Lib.hid (HB7.out.below hb12 HB7.out.lt); have T12 := Lib.hid (T7.out.trans (Two.of_below hb12)); have k9 : w12.cell? ⟨w6.heap.size, 9, none⟩ = some (.slice none 0 0) := (HB12.out.cell 9).trans rfl; have fk9 := HB12.out.frozen 9; have HB13 : Hid (BlkV (w12.setCell ⟨w6.heap.size, 9, none⟩ (.slice A12 SA.length c12)) w6.heap.size 37 (rtpC mk ty sq st so (.slice A6 K c6) false 0 (.slice none 0 0) (.slice A12 SA.length c12) 0)) := Lib.hid (HB12.out.set_ 9 _); have T13 := Lib.hid (T12.out.trans (Two.set_ w12 9 (.slice A12 SA.length c12))); have HB0' := Lib.hid (((T6.out.trans T67.out).trans T13.out).blk HB0.out (fun e => by omega) (fun e => by have := HQ6.out; omega)); have HL11 := Lib.hid (T7.out.size); clear hown12 hb12))
  | (with_reducible refine wpList_ld rfl 37 (.tmp 5) rfl w6.heap.size 0 rfl (rtpC mk ty sq st so (.slice A6 K c6) false 0 (.slice none 0 0) (.slice A12 SA.length c12) 0) (HB13.out.range 0 _ (fun i _ => by rw [Nat.zero_add])) (row11 rfl) ?_)
  | ((with_reducible refine wpList_st rfl 37 (.tmp 2) (.tmp 68) rfl w.heap.size 0 (rtpC mk ty sq st so (.slice A6 K c6) false 0 (.slice none 0 0) (.slice A12 SA.length c12) 0) rfl rfl 37 zeroC HB0'.out fit11 (row11 rfl) (rtpC_one _ _ _ _ _ _ _ _ _ _ _ _ _ _ _ _ _) ?_); intro w14 hB14 ho14; rw [splice_all _ _ (by rfl)] at hB14))
 have hUK := HU.out
 subst hUK
 have hq5 := HQ5.out
 have hq6 := HQ6.out
 have hz7 := HZ7.out
 have hl11 := HL11.out
 have o1 := own_mono (own_only ((T67.out.trans T13.out).own HO6.out (by omega) (fun q hq => by have := (HO6.out.lt q hq).2; omega)) ho14 hq5) (Nat.le_of_lt hq5)
 have o3 := own_mono (own_only ((Two.set_ (g := g) w12 9 (.slice A12 SA.length c12)).own HO12.out (by omega) (fun q hq => by have := (HO12.out.lt q hq).1; omega)) ho14 (by omega)) (show w.heap.size ≤ _ by omega)
 have o2 := World.ownsRow_nil w14 w.heap.size 5 1
 have gg : w.grownBy w14 (some g) := grown_below ((grown_of_below ((Below.refl _ _).alloc (Nat.le_refl _) _) _).trans (((T6.out.trans T67.out).trans T13.out).grown (by simp; omega))) (ho14.below (Nat.le_refl _))
 exact ret_row (by rfl) (by rfl) hB14 (row11 rfl) (by rfl) ⟨A6, c6, none, 0, A12, c12, rfl, o1, o2, o3, gg⟩

set_option maxRecDepth 100000 in
set_option maxHeartbeats 4000000 in
theorem pkt_ok01 (g : Nat) {bs S1 S2 S4 S8 S12 : List UInt8} {b0 b1 ty sq st so K : Nat} {mk : Bool} (w : World) (h : RdrR w g bs) (H : Head g bs S1 S2 S4 S8 S12 b0 b1 ty sq st so K 0 1 mk) {SA : List UInt8} {U : List Nat} (hU : U.length = K) (ns : ∀ wx, RdrR wx g S12 → Calls Tryz.prog 88 #[.pointer (some ⟨g, 0, none⟩), .int .i64 (K : Int)] wx fun e w' => ∃ A c, e = .returned (.slice A K c) ∧ w'.ownsRow wx.heap.size 33 1 (.slice A K c) K (ucells U) ∧ RdrR w' g SA ∧ wx.grownBy w' (some g)) {SF : List UInt8} {pd : Nat} (lpd : pd < 256) (np : ∀ wx, RdrR wx g SA → Calls Tryz.prog 90 #[.pointer (some ⟨g, 0, none⟩)] wx fun e w' => e = .returned (.int .u8 (pd : Int)) ∧ RdrR w' g SF ∧ Only g wx w') (lF : SF.length ≤ 1200) :
 Calls Tryz.prog 66 #[.pointer (some ⟨g, 0, none⟩)] w (PkRes w g mk ty sq st so U false 0 [] SF pd) := by
 obtain ⟨n1, n2, n3, n4, n5, a1, a2, a3, a4, hmk, hv2, l0, l1, lt, l2, l3, l4, l5, ln1, ln2⟩ := H
 have N1 := Lib.hid n1
 have N2 := Lib.hid n2
 have N3 := Lib.hid n3
 have N4 := Lib.hid n4
 have N5 := Lib.hid n5
 clear n1 n2 n3 n4 n5
 have x4 : ((0 : Int) == 1) = false := rfl
 have x5 : ((1 : Int) == 1) = true := rfl
 have NS := Lib.hid ns
 clear ns
 have NP := Lib.hid np
 clear np
 have HU := Lib.hid hU
 clear hU
 have hz := zero28
 have hgl := h.lt
 obtain ⟨hr0, hB0⟩ := boxP w g bs h
 obtain ⟨A0, n0, c0, hc0, hR0, hn0⟩ := hr0.len
 subst hn0
 have HR0 := Lib.hid hr0
 have HB0 := Lib.hid hB0
 have hsm := hR0.small
 clear h hR0 hr0 hB0
 go_enter Tryz.func66, Tryz.ntmps66
 go_wp2_with (first
  | (go_at_call 65; ((with_reducible refine (refuse_noR _ _ _ ?_).mono ?_); (first | rfl | assumption | (simp; omega) | (rw [bne, hv2]; rfl)); rintro e w' ⟨rfl, rfl⟩))
  | (go_at_call 87; ((with_reducible refine (Hid.out N1 _ HR0.out).mono ?_); rintro e w1 ⟨rfl, hr1, ho1⟩; have G1 := Lib.hid ho1; clear ho1))
  | (go_at_call 87; ((with_reducible refine (Hid.out N2 _ hr1).mono ?_); rintro e w2 ⟨rfl, hr2, ho2⟩; have G2 := Lib.hid ho2; clear ho2))
  | (go_at_call 87; ((with_reducible refine (Hid.out N3 _ hr2).mono ?_); rintro e w3 ⟨rfl, hr3, ho3⟩; have G3 := Lib.hid ho3; clear ho3))
  | (go_at_call 87; ((with_reducible refine (Hid.out N4 _ hr3).mono ?_); rintro e w4 ⟨rfl, hr4, ho4⟩; have G4 := Lib.hid ho4; clear ho4))
  | (go_at_call 87; ((with_reducible refine (Hid.out N5 _ hr4).mono ?_); rintro e w5 ⟨rfl, hr5, ho5⟩; have G5 := Lib.hid ho5; clear ho5))
  | (go_at_call 88; ((with_reducible refine (Hid.out NS _ hr5).mono ?_); rintro e w6 ⟨A6, c6, rfl, hown6, hr6, hg6⟩; have T6 : Hid (Two g w6.heap.size (w.alloc (.cells zeroC.toArray 37)) w6) := Lib.hid ((Two.of_g (G1.out.trans (((G2.out.trans G3.out).trans G4.out).trans G5.out))).trans (Two.of_grown hg6)); have HO6 := Lib.hid hown6; have HR6 := Lib.hid hr6; have HP6 := Lib.hid (Nat.lt_of_lt_of_le hr5.lt hg6.size); have HQ6 := Lib.hid (by have h1 := G1.out.size; have h2 := (((G2.out.trans G3.out).trans G4.out).trans G5.out).size; have h3 := hg6.size; simp at h1; omega : w.heap.size < w6.heap.size); have HQ5 := Lib.hid (by have h1 := G1.out.size; have h2 := (((G2.out.trans G3.out).trans G4.out).trans G5.out).size; simp at h1; omega : w.heap.size < w5.heap.size); clear hg6 hown6 hr6))
  | ((refine wpList_st rfl 37 (.tmp 5) (.tmp 45) rfl w6.heap.size 0 (rtpC mk ty sq st so (.slice A6 K c6) false 0 (.slice none 0 0) (.slice none 0 0) 0) rfl (by with_unfolding_all rfl) 37 zeroC (BlkV.new w6 _ _) fit11 (row11 rfl) (rtpC_one _ _ _ _ _ _ _ _ _ _ _ _ _ _ _ _ _) ?_); intro w7 hB7 ho7; rw [splice_all _ _ (by rfl)] at hB7; have HB7 := Lib.hid hB7; have T67 : Hid (Two g w6.heap.size w6 w7) := Lib.hid ((Two.alloc w6 (.cells zeroC.toArray 37)).trans (Two.of_p ho7)); have HZ7 := Lib.hid (by have h1 := ho7.size; simp at h1; omega : w6.heap.size < w7.heap.size); have T7 := Lib.hid (Two.refl g w6.heap.size w7); have HR7 := Lib.hid ((HR6.out.below ((Below.refl _ _).alloc (Nat.le_refl _) (.cells zeroC.toArray 37))).grown ho7.grown (fun q hq => by injection hq with hq; have := HP6.out; omega)); clear hB7 ho7; have k6 : w7.cell? ⟨w6.heap.size, 6, none⟩ = some (.bool false) := (HB7.out.cell 6).trans rfl; have fk6 := HB7.out.frozen 6)
  | (go_at_call 90; ((with_reducible refine (Hid.out NP _ HR7.out).mono ?_); rintro e w10 ⟨rfl, hr10, ho10⟩; have HB10 := Lib.hid (HB7.out.only ho10 (fun e => by have := HP6.out; omega)); have T10 := Lib.hid (T7.out.trans (Two.of_g ho10)); have k10 : w10.cell? ⟨w6.heap.size, 10, none⟩ = some (.int .u8 0) := (HB10.out.cell 10).trans rfl; have fk10 := HB10.out.frozen 10; have HB11 : Hid (BlkV (w10.setCell ⟨w6.heap.size, 10, none⟩ (.int .u8 pd)) w6.heap.size 37 (rtpC mk ty sq st so (.slice A6 K c6) false 0 (.slice none 0 0) (.slice none 0 0) pd)) := Lib.hid (HB10.out.set_ 10 _); have HR11 := Lib.hid (hr10.set_ (p := w6.heap.size) HP6.out 10 (.int .u8 pd)); have T11 := Lib.hid (T10.out.trans (Two.set_ w10 10 (.int .u8 pd))); clear hr10 ho10; obtain ⟨A8, m8, c8, hc8, hR8, hn8⟩ := HR11.out.len; subst hn8; have HR8 := Lib.hid hR8; clear hR8))
  | (go_at_call 91; ((with_reducible refine (clone_any A8 SF.length c8 _ _ HR8.out (by omega)).mono ?_); rintro e w12 ⟨A12, c12, rfl, hown12, hb12⟩; have HO12 := Lib.hid hown12; have HB12 := Lib.hid (HB11.out.below hb12 HB11.out.lt); have T12 := Lib.hid (T11.out.trans (Two.of_below hb12)); have k9 : w12.cell? ⟨w6.heap.size, 9, none⟩ = some (.slice none 0 0) := (HB12.out.cell 9).trans rfl; have fk9 := HB12.out.frozen 9; have HB13 : Hid (BlkV (w12.setCell ⟨w6.heap.size, 9, none⟩ (.slice A12 SF.length c12)) w6.heap.size 37 (rtpC mk ty sq st so (.slice A6 K c6) false 0 (.slice none 0 0) (.slice A12 SF.length c12) pd)) := Lib.hid (HB12.out.set_ 9 _); have T13 := Lib.hid (T12.out.trans (Two.set_ w12 9 (.slice A12 SF.length c12))); have HB0' := Lib.hid (((T6.out.trans T67.out).trans T13.out).blk HB0.out (fun e => by omega) (fun e => by have := HQ6.out; omega)); have HL11 := Lib.hid (T11.out.size); clear hown12 hb12))
  | (with_reducible refine wpList_ld rfl 37 (.tmp 5) rfl w6.heap.size 0 rfl (rtpC mk ty sq st so (.slice A6 K c6) false 0 (.slice none 0 0) (.slice A12 SF.length c12) pd) (HB13.out.range 0 _ (fun i _ => by rw [Nat.zero_add])) (row11 rfl) ?_)
  | ((with_reducible refine wpList_st rfl 37 (.tmp 2) (.tmp 68) rfl w.heap.size 0 (rtpC mk ty sq st so (.slice A6 K c6) false 0 (.slice none 0 0) (.slice A12 SF.length c12) pd) rfl rfl 37 zeroC HB0'.out fit11 (row11 rfl) (rtpC_one _ _ _ _ _ _ _ _ _ _ _ _ _ _ _ _ _) ?_); intro w14 hB14 ho14; rw [splice_all _ _ (by rfl)] at hB14))
 have hUK := HU.out
 subst hUK
 have hq5 := HQ5.out
 have hq6 := HQ6.out
 have hz7 := HZ7.out
 have hl11 := HL11.out
 have o1 := own_mono (own_only ((T67.out.trans T13.out).own HO6.out (by omega) (fun q hq => by have := (HO6.out.lt q hq).2; omega)) ho14 hq5) (Nat.le_of_lt hq5)
 have o3 := own_mono (own_only ((Two.set_ (g := g) w12 9 (.slice A12 SF.length c12)).own HO12.out (by omega) (fun q hq => by have := (HO12.out.lt q hq).1; omega)) ho14 (by omega)) (show w.heap.size ≤ _ by omega)
 have o2 := World.ownsRow_nil w14 w.heap.size 5 1
 have gg : w.grownBy w14 (some g) := grown_below ((grown_of_below ((Below.refl _ _).alloc (Nat.le_refl _) _) _).trans (((T6.out.trans T67.out).trans T13.out).grown (by simp; omega))) (ho14.below (Nat.le_refl _))
 exact ret_row (by rfl) (by rfl) hB14 (row11 rfl) (by rfl) ⟨A6, c6, none, 0, A12, c12, rfl, o1, o2, o3, gg⟩

set_option maxRecDepth 100000 in
set_option maxHeartbeats 4000000 in
theorem pkt_ok10 (g : Nat) {bs S1 S2 S4 S8 S12 : List UInt8} {b0 b1 ty sq st so K : Nat} {mk : Bool} (w : World) (h : RdrR w g bs) (H : Head g bs S1 S2 S4 S8 S12 b0 b1 ty sq st so K 1 0 mk) {SA : List UInt8} {U : List Nat} (hU : U.length = K) (ns : ∀ wx, RdrR wx g S12 → Calls Tryz.prog 88 #[.pointer (some ⟨g, 0, none⟩), .int .i64 (K : Int)] wx fun e w' => ∃ A c, e = .returned (.slice A K c) ∧ w'.ownsRow wx.heap.size 33 1 (.slice A K c) K (ucells U) ∧ RdrR w' g SA ∧ wx.grownBy w' (some g)) {SE X : List UInt8} {pf M : Nat} (lpf : pf < 65536) (hX : X.length = M) (ne : ∀ wx, RdrR wx g SA → Calls Tryz.prog 89 #[.pointer (some ⟨g, 0, none⟩)] wx fun e w' => ∃ A c, e = .returned (.tuple #[.int .u16 (pf : Int), .slice A M c]) ∧ w'.ownsRow wx.heap.size 5 1 (.slice A M c) M (cells X) ∧ RdrR w' g SE ∧ wx.grownBy w' (some g)) (lF : SE.length ≤ 1200) :
 Calls Tryz.prog 66 #[.pointer (some ⟨g, 0, none⟩)] w (PkRes w g mk ty sq st so U true pf X SE 0) := by
 obtain ⟨n1, n2, n3, n4, n5, a1, a2, a3, a4, hmk, hv2, l0, l1, lt, l2, l3, l4, l5, ln1, ln2⟩ := H
 have N1 := Lib.hid n1
 have N2 := Lib.hid n2
 have N3 := Lib.hid n3
 have N4 := Lib.hid n4
 have N5 := Lib.hid n5
 clear n1 n2 n3 n4 n5
 have x4 : ((0 : Int) == 1) = false := rfl
 have x5 : ((1 : Int) == 1) = true := rfl
 have NS := Lib.hid ns
 clear ns
 have NE := Lib.hid ne
 clear ne
 have HU := Lib.hid hU
 have HX := Lib.hid hX
 clear hU hX
 have hz := zero28
 have hgl := h.lt
 obtain ⟨hr0, hB0⟩ := boxP w g bs h
 obtain ⟨A0, n0, c0, hc0, hR0, hn0⟩ := hr0.len
 subst hn0
 have HR0 := Lib.hid hr0
 have HB0 := Lib.hid hB0
 have hsm := hR0.small
 clear h hR0 hr0 hB0
 go_enter Tryz.func66, Tryz.ntmps66
 go_wp2_with (first
  | (go_at_call 65; ((with_reducible refine (refuse_noR _ _ _ ?_).mono ?_); (first | rfl | assumption | (simp; omega) | (rw [bne, hv2]; rfl)); rintro e w' ⟨rfl, rfl⟩))
  | (go_at_call 87; ((with_reducible refine (Hid.out N1 _ HR0.out).mono ?_); rintro e w1 ⟨rfl, hr1, ho1⟩; have G1 := Lib.hid ho1; clear ho1))
  | (go_at_call 87; ((with_reducible refine (Hid.out N2 _ hr1).mono ?_); rintro e w2 ⟨rfl, hr2, ho2⟩; have G2 := Lib.hid ho2; clear ho2))
  | (go_at_call 87; ((with_reducible refine (Hid.out N3 _ hr2).mono ?_); rintro e w3 ⟨rfl, hr3, ho3⟩; have G3 := Lib.hid ho3; clear ho3))
  | (go_at_call 87; ((with_reducible refine (Hid.out N4 _ hr3).mono ?_); rintro e w4 ⟨rfl, hr4, ho4⟩; have G4 := Lib.hid ho4; clear ho4))
  | (go_at_call 87; ((with_reducible refine (Hid.out N5 _ hr4).mono ?_); rintro e w5 ⟨rfl, hr5, ho5⟩; have G5 := Lib.hid ho5; clear ho5))
  | (go_at_call 88; ((with_reducible refine (Hid.out NS _ hr5).mono ?_); rintro e w6 ⟨A6, c6, rfl, hown6, hr6, hg6⟩; have T6 : Hid (Two g w6.heap.size (w.alloc (.cells zeroC.toArray 37)) w6) := Lib.hid ((Two.of_g (G1.out.trans (((G2.out.trans G3.out).trans G4.out).trans G5.out))).trans (Two.of_grown hg6)); have HO6 := Lib.hid hown6; have HR6 := Lib.hid hr6; have HP6 := Lib.hid (Nat.lt_of_lt_of_le hr5.lt hg6.size); have HQ6 := Lib.hid (by have h1 := G1.out.size; have h2 := (((G2.out.trans G3.out).trans G4.out).trans G5.out).size; have h3 := hg6.size; simp at h1; omega : w.heap.size < w6.heap.size); have HQ5 := Lib.hid (by have h1 := G1.out.size; have h2 := (((G2.out.trans G3.out).trans G4.out).trans G5.out).size; simp at h1; omega : w.heap.size < w5.heap.size); clear hg6 hown6 hr6))
  | ((refine wpList_st rfl 37 (.tmp 5) (.tmp 45) rfl w6.heap.size 0 (rtpC mk ty sq st so (.slice A6 K c6) true 0 (.slice none 0 0) (.slice none 0 0) 0) rfl (by with_unfolding_all rfl) 37 zeroC (BlkV.new w6 _ _) fit11 (row11 rfl) (rtpC_one _ _ _ _ _ _ _ _ _ _ _ _ _ _ _ _ _) ?_); intro w7 hB7 ho7; rw [splice_all _ _ (by rfl)] at hB7; have HB7 := Lib.hid hB7; have T67 : Hid (Two g w6.heap.size w6 w7) := Lib.hid ((Two.alloc w6 (.cells zeroC.toArray 37)).trans (Two.of_p ho7)); have HZ7 := Lib.hid (by have h1 := ho7.size; simp at h1; omega : w6.heap.size < w7.heap.size); have T7 := Lib.hid (Two.refl g w6.heap.size w7); have HR7 := Lib.hid ((HR6.out.below ((Below.refl _ _).alloc (Nat.le_refl _) (.cells zeroC.toArray 37))).grown ho7.grown (fun q hq => by injection hq with hq; have := HP6.out; omega)); clear hB7 ho7; have k6 : w7.cell? ⟨w6.heap.size, 6, none⟩ = some (.bool true) := (HB7.out.cell 6).trans rfl; have fk6 := HB7.out.frozen 6)
  | (go_at_call 89; ((with_reducible refine (Hid.out NE _ HR7.out).mono ?_); rintro e w8 ⟨A9, c9, rfl, hown8, hr8, hg8⟩; have HO8 := Lib.hid hown8; have HB8 := Lib.hid (HB7.out.grown hg8 (fun e => by injection e with e; have := HP6.out; omega)); have T8 := Lib.hid (T7.out.trans (Two.of_grown hg8)); have k7 : w8.cell? ⟨w6.heap.size, 7, none⟩ = some (.int .u16 0) := (HB8.out.cell 7).trans rfl; have fk7 := HB8.out.frozen 7; have k8 : w8.cell? ⟨w6.heap.size, 8, none⟩ = some (.slice none 0 0) := (HB8.out.cell 8).trans rfl; have fk8 := HB8.out.frozen 8; have HB9 : Hid (BlkV ((w8.setCell ⟨w6.heap.size, 7, none⟩ (.int .u16 pf)).setCell ⟨w6.heap.size, 8, none⟩ (.slice A9 M c9)) w6.heap.size 37 (rtpC mk ty sq st so (.slice A6 K c6) true pf (.slice A9 M c9) (.slice none 0 0) 0)) := Lib.hid ((HB8.out.set_ 7 _).set_ 8 _); have HR9 := Lib.hid ((hr8.set_ (p := w6.heap.size) HP6.out 7 (.int .u16 pf)).set_ (p := w6.heap.size) HP6.out 8 (.slice A9 M c9)); have S9 : Hid (Two g w6.heap.size w8 ((w8.setCell ⟨w6.heap.size, 7, none⟩ (.int .u16 pf)).setCell ⟨w6.heap.size, 8, none⟩ (.slice A9 M c9))) := Lib.hid ((Two.set_ w8 7 (.int .u16 pf)).trans (Two.set_ _ 8 (.slice A9 M c9))); have T9 := Lib.hid (T8.out.trans S9.out); clear hown8 hr8 hg8; obtain ⟨A8, m8, c8, hc8, hR8, hn8⟩ := HR9.out.len; subst hn8; have HR8 := Lib.hid hR8; clear hR8))
  | (go_at_call 91; ((with_reducible refine (clone_any A8 SE.length c8 _ _ HR8.out (by omega)).mono ?_); rintro e w12 ⟨A12, c12, rfl, hown12, hb12⟩; have HO12 := Lib.hid hown12; have HB12 := Lib.hid (HB9.out.below hb12 HB9.out.lt); have T12 := Lib.hid (T9.out.trans (Two.of_below hb12)); have S12 := Lib.hid (S9.out.trans (Two.of_below hb12)); have k9 : w12.cell? ⟨w6.heap.size, 9, none⟩ = some (.slice none 0 0) := (HB12.out.cell 9).trans rfl; have fk9 := HB12.out.frozen 9; have HB13 : Hid (BlkV (w12.setCell ⟨w6.heap.size, 9, none⟩ (.slice A12 SE.length c12)) w6.heap.size 37 (rtpC mk ty sq st so (.slice A6 K c6) true pf (.slice A9 M c9) (.slice A12 SE.length c12) 0)) := Lib.hid (HB12.out.set_ 9 _); have T13 := Lib.hid (T12.out.trans (Two.set_ w12 9 (.slice A12 SE.length c12))); have HB0' := Lib.hid (((T6.out.trans T67.out).trans T13.out).blk HB0.out (fun e => by omega) (fun e => by have := HQ6.out; omega)); have HL11 := Lib.hid (T9.out.size); clear hown12 hb12; have S13 := Lib.hid (S12.out.trans (Two.set_ w12 9 (.slice A12 SE.length c12)))))
  | (with_reducible refine wpList_ld rfl 37 (.tmp 5) rfl w6.heap.size 0 rfl (rtpC mk ty sq st so (.slice A6 K c6) true pf (.slice A9 M c9) (.slice A12 SE.length c12) 0) (HB13.out.range 0 _ (fun i _ => by rw [Nat.zero_add])) (row11 rfl) ?_)
  | ((with_reducible refine wpList_st rfl 37 (.tmp 2) (.tmp 68) rfl w.heap.size 0 (rtpC mk ty sq st so (.slice A6 K c6) true pf (.slice A9 M c9) (.slice A12 SE.length c12) 0) rfl rfl 37 zeroC HB0'.out fit11 (row11 rfl) (rtpC_one _ _ _ _ _ _ _ _ _ _ _ _ _ _ _ _ _) ?_); intro w14 hB14 ho14; rw [splice_all _ _ (by rfl)] at hB14))
 have hUK := HU.out
 subst hUK
 have hq5 := HQ5.out
 have hq6 := HQ6.out
 have hz7 := HZ7.out
 have hl11 := HL11.out
 have hXM := HX.out
 subst hXM
 have o1 := own_mono (own_only ((T67.out.trans T13.out).own HO6.out (by omega) (fun q hq => by have := (HO6.out.lt q hq).2; omega)) ho14 hq5) (Nat.le_of_lt hq5)
 have o3 := own_mono (own_only ((Two.set_ (g := g) w12 9 (.slice A12 SE.length c12)).own HO12.out (by omega) (fun q hq => by have := (HO12.out.lt q hq).1; omega)) ho14 (by omega)) (show w.heap.size ≤ _ by omega)
 have o2 := own_mono (own_only (S13.out.own HO8.out (by omega) (fun q hq => by have := (HO8.out.lt q hq).1; omega)) ho14 (by omega)) (show w.heap.size ≤ _ by omega)
 have gg : w.grownBy w14 (some g) := grown_below ((grown_of_below ((Below.refl _ _).alloc (Nat.le_refl _) _) _).trans (((T6.out.trans T67.out).trans T13.out).grown (by simp; omega))) (ho14.below (Nat.le_refl _))
 exact ret_row (by rfl) (by rfl) hB14 (row11 rfl) (by rfl) ⟨A6, c6, A9, c9, A12, c12, rfl, o1, o2, o3, gg⟩

set_option maxRecDepth 100000 in
set_option maxHeartbeats 4000000 in
theorem pkt_ok11 (g : Nat) {bs S1 S2 S4 S8 S12 : List UInt8} {b0 b1 ty sq st so K : Nat} {mk : Bool} (w : World) (h : RdrR w g bs) (H : Head g bs S1 S2 S4 S8 S12 b0 b1 ty sq st so K 1 1 mk) {SA : List UInt8} {U : List Nat} (hU : U.length = K) (ns : ∀ wx, RdrR wx g S12 → Calls Tryz.prog 88 #[.pointer (some ⟨g, 0, none⟩), .int .i64 (K : Int)] wx fun e w' => ∃ A c, e = .returned (.slice A K c) ∧ w'.ownsRow wx.heap.size 33 1 (.slice A K c) K (ucells U) ∧ RdrR w' g SA ∧ wx.grownBy w' (some g)) {SE X : List UInt8} {pf M : Nat} (lpf : pf < 65536) (hX : X.length = M) (ne : ∀ wx, RdrR wx g SA → Calls Tryz.prog 89 #[.pointer (some ⟨g, 0, none⟩)] wx fun e w' => ∃ A c, e = .returned (.tuple #[.int .u16 (pf : Int), .slice A M c]) ∧ w'.ownsRow wx.heap.size 5 1 (.slice A M c) M (cells X) ∧ RdrR w' g SE ∧ wx.grownBy w' (some g)) {SF : List UInt8} {pd : Nat} (lpd : pd < 256) (np : ∀ wx, RdrR wx g SE → Calls Tryz.prog 90 #[.pointer (some ⟨g, 0, none⟩)] wx fun e w' => e = .returned (.int .u8 (pd : Int)) ∧ RdrR w' g SF ∧ Only g wx w') (lF : SF.length ≤ 1200) :
 Calls Tryz.prog 66 #[.pointer (some ⟨g, 0, none⟩)] w (PkRes w g mk ty sq st so U true pf X SF pd) := by
 obtain ⟨n1, n2, n3, n4, n5, a1, a2, a3, a4, hmk, hv2, l0, l1, lt, l2, l3, l4, l5, ln1, ln2⟩ := H
 have N1 := Lib.hid n1
 have N2 := Lib.hid n2
 have N3 := Lib.hid n3
 have N4 := Lib.hid n4
 have N5 := Lib.hid n5
 clear n1 n2 n3 n4 n5
 have x4 : ((0 : Int) == 1) = false := rfl
 have x5 : ((1 : Int) == 1) = true := rfl
 have NS := Lib.hid ns
 clear ns
 have NE := Lib.hid ne
 clear ne
 have NP := Lib.hid np
 clear np
 have HU := Lib.hid hU
 have HX := Lib.hid hX
 clear hU hX
 have hz := zero28
 have hgl := h.lt
 obtain ⟨hr0, hB0⟩ := boxP w g bs h
 obtain ⟨A0, n0, c0, hc0, hR0, hn0⟩ := hr0.len
 subst hn0
 have HR0 := Lib.hid hr0
 have HB0 := Lib.hid hB0
 have hsm := hR0.small
 clear h hR0 hr0 hB0
 go_enter Tryz.func66, Tryz.ntmps66
 go_wp2_with (first
  | (go_at_call 65; ((with_reducible refine (refuse_noR _ _ _ ?_).mono ?_); (first | rfl | assumption | (simp; omega) | (rw [bne, hv2]; rfl)); rintro e w' ⟨rfl, rfl⟩))
  | (go_at_call 87; ((with_reducible refine (Hid.out N1 _ HR0.out).mono ?_); rintro e w1 ⟨rfl, hr1, ho1⟩; have G1 := Lib.hid ho1; clear ho1))
  | (go_at_call 87; ((with_reducible refine (Hid.out N2 _ hr1).mono ?_); rintro e w2 ⟨rfl, hr2, ho2⟩; have G2 := Lib.hid ho2; clear ho2))
  | (go_at_call 87; ((with_reducible refine (Hid.out N3 _ hr2).mono ?_); rintro e w3 ⟨rfl, hr3, ho3⟩; have G3 := Lib.hid ho3; clear ho3))
  | (go_at_call 87; ((with_reducible refine (Hid.out N4 _ hr3).mono ?_); rintro e w4 ⟨rfl, hr4, ho4⟩; have G4 := Lib.hid ho4; clear ho4))
  | (go_at_call 87; ((with_reducible refine (Hid.out N5 _ hr4).mono ?_); rintro e w5 ⟨rfl, hr5, ho5⟩; have G5 := Lib.hid ho5; clear ho5))
  | (go_at_call 88; ((with_reducible refine (Hid.out NS _ hr5).mono ?_); rintro e w6 ⟨A6, c6, rfl, hown6, hr6, hg6⟩; have T6 : Hid (Two g w6.heap.size (w.alloc (.cells zeroC.toArray 37)) w6) := Lib.hid ((Two.of_g (G1.out.trans (((G2.out.trans G3.out).trans G4.out).trans G5.out))).trans (Two.of_grown hg6)); have HO6 := Lib.hid hown6; have HR6 := Lib.hid hr6; have HP6 := Lib.hid (Nat.lt_of_lt_of_le hr5.lt hg6.size); have HQ6 := Lib.hid (by have h1 := G1.out.size; have h2 := (((G2.out.trans G3.out).trans G4.out).trans G5.out).size; have h3 := hg6.size; simp at h1; omega : w.heap.size < w6.heap.size); have HQ5 := Lib.hid (by have h1 := G1.out.size; have h2 := (((G2.out.trans G3.out).trans G4.out).trans G5.out).size; simp at h1; omega : w.heap.size < w5.heap.size); clear hg6 hown6 hr6))
  | ((refine wpList_st rfl 37 (.tmp 5) (.tmp 45) rfl w6.heap.size 0 (rtpC mk ty sq st so (.slice A6 K c6) true 0 (.slice none 0 0) (.slice none 0 0) 0) rfl (by with_unfolding_all rfl) 37 zeroC (BlkV.new w6 _ _) fit11 (row11 rfl) (rtpC_one _ _ _ _ _ _ _ _ _ _ _ _ _ _ _ _ _) ?_); intro w7 hB7 ho7; rw [splice_all _ _ (by rfl)] at hB7; have HB7 := Lib.hid hB7; have T67 : Hid (Two g w6.heap.size w6 w7) := Lib.hid ((Two.alloc w6 (.cells zeroC.toArray 37)).trans (Two.of_p ho7)); have HZ7 := Lib.hid (by have h1 := ho7.size; simp at h1; omega : w6.heap.size < w7.heap.size); have T7 := Lib.hid (Two.refl g w6.heap.size w7); have HR7 := Lib.hid ((HR6.out.below ((Below.refl _ _).alloc (Nat.le_refl _) (.cells zeroC.toArray 37))).grown ho7.grown (fun q hq => by injection hq with hq; have := HP6.out; omega)); clear hB7 ho7; have k6 : w7.cell? ⟨w6.heap.size, 6, none⟩ = some (.bool true) := (HB7.out.cell 6).trans rfl; have fk6 := HB7.out.frozen 6)
  | (go_at_call 89; ((with_reducible refine (Hid.out NE _ HR7.out).mono ?_); rintro e w8 ⟨A9, c9, rfl, hown8, hr8, hg8⟩; have HO8 := Lib.hid hown8; have HB8 := Lib.hid (HB7.out.grown hg8 (fun e => by injection e with e; have := HP6.out; omega)); have T8 := Lib.hid (T7.out.trans (Two.of_grown hg8)); have k7 : w8.cell? ⟨w6.heap.size, 7, none⟩ = some (.int .u16 0) := (HB8.out.cell 7).trans rfl; have fk7 := HB8.out.frozen 7; have k8 : w8.cell? ⟨w6.heap.size, 8, none⟩ = some (.slice none 0 0) := (HB8.out.cell 8).trans rfl; have fk8 := HB8.out.frozen 8; have HB9 : Hid (BlkV ((w8.setCell ⟨w6.heap.size, 7, none⟩ (.int .u16 pf)).setCell ⟨w6.heap.size, 8, none⟩ (.slice A9 M c9)) w6.heap.size 37 (rtpC mk ty sq st so (.slice A6 K c6) true pf (.slice A9 M c9) (.slice none 0 0) 0)) := Lib.hid ((HB8.out.set_ 7 _).set_ 8 _); have HR9 := Lib.hid ((hr8.set_ (p := w6.heap.size) HP6.out 7 (.int .u16 pf)).set_ (p := w6.heap.size) HP6.out 8 (.slice A9 M c9)); have S9 : Hid (Two g w6.heap.size w8 ((w8.setCell ⟨w6.heap.size, 7, none⟩ (.int .u16 pf)).setCell ⟨w6.heap.size, 8, none⟩ (.slice A9 M c9))) := Lib.hid ((Two.set_ w8 7 (.int .u16 pf)).trans (Two.set_ _ 8 (.slice A9 M c9))); have T9 := Lib.hid (T8.out.trans S9.out); clear hown8 hr8 hg8))
  | (go_at_call 90; ((with_reducible refine (Hid.out NP _ HR9.out).mono ?_); rintro e w10 ⟨rfl, hr10, ho10⟩; have HB10 := Lib.hid (HB9.out.only ho10 (fun e => by have := HP6.out; omega)); have T10 := Lib.hid (T9.out.trans (Two.of_g ho10)); have S10 := Lib.hid (S9.out.trans (Two.of_g ho10)); have k10 : w10.cell? ⟨w6.heap.size, 10, none⟩ = some (.int .u8 0) := (HB10.out.cell 10).trans rfl; have fk10 := HB10.out.frozen 10; have HB11 : Hid (BlkV (w10.setCell ⟨w6.heap.size, 10, none⟩ (.int .u8 pd)) w6.heap.size 37 (rtpC mk ty sq st so (.slice A6 K c6) true pf (.slice A9 M c9) (.slice none 0 0) pd)) := Lib.hid (HB10.out.set_ 10 _); have HR11 := Lib.hid (hr10.set_ (p := w6.heap.size) HP6.out 10 (.int .u8 pd)); have T11 := Lib.hid (T10.out.trans (Two.set_ w10 10 (.int .u8 pd))); clear hr10 ho10; have S11 := Lib.hid (S10.out.trans (Two.set_ w10 10 (.int .u8 pd))); obtain ⟨A8, m8, c8, hc8, hR8, hn8⟩ := HR11.out.len; subst hn8; have HR8 := Lib.hid hR8; clear hR8))
  | (go_at_call 91; ((with_reducible refine (clone_any A8 SF.length c8 _ _ HR8.out (by omega)).mono ?_); rintro e w12 ⟨A12, c12, rfl, hown12, hb12⟩; have HO12 := Lib.hid hown12; have HB12 := Lib.hid (HB11.out.below hb12 HB11.out.lt); have T12 := Lib.hid (T11.out.trans (Two.of_below hb12)); have S12 := Lib.hid (S11.out.trans (Two.of_below hb12)); have k9 : w12.cell? ⟨w6.heap.size, 9, none⟩ = some (.slice none 0 0) := (HB12.out.cell 9).trans rfl; have fk9 := HB12.out.frozen 9; have HB13 : Hid (BlkV (w12.setCell ⟨w6.heap.size, 9, none⟩ (.slice A12 SF.length c12)) w6.heap.size 37 (rtpC mk ty sq st so (.slice A6 K c6) true pf (.slice A9 M c9) (.slice A12 SF.length c12) pd)) := Lib.hid (HB12.out.set_ 9 _); have T13 := Lib.hid (T12.out.trans (Two.set_ w12 9 (.slice A12 SF.length c12))); have HB0' := Lib.hid (((T6.out.trans T67.out).trans T13.out).blk HB0.out (fun e => by omega) (fun e => by have := HQ6.out; omega)); have HL11 := Lib.hid (T11.out.size); clear hown12 hb12; have S13 := Lib.hid (S12.out.trans (Two.set_ w12 9 (.slice A12 SF.length c12)))))
  | (with_reducible refine wpList_ld rfl 37 (.tmp 5) rfl w6.heap.size 0 rfl (rtpC mk ty sq st so (.slice A6 K c6) true pf (.slice A9 M c9) (.slice A12 SF.length c12) pd) (HB13.out.range 0 _ (fun i _ => by rw [Nat.zero_add])) (row11 rfl) ?_)
  | ((with_reducible refine wpList_st rfl 37 (.tmp 2) (.tmp 68) rfl w.heap.size 0 (rtpC mk ty sq st so (.slice A6 K c6) true pf (.slice A9 M c9) (.slice A12 SF.length c12) pd) rfl rfl 37 zeroC HB0'.out fit11 (row11 rfl) (rtpC_one _ _ _ _ _ _ _ _ _ _ _ _ _ _ _ _ _) ?_); intro w14 hB14 ho14; rw [splice_all _ _ (by rfl)] at hB14))
 have hUK := HU.out
 subst hUK
 have hq5 := HQ5.out
 have hq6 := HQ6.out
 have hz7 := HZ7.out
 have hl11 := HL11.out
 have hXM := HX.out
 subst hXM
 have o1 := own_mono (own_only ((T67.out.trans T13.out).own HO6.out (by omega) (fun q hq => by have := (HO6.out.lt q hq).2; omega)) ho14 hq5) (Nat.le_of_lt hq5)
 have o3 := own_mono (own_only ((Two.set_ (g := g) w12 9 (.slice A12 SF.length c12)).own HO12.out (by omega) (fun q hq => by have := (HO12.out.lt q hq).1; omega)) ho14 (by omega)) (show w.heap.size ≤ _ by omega)
 have o2 := own_mono (own_only (S13.out.own HO8.out (by omega) (fun q hq => by have := (HO8.out.lt q hq).1; omega)) ho14 (by omega)) (show w.heap.size ≤ _ by omega)
 have gg : w.grownBy w14 (some g) := grown_below ((grown_of_below ((Below.refl _ _).alloc (Nat.le_refl _) _) _).trans (((T6.out.trans T67.out).trans T13.out).grown (by simp; omega))) (ho14.below (Nat.le_refl _))
 exact ret_row (by rfl) (by rfl) hB14 (row11 rfl) (by rfl) ⟨A6, c6, A9, c9, A12, c12, rfl, o1, o2, o3, gg⟩

end Go.Proofs.YtmkeioeodlidgaaGreatDoor
